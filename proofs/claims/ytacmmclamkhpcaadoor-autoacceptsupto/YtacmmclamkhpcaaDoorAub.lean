import Derived.Test.YtacmmclamkhpcaaDoorAua
namespace Go.Proofs.YtacmmclamkhpcaaDoor
open Go.ChangeShapes Go.WideShapes Go.ChangeAt Go.RowKit

def nz (L : List Nat) : List Int := L.map (fun (x : Nat) => (x : Int))
theorem nz_len (L : List Nat) : (nz L).length = L.length := by unfold nz; simp
theorem nz_app (L : List Nat) (x : Nat) : nz (L ++ [x]) = nz L ++ [(x : Int)] := by unfold nz; simp
theorem nz_at {L : List Nat} {j : Nat} (h : j < L.length) : (iv (nz L))[j]? = some (.int .i64 (L[j] : Nat)) := by unfold iv nz; simp [h]
/-- 'append' of one number; what else lies stays. -/
theorem wpList_pushO {base : Nat} {W : World} {ops : Array Oper} {rest : List Oper} {o : Oper} {act : Act} {Q : Exit → Act → World → Prop} (hgd : o.guard = none) (s x : Operand)
    (ho : o.op = .call { callee := .builtin .append, args := #[s, x], argTypes := #[53, 53] }) (v : Value) (n : Nat) (L : List Int) (y : Int) (hs : act.eval s = v) (hG : Hid (W.ownsRow base 3 1 v n (iv L))) (hb0 : base ≤ W.heap.size) (b : Nat) (hb : b = W.heap.size) (hx : act.eval x = .slice (some ⟨b, 0, none⟩) 1 1) (hn : n ≤ 1099511627776)
    (h : ∀ a' c' W', Hid (W'.ownsRow base 3 1 (.slice a' (n + 1) c') (n + 1) (iv (L ++ [y]))) → Hid (Kept (fun k => v.ownBlock = some k) W W') → wpList Tryd.prog ops Q rest (act.put o.dst (.slice a' (n + 1) c')) W') : wpList Tryd.prog ops Q (o :: rest) act (W.alloc (.cells #[.int .i64 y] 3)) := by
  subst hb
  obtain ⟨i0, hi, hz0, hz1, hz2⟩ := info_partsA Tryd.infoI
  rw [iv_app] at h
  refine wpList_append_own _ hgd s x 53 ho base 3 i0 (.int .i64 0) 1 8 Tryd.underlying53 hi hz0 hz1 hz2 rfl (by decide) v n (iv L) hs (hG.out.alloc _) ⟨W.heap.size, 0, none⟩ 1 1 [.int .i64 y] hx (by simp) (row_news W [.int .i64 y] 3) (by intro u hu; simp at hu; subst hu; rfl) (by unfold maxLen; omega) (by omega) (by simp; omega) ?_
  intro v' W' ho2 hg2 _
  have q : ∃ a c, v' = .slice a (n + 1) c := by
    rcases ho2.2 with ⟨rfl, e⟩ | ⟨g, cap, cur, rfl, _⟩
    · omega
    · exact ⟨_, _, rfl⟩
  obtain ⟨a', c', rfl⟩ := q
  exact h a' c' W' ho2 (((Kept.alloc W _).mono (fun _ f => f.elim)).trans (Kept.grown hg2) (fun i hi => .inl hi))
/-- Numbers lie at a place. -/
def NsAt (w : World) (a : Option Addr) (L : List Int) : Prop :=
  L ≠ [] → ∃ b o, a = some ⟨b, o, none⟩ ∧ ∀ j (h : j < L.length), w.cell? ⟨b, o + j, none⟩ = some (.int .i64 L[j])
theorem NsAt.kept {w w' : World} {a : Option Addr} {L : List Int} (h : NsAt w a L) (k : Kept (fun _ => False) w w') : NsAt w' a L := by
  intro hne
  obtain ⟨b, o, e, hc⟩ := h hne
  exact ⟨b, o, e, fun j hj => k.cell (hc j hj) (fun f => f)⟩
theorem NsAt.of_gro {w0 w : World} {a : Option Addr} {n c : Nat} {L : List Int} (h : Gro w0 w 3 1 (.slice a n c) n (iv L)) : NsAt w a L := by
  intro hne
  have hl := h.own.1
  rw [iv_len] at hl
  have hpos : 0 < L.length := List.length_pos_iff.2 hne
  obtain ⟨g, rfl, _, hc⟩ := h.cell (by omega)
  exact ⟨g, 0, rfl, fun j hj => by rw [Nat.zero_add]; exact hc j _ (iv_at hj)⟩
/-- What 'reached' makes of a list. -/
def rchA (E : List Int) (L : List Nat) (i : Nat) : List Nat := if E[i]? = some 257 then L ++ [i, i + 1] else L ++ [i]
def rch (E : List Int) (L : List Nat) (i : Nat) : List Nat := match L.getLast? with
  | some y => if i ≤ y then L else rchA E L i
  | none => rchA E L i
theorem rch_le {E : List Int} {L : List Nat} {i y : Nat} (h : L.getLast? = some y) (hi : i ≤ y) : rch E L i = L := by unfold rch; rw [h]; simp [hi]
theorem rch_gt {E : List Int} {L : List Nat} {i y : Nat} (h : L.getLast? = some y) (hi : ¬ i ≤ y) : rch E L i = rchA E L i := by unfold rch; rw [h]; simp [hi]
theorem rch_nil {E : List Int} {i : Nat} : rch E [] i = rchA E [] i := by unfold rch; simp
theorem rch_all {E : List Int} {L : List Nat} {i : Nat} (hL : ∀ x ∈ L, x ≤ E.length) (hi : i ≤ E.length) : ∀ x ∈ rch E L i, x ≤ E.length := by
  have hA : ∀ x ∈ rchA E L i, x ≤ E.length := by
    intro x hx
    unfold rchA at hx
    split at hx
    · rename_i he
      have : i < E.length := by
        rcases Nat.lt_or_ge i E.length with h | h
        · exact h
        · rw [List.getElem?_eq_none h] at he; cases he
      simp only [List.mem_append, List.mem_cons, List.not_mem_nil, or_false] at hx
      rcases hx with h | h | h
      · exact hL x h
      · omega
      · omega
    · simp only [List.mem_append, List.mem_cons, List.not_mem_nil, or_false] at hx
      rcases hx with h | h
      · exact hL x h
      · omega
  unfold rch
  split
  · split
    · exact hL
    · exact hA
  · exact hA
theorem rch_ne {E : List Int} {L : List Nat} {i : Nat} : rch E L i ≠ [] := by
  have hA : rchA E L i ≠ [] := by unfold rchA; split <;> simp
  unfold rch
  split
  · split
    · rename_i h _; intro e; rw [e] at h; cases h
    · exact hA
  · exact hA
theorem rch_size {E : List Int} {L : List Nat} {i : Nat} : (rch E L i).length ≤ L.length + 2 := by
  have hA : (rchA E L i).length ≤ L.length + 2 := by unfold rchA; split <;> simp
  unfold rch
  split
  · split
    · omega
    · exact hA
  · exact hA
def GroN (w0 w : World) (L : List Nat) (e : Ending) : Prop := ∃ a c, e = .returned (.slice a L.length c) ∧ Gro w0 w 3 1 (.slice a L.length c) L.length (iv (nz L))
theorem GroN.mk {w0 w w' : World} {X : Nat → Prop} {L : List Nat} {a : Option Addr} {n c : Nat} (hn : n = L.length) (hO : w'.ownsRow w0.heap.size 3 1 (.slice a n c) n (iv (nz L))) (h0 : Kept (fun _ => False) w0 w) (hk : Kept X w w') (hX : ∀ j, X j → w0.heap.size ≤ j) : GroN w0 w' L (.returned (.slice a n c)) := by
  subst hn
  exact ⟨a, c, rfl, hO, h0.trans hk (fun j hj => .inr (hX j hj))⟩
set_option maxRecDepth 20000 in
set_option maxHeartbeats 4000000 in
theorem reached_any (E : List Int) (ea : Option Addr) (ec : Nat) (p : ByteArray) (w0 w : World) (L : List Nat) (a : Option Addr) (n c i : Nat) (hE : NsAt w0 ea E) (hG : Gro w0 w 3 1 (.slice a n c) n (iv (nz L))) (hn : n = L.length) (hb : n ≤ 1099511627000) (hi : i ≤ E.length) (hEl : E.length ≤ 1099511627000) :
    Calls Tryd.prog 68 #[.agg #[.slice ea E.length ec, .string p], .slice a n c, .int .i64 i] w fun e w' => GroN w0 w' (rch E L i) e := by
  have HE := hideG hE
  have HG := hideG hG
  have HN := hideG hn
  obtain ⟨m, hm⟩ : ∃ m, m = E.length := ⟨_, rfl⟩
  rw [← hm] at hi hEl ⊢
  have HM := hideG hm
  have KB := Kept.alloc w (.cells #[.slice ea m ec, .string p] 77)
  have x0 : (w.alloc (.cells #[.slice ea m ec, .string p] 77)).cell? ⟨w.heap.size, 0, none⟩ = some (.slice ea m ec) := by simp
  have HGB := hideG (hG.later KB)
  have GO : Hid ((w.alloc (.cells #[.slice ea m ec, .string p] 77)).ownsRow w0.heap.size 3 1 (.slice a n c) n (iv (nz L))) := hideG HGB.out.own
  have hw0 : w0.heap.size ≤ w.heap.size := hG.kept.size
  -- the rest behind the first test: push i, and i + 1 if a star stands there
  by_cases hn0 : n = 0
  · subst hn0
    have hL0 : L = [] := List.length_eq_zero_iff.1 hn.symm
    subst hL0
    rw [rch_nil]
    have HLt : Hid (∀ j, (Value.slice a 0 c).ownBlock = some j → w0.heap.size ≤ j ∧ j < w.heap.size) := hideG (fun j hj => hG.own.lt j hj)
    by_cases hs : E[i]? = some 257
    · have hiE : i < E.length := by
        rcases Nat.lt_or_ge i E.length with h | h
        · exact h
        · rw [List.getElem?_eq_none h] at hs; cases hs
      have hiM : i < m := by rw [HM.out]; exact hiE
      have eqr : rchA E [] i = [] ++ [i, i + 1] := by unfold rchA; rw [if_pos hs]
      rw [eqr]
      obtain ⟨eb, eo, rfl, hec⟩ := HE.out (by intro e; rw [e] at hiE; simp at hiE)
      have e0 := hec i hiE
      have ev : E[i] = 257 := by rw [List.getElem?_eq_getElem hiE] at hs; exact Option.some.inj hs
      rw [ev] at e0
      have hebl : eb < w0.heap.size := World.block_lt_of_cell? w0 _ e0
      have e1 := HGB.out.kept.cell e0 (fun f => f)
      have d3 : (i : Int) < (m : Int) := by omega
      have NZ : Hid (iv (nz ([] ++ [i, i + 1])) = iv (nz [] ++ [(i : Int)] ++ [(i : Int) + 1])) := hideG (by unfold nz; simp)
      have LN : Hid (0 + 1 + 1 = ([] ++ [i, i + 1]).length) := hideG (by simp)
      clear hE hG hm hec hs ev eqr hn KB 
      go_enter Tryd.func68, Tryd.ntmps68
      go_wp2_with (at_builtin; first
        | (refine wpList_pushO rfl _ _ rfl _ 0 (nz []) (i : Int) rfl GO (by simp; omega) _ (by first | rfl | simp) rfl (by omega) ?_; clear GO; intro a1 c1 W1 O1 K1; have x1 := K1.out.cell x0 (fun e => by have := (HLt.out _ e).2; simp only at this; omega); have e2 := K1.out.cell e1 (fun e => by have := (HLt.out _ e).1; simp only at this; omega); have s1 : w0.heap.size ≤ W1.heap.size := (by have := K1.out.size; simp at this; omega))
        | (refine wpList_pushO rfl _ _ rfl _ (0 + 1) (nz [] ++ [(i : Int)]) ((i : Int) + 1) rfl O1 s1 _ (by first | rfl | simp) rfl (by omega) ?_; intro a2 c2 W2 O2 K2))
      go_ret
      exact GroN.mk LN.out O2.out (HGB.out.kept) ((K1.out.mono fun j hj => .inl (HLt.out j hj).1).trans (K2.out.mono fun j hj => .inl (O1.out.lt j hj).1) (fun j hj => .inl hj)) (fun j hj => hj)
    · have eqr : rchA E [] i = [] ++ [i] := by unfold rchA; rw [if_neg hs]
      rw [eqr]
      have NZ : Hid (iv (nz ([] ++ [i])) = iv (nz [] ++ [(i : Int)])) := hideG (by rw [nz_app])
      have LN : Hid (0 + 1 = ([] ++ [i]).length) := hideG (by simp)
      rcases Nat.lt_or_ge i m with hiM | hiM
      · have hiE : i < E.length := by rw [← HM.out]; exact hiM
        obtain ⟨eb, eo, rfl, hec⟩ := HE.out (by intro e; rw [e] at hiE; simp at hiE)
        have e0 := hec i hiE
        have ev : E[i] ≠ 257 := by rw [List.getElem?_eq_getElem hiE] at hs; exact fun e => hs (by rw [e])
        have hebl : eb < w0.heap.size := World.block_lt_of_cell? w0 _ e0
        have e1 := HGB.out.kept.cell e0 (fun f => f)
        generalize E[i] = q at *
        have q9 : (q == 257) = false := by simpa using ev
        have d3 : (i : Int) < (m : Int) := by omega
        clear hE hG hm hec hs eqr hn KB 
        go_enter Tryd.func68, Tryd.ntmps68
        go_wp2_with (at_builtin; refine wpList_pushO rfl _ _ rfl _ 0 (nz []) (i : Int) rfl GO (by simp; omega) _ (by first | rfl | simp) rfl (by omega) ?_; clear GO; intro a1 c1 W1 O1 K1; have x1 := K1.out.cell x0 (fun e => by have := (HLt.out _ e).2; simp only at this; omega); have e2 := K1.out.cell e1 (fun e => by have := (HLt.out _ e).1; simp only at this; omega))
        go_ret
        exact GroN.mk LN.out O1.out HGB.out.kept K1.out (fun j hj => (HLt.out j hj).1)
      · have d3 : ¬ ((i : Int) < (m : Int)) := by omega
        clear hE hG hm hs eqr hn KB 
        go_enter Tryd.func68, Tryd.ntmps68
        go_wp2_with (at_builtin; refine wpList_pushO rfl _ _ rfl _ 0 (nz []) (i : Int) rfl GO (by simp; omega) _ (by first | rfl | simp) rfl (by omega) ?_; clear GO; intro a1 c1 W1 O1 K1; have x1 := K1.out.cell x0 (fun e => by have := (HLt.out _ e).2; simp only at this; omega))
        go_ret
        exact GroN.mk LN.out O1.out HGB.out.kept K1.out (fun j hj => (HLt.out j hj).1)
  · have hpos : 0 < n := by omega
    obtain ⟨y, hy⟩ : ∃ y, L.getLast? = some y := by
      cases L with
      | nil => simp at hn; omega
      | cons q r => exact ⟨_, List.getLast?_cons⟩
    obtain ⟨g, rfl, hg, hc⟩ := HGB.out.cell hpos
    have hml : n - 1 < L.length := by omega
    have z0 := hc (n - 1) _ (nz_at hml)
    have zy : L[n - 1] = y := by
      rw [List.getLast?_eq_getElem?, ← hn, List.getElem?_eq_getElem hml] at hy
      exact Option.some.inj hy
    rw [zy] at z0
    have m1 : (n : Int) - 1 = ((n - 1 : Nat) : Int) := by omega
    have m2 : (0 : Int) < (n : Int) := by omega
    by_cases hiy : i ≤ y
    · have d1 : (i : Int) ≤ (y : Int) := by omega
      have d2 : decide ((i : Int) ≤ (y : Int)) = true := decide_eq_true d1
      rw [rch_le hy hiy]
      clear hE hG hm hc hn hy zy hml
      go_enter Tryd.func68, Tryd.ntmps68
      go_wp2
      go_ret
      exact GroN.mk HN.out GO.out HGB.out.kept (Kept.refl (fun _ => False) _) (fun _ f => f.elim)
    · have d1 : ¬ ((i : Int) ≤ (y : Int)) := by omega
      have d2 : decide ((i : Int) ≤ (y : Int)) = false := decide_eq_false d1
      rw [rch_gt hy hiy]
      have HLt : Hid (∀ j, (Value.slice (some ⟨g, 0, none⟩) n c).ownBlock = some j → w0.heap.size ≤ j ∧ j < w.heap.size) := hideG (fun j hj => hG.own.lt j hj)
      by_cases hs : E[i]? = some 257
      · have hiE : i < E.length := by
          rcases Nat.lt_or_ge i E.length with h | h
          · exact h
          · rw [List.getElem?_eq_none h] at hs; cases hs
        have hiM : i < m := by rw [HM.out]; exact hiE
        have eqr : rchA E L i = L ++ [i, i + 1] := by unfold rchA; rw [if_pos hs]
        rw [eqr]
        obtain ⟨eb, eo, rfl, hec⟩ := HE.out (by intro e; rw [e] at hiE; simp at hiE)
        have e0 := hec i hiE
        have ev : E[i] = 257 := by rw [List.getElem?_eq_getElem hiE] at hs; exact Option.some.inj hs
        rw [ev] at e0
        have hebl : eb < w0.heap.size := World.block_lt_of_cell? w0 _ e0
        have e1 := HGB.out.kept.cell e0 (fun f => f)
        have d3 : (i : Int) < (m : Int) := by omega
        have NZ : Hid (iv (nz (L ++ [i, i + 1])) = iv (nz L ++ [(i : Int)] ++ [(i : Int) + 1])) := hideG (by unfold nz; simp)
        have LN : Hid (n + 1 + 1 = (L ++ [i, i + 1]).length) := hideG (by have := HN.out; simp; omega)
        clear hE hG hm hec hs ev eqr hn KB hc hy zy hml
        go_enter Tryd.func68, Tryd.ntmps68
        go_wp2_with (at_builtin; first
          | (refine wpList_pushO rfl _ _ rfl _ n (nz L) (i : Int) rfl GO (by simp; omega) _ (by first | rfl | simp) rfl (by omega) ?_; clear GO; intro a1 c1 W1 O1 K1; have x1 := K1.out.cell x0 (fun e => by have := (HLt.out _ e).2; simp only at this; omega); have e2 := K1.out.cell e1 (fun e => by have := (HLt.out _ e).1; simp only at this; omega); have s1 : w0.heap.size ≤ W1.heap.size := (by have := K1.out.size; simp at this; omega))
          | (refine wpList_pushO rfl _ _ rfl _ (n + 1) (nz L ++ [(i : Int)]) ((i : Int) + 1) rfl O1 s1 _ (by first | rfl | simp) rfl (by omega) ?_; intro a2 c2 W2 O2 K2))
        go_ret
        exact GroN.mk LN.out (by rw [NZ.out]; exact O2.out) (HGB.out.kept) ((K1.out.mono fun j hj => .inl (HLt.out j hj).1).trans (K2.out.mono fun j hj => .inl (O1.out.lt j hj).1) (fun j hj => .inl hj)) (fun j hj => hj)
      · have eqr : rchA E L i = L ++ [i] := by unfold rchA; rw [if_neg hs]
        rw [eqr]
        have NZ : Hid (iv (nz (L ++ [i])) = iv (nz L ++ [(i : Int)])) := hideG (by rw [nz_app])
        have LN : Hid (n + 1 = (L ++ [i]).length) := hideG (by have := HN.out; simp; omega)
        rcases Nat.lt_or_ge i m with hiM | hiM
        · have hiE : i < E.length := by rw [← HM.out]; exact hiM
          obtain ⟨eb, eo, rfl, hec⟩ := HE.out (by intro e; rw [e] at hiE; simp at hiE)
          have e0 := hec i hiE
          have ev : E[i] ≠ 257 := by rw [List.getElem?_eq_getElem hiE] at hs; exact fun e => hs (by rw [e])
          have hebl : eb < w0.heap.size := World.block_lt_of_cell? w0 _ e0
          have e1 := HGB.out.kept.cell e0 (fun f => f)
          generalize E[i] = q at *
          have q9 : (q == 257) = false := by simpa using ev
          have d3 : (i : Int) < (m : Int) := by omega
          clear hE hG hm hec hs eqr hn KB hc hy zy hml
          go_enter Tryd.func68, Tryd.ntmps68
          go_wp2_with (at_builtin; refine wpList_pushO rfl _ _ rfl _ n (nz L) (i : Int) rfl GO (by simp; omega) _ (by first | rfl | simp) rfl (by omega) ?_; clear GO; intro a1 c1 W1 O1 K1; have x1 := K1.out.cell x0 (fun e => by have := (HLt.out _ e).2; simp only at this; omega); have e2 := K1.out.cell e1 (fun e => by have := (HLt.out _ e).1; simp only at this; omega))
          go_ret
          exact GroN.mk LN.out (by rw [NZ.out]; exact O1.out) HGB.out.kept K1.out (fun j hj => (HLt.out j hj).1)
        · have d3 : ¬ ((i : Int) < (m : Int)) := by omega
          clear hE hG hm hs eqr hn KB hc hy zy hml
          go_enter Tryd.func68, Tryd.ntmps68
          go_wp2_with (at_builtin; refine wpList_pushO rfl _ _ rfl _ n (nz L) (i : Int) rfl GO (by simp; omega) _ (by first | rfl | simp) rfl (by omega) ?_; clear GO; intro a1 c1 W1 O1 K1; have x1 := K1.out.cell x0 (fun e => by have := (HLt.out _ e).2; simp only at this; omega))
          go_ret
          exact GroN.mk LN.out (by rw [NZ.out]; exact O1.out) HGB.out.kept K1.out (fun j hj => (HLt.out j hj).1)
end Go.Proofs.YtacmmclamkhpcaaDoor
