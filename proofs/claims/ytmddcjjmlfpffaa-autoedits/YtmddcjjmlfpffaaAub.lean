import Derived.Test.YtmddcjjmlfpffaaAua
namespace Go.Proofs.Ytmddcjjmlfpffaa
open Go.ChangeShapes Go.WideShapes Go.ChangeAt Go.RowKit

def nz (L : List Nat) : List Int := L.map (fun (x : Nat) => (x : Int))
theorem nz_len (L : List Nat) : (nz L).length = L.length := by unfold nz; simp
theorem nz_app (L : List Nat) (x : Nat) : nz (L ++ [x]) = nz L ++ [(x : Int)] := by unfold nz; simp
theorem nz_at {L : List Nat} {j : Nat} (h : j < L.length) : (iv (nz L))[j]? = some (.int .i64 (L[j] : Nat)) := by unfold iv nz; simp [h]
/-- 'append' of one number; what else lies stays. -/
theorem wpList_pushO {base : Nat} {W : World} {ops : Array Oper} {rest : List Oper} {o : Oper} {act : Act} {Q : Exit → Act → World → Prop} (hgd : o.guard = none) (s x : Operand)
    (ho : o.op = .call { callee := .builtin .append, args := #[s, x], argTypes := #[27, 27] }) (v : Value) (n : Nat) (L : List Int) (y : Int) (hs : act.eval s = v) (hG : Hid (W.ownsRow base 3 1 v n (iv L))) (hb0 : base ≤ W.heap.size) (b : Nat) (hb : b = W.heap.size) (hx : act.eval x = .slice (some ⟨b, 0, none⟩) 1 1) (hn : n ≤ 1099511627776)
    (h : ∀ a' c' W', Hid (W'.ownsRow base 3 1 (.slice a' (n + 1) c') (n + 1) (iv (L ++ [y]))) → Hid (Kept (fun k => v.ownBlock = some k) W W') → wpList Try.prog ops Q rest (act.put o.dst (.slice a' (n + 1) c')) W') : wpList Try.prog ops Q (o :: rest) act (W.alloc (.cells #[.int .i64 y] 3)) := by
  subst hb
  obtain ⟨i0, hi, hz0, hz1, hz2⟩ := info_partsA Try.infoI
  rw [iv_app] at h
  refine wpList_append_own _ hgd s x 27 ho base 3 i0 (.int .i64 0) 1 8 Try.underlying27 hi hz0 hz1 hz2 rfl (by decide) v n (iv L) hs (hG.out.alloc _) ⟨W.heap.size, 0, none⟩ 1 1 [.int .i64 y] hx (by simp) (row_news W [.int .i64 y] 3) (by intro u hu; simp at hu; subst hu; rfl) (by unfold maxLen; omega) (by omega) (by simp; omega) ?_
  intro v' W' ho2 hg2 _
  have q : ∃ a c, v' = .slice a (n + 1) c := by
    rcases ho2.2 with ⟨rfl, e⟩ | ⟨g, cap, cur, rfl, _⟩
    · omega
    · exact ⟨_, _, rfl⟩
  obtain ⟨a', c', rfl⟩ := q
  exact h a' c' W' ho2 (((Kept.alloc W _).mono (fun _ f => f.elim)).trans (Kept.grown hg2) (fun i hi => .inl hi))
/-- Numbers lie at a place. -/
def NsAt (w : World) (a : Option Addr) (L : List Int) : Prop :=
  L ≠ [] → ∃ b o, a = some ⟨b, o, none⟩ ∧ ∀ j (h : j < L.length), w.cell? ⟨b, o + j, none⟩ = some (.int .i64 L[j])
theorem NsAt.kept {w w' : World} {a : Option Addr} {L : List Int} (h : NsAt w a L) (k : Kept (fun _ => False) w w') : NsAt w' a L := by
  intro hne
  obtain ⟨b, o, e, hc⟩ := h hne
  exact ⟨b, o, e, fun j hj => k.cell (hc j hj) (fun f => f)⟩
theorem NsAt.of_gro {w0 w : World} {a : Option Addr} {n c : Nat} {L : List Int} (h : Gro w0 w 3 1 (.slice a n c) n (iv L)) : NsAt w a L := by
  intro hne
  have hl := h.own.1
  rw [iv_len] at hl
  have hpos : 0 < L.length := List.length_pos_iff.2 hne
  obtain ⟨g, rfl, _, hc⟩ := h.cell (by omega)
  exact ⟨g, 0, rfl, fun j hj => by rw [Nat.zero_add]; exact hc j _ (iv_at hj)⟩
/-- What 'reached' makes of a list. -/
def rchA (E : List Int) (L : List Nat) (i : Nat) : List Nat := if E[i]? = some 257 then L ++ [i, i + 1] else L ++ [i]
def rch (E : List Int) (L : List Nat) (i : Nat) : List Nat := match L.getLast? with
  | some y => if i ≤ y then L else rchA E L i
  | none => rchA E L i
theorem rch_le {E : List Int} {L : List Nat} {i y : Nat} (h : L.getLast? = some y) (hi : i ≤ y) : rch E L i = L := by unfold rch; rw [h]; simp [hi]
theorem rch_gt {E : List Int} {L : List Nat} {i y : Nat} (h : L.getLast? = some y) (hi : ¬ i ≤ y) : rch E L i = rchA E L i := by unfold rch; rw [h]; simp [hi]
theorem rch_nil {E : List Int} {i : Nat} : rch E [] i = rchA E [] i := by unfold rch; simp
theorem rch_all {E : List Int} {L : List Nat} {i : Nat} (hL : ∀ x ∈ L, x ≤ E.length) (hi : i ≤ E.length) : ∀ x ∈ rch E L i, x ≤ E.length := by
  have hA : ∀ x ∈ rchA E L i, x ≤ E.length := by
    intro x hx
    unfold rchA at hx
    split at hx
    · rename_i he
      have : i < E.length := by
        rcases Nat.lt_or_ge i E.length with h | h
        · exact h
        · rw [List.getElem?_eq_none h] at he; cases he
      simp only [List.mem_append, List.mem_cons, List.not_mem_nil, or_false] at hx
      rcases hx with h | h | h
      · exact hL x h
      · omega
      · omega
    · simp only [List.mem_append, List.mem_cons, List.not_mem_nil, or_false] at hx
      rcases hx with h | h
      · exact hL x h
      · omega
  unfold rch
  split
  · split
    · exact hL
    · exact hA
  · exact hA
theorem rch_ne {E : List Int} {L : List Nat} {i : Nat} : rch E L i ≠ [] := by
  have hA : rchA E L i ≠ [] := by unfold rchA; split <;> simp
  unfold rch
  split
  · split
    · rename_i h _; intro e; rw [e] at h; cases h
    · exact hA
  · exact hA
theorem rch_size {E : List Int} {L : List Nat} {i : Nat} : (rch E L i).length ≤ L.length + 2 := by
  have hA : (rchA E L i).length ≤ L.length + 2 := by unfold rchA; split <;> simp
  unfold rch
  split
  · split
    · omega
    · exact hA
  · exact hA
def GroN (w0 w : World) (L : List Nat) (e : Ending) : Prop := ∃ a c, e = .returned (.slice a L.length c) ∧ Gro w0 w 3 1 (.slice a L.length c) L.length (iv (nz L))
theorem GroN.mk {w0 w w' : World} {X : Nat → Prop} {L : List Nat} {a : Option Addr} {n c : Nat} (hn : n = L.length) (hO : w'.ownsRow w0.heap.size 3 1 (.slice a n c) n (iv (nz L))) (h0 : Kept (fun _ => False) w0 w) (hk : Kept X w w') (hX : ∀ j, X j → w0.heap.size ≤ j) : GroN w0 w' L (.returned (.slice a n c)) := by
  subst hn
  exact ⟨a, c, rfl, hO, h0.trans hk (fun j hj => .inr (hX j hj))⟩
end Go.Proofs.Ytmddcjjmlfpffaa
