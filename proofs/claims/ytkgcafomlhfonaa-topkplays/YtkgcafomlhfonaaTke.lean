import Derived.Test.YtkgcafomlhfonaaTkd
import Derived.Deep.MidRow
import Derived.Laws.IdiomCopy
namespace Go.Proofs.Ytkgcafomlhfonaa.Tk
open Go.ChangeShapes Go.WideShapes Go.ChangeAt Go.RowKit

/-- Whatever order is picked from here on, and S holds behind every operation that is carried out but number z. -/
def wpAnyZ (P : Program) (md : Region.Mode) (ops : Array Oper) (Q : Exit → Act → World → Prop) (S : World → Prop) (z : Nat) : Nat → Array Bool → Act → World → Prop
  | 0, listed, a, w => Region.ready md ops listed = [] ∧ Q .normal a w
  | fuel + 1, listed, a, w =>
    (Region.ready md ops listed = [] → Q .normal a w) ∧
    ∀ i ∈ Region.ready md ops listed, wpOp P ops Q i (fun a' w' => (i = z ∨ S w') ∧ wpAnyZ P md ops Q S z fuel (listed.setIfInBounds i true) a' w') a w
theorem wpAny_of_z {P : Program} {md : Region.Mode} {ops : Array Oper} {Q : Exit → Act → World → Prop} {S : World → Prop} {z : Nat} : ∀ (fuel : Nat) (listed : Array Bool) (a : Act) (w : World), wpAnyZ P md ops Q S z fuel listed a w → wpAny P md ops Q fuel listed a w
  | 0, _, _, _, h => h
  | fuel + 1, _, _, _, h => ⟨h.1, fun i hi => wpOp_mono (fun a' w' h' => wpAny_of_z fuel _ a' w' h'.2) (h.2 i hi)⟩
/-- Does number z wait for number i? -/
def waits (md : Region.Mode) (ops : Array Oper) (z i : Nat) : Bool := ((ops[z]?).map (fun o => o.after.any (fun e => Region.binds md e && e.on == i))).getD false
theorem wpAnyZ_first {P : Program} {md : Region.Mode} {ops : Array Oper} {Q : Exit → Act → World → Prop} {S : World → Prop} {z i : Nat} {oi : Oper} {v : Value} (hi : ops[i]? = some oi) (hsel : ∀ (j : Nat) (o : Oper) cs b, ops[j]? = some o → o.op ≠ .select cs b)
    (hQ : ∀ c a w, Q (.panic c) (a.put oi.dst v) w → Q (.panic c) a w) (hz : waits md ops z i = true) :
    ∀ (fuel : Nat) (listed : Array Bool) (a : Act) (w : World),
      (∀ j oj, ops[j]? = some oj → j ≠ i → listed.getD j true = false → (∀ e ∈ oj.after, Region.binds md e = true → e.on ≠ i) → oi.apart ops oj = true) →
      i ∈ Region.ready md ops listed → YieldsIf P ops S oi v a → S w →
      wpAnyZ P md ops Q S z fuel (listed.setIfInBounds i true) (a.put oi.dst v) w → wpAnyZ P md ops Q S z (fuel + 1) listed a w := by
  intro fuel
  induction fuel with
  | zero =>
    intro listed a w _ hr hy hS H
    refine ⟨fun h => (by rw [h] at hr; cases hr), fun j hj => ?_⟩
    by_cases hji : j = i
    · subst hji; exact hy.wpOp hi hS ⟨.inr hS, H⟩
    · have := ready_mono hj hji
      rw [H.1] at this
      cases this
  | succ fuel ih =>
    intro listed a w hfree hr hy hS H
    refine ⟨fun h => (by rw [h] at hr; cases hr), fun j hj => ?_⟩
    by_cases hji : j = i
    · subst hji; exact hy.wpOp hi hS ⟨.inr hS, H⟩
    · have h1 := H.2 j (ready_mono hj hji)
      obtain ⟨hjun, oj, hoj, hall⟩ := mem_ready.1 hj
      have hnot : ∀ e ∈ oj.after, Region.binds md e = true → e.on ≠ i := fun e he hb heq => by
        have h1 := hall e he hb
        have h0 := (mem_ready.1 hr).1
        rw [heq] at h1
        rcases Nat.lt_or_ge i listed.size with h' | h'
        · simp [h'] at h0 h1; rw [h0] at h1; cases h1
        · simp [Array.getElem?_eq_none h'] at h1
      have hjz : j ≠ z := by
        rintro rfl
        unfold waits at hz
        rw [hoj] at hz
        simp only [Option.map_some, Option.getD_some, Array.any_eq_true'] at hz
        obtain ⟨e, he, hb⟩ := hz
        simp only [Bool.and_eq_true, beq_iff_eq] at hb
        exact hnot e he hb.1 hb.2
      have h2 := wpOp_putIf hoj (hfree j oj hoj hji hjun hnot) (fun cs b => hsel i oi cs b hi) (fun cs b => hsel j oj cs b hoj) hQ hy h1
      have hfree' : ∀ k ok, ops[k]? = some ok → k ≠ i → (listed.setIfInBounds j true).getD k true = false →
          (∀ e ∈ ok.after, Region.binds md e = true → e.on ≠ i) → oi.apart ops ok = true := fun k ok hk hki hun hno => by
        refine hfree k ok hk hki ?_ hno
        by_cases hjk : j = k
        · subst hjk; exact hjun
        · rw [getD_set_ne true hjk] at hun; exact hun
      refine wpOp_mono (fun a' w' h3 => ⟨h3.2.1, ih (listed.setIfInBounds j true) a' w' hfree' (ready_mono hr (Ne.symm hji)) h3.1 (h3.2.1.resolve_left hjz) ?_⟩) h2
      rw [Array.setIfInBounds_comm _ _ hji]
      exact h3.2.2
theorem wpAnyZ_take {P : Program} {md : Region.Mode} {ops : Array Oper} {Q : Exit → Act → World → Prop} {S : World → Prop} {z i : Nat} {oi : Oper} {v : Value} {fuel : Nat} {listed : Array Bool} {a : Act} {w : World} (hi : ops[i]? = some oi)
    (hs : Region.noSelect ops = true) (hf : Region.free md ops listed i = true) (hr : (Region.ready md ops listed).contains i = true) (hz : waits md ops z i = true)
    (hQ : ∀ c a w, Q (.panic c) (a.put oi.dst v) w → Q (.panic c) a w) (hy : YieldsIf P ops S oi v a) (hS : S w)
    (h : wpAnyZ P md ops Q S z fuel (listed.setIfInBounds i true) (a.put oi.dst v) w) : wpAnyZ P md ops Q S z (fuel + 1) listed a w :=
  wpAnyZ_first hi (Region.noSelect_spec hs) hQ hz fuel listed a w (Region.free_spec hi hf) (by simpa using hr) hy hS h
theorem wpAnyZ_all {P : Program} {md : Region.Mode} {ops : Array Oper} {Q : Exit → Act → World → Prop} {S : World → Prop} {z : Nat} {rs : List Nat} {fuel : Nat} {listed : Array Bool} {a : Act} {w : World} (hr : Region.ready md ops listed = rs) (hne : rs ≠ [])
    (h : ∀ i ∈ rs, wpOp P ops Q i (fun a' w' => (i = z ∨ S w') ∧ wpAnyZ P md ops Q S z fuel (listed.setIfInBounds i true) a' w') a w) : wpAnyZ P md ops Q S z (fuel + 1) listed a w :=
  ⟨fun h0 => absurd (hr ▸ h0) hne, hr ▸ h⟩
theorem wpAnyZ_done {P : Program} {md : Region.Mode} {ops : Array Oper} {Q : Exit → Act → World → Prop} {S : World → Prop} {z : Nat} {listed : Array Bool} {a : Act} {w : World} (hr : Region.ready md ops listed = []) (h : Q .normal a w) :
    ∀ fuel, wpAnyZ P md ops Q S z fuel listed a w
  | 0 => ⟨hr, h⟩
  | _ + 1 => ⟨fun _ => h, by rw [hr]; simp⟩
theorem wp_region_z {P : Program} {ops : Array Oper} {Q : Exit → Act → World → Prop} {S : World → Prop} {z : Nat} {id : Nat} {a : Act} {w : World} (hm : P.follows .mixedOrders = true)
    (h : wpAnyZ P .any ops Q S z ops.size (Array.replicate ops.size false) a { w with drawn := w.drawn + 1 }) : (Code.region id ops true).wp P Q a w :=
  wp_region_any hm (wpAny_of_z _ _ _ _ h)
theorem wpOp_inT {P : Program} {ops : Array Oper} {Q : Exit → Act → World → Prop} {i : Nat} {o : Oper} {K : Act → World → Prop} {a : Act} {w : World} (hi : ops[i]? = some o) (hgd : o.guard = none) (h : o.wp P a w K Q) : wpOp P ops Q i K a w := by
  have hw : Region.wanted o (yielded ops a.tmps) = true := by simp [Region.wanted, hgd]
  unfold wpOp
  rw [hi]
  simp only
  rw [if_pos hw]
  exact .inl h
/-- Hits' cells. -/
def hv (L : List Ht) : List Value := L.flatMap enH
theorem hv_nil : hv [] = [] := rfl
theorem hv_cons (x : Ht) (L : List Ht) : hv (x :: L) = .int .i64 x.1 :: .int .u64 x.2 :: hv L := rfl
theorem hv_app (L M : List Ht) : hv (L ++ M) = hv L ++ hv M := by simp [hv]
theorem hv_len : ∀ (L : List Ht), (hv L).length = L.length * 2
  | [] => rfl
  | x :: L => by rw [hv_cons, List.length_cons, List.length_cons, hv_len L, List.length_cons]; omega
theorem hv_get : ∀ (L : List Ht) (k : Nat) (h : k < L.length), (hv L)[k * 2]? = some (.int .i64 L[k].1) ∧ (hv L)[k * 2 + 1]? = some (.int .u64 L[k].2)
  | x :: L, 0, _ => ⟨rfl, rfl⟩
  | x :: L, k + 1, h => by
    have := hv_get L k (by simpa using h)
    rw [show (k + 1) * 2 = k * 2 + 2 by omega]
    exact this
theorem hv_set : ∀ (L : List Ht) (k : Nat) (y : Ht), k < L.length → ((hv L).set (k * 2) (.int .i64 y.1)).set (k * 2 + 1) (.int .u64 y.2) = hv (L.set k y)
  | x :: L, 0, y, _ => rfl
  | x :: L, k + 1, y, h => by
    have := hv_set L k y (by simpa using h)
    rw [List.set_cons_succ, hv_cons, hv_cons, show (k + 1) * 2 = k * 2 + 1 + 1 by omega, List.set_cons_succ, List.set_cons_succ, List.set_cons_succ, List.set_cons_succ, this]
theorem hv_one (L : List Ht) : ∀ u ∈ hv L, u.oneCell' = true := by
  intro u hu
  obtain ⟨x, _, hx⟩ := List.mem_flatMap.1 hu
  simp [enH] at hx
  rcases hx with rfl | rfl <;> rfl
/-- Hits as they lie in memory. -/
def HsAt (w : World) (a : Option Addr) (L : List Ht) : Prop := L ≠ [] → ∃ b off, a = some ⟨b, off, none⟩ ∧ ∀ k (_ : k < L.length), w.cell? ⟨b, off + k * 2, none⟩ = some (.int .i64 L[k].1) ∧ w.cell? ⟨b, off + k * 2 + 1, none⟩ = some (.int .u64 L[k].2)
theorem HsAt.kept {F : Nat → Prop} {w w' : World} {a : Option Addr} {L : List Ht} (h : HsAt w a L) (k : Kept F w w') (hF : ∀ b off, a = some ⟨b, off, none⟩ → ¬ F b) : HsAt w' a L := by
  intro hne
  obtain ⟨b, off, e, hc⟩ := h hne
  exact ⟨b, off, e, fun j hj => ⟨k.cell (hc j hj).1 (hF b off e), k.cell (hc j hj).2 (hF b off e)⟩⟩
theorem HsAt.same {w w' : World} {a : Option Addr} {L : List Ht} (h : HsAt w a L) (k : Kept (fun _ => False) w w') : HsAt w' a L := h.kept k (fun _ _ _ f => f)
theorem row_newT (w : World) (l : List Value) (t : TypeId) : ∀ (j : Nat) (u : Value), l[j]? = some u → (w.alloc (.cells l.toArray t)).cell? ((⟨w.heap.size, 0, none⟩ : Addr).add j) = some u := by
  intro j u hj
  rw [Addr.add_mid, Nat.zero_add]
  simpa using hj
/-- A row of hits of one's own. -/
def RowH (B : Nat) (w : World) (v : Value) (L : List Ht) : Prop := w.ownsRow B 29 2 v L.length (hv L)
theorem RowH.same {B : Nat} {w w' : World} {v : Value} {L : List Ht} (h : RowH B w v L) {F : Nat → Prop} (k : Kept F w w') (hF : ∀ i, v.ownBlock = some i → ¬ F i) : RowH B w' v L := k.row h hF
theorem RowH.shape {B : Nat} {w : World} {v : Value} {L : List Ht} (h : RowH B w v L) : ∃ a c, v = .slice a L.length c := by
  rcases h.2 with ⟨rfl, e⟩ | ⟨g, cap, cur, rfl, _⟩
  · exact ⟨none, 0, by rw [e]⟩
  · exact ⟨_, _, rfl⟩
theorem RowH.hs {B : Nat} {w : World} {a : Option Addr} {n c : Nat} {L : List Ht} (h : RowH B w (.slice a n c) L) : HsAt w a L := by
  intro hne
  rcases h.2 with ⟨_, e⟩ | ⟨g, cap, cur, e1, _⟩
  · exact absurd (List.eq_nil_of_length_eq_zero e) hne
  · simp only [Value.slice.injEq] at e1
    obtain ⟨rfl, rfl, rfl⟩ := e1
    refine ⟨g, 0, rfl, fun k hk => ?_⟩
    obtain ⟨h1, h2⟩ := hv_get L k hk
    have c1 := World.ownsRow.cells h (g := g) rfl _ _ h1
    have c2 := World.ownsRow.cells h (g := g) rfl _ _ h2
    rw [Addr.add_mid] at c1 c2
    rw [Nat.zero_add] at c1 c2 ⊢
    exact ⟨c1, c2⟩
theorem RowH.set {B : Nat} {w : World} {g n c : Nat} {L : List Ht} (h : RowH B w (.slice (some ⟨g, 0, none⟩) n c) L) (k : Nat) (hk : k < L.length) (y : Ht) :
    w.there g (k * 2) 2 ∧ RowH B (w.setCells g (k * 2) [.int .i64 y.1, .int .u64 y.2]) (.slice (some ⟨g, 0, none⟩) n c) (L.set k y) ∧ Kept (fun i => i = g) w (w.setCells g (k * 2) [.int .i64 y.1, .int .u64 y.2]) := by
  rcases h.2 with ⟨e, _⟩ | ⟨g', cap, cur, e1, hg, hh, hn, hm, hs, ht⟩
  · cases e
  · simp only [Value.slice.injEq, Option.some.injEq, Addr.mk.injEq, and_true] at e1
    obtain ⟨rfl, rfl, rfl⟩ := e1
    have z1 := heap_setCell_same w g (k * 2) cur _ (.int .i64 y.1) hh
    have z2 := heap_setCell_same _ g (k * 2 + 1) _ _ (.int .u64 y.2) z1
    refine ⟨?_, ⟨by rw [List.length_set, hv_len, List.length_set], .inr ⟨g, c, _, by rw [List.length_set], hg, z2, by rw [List.length_set]; exact hn, hm, by rw [Array.size_setIfInBounds, Array.size_setIfInBounds]; exact hs, ?_⟩⟩, ?_⟩
    · intro j hj
      have hlt : k * 2 + j < cur.size := by rw [hs]; omega
      refine ⟨?_, by simp [World.frozen?, hh]⟩
      rw [cell_of_row _ _ _ _ _ _ hh, Array.getElem?_eq_getElem hlt]
      rfl
    · rw [List.length_set, Array.toList_setIfInBounds, Array.toList_setIfInBounds, List.take_set, List.take_set, ht, hv_set L k y hk]
    · exact (Kept.setCell w ⟨g, k * 2, none⟩ (.int .i64 y.1)).trans (Kept.setCell _ ⟨g, k * 2 + 1, none⟩ (.int .u64 y.2)) (fun i e => .inl e)
/-- A keeper: its box at p, and the hits that it keeps. -/
structure KpAt (B : Nat) (w : World) (p : Nat) (k : Int) (v : Value) (H : List Ht) : Prop where
  box : w.heap[p]? = some (.cells #[.int .i64 k, .func (.func 28) #[] #[], v] 57 (0, 0))
  row : RowH B w v H
  far : v.ownBlock ≠ some p
/-- What a call on a keeper may change. -/
structure KStep (w w' : World) (p : Nat) (v v' : Value) : Prop where
  kept : Kept (fun i => i = p ∨ v.ownBlock = some i) w w'
  new : ∀ i, v'.ownBlock = some i → v.ownBlock = some i ∨ w.heap.size ≤ i
theorem KStep.refl (w : World) (p : Nat) (v : Value) : KStep w w p v v := ⟨Kept.refl _ _, fun _ h => .inl h⟩
theorem KStep.trans {a b c : World} {p : Nat} {v v1 v2 : Value} (h : KStep a b p v v1) (k : KStep b c p v1 v2) : KStep a c p v v2 :=
  ⟨h.kept.trans k.kept (fun i hi => hi.elim (fun e => .inl (.inl e)) (fun e => (h.new i e).elim (fun x => .inl (.inr x)) .inr)),
   fun i hi => (k.new i hi).elim (fun x => h.new i x) (fun x => .inr (Nat.le_trans h.kept.size x))⟩
theorem KStep.later {a b c : World} {p : Nat} {v v1 : Value} (h : KStep a b p v v1) (k : Kept (fun _ => False) b c) : KStep a c p v v1 := ⟨h.kept.trans k (fun _ f => f.elim), h.new⟩
theorem KStep.ahead {a b c : World} {p : Nat} {v v1 : Value} (k : Kept (fun _ => False) a b) (h : KStep b c p v v1) : KStep a c p v v1 :=
  ⟨(k.mono (fun _ f => f.elim)).trans h.kept (fun _ hi => .inl hi), fun i hi => (h.new i hi).imp id (fun x => Nat.le_trans k.size x)⟩
theorem KpAt.same {B : Nat} {w w' : World} {p : Nat} {k : Int} {v : Value} {H : List Ht} (h : KpAt B w p k v H) (s : Kept (fun _ => False) w w') : KpAt B w' p k v H :=
  ⟨s.heap h.box (fun f => f), h.row.same s (fun _ _ f => f), h.far⟩
theorem KpAt.lt {B : Nat} {w : World} {p : Nat} {k : Int} {v : Value} {H : List Ht} (h : KpAt B w p k v H) : p < w.heap.size ∧ ∀ i, v.ownBlock = some i → B ≤ i ∧ i < w.heap.size :=
  ⟨lt_of_block h.box, fun i hi => h.row.lt i hi⟩
theorem infoHt : (Try.prog.info? 29).map (fun i => (i.zero, i.size, i.bytes)) = some (some (.agg #[.int .i64 0, .int .u64 0]), 2, 16) := by kernel_rfl
theorem size_hit : (Try.prog.info? 29).map (·.size) = some 2 := by kernel_rfl
theorem info_partsT {P : Program} {e : TypeId} {z : Value} {n m : Nat} (h : (P.info? e).map (fun i => (i.zero, i.size, i.bytes)) = some (some z, n, m)) : ∃ i, P.info? e = some i ∧ i.zero = some z ∧ i.size = n ∧ i.bytes = m := by
  cases hi : P.info? e with
  | none => rw [hi] at h; cases h
  | some i => rw [hi] at h; simp at h; exact ⟨i, rfl, h.1, h.2.1, h.2.2⟩
end Go.Proofs.Ytkgcafomlhfonaa.Tk
