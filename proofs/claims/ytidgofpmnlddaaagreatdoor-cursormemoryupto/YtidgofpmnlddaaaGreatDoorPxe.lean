import Derived.Test.YtidgofpmnlddaaaGreatDoorPxd
import Derived.Test.YtidgofpmnlddaaaGreatDoorMrg8
namespace Go.Proofs.YtidgofpmnlddaaaGreatDoor
open Go.ChangeShapes Go.WideShapes Go.ChangeAt Go.RowKit

/-- 'append' of one number, over a row alone. -/
theorem wpList_pushR {base : Nat} {W : World} {ops : Array Oper} {rest : List Oper} {o : Oper} {act : Act} {Q : Exit → Act → World → Prop} (hgd : o.guard = none) (s x : Operand)
    (ho : o.op = .call { callee := .builtin .append, args := #[s, x], argTypes := #[24, 24] }) (v : Value) (n : Nat) (xs : List Int) (y : Int) (hs : act.eval s = v) (hG : Hid (W.ownsRow base 3 1 v n (is xs))) (hb0 : base ≤ W.heap.size) (b : Nat) (hb : b = W.heap.size) (hx : act.eval x = .slice (some ⟨b, 0, none⟩) 1 1) (hn : n ≤ 1099511627776)
    (h : ∀ gb c' W', Hid (W'.ownsRow base 3 1 (.slice (some ⟨gb, 0, none⟩) (n + 1) c') (n + 1) (is (xs ++ [y]))) → Hid (Kept (fun k => v.ownBlock = some k) W W') → wpList Tryz.prog ops Q rest (act.put o.dst (.slice (some ⟨gb, 0, none⟩) (n + 1) c')) W') : wpList Tryz.prog ops Q (o :: rest) act (W.alloc (.cells #[.int .i64 y] 3)) := by
  subst hb
  obtain ⟨i0, hi, hz0, hz1, hz2⟩ := info_partsP Tryz.infoI
  rw [is_app] at h
  refine wpList_append_lies _ hgd s x 24 ho base 3 i0 (.int .i64 0) 1 8 Tryz.underlying24 hi hz0 hz1 hz2 rfl (by decide) v n (is xs) hs (hG.out.alloc _) ⟨W.heap.size, 0, none⟩ 1 1 [.int .i64 y] hx (by simp) (row_news W [.int .i64 y] 3) (by intro u hu; simp at hu; subst hu; rfl) (by decide) (by unfold maxLen; omega) (by omega) (by simp; omega) _ rfl ?_
  intro gb c' W' ho2 hg2 hat _
  exact h gb c' W' ho2 (hideP (((Kept.alloc W _).mono (fun _ f => f.elim)).trans (Kept.grown hg2) (fun i hi => .inl hi)))
/-- A posting whose positions are being read. -/
structure Pz (Wrr : World) (rb pb : Nat) (d : Int) (w : World) (v : Value) (k : Nat) (xs : List Int) : Prop where
  kept : Kept (fun x => x = rb) Wrr w
  box : w.heap[pb]? = some (.cells #[.int .i64 d, v] 38 (0, 0))
  own : w.ownsRow (Wrr.heap.size + 1) 3 1 v k (is xs)
  pbe : pb = Wrr.heap.size
  rbl : rb < Wrr.heap.size
theorem Pz.num {Wrr : World} {rb pb : Nat} {d : Int} {w w' : World} {v : Value} {k : Nat} {xs : List Int} (h : Pz Wrr rb pb d w v k xs) (kk : Kept (fun i => i = rb) w w') : Pz Wrr rb pb d w' v k xs :=
  ⟨h.kept.trans kk (fun i hi => .inl hi), kk.heap h.box (fun e => by have := h.pbe; have := h.rbl; omega), kk.row h.own (fun j hj e => by have := (h.own.lt j hj).1; have := h.rbl; omega), h.pbe, h.rbl⟩
theorem Pz.push {Wrr : World} {rb pb : Nat} {d : Int} {w w' : World} {v v' : Value} {k : Nat} {xs ys : List Int} (h : Pz Wrr rb pb d w v k xs) (o : w'.ownsRow (Wrr.heap.size + 1) 3 1 v' (k + 1) (is ys)) (kk : Kept (fun i => v.ownBlock = some i) w w') : Pz Wrr rb pb d (w'.setCell ⟨pb, 1, none⟩ v') v' (k + 1) ys := by
  have hb : w'.heap[pb]? = some (.cells #[.int .i64 d, v] 38 (0, 0)) := kk.heap h.box (fun e => by have := (h.own.lt pb e).1; have := h.pbe; omega)
  have ks := Kept.setCell w' ⟨pb, 1, none⟩ v'
  refine ⟨(h.kept.trans kk (fun i hi => .inr (by have := (h.own.lt i hi).1; omega))).trans ks (fun i hi => .inr (by have := h.pbe; simp only at hi; omega)), heap_setCell_same w' pb 1 _ _ _ hb, ks.row o (fun j hj e => by have := (o.lt j hj).1; have := h.pbe; simp only at e; omega), h.pbe, h.rbl⟩
theorem row2 {W : World} {b : Nat} {x0 x1 : Value} {T : TypeId} (h : W.heap[b]? = some (.cells #[x0, x1] T (0, 0))) : (W.cell? ⟨b, 0, none⟩ = some x0 ∧ W.cell? ⟨b, 1, none⟩ = some x1) ∧ (∀ j, W.frozen? ⟨b, j, none⟩ = false) := by
  have hc := fun j => cell_of_row W b j _ _ _ h
  refine ⟨⟨?_, ?_⟩, fun j => ?_⟩
  · rw [hc]; rfl
  · rw [hc]; rfl
  · simp [World.frozen?, h]
theorem own_ints {w : World} {base : Nat} {a : Option Addr} {k c : Nat} {xs : List Int} (h : w.ownsRow base 3 1 (.slice a k c) k (is xs)) : IntsAt w a xs ∧ k = xs.length ∧ (xs ≠ [] → ∃ b off, a = some ⟨b, off, none⟩ ∧ base ≤ b ∧ b < w.heap.size) := by
  have hk : k = xs.length := by
    have := h.1
    unfold is at this
    rw [List.length_map] at this
    omega
  have hb : xs ≠ [] → ∃ g, a = some ⟨g, 0, none⟩ := fun hne => by
    rcases h.2 with ⟨e1, e2⟩ | ⟨g, cap, cur, e1, _⟩
    · have := List.length_pos_iff.2 hne
      omega
    · injection e1 with e3
      exact ⟨g, e3⟩
  refine ⟨fun hne => ?_, hk, fun hne => ?_⟩
  · obtain ⟨g, rfl⟩ := hb hne
    refine ⟨g, 0, rfl, fun j hj => ?_⟩
    have q := h.cells (g := g) rfl j (.int .i64 (xs[j]?.getD 0)) (by unfold is; rw [List.getElem?_map, List.getElem?_eq_getElem hj]; rfl)
    rw [Go.WideShapes.add_plain] at q
    exact q
  · obtain ⟨g, rfl⟩ := hb hne
    have := h.lt g rfl
    exact ⟨g, 0, rfl, this.1, this.2⟩
theorem own_sh {w : World} {base : Nat} {v : Value} {e : TypeId} {sz k : Nat} {xs : List Value} (h : w.ownsRow base e sz v k xs) : ∃ a c, v = .slice a k c := by
  rcases h.2 with ⟨rfl, rfl⟩ | ⟨g, cap, cur, rfl, _⟩
  · exact ⟨_, _, rfl⟩
  · exact ⟨_, _, rfl⟩
/-- What block leaves. -/
def bkP (W : World) (l : List Int) (rb : Nat) (a : Option Addr) (n c p m : Nat) (R : Option (List Po × Nat)) (e : Ending) (w' : World) : Prop := ∃ (PL : List Pg) (va : Option Addr) (vc nn p' : Nat) (bd : Bool), e = .returned (.slice va nn vc) ∧ Gps (fun i => i = rb) W w' (.slice va nn vc) nn PL ∧ (∀ g ∈ PL, IsInts g.ps) ∧ RdX w' rb a n c p' bd ∧ p' ≤ l.length ∧ p ≤ p' ∧ nn ≤ m ∧ (bd = false → R = some (pol PL, p') ∧ nn = m ∧ tot (pol PL) + p ≤ p') ∧ (bd = true → R = none)
theorem upn_lt {most : Int} {l : List Int} {p x q : Nat} (h : upn most l p = some (x, q)) : p < q ∧ (p ≤ l.length → q ≤ l.length) ∧ (x : Int) ≤ most := by
  unfold upn at h
  split at h
  · cases h
  · rename_i x' k hr
    split at h
    · rename_i hle
      injection h with h
      injection h with h1 h2
      have := rdu_le _ _ _ _ _ hr
      rw [List.length_drop] at this
      subst h1 h2
      exact ⟨by omega, fun hp => by omega, hle⟩
    · cases h
theorem dpa_back {l xs : List Int} {k p q : Nat} (hI : IsBytes l) (h : dpa l k p = some (xs, q)) : p < q ∧ q ≤ l.length ∧ IsInts xs ∧ (∀ x ∈ xs, 0 ≤ x) ∧ xs.length = k := by
  unfold dpa at h
  split at h
  · cases h
  · rename_i ys q' hu
    split at h
    · rename_i hk
      injection h with h
      injection h with h1 h2
      subst h1 h2
      obtain ⟨g1, g2, g3, g4, -⟩ := pkn_back hI hu
      exact ⟨g1, g2, g3, g4, hk⟩
    · cases h
theorem dbs_step {l : List Int} {b : Int} {G M : List Int} {i p : Nat} (hi : i < G.length) (hm : i < M.length) (hok : ¬ (2147483647 ≤ G[i] ∨ 2147483647 ≤ b + G[i] + 1)) : dbs l b (G.drop i) (M.drop i) p = conX (b + (G[i] + 1)) (dbs l (b + (G[i] + 1)) (G.drop (i + 1)) (M.drop (i + 1))) (dps l (M[i].toNat + 1) (-1) p) := by
  rw [List.drop_eq_getElem_cons hi, List.drop_eq_getElem_cons hm, dbs, if_neg hok]
theorem dbs_no {l : List Int} {b : Int} {G M : List Int} {i p : Nat} (hi : i < G.length) (hm : i < M.length) (hok : 2147483647 ≤ G[i] ∨ 2147483647 ≤ b + G[i] + 1) : dbs l b (G.drop i) (M.drop i) p = none := by
  rw [List.drop_eq_getElem_cons hi, List.drop_eq_getElem_cons hm, dbs, if_pos hok]
theorem dbs_end {l : List Int} {b : Int} {G M : List Int} {i p : Nat} (hi : G.length ≤ i) : dbs l b (G.drop i) (M.drop i) p = some ([], p) := by
  rw [List.drop_eq_nil_of_le hi]
  unfold dbs
  rfl
end Go.Proofs.YtidgofpmnlddaaaGreatDoor
