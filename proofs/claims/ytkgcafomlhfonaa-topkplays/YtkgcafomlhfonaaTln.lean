import Derived.Test.YtkgcafomlhfonaaTlm
namespace Go.Proofs.Ytkgcafomlhfonaa.Tk
open Go.ChangeShapes Go.WideShapes Go.ChangeAt Go.RowKit

/-- An Op, by its numbers. -/
structure Opn where
  kind : Int
  which : Int
  h : Ht
/-- A script: four cells an Op. -/
def OpsAt (w : World) (a : Option Addr) (L : List Opn) : Prop := L ≠ [] → ∃ b off, a = some ⟨b, off, none⟩ ∧ ∀ j (_ : j < L.length), w.cell? ⟨b, off + j * 4, none⟩ = some (.int .i64 L[j].kind) ∧ w.cell? ⟨b, off + j * 4 + 1, none⟩ = some (.int .i64 L[j].which) ∧ w.cell? ⟨b, off + j * 4 + 2, none⟩ = some (.int .i64 L[j].h.1) ∧ w.cell? ⟨b, off + j * 4 + 3, none⟩ = some (.int .u64 L[j].h.2)
theorem OpsAt.kept {F : Nat → Prop} {w w' : World} {a : Option Addr} {L : List Opn} (h : OpsAt w a L) (k : Kept F w w') (hF : ∀ b off, a = some ⟨b, off, none⟩ → ¬ F b) : OpsAt w' a L := by
  intro hne
  obtain ⟨b, off, e, hc⟩ := h hne
  exact ⟨b, off, e, fun j hj => ⟨k.cell (hc j hj).1 (hF b off e), k.cell (hc j hj).2.1 (hF b off e), k.cell (hc j hj).2.2.1 (hF b off e), k.cell (hc j hj).2.2.2 (hF b off e)⟩⟩
/-- What the law's loop keeps. -/
def PRel (w : World) (pa qa pb qb : Nat) (k m : Int) (i : Nat) (W : World) : Prop := ∃ v K ka kc v2 K2 kb kd, Duo W pa qa k v K ka kc pb qb m v2 K2 kb kd ∧ K.length ≤ i ∧ K2.length ≤ i ∧ Kept (fun _ => False) w W ∧ (∀ j, Fp pa qa v j → w.heap.size ≤ j) ∧ (∀ j, Fp pb qb v2 j → w.heap.size ≤ j)
theorem own_none : (Value.slice none 0 0).ownBlock = none := rfl
theorem prel_start {w W1 W2 W3 Z : World} {k m : Int} (q1 : Kept (fun _ => False) w W1) (k2 : Keep W1.heap.size W2 W1.heap.size k (.slice none 0 0) []) (q2 : Kept (fun _ => False) W1 W2) (k3 : Keep W2.heap.size W3 W2.heap.size m (.slice none 0 0) []) (q3 : Kept (fun _ => False) W2 W3) (hZ : Z = (W3.alloc (.cells #[.slice none 0 0] 26)).alloc (.cells #[.slice none 0 0] 26)) : PRel w W1.heap.size W3.heap.size W2.heap.size (W3.heap.size + 1) k m 0 Z := by
  have kz1 : Kept (fun _ => False) W3 (W3.alloc (.cells #[.slice none 0 0] 26)) := Kept.alloc _ _
  have kz2 : Kept (fun _ => False) (W3.alloc (.cells #[.slice none 0 0] 26)) Z := by rw [hZ]; exact Kept.alloc _ _
  have kz := kz1.trans kz2 (fun _ f => f.elim)
  have bA := kz2.heap (heap_alloc_new W3 (.cells #[.slice none 0 0] 26)) (fun f => f)
  have bB : Z.heap[W3.heap.size + 1]? = some (.cells #[.slice none 0 0] 26 (0, 0)) := by
    have e := heap_alloc_new (W3.alloc (.cells #[.slice none 0 0] 26)) (.cells #[.slice none 0 0] 26)
    have hs : (W3.alloc (.cells #[.slice none 0 0] 26)).heap.size = W3.heap.size + 1 := Array.size_push _
    rw [hs] at e
    rw [hZ]
    exact e
  have l2 := k2.lt.1
  have l3 := k3.lt.1
  have s1 := q1.size
  have s2 := q2.size
  have s3 := q3.size
  refine ⟨.slice none 0 0, [], none, 0, .slice none 0 0, [], none, 0, ⟨⟨k2.same (q3.trans kz (fun _ f => f.elim)), bA, fun h => absurd rfl h, by omega, by rw [own_none]; simp, fun h => absurd rfl h, fun _ _ => rfl⟩, ⟨k3.same kz, bB, fun h => absurd rfl h, by omega, by rw [own_none]; simp, fun h => absurd rfl h, fun _ _ => rfl⟩, ?_, ?_⟩, Nat.le_refl _, Nat.le_refl _, q1.trans (q2.trans (q3.trans kz (fun _ f => f.elim)) (fun _ f => f.elim)) (fun _ f => f.elim), ?_, ?_⟩
  · rintro i ((e | e | e) | ⟨e, _⟩) (f | f | f) <;> first | omega | (rw [own_none] at e; cases e) | (rw [own_none] at f; cases f) | exact e rfl
  · rintro i ((e | e | e) | ⟨e, _⟩) (f | f | f) <;> first | omega | (rw [own_none] at e; cases e) | (rw [own_none] at f; cases f) | exact e rfl
  · rintro i (e | e | e) <;> first | omega | (rw [own_none] at e; cases e)
  · rintro i (e | e | e) <;> first | omega | (rw [own_none] at e; cases e)
theorem SStep.young {w W W' : World} {p q : Nat} {v v' : Value} {ka ka' : Option Addr} (s : SStep W W' p q v v' ka ka') (k : Kept (fun _ => False) w W) (h : ∀ j, Fp p q v j → w.heap.size ≤ j) : Kept (fun _ => False) w W' ∧ ∀ j, Fp p q v' j → w.heap.size ≤ j :=
  ⟨k.trans s.kept (fun j hj => Or.inr (h j hj)), fun j hj => (s.fp hj).elim (h j) (fun f => Nat.le_trans k.size f)⟩
theorem prel_one {w W : World} {pa qa pb qb : Nat} {k m : Int} {i : Nat} (kind which : Int) (h : Ht) (r : PRel w pa qa pb qb k m i W) (hi : i ≤ 4398046510976) : Calls Try.prog 11 #[.pointer (some ⟨pa, 0, none⟩), .pointer (some ⟨qa, 0, none⟩), .int .i64 k, opA kind which h] W fun e w' => e = .returned (.bool true) ∧ PRel w pa qa pb qb k m (i + 1) w' := by
  obtain ⟨v, K, ka, kc, v2, K2, kb, kd, d, l1, l2, kk, f1, f2⟩ := r
  refine (step_any kind which h d.one (by omega)).mono ?_
  rintro e w' ⟨x, v', K', ka', kc', y, yl, z⟩
  obtain ⟨y1, y2⟩ := z.young kk f1
  exact ⟨x, v', K', ka', kc', v2, K2, kb, kd, d.step y z, by omega, by omega, y1, y2, f2⟩
theorem prel_two {w W : World} {pa qa pb qb : Nat} {k m : Int} {i : Nat} (kind which : Int) (h : Ht) (r : PRel w pa qa pb qb k m i W) (hi : i ≤ 4398046510976) : Calls Try.prog 11 #[.pointer (some ⟨pb, 0, none⟩), .pointer (some ⟨qb, 0, none⟩), .int .i64 m, opA kind which h] W fun e w' => e = .returned (.bool true) ∧ PRel w pa qa pb qb k m (i + 1) w' := by
  obtain ⟨v, K, ka, kc, v2, K2, kb, kd, d, l1, l2, kk, f1, f2⟩ := r
  refine (step_any kind which h d.two (by omega)).mono ?_
  rintro e w' ⟨x, v', K', ka', kc', y, yl, z⟩
  obtain ⟨y1, y2⟩ := z.young kk f2
  exact ⟨x, v, K, ka, kc, v', K', ka', kc', (d.swap.step y z).swap, by omega, by omega, y1, f1, y2⟩
theorem prel_same {w W W' : World} {pa qa pb qb : Nat} {k m : Int} {i : Nat} (r : PRel w pa qa pb qb k m i W) (s : Kept (fun _ => False) W W') : PRel w pa qa pb qb k m i W' := by
  obtain ⟨v, K, ka, kc, v2, K2, kb, kd, d, l1, l2, kk, f1, f2⟩ := r
  exact ⟨v, K, ka, kc, v2, K2, kb, kd, d.same s, l1, l2, kk.trans s (fun _ f => f.elim), f1, f2⟩
end Go.Proofs.Ytkgcafomlhfonaa.Tk
