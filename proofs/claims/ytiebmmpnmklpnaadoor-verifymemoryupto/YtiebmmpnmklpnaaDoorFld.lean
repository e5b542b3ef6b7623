import Derived.Test.YtiebmmpnmklpnaaDoorBase
import Derived.Deep.QuietTactic
import Derived.BigQuiet
import Derived.Laws.IdiomStrings
namespace Go.Proofs.YtiebmmpnmklpnaaDoor
open Go.ChangeShapes Go.WideShapes Go.ChangeAt Go.RowKit

/-- Is the byte c behind p a capital? -/
def fq (p c : UInt8) : Prop := (65 ≤ c.toNat ∧ c.toNat ≤ 90) ∨ (p.toNat = 195 ∧ 128 ≤ c.toNat ∧ c.toNat ≤ 158 ∧ c.toNat ≠ 151)
instance (p c : UInt8) : Decidable (fq p c) := by unfold fq; infer_instance
/-- A byte behind another, folded; a text behind a byte, folded. -/
def fb (p c : UInt8) : UInt8 := if fq p c then UInt8.ofNat (c.toNat + 32) else c
def fl : UInt8 → List UInt8 → List UInt8
  | _, [] => []
  | p, c :: l => fb p c :: fl c l
theorem fb_nat (p c : UInt8) : (fb p c).toNat = if fq p c then c.toNat + 32 else c.toNat := by
  unfold fb
  by_cases h : fq p c
  · rw [if_pos h, if_pos h]
    have : c.toNat + 32 < 256 := by unfold fq at h; omega
    rw [UInt8.toNat_ofNat']
    omega
  · rw [if_neg h, if_neg h]
theorem fb_195 (p c : UInt8) : (fb p c).toNat = 195 ↔ c.toNat = 195 := by
  rw [fb_nat]
  by_cases h : fq p c
  · rw [if_pos h]
    unfold fq at h
    omega
  · rw [if_neg h]
theorem fb_again (p q c : UInt8) (h : q.toNat = 195 ↔ p.toNat = 195) : fb q (fb p c) = fb p c := by
  have hn : ¬ fq q (fb p c) := by
    have e := fb_nat p c
    by_cases hp : fq p c
    · rw [if_pos hp] at e
      unfold fq at hp ⊢
      omega
    · rw [if_neg hp] at e
      unfold fq at hp ⊢
      rw [e, h]
      exact hp
  show (if fq q (fb p c) then _ else fb p c) = _
  rw [if_neg hn]
theorem fb_same (p q c : UInt8) (h : q.toNat = 195 ↔ p.toNat = 195) : fb q c = fb p c := by
  have : fq q c ↔ fq p c := by unfold fq; rw [h]
  unfold fb
  by_cases hq : fq p c
  · rw [if_pos hq, if_pos (this.2 hq)]
  · rw [if_neg hq, if_neg (fun x => hq (this.1 x))]
theorem fl_len (p : UInt8) (l : List UInt8) : (fl p l).length = l.length := by
  induction l generalizing p with
  | nil => rfl
  | cons c l ih => simp only [fl, List.length_cons, ih]
theorem fl_again (p q : UInt8) (l : List UInt8) (h : q.toNat = 195 ↔ p.toNat = 195) : fl q (fl p l) = fl p l := by
  induction l generalizing p q with
  | nil => rfl
  | cons c l ih =>
    show fb q (fb p c) :: fl (fb p c) (fl c l) = fb p c :: fl c l
    rw [fb_again p q c h, ih c (fb p c) (fb_195 p c)]
theorem fl_same (p q : UInt8) (l : List UInt8) (h : q.toNat = 195 ↔ p.toNat = 195) : fl q l = fl p l := by
  cases l with
  | nil => rfl
  | cons c l => show fb q c :: _ = fb p c :: _; rw [fb_same p q c h]
theorem fl_append (p : UInt8) (a b : List UInt8) : fl p (a ++ b) = fl p a ++ fl (a.getLastD p) b := by
  induction a generalizing p with
  | nil => rfl
  | cons c a ih =>
    show fb p c :: fl c (a ++ b) = fb p c :: (fl c a ++ _)
    rw [ih c]
    cases a <;> rfl
theorem fl_get (p : UInt8) (l : List UInt8) (k : Nat) (h : k < l.length) : (fl p l)[k]'(by rw [fl_len]; exact h) = fb (if k = 0 then p else l.getD (k - 1) 0) l[k] := by
  induction l generalizing p k with
  | nil => simp at h
  | cons c l ih =>
    cases k with
    | zero => rfl
    | succ k =>
      have hk : k < l.length := by simpa using h
      show (fl c l)[k]'(by rw [fl_len]; exact hk) = fb (if k + 1 = 0 then p else (c :: l).getD (k + 1 - 1) 0) (l[k]'hk)
      rw [ih c k hk, if_neg (Nat.succ_ne_zero k)]
      cases k with
      | zero => rfl
      | succ k => rfl
/-- The row in the midst of the work. -/
def fmid (l : List UInt8) (k : Nat) : List UInt8 := (fl 0 l).take k ++ l.drop k
theorem fmid_len (l : List UInt8) (k : Nat) (h : k ≤ l.length) : (fmid l k).length = l.length := by
  unfold fmid
  rw [List.length_append, List.length_take, List.length_drop, fl_len]
  omega
theorem fmid_at (l : List UInt8) (k : Nat) (h : k < l.length) : (fmid l k)[k]'(by rw [fmid_len l k (by omega)]; exact h) = l[k] := by
  unfold fmid
  have e : ((fl 0 l).take k).length = k := by rw [List.length_take, fl_len]; omega
  rw [List.getElem_append_right (by omega)]
  simp only [e, Nat.sub_self, List.getElem_drop, Nat.add_zero]
theorem fmid_pre (l : List UInt8) (k : Nat) (h : k < l.length) (h0 : 0 < k) : ((fmid l k)[k - 1]'(by rw [fmid_len l k (by omega)]; omega)).toNat = 195 ↔ (l[k - 1]'(by omega)).toNat = 195 := by
  have e : ((fl 0 l).take k).length = k := by rw [List.length_take, fl_len]; omega
  have e2 : (fmid l k)[k - 1]'(by rw [fmid_len l k (by omega)]; omega) = fb (if k - 1 = 0 then 0 else l.getD (k - 1 - 1) 0) (l[k - 1]'(by omega)) := by
    unfold fmid
    rw [List.getElem_append_left (by omega), List.getElem_take, fl_get 0 l (k - 1) (by omega)]
  rw [e2]
  exact fb_195 _ _
theorem fmid_next (l : List UInt8) (k : Nat) (h : k < l.length) (p : UInt8) (hp : p = if k = 0 then 0 else l.getD (k - 1) 0) : fmid l (k + 1) = (fmid l k).set k (fb p l[k]) := by
  have e : ((fl 0 l).take k).length = k := by rw [List.length_take, fl_len]; omega
  unfold fmid
  rw [List.take_succ_eq_append_getElem (by rw [fl_len]; exact h), fl_get 0 l k h, List.set_append_right _ _ (by omega), e, Nat.sub_self, List.drop_eq_getElem_cons h, ← hp]
  rw [List.append_assoc]; rfl
theorem fmid_end (l : List UInt8) : fmid l l.length = fl 0 l := by
  unfold fmid
  rw [List.take_of_length_le (by rw [fl_len]; exact Nat.le_refl _), List.drop_of_length_le (Nat.le_refl _), List.append_nil]

/-- A row of bytes that may be written. -/
structure RowAt (w : World) (g : Nat) (l : List UInt8) : Prop where
  cell : ∀ j (h : j < l.length), w.cell? ⟨g, j, none⟩ = some (.int .u8 (l[j].toNat : Int))
  free : ∀ j, j < l.length → w.frozen? ⟨g, j, none⟩ = false
theorem RowAt.set {w : World} {g : Nat} {l : List UInt8} (h : RowAt w g l) (k : Nat) (c : UInt8) (hk : k < l.length) : RowAt (w.setCell ⟨g, k, none⟩ (.int .u8 (c.toNat : Int))) g (l.set k c) := by
  refine ⟨fun j hj => ?_, fun j hj => ?_⟩
  · rw [List.length_set] at hj
    by_cases e : k = j
    · subst e
      rw [World.cell?_setCell_same _ _ _ (h.cell k hk), List.getElem_set_self]
    · rw [World.cell?_setCell_other _ _ _ _ (fun x => e (by injection x)), h.cell j hj, List.getElem_set_ne e]
  · rw [List.length_set] at hj
    rw [World.frozen?_setCell]
    exact h.free j hj
theorem row_new (w : World) (s : ByteArray) (t : TypeId) (c : Nat) : RowAt (w.drew.alloc (.cells (bytesRow s c) t ((bytesRow s c).size, (bytesRow s c).size + 1))) w.heap.size s.data.toList := by
  have hs : ∀ j, j < s.data.toList.length → j < (bytesRow s c).size := fun j hj => by
    unfold bytesRow
    rw [Array.size_append, Array.size_map]
    rw [Array.length_toList] at hj
    omega
  refine ⟨fun j hj => ?_, fun j hj => ?_⟩
  · have e : (w.drew.alloc (.cells (bytesRow s c) t ((bytesRow s c).size, (bytesRow s c).size + 1))).cell? ⟨w.drew.heap.size, j, none⟩ = (bytesRow s c)[j]? := World.cell?_alloc_mark _ _ _ _ _
    rw [show w.heap.size = w.drew.heap.size from rfl, e, bytesRow_at s c j (by simpa using hj)]
    rfl
  · have e := World.frozen?_alloc_mark w.drew (bytesRow s c) t (bytesRow s c).size ((bytesRow s c).size + 1) j
    rw [show w.heap.size = w.drew.heap.size from rfl, e, decide_eq_false (by have := hs j hj; omega)]
    rfl
theorem row_back {w : World} {g : Nat} {l : List UInt8} (h : RowAt w g l) (c : Nat) : (convert 25 9 (.slice (some ⟨g, 0, none⟩) l.length c)).run Tryd.prog w = .ok (.string ⟨l.toArray⟩) w :=
  run_convert_bytes_back w 25 9 5 ⟨g, 0, none⟩ c l Tryd.underlying25 Tryd.underlying5 Tryd.underlying9 (fun j hj => by
    rw [show (⟨g, 0, none⟩ : Addr).add j = ⟨g, j, none⟩ by cases j <;> simp [Addr.add]]
    exact h.cell j hj)
theorem kept_row (w : World) (o : Obj) : Kept (fun _ => False) w (w.drew.alloc o) := (Kept.drew w).trans (Kept.alloc _ _) (fun _ h => h.elim)

def capB (c : Int) : Bool := decide (65 ≤ c) && decide (c ≤ 90)
def accB (c : Int) : Bool := decide (128 ≤ c) && decide (c ≤ 158) && decide (c ≠ 151)
end Go.Proofs.YtiebmmpnmklpnaaDoor
