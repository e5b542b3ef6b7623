import Derived.Test.YtiebmmpnmklpnaaDoorMrg5
namespace Go.Proofs.YtiebmmpnmklpnaaDoor
open Go.ChangeShapes Go.WideShapes Go.ChangeAt Go.RowKit

/-! The law's tables. -/
def QnOk (cu : List Lf) (n : Nr) (k : Nat) : Prop := CsOk cu (n.cs[0]?.getD 0) (n.cs[k]?.getD 0) ∧ OsOk (n.os[k]?.getD 0)
theorem nr_q (cu : List Lf) (n : Nr) : NrOk cu n ↔ (1 ≤ n.cs.length ∧ n.cs.length = n.os.length ∧ 0 ≤ n.sl ∧ n.sl < 2147483647) ∧ ∀ k, k < n.cs.length → QnOk cu n k := by
  unfold NrOk QnOk
  constructor
  · rintro ⟨h1, h2, h3, h4, h5⟩
    refine ⟨⟨h1, h2.symm, h3⟩, fun k hk => ⟨?_, ?_⟩⟩
    · rw [List.getElem?_eq_getElem hk]; exact h4 _ (List.getElem_mem hk)
    · rw [List.getElem?_eq_getElem (by omega)]; exact h5 _ (List.getElem_mem (by omega))
  · rintro ⟨⟨h1, h2, h3⟩, h4⟩
    refine ⟨h1, h2.symm, h3, fun i hi => ?_, fun o ho => ?_⟩
    · obtain ⟨k, hk, rfl⟩ := List.mem_iff_getElem.1 hi
      have := (h4 k hk).1
      rwa [List.getElem?_eq_getElem hk] at this
    · obtain ⟨k, hk, rfl⟩ := List.mem_iff_getElem.1 ho
      have := (h4 k (by omega)).2
      rwa [List.getElem?_eq_getElem hk] at this
/-- A Bool for a proposition that grows by a step. -/
theorem grow_t {P Q R : Prop} (h : IsB true P) (hr : R ↔ P ∧ Q) (hq : Q) : IsB true R := ⟨fun _ => hr.2 ⟨h.yes, hq⟩, fun _ => rfl⟩
theorem grow_f {P Q R : Prop} (hr : R ↔ P ∧ Q) (hq : ¬ Q) : IsB false R := ⟨fun p => (by cases p), fun p => absurd (hr.1 p).2 hq⟩
theorem grow_n {P Q R : Prop} (h : IsB false P) (hr : R ↔ P ∧ Q) : IsB false R := ⟨fun p => (by cases p), fun p => absurd (hr.1 p).1 h.no⟩
theorem isB_of {P : Prop} {b c : Bool} (h : IsB b P) (hc : c = true ↔ P) : c = b := by
  cases b with
  | true => exact hc.2 h.yes
  | false => exact isB_f hc h.no
theorem isB_iff {P Q : Prop} {b : Bool} (h : IsB b P) (e : P ↔ Q) : IsB b Q := by unfold IsB at *; rw [h, e]
theorem all_succ {α : Type} {P : α → Prop} {l : List α} {j : Nat} (h : j < l.length) : (∀ x ∈ l.take (j + 1), P x) ↔ (∀ x ∈ l.take j, P x) ∧ P l[j] := by
  rw [List.take_succ_eq_append_getElem h]
  constructor
  · intro f
    exact ⟨fun x hx => f x (List.mem_append_left _ hx), f _ (List.mem_append_right _ (List.mem_singleton.2 rfl))⟩
  · rintro ⟨f, g⟩ x hx
    rcases List.mem_append.1 hx with e | e
    · exact f x e
    · rw [List.mem_singleton.1 e]; exact g
theorem lt_succ {P : Nat → Prop} {j : Nat} : (∀ k, k < j + 1 → P k) ↔ (∀ k, k < j → P k) ∧ P j := by
  constructor
  · intro f; exact ⟨fun k hk => f k (by omega), f j (by omega)⟩
  · rintro ⟨f, g⟩ k hk
    by_cases h : k = j
    · subst h; exact g
    · exact f k (by omega)
theorem and_succ {A B C D : Prop} (h : C ↔ B ∧ D) : (A ∧ C) ↔ (A ∧ B) ∧ D := by rw [h]; exact and_assoc.symm
/-- What the law's tables have found so far. -/
def P0 (p : Pg) : Prop := (1 ≤ p.av.length ∧ p.av.length ≤ 16) ∧ (p.al = true → p.dr.length = 0)
def P1 (p : Pg) (j : Nat) : Prop := P0 p ∧ ∀ x ∈ p.av.take j, 0 ≤ x
def P2 (p : Pg) (j : Nat) : Prop := P1 p p.av.length ∧ ∀ c ∈ p.cu.take j, CuOk p.av.length c
def P3 (p : Pg) (j : Nat) : Prop := P2 p p.cu.length ∧ ∀ k, k < j → laD p.dr k < p.dr[k]?.getD 0 ∧ p.dr[k]?.getD 0 < p.cu.length
def P4 (p : Pg) (j : Nat) : Prop := P3 p p.dr.length ∧ ∀ n ∈ p.nr.take j, NrOk p.cu n
def P5 (p : Pg) (j : Nat) (n : Nr) (k : Nat) : Prop := (P4 p j ∧ (1 ≤ n.cs.length ∧ n.cs.length = n.os.length ∧ 0 ≤ n.sl ∧ n.sl < 2147483647)) ∧ ∀ i, i < k → QnOk p.cu n i
theorem p4_tb (p : Pg) : P4 p p.nr.length ↔ TbOk p := by
  unfold P4 P3 P2 P1 P0 TbOk AvOk DrOk
  simp only [List.take_length]
  constructor
  · rintro ⟨⟨⟨⟨⟨a, b⟩, c⟩, d⟩, e⟩, f⟩; exact ⟨⟨a.1, a.2, c⟩, d, f, b, e⟩
  · rintro ⟨⟨a, a2, c⟩, d, f, b, e⟩; exact ⟨⟨⟨⟨⟨⟨a, a2⟩, b⟩, c⟩, d⟩, e⟩, f⟩
theorem p1_0 (p : Pg) : P1 p 0 ↔ P0 p := by unfold P1; simp
theorem p2_0 (p : Pg) : P2 p 0 ↔ P1 p p.av.length := by unfold P2; simp
theorem p3_0 (p : Pg) : P3 p 0 ↔ P2 p p.cu.length := by unfold P3; simp
theorem p4_0 (p : Pg) : P4 p 0 ↔ P3 p p.dr.length := by unfold P4; simp
theorem p1_s (p : Pg) {j : Nat} (h : j < p.av.length) : P1 p (j + 1) ↔ P1 p j ∧ 0 ≤ p.av[j] := and_succ (all_succ h)
theorem p2_s (p : Pg) {j : Nat} (h : j < p.cu.length) : P2 p (j + 1) ↔ P2 p j ∧ CuOk p.av.length p.cu[j] := and_succ (all_succ h)
theorem p3_s (p : Pg) {j : Nat} : P3 p (j + 1) ↔ P3 p j ∧ (laD p.dr j < p.dr[j]?.getD 0 ∧ p.dr[j]?.getD 0 < p.cu.length) := and_succ lt_succ
theorem p4_s (p : Pg) {j : Nat} (h : j < p.nr.length) : P4 p (j + 1) ↔ P5 p j p.nr[j] p.nr[j].cs.length := by
  have e : P4 p (j + 1) ↔ P4 p j ∧ NrOk p.cu p.nr[j] := and_succ (all_succ h)
  rw [e, nr_q]
  unfold P5
  exact and_assoc.symm
theorem p5_s (p : Pg) (j : Nat) (n : Nr) (k : Nat) : P5 p j n (k + 1) ↔ P5 p j n k ∧ QnOk p.cu n k := and_succ lt_succ
theorem p5_0 (p : Pg) (j : Nat) (n : Nr) : P5 p j n 0 ↔ P4 p j ∧ (1 ≤ n.cs.length ∧ n.cs.length = n.os.length ∧ 0 ≤ n.sl ∧ n.sl < 2147483647) := by unfold P5; simp
theorem p5_mono {p : Pg} {j : Nat} {n : Nr} {i k : Nat} (h : IsB false (P5 p j n i)) (hi : i ≤ k) : IsB false (P5 p j n k) := ⟨fun e => (by cases e), fun f => absurd ⟨f.1, fun t ht => f.2 t (by omega)⟩ h.no⟩
end Go.Proofs.YtiebmmpnmklpnaaDoor
