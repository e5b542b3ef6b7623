import Derived.Test.YtiiokafjfapnpaaDoorMrg3
import Derived.Test.YtiiokafjfapnpaaDoorIs
namespace Go.Proofs.YtiiokafjfapnpaaDoor
open Go.ChangeShapes Go.WideShapes Go.ChangeAt Go.RowKit

/-- The elements of a rising list, from the least number that may come: the numbers and how many bytes they have, or an error (0: too short, 1: no good form, 2: too great). -/
def rdr : Nat → Nat → List Int → Except Nat (List Int × Nat)
  | 0, _, _ => .ok ([], 0)
  | n + 1, s, l =>
    match rdu 0 0 l with
    | .error e => .error e
    | .ok (x, k) =>
      if 9223372036854775807 < s + x then .error 2
      else match rdr n (s + x + 1) (l.drop k) with
        | .error e => .error e
        | .ok (r, m) => .ok (((s + x : Nat) : Int) :: r, k + m)
/-- What has been read already, ahead of what comes. -/
def ahead (acc : List Int) (d : Nat) : Except Nat (List Int × Nat) → Except Nat (List Int × Nat)
  | .error e => .error e
  | .ok (r, m) => .ok (acc ++ r, d + m)
theorem ahead_step (acc : List Int) (d x k : Nat) (r : Except Nat (List Int × Nat)) : ahead acc d (match r with | .error e => .error e | .ok (r, m) => .ok ((x : Int) :: r, k + m)) = ahead (acc ++ [(x : Int)]) (d + k) r := by
  cases r with
  | error e => rfl
  | ok rm => obtain ⟨r, m⟩ := rm; simp [ahead, Nat.add_assoc]
theorem rdr_step (n s : Nat) (l : List Int) (x k : Nat) (h : rdu 0 0 l = .ok (x, k)) (hs : s + x ≤ 9223372036854775807) : rdr (n + 1) s l = (match rdr n (s + x + 1) (l.drop k) with | .error e => .error e | .ok (r, m) => .ok (((s + x : Nat) : Int) :: r, k + m)) := by
  rw [rdr, h]
  simp only
  rw [if_neg (by omega)]
theorem rdr_err (n s : Nat) (l : List Int) (e : Nat) (h : rdu 0 0 l = .error e) : rdr (n + 1) s l = .error e := by
  rw [rdr, h]
theorem rdr_lim (n s : Nat) (l : List Int) (x k : Nat) (h : rdu 0 0 l = .ok (x, k)) (hs : 9223372036854775807 < s + x) : rdr (n + 1) s l = .error 2 := by
  rw [rdr, h]
  simp only
  rw [if_pos hs]

theorem rdu_err_le : ∀ (l : List Int) (i acc e : Nat), rdu i acc l = .error e → e ≤ 1 := by
  intro l
  induction l with
  | nil => intro i acc e h; simp [rdu] at h; omega
  | cons c r ih =>
    intro i acc e h
    rw [rdu] at h
    split at h
    · simp at h; omega
    · split at h
      · split at h
        · simp at h; omega
        · cases h
      · exact ih _ _ _ h
/-- Which error a list's refusal is. -/
def errOf2 (a0 a1 a2 : Addr) (e : Nat) : Value := if e = 2 then errV a2 else errOf a0 a1 e

/-- What Reader.Rising leaves. -/
def RisPost (br : Nat) (v : Value) (l : List Int) (p q : Nat) (a0 a1 a2 : Addr) (w : World) (e : Ending) (w' : World) : Except Nat (List Int × Nat) → Prop
  | .error er => e = .returned (.tuple #[.slice none 0 0, errOf2 a0 a1 a2 er]) ∧ Rd w' br v l p ∧ Kept (fun _ => False) w w'
  | .ok (xs, m) => ∃ u, e = .returned (.tuple #[u, .nilIface]) ∧ w'.ownsRow w.heap.size 3 1 u xs.length (is xs) ∧ Rd w' br v l (q + m) ∧ Kept (fun i => i = br) w w'

end Go.Proofs.YtiiokafjfapnpaaDoor
