import Derived.Test.YtcbhgpdookappaaDoorWrD
namespace Go.Proofs.YtcbhgpdookappaaDoor
open Go.ChangeShapes Go.WideShapes Go.ChangeAt Go.RowKit

/-- The steps of a rising list, from the least number that may come. -/
def risb : List Int → Nat → List Int
  | [], _ => []
  | x :: r, s => uvb (x.toNat - s) ++ risb r (x.toNat + 1)
def nxt (l : List Int) (s : Nat) : Nat := l.foldl (fun _ x => x.toNat + 1) s
theorem risb_snoc (x : Int) : ∀ (l : List Int) (s : Nat), risb (l ++ [x]) s = risb l s ++ uvb (x.toNat - nxt l s) := by
  intro l
  induction l with
  | nil => intro s; simp [risb, nxt]
  | cons y r ih => intro s; rw [List.cons_append, risb, ih, risb, List.append_assoc]; rfl
theorem nxt_snoc (l : List Int) (x : Int) (s : Nat) : nxt (l ++ [x]) s = x.toNat + 1 := by simp [nxt, List.foldl_append]
theorem risb_length : ∀ (l : List Int) (s : Nat), (∀ x ∈ l, x ≤ 9223372036854775807) → (risb l s).length ≤ 10 * l.length := by
  intro l
  induction l with
  | nil => intro s _; simp [risb]
  | cons y r ih =>
    intro s h
    have h1 := ih (y.toNat + 1) (fun x hx => h x (List.mem_cons_of_mem _ hx))
    have h2 := h y (List.mem_cons_self ..)
    have h3 := (ulen_le (y.toNat - s) (by omega)).2
    rw [risb, List.length_append, uvb_length, List.length_cons]
    omega
/-- The bytes of a rising list. -/
def rising (l : List Int) : List Int := uvb l.length ++ risb l 0

/-- What a rising list looks like at the place k. -/
theorem nxt_le {l : List Int} (h0 : ∀ x ∈ l, 0 ≤ x) (hr : riseB l = true) {k : Nat} (hk : k < l.length) : (nxt (l.take k) 0 : Int) ≤ l[k] := by
  cases k with
  | zero => simp [nxt]; exact h0 _ (List.getElem_mem hk)
  | succ k =>
    rw [List.take_succ_eq_append_getElem (by omega), nxt_snoc]
    have := (riseB_iff l).1 hr k hk
    rw [List.getElem?_eq_getElem (by omega), List.getElem?_eq_getElem hk] at this
    have := h0 l[k] (List.getElem_mem (by omega))
    simp at *
    omega

end Go.Proofs.YtcbhgpdookappaaDoor
