import Derived.Test.YtmddcjjmlfpffaaAuc
import Derived.OrdersHeld
import Derived.Deep.QuietTactic
import Derived.BigQuiet
namespace Go.Proofs.Ytmddcjjmlfpffaa
open Go.ChangeShapes Go.WideShapes Go.ChangeAt Go.RowKit

/-! Lists that rise. -/
def Rise (L : List Nat) : Prop := L.Pairwise (· < ·)
theorem rise_last : ∀ {L : List Nat} {y : Nat}, Rise L → L.getLast? = some y → ∀ x ∈ L, x ≤ y := by
  intro L
  induction L with
  | nil => intro y _ h; cases h
  | cons a r ih =>
    intro y hR hl x hx
    obtain ⟨h1, h2⟩ := List.pairwise_cons.1 hR
    cases r with
    | nil =>
      simp at hl hx
      omega
    | cons b q =>
      have hl2 : (b :: q).getLast? = some y := by rw [List.getLast?_cons_cons] at hl; exact hl
      have hy : y ∈ b :: q := List.mem_of_getLast? hl2
      rcases List.mem_cons.1 hx with rfl | hx
      · exact Nat.le_of_lt (h1 y hy)
      · exact ih h2 hl2 x hx
theorem rise_snoc {L : List Nat} {i : Nat} (h : Rise L) (hi : ∀ x ∈ L, x < i) : Rise (L ++ [i]) := by
  refine List.pairwise_append.2 ⟨h, List.pairwise_singleton _ _, ?_⟩
  intro a ha b hb
  rw [List.mem_singleton] at hb
  subst hb
  exact hi a ha
theorem rise_rchA {E : List Int} {L : List Nat} {i : Nat} (h : Rise L) (hi : ∀ x ∈ L, x < i) : Rise (rchA E L i) := by
  unfold rchA
  split
  · have := rise_snoc (i := i + 1) (rise_snoc h hi) (by
      intro x hx
      rcases List.mem_append.1 hx with hx | hx
      · have := hi x hx; omega
      · rw [List.mem_singleton] at hx; omega)
    rw [List.append_assoc] at this
    exact this
  · exact rise_snoc h hi
theorem rise_rch {E : List Int} {L : List Nat} {i : Nat} (h : Rise L) : Rise (rch E L i) := by
  unfold rch
  split
  · rename_i y hy
    split
    · exact h
    · rename_i hn
      exact rise_rchA h (fun x hx => by have := rise_last h hy x hx; omega)
  · rename_i hy
    have : L = [] := List.getLast?_eq_none_iff.1 hy
    subst this
    exact rise_rchA h (fun x hx => by cases hx)
theorem rise_nxW {E : List Int} {b : Nat} {L : List Nat} {i : Nat} (h : Rise L) : Rise (nxW E b L i) := by
  unfold nxW
  have h1 : Rise (if 0 < i ∧ E[i - 1]? = some 257 then rch E L i else L) := by
    split
    · exact rise_rch h
    · exact h
  simp only []
  split
  · exact rise_rch h1
  · exact h1
theorem rise_nxt {E : List Int} {b : Nat} {S : List Nat} : Rise (nxt E b S) := by
  have : ∀ (S L : List Nat), Rise L → Rise (S.foldl (nxW E b) L) := by
    intro S
    induction S with
    | nil => exact fun L h => h
    | cons i S ih => exact fun L h => ih _ (rise_nxW h)
  exact this S [] List.Pairwise.nil
theorem rise_len {M : Nat} : ∀ {L : List Nat} {lo : Nat}, Rise L → (∀ x ∈ L, lo ≤ x ∧ x ≤ M) → L.length ≤ M + 1 - lo := by
  intro L
  induction L with
  | nil => intro lo _ _; simp
  | cons a r ih =>
    intro lo hR hx
    obtain ⟨h1, h2⟩ := List.pairwise_cons.1 hR
    have := ih (lo := a + 1) h2 (fun x hxr => ⟨h1 x hxr, (hx x (List.mem_cons_of_mem _ hxr)).2⟩)
    have := hx a List.mem_cons_self
    rw [List.length_cons]
    omega
/-- The state behind a text. -/
def st1 (E : List Int) (S : List Nat) (b : UInt8) : List Nat := if S = [] then [] else nxt E b.toNat S
def runW (E : List Int) (l : List UInt8) : List Nat := l.foldl (st1 E) (rch E [] 0)
theorem st1_dead (E : List Int) : ∀ l : List UInt8, l.foldl (st1 E) [] = []
  | [] => rfl
  | b :: l => by rw [List.foldl_cons]; exact st1_dead E l
structure WSt (E : List Int) (S : List Nat) : Prop where
  r : Rise S
  a : ∀ x ∈ S, x ≤ E.length
theorem wst_start (E : List Int) : WSt E (rch E [] 0) := ⟨rise_rch List.Pairwise.nil, rch_all (fun x h => by cases h) (Nat.zero_le _)⟩
theorem wst_next {E : List Int} {S : List Nat} (b : Nat) (h : WSt E S) : WSt E (nxt E b S) := ⟨rise_nxt, nxt_all h.a⟩
theorem WSt.len {E : List Int} {S : List Nat} (h : WSt E S) : S.length ≤ E.length + 1 := by
  have := rise_len (M := E.length) (lo := 0) h.r (fun x hx => ⟨Nat.zero_le _, h.a x hx⟩)
  omega
theorem isAlive_any (a : Option Addr) (n c : Nat) (w : World) : Calls Try.prog 9 #[.slice a n c] w fun e w' => e = .returned (.bool (decide (0 < n))) ∧ w' = w := by
  by_cases h : 0 < n
  · have h1 : (0 : Int) < (n : Int) := by omega
    rw [decide_eq_true h]
    go_enter Try.func9, Try.ntmps9
    go_wp2
    go_ret
    exact ⟨rfl, rfl⟩
  · have h1 : ¬ ((0 : Int) < (n : Int)) := by omega
    rw [decide_eq_false h]
    go_enter Try.func9, Try.ntmps9
    go_wp2
    go_ret
    exact ⟨rfl, rfl⟩
theorem takeHA {P : Program} {ops : Array Oper} {Q : Exit → Act → World → Prop} {md : Region.Mode} {S : World → Prop} {i d : Nat} {oi : Oper} {v : Value} {fuel : Nat} {listed : Array Bool} {a : Act} {w : World} (hi : ops[i]? = some oi) (hd : oi.dst = some d)
    (hs : Region.noSelect ops = true) (hf : Region.free md ops listed i = true) (hr : (Region.ready md ops listed).contains i = true)
    (hQ : ∀ c a w, Q (.panic c) (a.put (some d) v) w → Q (.panic c) a w) (hy : YieldsIf P ops S oi v a) (hS : S w)
    (h : wpAnyH P md ops Q S fuel (listed.setIfInBounds i true) (a.put (some d) v) w) : wpAnyH P md ops Q S (fuel + 1) listed a w := by
  rw [← hd] at hQ h
  exact wpAnyH_take hi hs hf hr hQ hy hS h
end Go.Proofs.Ytmddcjjmlfpffaa
