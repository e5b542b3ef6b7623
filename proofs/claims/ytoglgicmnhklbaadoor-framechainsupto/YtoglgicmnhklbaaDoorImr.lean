import Derived.Test.YtoglgicmnhklbaaDoorBls
import Derived.Test.YtoglgicmnhklbaaDoorSpo
namespace Go.Proofs.YtoglgicmnhklbaaDoor
open Go.ChangeShapes Go.WideShapes Go.ChangeAt Go.RowKit

theorem cbyteC_inj {r s c : Nat} (hr : r < 4294967296) (hs : s < 4294967296) (hc : c < 4294967296) (h : cbyte pC r c = cbyte pC s c) : r = s := by
  unfold cbyte at h
  exact xor_cancel (cxn_inj pC_lt (by decide) 8 (xor_lt32 hr hc) (xor_lt32 hs hc) h)
theorem cbyteC_ne {r c d : Nat} (hr : r < 4294967296) (hc : c < 4294967296) (hd : d < 4294967296) (hcd : c ≠ d) : cbyte pC r c ≠ cbyte pC r d := by
  intro h
  unfold cbyte at h
  have := cxn_inj pC_lt (by decide) 8 (xor_lt32 hr hc) (xor_lt32 hr hd) h
  rw [Nat.xor_comm r c, Nat.xor_comm r d] at this
  exact hcd (xor_cancel this)
theorem crunC_inj (l : List Int) : ∀ {r s : Nat}, IsBytes l → r < 4294967296 → s < 4294967296 → crun pC r l = crun pC s l → r = s := by
  induction l with
  | nil => intro r s _ _ _ h; rwa [crun_nil, crun_nil] at h
  | cons c l ih =>
    intro r s hb hr hs h
    have hc := hb c List.mem_cons_self
    rw [crun_cons, crun_cons] at h
    exact cbyteC_inj hr hs (by omega) (ih (fun x hx => hb x (List.mem_cons_of_mem _ hx)) (cbyte_lt pC_lt hr (by omega)) (cbyte_lt pC_lt hs (by omega)) h)
/-- One other byte turns the seal. -/
theorem sealed_turned {A B : List Int} {x y : Nat} (hA : IsBytes A) (hB : IsBytes B) (hx : x < 256) (hy : y < 256) (hxy : x ≠ y) : sealed (A ++ (x : Int) :: B) ≠ sealed (A ++ (y : Int) :: B) := by
  intro h
  have hr := crun_lt pC_lt A hA (show 4294967295 < 4294967296 by decide)
  unfold sealed at h
  rw [crun_append, crun_append, crun_cons, crun_cons, Int.toNat_natCast, Int.toNat_natCast] at h
  have hX := cbyte_lt (c := x) pC_lt hr (by omega)
  have hY := cbyte_lt (c := y) pC_lt hr (by omega)
  have h1 := crun_lt pC_lt B hB hX
  have h2 := crun_lt pC_lt B hB hY
  have h3 := congrArg neg32 h
  rw [neg32_neg32' h1, neg32_neg32' h2] at h3
  exact cbyteC_ne hr (by omega) (by omega) hxy (crunC_inj B hB hX hY h3)
/-- Does an image's seal fit? -/
def sealOk (l : List Int) : Prop := l.drop (l.length - 4) = le 4 (sealed (l.take (l.length - 4)))
theorem sealed_set {L : List Int} {i x : Nat} (hb : IsBytes L) (hi : i < L.length) (hx : x < 256) (hne : L[i]?.getD 0 ≠ (x : Int)) : sealed (L.set i (x : Int)) ≠ sealed L := by
  obtain ⟨y, hy, hy2, hy3⟩ := hb.at hi
  have el : L = L.take i ++ (y : Int) :: L.drop (i + 1) := by
    rw [← hy3]
    simp
  have es : L.set i (x : Int) = L.take i ++ (x : Int) :: L.drop (i + 1) := by rw [List.set_eq_take_append_cons_drop, if_pos hi]
  have h := sealed_turned (A := L.take i) (B := L.drop (i + 1)) (x := x) (y := y) (fun z hz => hb z (List.mem_of_mem_take hz)) (fun z hz => hb z (List.mem_of_mem_drop hz)) hx hy2 (by rw [hy] at hne; omega)
  rw [← es, ← el] at h
  exact h
/-- Bytes with their seal, one of them another one: the seal doesn't fit. -/
theorem seal_spoilt {M : List Int} {i x : Nat} (hb : IsBytes M) (hi : i < M.length + 4) (hx : x < 256) (hne : (M ++ le 4 (sealed M))[i]?.getD 0 ≠ (x : Int)) : ¬ sealOk ((M ++ le 4 (sealed M)).set i (x : Int)) := by
  intro h
  have hL : ((M ++ le 4 (sealed M)).set i (x : Int)).length - 4 = M.length := by rw [List.length_set, List.length_append, le_length]; omega
  unfold sealOk at h
  rw [hL] at h
  by_cases hq : i < M.length
  · have e3 : (M ++ le 4 (sealed M)).set i (x : Int) = M.set i (x : Int) ++ le 4 (sealed M) := List.set_append_left _ _ hq
    have hl : (M.set i (x : Int)).length = M.length := List.length_set ..
    rw [List.getElem?_append_left hq] at hne
    rw [e3, ← hl, List.drop_left, List.take_left] at h
    have h2 := le_inj 4 _ _ (by have := sealed_lt M; omega) (by have := sealed_lt (M.set i (x : Int)); omega) h
    exact sealed_set hb hq hx hne h2.symm
  · obtain ⟨j, rfl⟩ : ∃ j, i = M.length + j := ⟨i - M.length, by omega⟩
    have hj : j < 4 := by omega
    have hfl := le_length 4 (sealed M)
    have e3 : (M ++ le 4 (sealed M)).set (M.length + j) (x : Int) = M ++ (le 4 (sealed M)).set j x := by
      rw [List.set_append_right _ _ (by omega), Nat.add_sub_cancel_left]
    rw [List.getElem?_append_right (by omega), Nat.add_sub_cancel_left] at hne
    rw [e3, List.drop_left, List.take_left] at h
    have h2 : ((le 4 (sealed M)).set j (x : Int))[j]?.getD 0 = (le 4 (sealed M))[j]?.getD 0 := congrArg (fun m : List Int => m[j]?.getD 0) h
    rw [List.getElem?_set_self (by omega)] at h2
    rw [← h2] at hne
    exact hne rfl
/-- The first x blocks of bytes, and what lies behind them. -/
def lsR : Nat → List Int → Except Nat (List (Int × List Int) × List Int)
  | 0, l => .ok ([], l)
  | x + 1, l =>
    match decR l with
    | .error e => .error e
    | .ok (t, b, n) =>
      match lsR x (l.drop n) with
      | .error e => .error e
      | .ok (d, r) => .ok ((t, b) :: d, r)
def lsA (D : List (Int × List Int)) : Except Nat (List (Int × List Int) × List Int) → Except Nat (List (Int × List Int) × List Int)
  | .error e => .error e
  | .ok (d, r) => .ok (D ++ d, r)
theorem lsA_nil (r : Except Nat (List (Int × List Int) × List Int)) : lsA [] r = r := by
  cases r with
  | error e => rfl
  | ok p => rfl
theorem lsA_step {D : List (Int × List Int)} {x n : Nat} {l b : List Int} {t : Int} (h : decR l = .ok (t, b, n)) : lsA D (lsR (x + 1) l) = lsA (D ++ [(t, b)]) (lsR x (l.drop n)) := by
  rw [lsR, h]
  simp only
  cases lsR x (l.drop n) with
  | error e => rfl
  | ok p => simp [lsA]
theorem lsA_err {D : List (Int × List Int)} {x e : Nat} {l : List Int} (h : decR l = .error e) : lsA D (lsR (x + 1) l) = .error e := by
  rw [lsR, h]; rfl
/-- An image's blocks. -/
def listR (l : List Int) : Except Nat (List (Int × List Int)) :=
  match rdu 0 0 (l.take 10) with
  | .error e => .error e
  | .ok (x, k) =>
    match lsR x (l.drop k) with
    | .error e => .error e
    | .ok (d, r) => if r = [] then .ok d else .error 4
def unpR (kind : Nat) (l : List Int) : Except Nat (List (Int × List Int)) :=
  if l.length < 10 then .error 0 else if ¬ (l.drop (l.length - 4) = le 4 (sealed (l.take (l.length - 4)))) then .error 6 else if kind = 0 ∨ l.take 5 ≠ cncd kind then .error 5 else listR ((l.take (l.length - 4)).drop 5)
theorem lsR_bencs : ∀ (S : List BkD) (rest : List Int), (∀ x ∈ S, 0 < x.t ∧ x.B.length < 18446744073709551616) → lsR S.length (bencs S ++ rest) = .ok (S.map (fun x => ((x.t : Int), x.B)), rest)
  | [], rest, _ => rfl
  | x :: S, rest, h => by
    have h1 := lsR_bencs S rest (fun y hy => h y (List.mem_cons_of_mem _ hy))
    have h2 := dec_enc x.t x.B (bencs S ++ rest) (h x List.mem_cons_self).1 (h x List.mem_cons_self).2
    have e : bencs (x :: S) ++ rest = benc x.t x.B ++ (bencs S ++ rest) := by rw [bencs_cons, List.append_assoc]
    rw [e]
    show lsR (S.length + 1) _ = _
    rw [lsR, h2]
    simp only
    rw [List.drop_left, h1]
    rfl
end Go.Proofs.YtoglgicmnhklbaaDoor
