import Derived.Test.YtnkmjhcddegkhaaDoorWds
namespace Go.Proofs.YtnkmjhcddegkhaaDoor
open Go.ChangeShapes Go.WideShapes Go.ChangeAt Go.RowKit

/-- A token. -/
structure Tk where
  t : ByteArray
  v : Int
  p : Int
  s : Int
  e : Int
def tkv (x : Tk) : List Value := [.string x.t, .int .i64 x.v, .int .i64 x.p, .int .i64 x.s, .int .i64 x.e]
def tkvs (L : List Tk) : List Value := L.flatMap tkv
theorem tkvs_cons (x : Tk) (L : List Tk) : tkvs (x :: L) = tkv x ++ tkvs L := rfl
theorem tkvs_append (a b : List Tk) : tkvs (a ++ b) = tkvs a ++ tkvs b := List.flatMap_append
theorem tkvs_len (L : List Tk) : (tkvs L).length = L.length * 5 := by
  induction L with
  | nil => rfl
  | cons x L ih => rw [tkvs_cons, List.length_append, ih, List.length_cons]; show 5 + _ = _; omega
theorem tkvs_at (L : List Tk) (k j : Nat) (h : k < L.length) (hj : j < 5) : (tkvs L)[k * 5 + j]? = (tkv L[k])[j]? := by
  induction L generalizing k with
  | nil => simp at h
  | cons x L ih =>
    rw [tkvs_cons]
    cases k with
    | zero => rw [List.getElem?_append_left (by show _ < 5; omega)]; rw [Nat.zero_mul, Nat.zero_add]; rfl
    | succ k =>
      rw [List.getElem?_append_right (by show 5 ≤ _; omega)]
      show (tkvs L)[(k + 1) * 5 + j - 5]? = _
      rw [show (k + 1) * 5 + j - 5 = k * 5 + j by omega, ih k (by simpa using h)]
      rfl
def wtk (l : List UInt8) : Nat → List (Nat × Nat) → List Tk
  | _, [] => []
  | i, p :: r => ⟨bq (wtx l p), 0, i, p.1, p.2⟩ :: wtk l (i + 1) r
theorem tks_wtk (l : List UInt8) (i : Nat) (ws : List (Nat × Nat)) : tks l i ws = tkvs (wtk l i ws) := by
  induction ws generalizing i with
  | nil => rfl
  | cons p r ih => show tkC _ _ _ _ _ ++ tks l (i + 1) r = _; rw [ih]; rfl
theorem wtk_len (l : List UInt8) (i : Nat) (ws : List (Nat × Nat)) : (wtk l i ws).length = ws.length := by
  induction ws generalizing i with
  | nil => rfl
  | cons p r ih => show (wtk l (i + 1) r).length + 1 = _; rw [ih]; rfl
/-- The cells of the token number k. -/
theorem Gro.tok {w0 w : World} {g c n : Nat} {L : List Tk} (h : Gro w0 w 29 5 (.slice (some ⟨g, 0, none⟩) n c) n (tkvs L)) {k : Nat} (hk : k < L.length) :
    w.cell? ⟨g, k * 5, none⟩ = some (.string L[k].t) ∧ w.cell? ⟨g, k * 5 + 1, none⟩ = some (.int .i64 L[k].v) ∧ w.cell? ⟨g, k * 5 + 2, none⟩ = some (.int .i64 L[k].p) ∧ w.cell? ⟨g, k * 5 + 3, none⟩ = some (.int .i64 L[k].s) ∧ w.cell? ⟨g, k * 5 + 4, none⟩ = some (.int .i64 L[k].e) :=
  ⟨h.at (tkvs_at L k 0 hk (by decide)), h.at (tkvs_at L k 1 hk (by decide)), h.at (tkvs_at L k 2 hk (by decide)), h.at (tkvs_at L k 3 hk (by decide)), h.at (tkvs_at L k 4 hk (by decide))⟩
theorem Gro.some {w0 w : World} {a : Option Addr} {e : TypeId} {sz c n : Nat} {xs : List Value} (h : Gro w0 w e sz (.slice a n c) n xs) (hn : 0 < n) : ∃ g, a = some ⟨g, 0, none⟩ := by
  obtain ⟨g, e, _⟩ := h.cell hn
  exact ⟨g, e⟩
end Go.Proofs.YtnkmjhcddegkhaaDoor
