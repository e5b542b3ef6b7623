import Derived.Test.YtjlimmgdikliiaaWds
namespace Go.Proofs.Ytjlimmgdikliiaa
open Go.ChangeShapes Go.WideShapes Go.ChangeAt Go.RowKit

/-- A token. -/
structure Tk where
  t : ByteArray
  v : Int
  p : Int
  s : Int
  e : Int
def tkv (x : Tk) : List Value := [.string x.t, .int .i64 x.v, .int .i64 x.p, .int .i64 x.s, .int .i64 x.e]
def tkvs (L : List Tk) : List Value := L.flatMap tkv
theorem tkvs_cons (x : Tk) (L : List Tk) : tkvs (x :: L) = tkv x ++ tkvs L := rfl
theorem tkvs_append (a b : List Tk) : tkvs (a ++ b) = tkvs a ++ tkvs b := List.flatMap_append
theorem tkvs_len (L : List Tk) : (tkvs L).length = L.length * 5 := by
  induction L with
  | nil => rfl
  | cons x L ih => rw [tkvs_cons, List.length_append, ih, List.length_cons]; show 5 + _ = _; omega
theorem tkvs_at (L : List Tk) (k j : Nat) (h : k < L.length) (hj : j < 5) : (tkvs L)[k * 5 + j]? = (tkv L[k])[j]? := by
  induction L generalizing k with
  | nil => simp at h
  | cons x L ih =>
    rw [tkvs_cons]
    cases k with
    | zero => rw [List.getElem?_append_left (by show _ < 5; omega)]; rw [Nat.zero_mul, Nat.zero_add]; rfl
    | succ k =>
      rw [List.getElem?_append_right (by show 5 ≤ _; omega)]
      show (tkvs L)[(k + 1) * 5 + j - 5]? = _
      rw [show (k + 1) * 5 + j - 5 = k * 5 + j by omega, ih k (by simpa using h)]
      rfl
def wtk (l : List UInt8) : Nat → List (Nat × Nat) → List Tk
  | _, [] => []
  | i, p :: r => ⟨bq (wtx l p), 0, i, p.1, p.2⟩ :: wtk l (i + 1) r
theorem tks_wtk (l : List UInt8) (i : Nat) (ws : List (Nat × Nat)) : tks l i ws = tkvs (wtk l i ws) := by
  induction ws generalizing i with
  | nil => rfl
  | cons p r ih => show tkC _ _ _ _ _ ++ tks l (i + 1) r = _; rw [ih]; rfl
theorem wtk_len (l : List UInt8) (i : Nat) (ws : List (Nat × Nat)) : (wtk l i ws).length = ws.length := by
  induction ws generalizing i with
  | nil => rfl
  | cons p r ih => show (wtk l (i + 1) r).length + 1 = _; rw [ih]; rfl
/-- The cells of the token number k. -/
theorem Gro.tok {w0 w : World} {g c n : Nat} {L : List Tk} (h : Gro w0 w 28 5 (.slice (some ⟨g, 0, none⟩) n c) n (tkvs L)) {k : Nat} (hk : k < L.length) :
    w.cell? ⟨g, k * 5, none⟩ = some (.string L[k].t) ∧ w.cell? ⟨g, k * 5 + 1, none⟩ = some (.int .i64 L[k].v) ∧ w.cell? ⟨g, k * 5 + 2, none⟩ = some (.int .i64 L[k].p) ∧ w.cell? ⟨g, k * 5 + 3, none⟩ = some (.int .i64 L[k].s) ∧ w.cell? ⟨g, k * 5 + 4, none⟩ = some (.int .i64 L[k].e) :=
  ⟨h.at (tkvs_at L k 0 hk (by decide)), h.at (tkvs_at L k 1 hk (by decide)), h.at (tkvs_at L k 2 hk (by decide)), h.at (tkvs_at L k 3 hk (by decide)), h.at (tkvs_at L k 4 hk (by decide))⟩
theorem Gro.some {w0 w : World} {a : Option Addr} {e : TypeId} {sz c n : Nat} {xs : List Value} (h : Gro w0 w e sz (.slice a n c) n xs) (hn : 0 < n) : ∃ g, a = some ⟨g, 0, none⟩ := by
  obtain ⟨g, e, _⟩ := h.cell hn
  exact ⟨g, e⟩
set_option maxRecDepth 20000 in
set_option maxHeartbeats 2000000 in
theorem same_any (L : List Tk) (a b : Option Addr) (n c d : Nat) (w1 w2 w : World) (hn : n = L.length) (hl : n ≤ 4398046511104) (hA : Gro w1 w 28 5 (.slice a n c) n (tkvs L)) (hB : Gro w2 w 28 5 (.slice b n d) n (tkvs L)) :
    Calls Try.prog 6 #[.slice a n c, .slice b n d] w fun e w' => e = .returned (.bool true) ∧ Kept (fun _ => False) w w' := by
  have HA := hideV hA
  have HB := hideV hB
  have HN := hideV hn
  have hnn : ((n : Int) != (n : Int)) = false := by simp
  clear hA hB hn
  go_enter Try.func6, Try.ntmps6
  go_wp2
  go_loopw [13] (fun i wr => ∃ (k : Nat), k ≤ n ∧ i = .int .i64 k ∧ Hid (Kept (fun _ => False) w wr)) (fun i _ => n - (intOf i).toNat)
  case atStart => exact ⟨0, by omega, rfl, Kept.refl _ _⟩
  case round =>
    obtain ⟨k, hk, rfl, KK⟩ := hrel
    by_cases hlt : k < n
    · have hlt2 : k < L.length := by rw [← HN.out]; exact hlt
      obtain ⟨g1, rfl⟩ := HA.out.some (by omega)
      obtain ⟨g2, rfl⟩ := HB.out.some (by omega)
      obtain ⟨x0, x1, x2, x3, x4⟩ := (HA.out.later KK.out).tok hlt2
      obtain ⟨y0, y1, y2, y3, y4⟩ := (HB.out.later KK.out).tok hlt2
      generalize L[k] = T at *
      have hki : (k : Int) < (n : Int) := by omega
      clear HA HB
      go_wp2
      go_region
      go_wp2
      go_roundw
      case rel => exact ⟨k + 1, by omega, by go_num, KK.out.trans (Kept.drew _) (fun _ f => f.elim)⟩
      case measure => simp [intOf]; omega
    · obtain rfl : k = n := by omega
      clear HA HB
      go_wp2
      go_ret
      exact ⟨rfl, KK.out⟩
end Go.Proofs.Ytjlimmgdikliiaa
