import Derived.Test.YtiemiphlfbaojaaDoorLyh
namespace Go.Proofs.YtiemiphlfbaojaaDoor
open Go.ChangeShapes Go.WideShapes Go.ChangeAt Go.RowKit

/-- A stopping mark. -/
structure Stp13 (p : Prop) : Prop where
  out : p
theorem Stp13.go {p : Prop} (h : Stp13 p) : p := h.out
/-- The error of a fault. -/
def synV (ad : Addr) : Value := .iface 120 (.pointer (some ad))
structure SynAt (w : World) (ad : Addr) : Prop where
  var : w.cell? ⟨16, 0, none⟩ = some (synV ad)
theorem SynAt.later {w w' : World} {ad : Addr} (h : SynAt w ad) (k : Kept (fun _ => False) w w') : SynAt w' ad := ⟨k.cell h.var (fun f => f)⟩
/-- A list of tokens, new since w0. -/
structure Tks (w0 w : World) (a : Option Addr) (c m : Nat) (L : List Lx) : Prop where
  gro : Gro w0 w 59 5 (.slice a m c) m (lxv L)
  len : m = L.length
theorem Tks.later {w0 w w' : World} {a : Option Addr} {c m : Nat} {L : List Lx} (h : Tks w0 w a c m L) (k : Kept (fun _ => False) w w') : Tks w0 w' a c m L := ⟨h.gro.later k, h.len⟩
/-- What Scan answers. -/
def lxPost (w : World) (ad : Addr) (Z : ZL) (x : Ending) (w' : World) : Prop :=
  (Z.2 = none ∧ ∃ a c m, x = .returned (.tuple #[.slice a m c, .int .i64 0, .nilIface]) ∧ Tks w w' a c m Z.1) ∨ (∃ f : Nat, Z.2 = some f ∧ x = .returned (.tuple #[.slice none 0 0, .int .i64 (f : Int), synV ad]) ∧ Kept (fun _ => False) w w')
theorem lxv_at (G : List Lx) (k : Nat) (h : k < G.length) (i : Nat) (hi : i < 5) : (lxv G)[k * 5 + i]? = (lv1 G[k])[i]? := by
  induction G generalizing k with
  | nil => simp at h
  | cons x G ih =>
    have e : lxv (x :: G) = lv1 x ++ lxv G := rfl
    rw [e]
    cases k with
    | zero => rw [List.getElem?_append_left (by show 0 * 5 + i < 5; omega), Nat.zero_mul, Nat.zero_add]; rfl
    | succ k =>
      rw [List.getElem?_append_right (by show 5 ≤ (k + 1) * 5 + i; omega)]
      have e2 : (k + 1) * 5 + i - (lv1 x).length = k * 5 + i := by show (k + 1) * 5 + i - 5 = _; omega
      rw [e2, ih k (by simpa using h)]
      rfl
theorem Tks.cell {w0 w : World} {a : Option Addr} {c m : Nat} {L : List Lx} (h : Tks w0 w a c m L) (hm : 0 < m) : ∃ g, a = some ⟨g, 0, none⟩ ∧ w0.heap.size ≤ g ∧ ∀ k (hk : k < L.length), w.cell? ⟨g, k * 5, none⟩ = some (.int .i64 (L[k].k : Int)) ∧ w.cell? ⟨g, k * 5 + 1, none⟩ = some (.string (bq L[k].t)) ∧ w.cell? ⟨g, k * 5 + 2, none⟩ = some (.int .i64 L[k].n) ∧ w.cell? ⟨g, k * 5 + 3, none⟩ = some (.int .i64 (L[k].a : Int)) ∧ w.cell? ⟨g, k * 5 + 4, none⟩ = some (.int .i64 (L[k].e : Int)) := by
  obtain ⟨g, e, hg, hc⟩ := h.gro.cell hm
  refine ⟨g, e, hg, fun k hk => ⟨?_, ?_, ?_, ?_, ?_⟩⟩
  · exact hc _ _ (by have := lxv_at L k hk 0 (by omega); rw [Nat.add_zero] at this; rw [this]; rfl)
  · exact hc _ _ (by rw [lxv_at L k hk 1 (by omega)]; rfl)
  · exact hc _ _ (by rw [lxv_at L k hk 2 (by omega)]; rfl)
  · exact hc _ _ (by rw [lxv_at L k hk 3 (by omega)]; rfl)
  · exact hc _ _ (by rw [lxv_at L k hk 4 (by omega)]; rfl)
set_option maxRecDepth 20000 in
set_option maxHeartbeats 4000000 in
theorem lscan_any (l : List UInt8) (w : World) (ad : Addr) (hC : ClsAt w) (hS : SynAt w ad) (hl : l.length ≤ 400000000000) :
    Calls Tryd.prog 12 #[.string (bq l)] w (lxPost w ad (scanF l)) := by
  have KA := Kept.alloc w (.cells #[.string (bq l), .int .i64 0, .int .i64 0, .string ⟨#[]⟩, .int .i64 0, .int .i64 0, .int .i64 0, .slice none 0 0] 67)
  have h0 : Sc w (w.alloc (.cells #[.string (bq l), .int .i64 0, .int .i64 0, .string ⟨#[]⟩, .int .i64 0, .int .i64 0, .int .i64 0, .slice none 0 0] 67)) w.heap.size l 0 0 [] 0 0 0 (.slice none 0 0) 0 [] :=
    ⟨heap_alloc_new w _, ⟨rfl, .inl ⟨rfl, rfl⟩⟩, rfl, KA, Nat.le_refl _⟩
  have CS := hideL (scan_any h0 hC hl)
  have HS := hideL hS
  generalize bq l = s at *
  generalize scanF l = Z at *
  clear h0 KA hC hS
  obtain ⟨b, hb⟩ : ∃ b, b = w.heap.size := ⟨_, rfl⟩
  go_enter Tryd.func12, Tryd.ntmps12
  go_wp2_with (go_at_call 24; refine Stp13.go ?_)
  refine ⟨?_⟩
  refine CS.out.mono ?_
  clear CS
  rintro x W1 (⟨hn, rfl, p, k, t, n, a, e, v, m, h1⟩ | ⟨f, hf, rfl, p, k, t, n, e, v, m, L, h1⟩)
  · have x7 := h1.cells.2.2.2.2.2.2.2
    have HG : Hid (∃ a' c', v = .slice a' m c' ∧ Tks w W1 a' c' m Z.1) := hideL (by
      have q : Gro w W1 59 5 v m (lxv Z.1) := ⟨h1.own, h1.kept⟩
      obtain ⟨a', c', rfl⟩ := q.shape
      exact ⟨a', c', rfl, q, h1.len⟩)
    have HN := hideL hn
    obtain ⟨a', c', hv, hT⟩ := HG.out
    have HT := hideL hT
    subst hv
    clear h1 hn HG hT hb
    generalize w.heap.size = b0 at *
    go_wp2
    go_ret3
    exact .inl ⟨HN.out, a', c', m, rfl, HT.out⟩
  · have x5 := h1.cells.2.2.2.2.2.1
    have y0 := (HS.out.later h1.kept).var
    have HK := hideL h1.kept
    have HF := hideL hf
    unfold synV at y0
    clear h1 hf hb
    generalize w.heap.size = b0 at *
    go_wp2_with fail
    go_quiet (fail)
    go_wp2
    go_ret3
    exact .inr ⟨f, HF.out, rfl, HK.out.trans (Kept.drewL _ _) (fun _ f => f.elim)⟩
end Go.Proofs.YtiemiphlfbaojaaDoor
