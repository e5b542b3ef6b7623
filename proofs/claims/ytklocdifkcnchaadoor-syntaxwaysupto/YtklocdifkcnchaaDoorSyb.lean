import Derived.Test.YtklocdifkcnchaaDoorSya
import Derived.BigRegion
namespace Go.Proofs.YtklocdifkcnchaaDoor
open Go.ChangeShapes Go.WideShapes Go.ChangeAt Go.RowKit
variable {w0 w w' : World} {b rc : Nat} {a0 : Option Addr} {R : List Tn} {v : Value} {s : MS}

set_option maxRecDepth 20000 in
set_option maxHeartbeats 4000000 in
theorem token_any (h : Mc w0 w b rc a0 R v s) :
    Calls Tryd.prog 39 #[.pointer (some ⟨b, 0, none⟩)] w fun e w' => e = .returned (tkA R s.at').v ∧ Kept (fun _ => False) w w' := by
  have KA := Kept.alloc w (.cells #[.int .i64 0, .string ⟨#[]⟩, .int .i64 0, .int .i64 0, .int .i64 0] 31)
  have H1 := h.later KA
  obtain ⟨x0, x1, -, -, -, -, -, -⟩ := H1.cells
  have ha := h.ha
  have hr := h.hr
  have hnew := heap_alloc_new w (.cells #[.int .i64 0, .string ⟨#[]⟩, .int .i64 0, .int .i64 0, .int .i64 0] 31)
  by_cases hlt : s.at' < R.length
  · have hne : R ≠ [] := by intro e; rw [e] at hlt; simp at hlt
    obtain ⟨g, o, e0, hc⟩ := h.row hne
    have hy : R[s.at']? = some R[s.at'] := List.getElem?_eq_getElem hlt
    have et : tkA R s.at' = R[s.at'] := by unfold tkA; rw [hy]; rfl
    rw [et]
    obtain ⟨y0, y1, y2, y3, y4⟩ := ((hc _ _ hy).later h.kept).later KA
    generalize R[s.at'] = Y at *
    obtain ⟨yk, yt, yn, ya, ye⟩ := Y
    dsimp only at y0 y1 y2 y3 y4
    subst e0
    have hz : (s.at' : Int) < (R.length : Int) := by omega
    have hq : ((s.at' : Int) == (R.length : Int)) = false := by rw [beq_eq_false_iff_ne]; omega
    have HK := hideL KA
    generalize s.at' = p at *
    generalize R.length = n at *
    clear h H1 hc hy et hne hlt
    go_enter Tryd.func39, Tryd.ntmps39
    go_wp2_with fail
    have hg9 := Nat.le_refl w.heap.size
    clear KA
    generalize w.alloc (.cells #[.int .i64 0, .string ⟨#[]⟩, .int .i64 0, .int .i64 0, .int .i64 0] 31) = V at *
    have HG9 := hideL hg9
    clear hg9
    generalize hge : w.heap.size = g9 at hnew ⊢
    rw [hge] at HG9
    have HG9 : Hid (w.heap.size ≤ g9) := hideL (by omega)
    clear hge
    go_quiet (fail)
    have KD := Kept.drewL V nq
    have HK2 := hideL (HK.out.trans KD (fun _ f => f.elim))
    have HN2 := hideL (KD.heap hnew (fun f => f))
    have x0' := KD.cell x0 (fun f => f)
    have x1' := KD.cell x1 (fun f => f)
    have y0' := KD.cell y0 (fun f => f)
    have y1' := KD.cell y1 (fun f => f)
    have y2' := KD.cell y2 (fun f => f)
    have y3' := KD.cell y3 (fun f => f)
    have y4' := KD.cell y4 (fun f => f)
    clear KD x0 x1 y0 y1 y2 y3 y4 HK hnew
    generalize V.drewN nq = V2 at *
    obtain ⟨d0, d1, d2, d3, d4, df⟩ := rowS_cells5 HN2.out
    have f0 := df 0
    have f1 := df 1
    have f2 := df 2
    have f3 := df 3
    have f4 := df 4
    clear df
    go_wp2_with fail
    go_region
    go_wp2_with fail
    refine bodyPost_ret (results_cellS rfl _ _ _ g9 _ rfl (load_lexS (by exact lexS_put5 HN2.out))) rfl ?_
    exact ⟨rfl, (keptS_put5 HK2.out HG9.out).trans (Kept.drew _) (fun _ f => f.elim)⟩
  · have et : tkA R s.at' = noT := by unfold tkA; rw [List.getElem?_eq_none (by omega)]; rfl
    rw [et]
    have hq : ((s.at' : Int) == (R.length : Int)) = true := by rw [beq_iff_eq]; omega
    have hq2 : (s.at' : Int) = (R.length : Int) := by omega
    rw [hq2] at x1 hq
    have HK := hideL KA
    generalize R.length = n at *
    clear h H1 et hlt hq2 ha
    go_enter Tryd.func39, Tryd.ntmps39
    go_wp2_with fail
    clear KA
    generalize w.alloc (.cells #[.int .i64 0, .string ⟨#[]⟩, .int .i64 0, .int .i64 0, .int .i64 0] 31) = V at *
    generalize hge : w.heap.size = g9 at hnew ⊢
    have HG9 : Hid (w.heap.size ≤ g9) := hideL (by omega)
    clear hge
    go_quiet (fail)
    have KD := Kept.drewL V nq
    have HK2 := hideL (HK.out.trans KD (fun _ f => f.elim))
    have HN2 := hideL (KD.heap hnew (fun f => f))
    clear KD x0 x1 HK hnew
    generalize V.drewN nq = V2 at *
    obtain ⟨d0, d1, d2, d3, d4, df⟩ := rowS_cells5 HN2.out
    have f0 := df 0
    have f1 := df 1
    have f2 := df 2
    have f3 := df 3
    have f4 := df 4
    clear df
    go_wp2_with fail
    refine bodyPost_ret (results_cellS rfl _ _ _ g9 _ rfl (load_lexS (by exact lexS_put5 HN2.out))) rfl ?_
    exact ⟨rfl, keptS_put5 HK2.out HG9.out⟩
theorem or_u32 (a b : Nat) (ha : a < 4294967296) (hb : b < 4294967296) : bits .or .u32 (a : Int) (b : Int) = ((a ||| b : Nat) : Int) := by
  show IntKind.u32.wrap ((BitVec.ofInt 32 (a : Int) ||| BitVec.ofInt 32 (b : Int)).toNat : Int) = _
  have e : ∀ x : Nat, x < 4294967296 → (BitVec.ofInt 32 (x : Int)).toNat = x := fun x hx => by
    rw [BitVec.ofInt_natCast, BitVec.toNat_ofNat]; exact Nat.mod_eq_of_lt hx
  rw [BitVec.toNat_or, e a ha, e b hb, IntKind.wrap_u32]
  have : a ||| b < 2 ^ 32 := Nat.or_lt_two_pow ha hb
  omega
theorem pow_u32 (k : Nat) (hk : k ≤ 21) : ((2 : Int) ^ k) % (4294967296 : Int) = ((1 <<< k : Nat) : Int) ∧ 1 <<< k < 4294967296 := by
  have h2 : 2 ^ k < 4294967296 := Nat.lt_of_le_of_lt (Nat.pow_le_pow_right (by decide) hk) (by decide)
  rw [Nat.one_shiftLeft]
  refine ⟨?_, h2⟩
  have e : (2 : Int) ^ k = ((2 ^ k : Nat) : Int) := by simp
  rw [e]
  generalize 2 ^ k = q at *
  omega
/-- The bit of a kind. -/
theorem bit_or (m k : Nat) (hm : m < 4294967296) (hk : k ≤ 21) : m ||| (1 <<< k) < 4294967296 := by
  have h2 : 1 <<< k < 2 ^ 32 := by
    rw [Nat.one_shiftLeft]
    exact Nat.pow_lt_pow_right (by decide) (by omega)
  exact Nat.or_lt_two_pow hm h2
set_option maxRecDepth 20000 in
set_option maxHeartbeats 4000000 in
theorem pass_yes (h : Mc w0 w b rc a0 R v s) (k : Int) (hlt : s.at' < R.length) :
    Calls Tryd.prog 38 #[.pointer (some ⟨b, 0, none⟩), .int .i64 k, .bool true] w fun e w' => e = .returned (.bool true) ∧ Mc w0 w' b rc a0 R v { s with at' := s.at' + 1, mi := 0 } := by
  obtain ⟨-, x1, x2, -, -, -, -, -⟩ := h.cells
  have f1 := h.free 1
  have f2 := h.free 2
  have hr := h.hr
  have H2 := hideL ((h.setAt (s.at' + 1) ((s.at' : Int) + 1) (by omega) (by omega)).setMi 0 0 rfl (by decide))
  have hat : s.at' ≤ 500000000000 := by omega
  generalize s.at' = p at x1 H2 hat hlt
  clear h hlt hr
  go_enter Tryd.func38, Tryd.ntmps38
  go_wp2_with fail
  go_ret
  exact ⟨rfl, H2.out⟩
set_option maxRecDepth 20000 in
set_option maxHeartbeats 4000000 in
theorem pass_no (h : Mc w0 w b rc a0 R v s) (k : Nat) (hk : k ≤ 21) :
    Calls Tryd.prog 38 #[.pointer (some ⟨b, 0, none⟩), .int .i64 (k : Int), .bool false] w fun e w' => e = .returned (.bool false) ∧ Mc w0 w' b rc a0 R v { s with mi := s.mi ||| (1 <<< k) } := by
  obtain ⟨-, -, x2, -, -, -, -, -⟩ := h.cells
  have f2 := h.free 2
  have hm := h.hm
  have HH := hideL (h.setMi (s.mi ||| (1 <<< k)) (bits BinOp.or IntKind.u32 (s.mi : Int) (((2 : Int) ^ k) % (4294967296 : Int))) (by rw [(pow_u32 k hk).1, or_u32 _ _ hm (pow_u32 k hk).2]) (bit_or _ _ hm hk))
  generalize s.mi = m at x2 hm HH
  clear h
  go_enter Tryd.func38, Tryd.ntmps38
  go_wp2_with fail
  go_region
  go_wp2_with fail
  go_ret
  exact ⟨rfl, HH.out.later (Kept.drew _)⟩
end Go.Proofs.YtklocdifkcnchaaDoor
