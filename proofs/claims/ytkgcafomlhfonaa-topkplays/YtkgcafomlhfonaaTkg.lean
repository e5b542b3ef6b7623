import Derived.Test.YtkgcafomlhfonaaTkf
namespace Go.Proofs.Ytkgcafomlhfonaa.Tk
open Go.ChangeShapes Go.WideShapes Go.ChangeAt Go.RowKit

theorem Gw.drewN {w w' : World} (h : Gw w w') (n : Nat) : Gw w (w'.drewN n) := by
  obtain ⟨q, os, rfl⟩ := h
  refine ⟨q + n, os, ?_⟩
  simp [Sort.grow, World.drewN, Nat.add_assoc]
/-- The upper one of the ones under the place a. -/
def undr (H : List Ht) (a : Nat) : Nat × Bool := if 2 * a + 2 < H.length ∧ Bt (g H (2 * a + 1)) (g H (2 * a + 2)) then (2 * a + 2, true) else (2 * a + 1, decide (2 * a + 1 < H.length))
theorem HsAt.hit {w : World} {gb n c : Nat} {M : List Ht} {B : Nat} (h : RowH B w (.slice (some ⟨gb, 0, none⟩) n c) M) {o : Nat} (ho : o < M.length) : w.cell? ⟨gb, o * 2, none⟩ = some (.int .i64 (g M o).1) ∧ w.cell? ⟨gb, o * 2 + 1, none⟩ = some (.int .u64 (g M o).2) := by
  obtain ⟨b, off, e, hc⟩ := h.hs (by intro e; rw [e] at ho; simp at ho)
  simp only [Option.some.injEq, Addr.mk.injEq, and_true] at e
  obtain ⟨rfl, rfl⟩ := e
  have := hc o ho
  rw [← g_eq ho, Nat.zero_add] at this
  exact this
set_option maxRecDepth 20000 in
set_option maxHeartbeats 8000000 in
theorem under_any (B p gb n c : Nat) (k : Int) (M : List Ht) (a : Nat) (w : World) (hb : w.heap[p]? = some (.cells #[.int .i64 k, .func (.func 28) #[] #[], .slice (some ⟨gb, 0, none⟩) n c] 57 (0, 0))) (hr : RowH B w (.slice (some ⟨gb, 0, none⟩) n c) M) (hn : M.length = n) (ha : a < n) (hlim : n ≤ 8796093022208) :
    Calls Try.prog 41 #[.pointer (some ⟨p, 1, none⟩), .int .i64 a] w fun e w' => e = .returned (.tuple #[.int .i64 (undr M a).1, .bool (undr M a).2]) ∧ Gw w w' := by
  have AB := hideT (fun x y W' => above_any x y W')
  have HR := hideT hr
  have HN := hideT hn
  have HC2 := hideT ((cell_of_row _ _ _ _ _ _ hb : w.cell? ⟨p, 2, none⟩ = _).trans rfl : w.cell? ⟨p, 2, none⟩ = some (.slice (some ⟨gb, 0, none⟩) n c))
  have HC1 := hideT ((cell_of_row _ _ _ _ _ _ hb : w.cell? ⟨p, 1, none⟩ = _).trans rfl : w.cell? ⟨p, 1, none⟩ = some (.func (.func 28) #[] #[]))
  obtain ⟨l, hl⟩ : ∃ l, l = 2 * a + 1 := ⟨_, rfl⟩
  obtain ⟨r, hrr⟩ : ∃ r, r = 2 * a + 2 := ⟨_, rfl⟩
  have HU : Hid (undr M a = if r < n ∧ Bt (g M l) (g M r) then (r, true) else (l, decide (l < n))) := hideT (by unfold undr; rw [hn, hl, hrr])
  have el : (2 : Int) * (a : Int) + 1 = (l : Nat) := by omega
  have er : (2 : Int) * (a : Int) + 2 = (r : Nat) := by omega
  have HLR := hideT (And.intro hl hrr)
  obtain ⟨ub, hub⟩ : ∃ ub, ub = undr M a := ⟨_, rfl⟩
  rw [← hub] at HU ⊢
  clear hr hn hb hub
  have hlb : l ≤ 17592186044416 := by omega
  have hrb : r ≤ 17592186044417 := by omega
  have hlr : l < r := by omega
  clear hl hrr
  go_enter Try.func41, Try.ntmps41
  go_upto_region 2 with fail
  clear el er
  have S0 : Gw w w.drew := (Gw.refl w).drew
  by_cases hrn : r < n
  · have hrI : (r : Int) < (n : Int) := by omega
    have HY := hideT (HsAt.hit HR.out (o := r) (by rw [HN.out]; exact hrn))
    have HX := hideT (HsAt.hit HR.out (o := l) (by rw [HN.out]; omega))
    obtain ⟨y, hy⟩ : ∃ y, y = g M r := ⟨_, rfl⟩
    obtain ⟨x, hx⟩ : ∃ x, x = g M l := ⟨_, rfl⟩
    have hln : l < n := by omega
    rw [← hy] at HY HU
    rw [← hx] at HX HU
    obtain ⟨t, ht⟩ : ∃ t, t = decide (Bt x y) := ⟨_, rfl⟩
    have HT := hideT ht
    have EA := hideT (fun W' => AB.out y x W')
    rw [← ht] at EA
    clear hy hx ht
    refine wp_region_held (S := fun W' => Gw w W') (by kernel_rfl) ?_
    change wpAnyH _ _ _ _ _ _ _ _ (World.drew _)
    refine wpAnyH_take (i := 0) (v := .int .i64 r) rfl (by kernel_rfl) (by kernel_rfl) (by kernel_rfl) (fun _ _ _ h => h) (Or.inl ⟨by kernel_rfl, fun W' hW => ?_⟩) S0 ?_
    · go_simp
    refine wpAnyH_take (i := 1) (v := .pointer (some ⟨p, 1, none⟩)) rfl (by kernel_rfl) (by kernel_rfl) (by kernel_rfl) (fun _ _ _ h => h) (Or.inl ⟨by kernel_rfl, fun W' hW => ?_⟩) S0 ?_
    · go_simp
    refine wpAnyH_take (i := 2) (v := .pointer (some ⟨p, 1, none⟩)) rfl (by kernel_rfl) (by kernel_rfl) (by kernel_rfl) (fun _ _ _ h => h) (Or.inl ⟨by kernel_rfl, fun W' hW => ?_⟩) S0 ?_
    · go_simp
    refine wpAnyH_take (i := 3) (v := .pointer (some ⟨p, 2, none⟩)) rfl (by kernel_rfl) (by kernel_rfl) (by kernel_rfl) (fun _ _ _ h => h) (Or.inl ⟨by kernel_rfl, fun W' hW => ?_⟩) S0 ?_
    · go_simp
    refine wpAnyH_take (i := 4) (v := .slice (some ⟨gb, 0, none⟩) n c) rfl (by kernel_rfl) (by kernel_rfl) (by kernel_rfl) (fun _ _ _ h => h) (Or.inl ⟨by kernel_rfl, fun W' hW => ?_⟩) S0 ?_
    · have e := (gw_kept hW).cell HC2.out (fun f => f)
      go_simp
    refine wpAnyH_take (i := 5) (v := .int .i64 n) rfl (by kernel_rfl) (by kernel_rfl) (by kernel_rfl) (fun _ _ _ h => h) (Or.inl ⟨by kernel_rfl, fun W' hW => ?_⟩) S0 ?_
    · go_simp
    refine wpAnyH_take (i := 6) (v := .bool true) rfl (by kernel_rfl) (by kernel_rfl) (by kernel_rfl) (fun _ _ _ h => h) (Or.inl ⟨by kernel_rfl, fun W' hW => ?_⟩) S0 ?_
    · go_simp
    refine wpAnyH_take (i := 7) (v := .bool true) rfl (by kernel_rfl) (by kernel_rfl) (by kernel_rfl) (fun _ _ _ h => h) (Or.inl ⟨by kernel_rfl, fun W' hW => ?_⟩) S0 ?_
    · go_simp
    refine wpAnyH_take (i := 8) (v := .pointer (some ⟨p, 1, none⟩)) rfl (by kernel_rfl) (by kernel_rfl) (by kernel_rfl) (fun _ _ _ h => h) (Or.inl ⟨by kernel_rfl, fun W' hW => ?_⟩) S0 ?_
    · go_simp
    refine wpAnyH_take (i := 9) (v := .pointer (some ⟨p, 1, none⟩)) rfl (by kernel_rfl) (by kernel_rfl) (by kernel_rfl) (fun _ _ _ h => h) (Or.inl ⟨by kernel_rfl, fun W' hW => ?_⟩) S0 ?_
    · go_simp
    refine wpAnyH_take (i := 10) (v := .pointer (some ⟨p, 1, none⟩)) rfl (by kernel_rfl) (by kernel_rfl) (by kernel_rfl) (fun _ _ _ h => h) (Or.inl ⟨by kernel_rfl, fun W' hW => ?_⟩) S0 ?_
    · go_simp
    refine wpAnyH_take (i := 11) (v := .func (.func 28) #[] #[]) rfl (by kernel_rfl) (by kernel_rfl) (by kernel_rfl) (fun _ _ _ h => h) (Or.inl ⟨by kernel_rfl, fun W' hW => ?_⟩) S0 ?_
    · have e := (gw_kept hW).cell HC1.out (fun f => f)
      go_simp
    refine wpAnyH_take (i := 12) (v := .pointer (some ⟨p, 1, none⟩)) rfl (by kernel_rfl) (by kernel_rfl) (by kernel_rfl) (fun _ _ _ h => h) (Or.inl ⟨by kernel_rfl, fun W' hW => ?_⟩) S0 ?_
    · go_simp
    refine wpAnyH_take (i := 13) (v := .pointer (some ⟨p, 1, none⟩)) rfl (by kernel_rfl) (by kernel_rfl) (by kernel_rfl) (fun _ _ _ h => h) (Or.inl ⟨by kernel_rfl, fun W' hW => ?_⟩) S0 ?_
    · go_simp
    refine wpAnyH_take (i := 14) (v := .pointer (some ⟨p, 2, none⟩)) rfl (by kernel_rfl) (by kernel_rfl) (by kernel_rfl) (fun _ _ _ h => h) (Or.inl ⟨by kernel_rfl, fun W' hW => ?_⟩) S0 ?_
    · go_simp
    refine wpAnyH_take (i := 15) (v := .slice (some ⟨gb, 0, none⟩) n c) rfl (by kernel_rfl) (by kernel_rfl) (by kernel_rfl) (fun _ _ _ h => h) (Or.inl ⟨by kernel_rfl, fun W' hW => ?_⟩) S0 ?_
    · have e := (gw_kept hW).cell HC2.out (fun f => f)
      go_simp
    refine wpAnyH_take (i := 16) (v := .int .i64 r) rfl (by kernel_rfl) (by kernel_rfl) (by kernel_rfl) (fun _ _ _ h => h) (Or.inl ⟨by kernel_rfl, fun W' hW => ?_⟩) S0 ?_
    · go_simp
    refine wpAnyH_take (i := 17) (v := .pointer (some ⟨gb, r * 2, none⟩)) rfl (by kernel_rfl) (by kernel_rfl) (by kernel_rfl) (fun _ _ _ h => h) (Or.inl ⟨by kernel_rfl, fun W' hW => ?_⟩) S0 ?_
    · go_simp
      all_goals (intro h; omega)
    refine wpAnyH_take (i := 18) (v := .agg #[.int .i64 y.1, .int .u64 y.2]) rfl (by kernel_rfl) (by kernel_rfl) (by kernel_rfl) (fun _ _ _ h => h) (Or.inl ⟨by kernel_rfl, fun W' hW => ?_⟩) S0 ?_
    · exact load_hit (x := .tmp 31) (b := gb) (off := r * 2) (y := y) rfl (by go_simp) ((gw_kept hW).cell HY.out.1 (fun f => f)) ((gw_kept hW).cell HY.out.2 (fun f => f))
    refine wpAnyH_take (i := 19) (v := .pointer (some ⟨p, 1, none⟩)) rfl (by kernel_rfl) (by kernel_rfl) (by kernel_rfl) (fun _ _ _ h => h) (Or.inl ⟨by kernel_rfl, fun W' hW => ?_⟩) S0 ?_
    · go_simp
    refine wpAnyH_take (i := 20) (v := .pointer (some ⟨p, 1, none⟩)) rfl (by kernel_rfl) (by kernel_rfl) (by kernel_rfl) (fun _ _ _ h => h) (Or.inl ⟨by kernel_rfl, fun W' hW => ?_⟩) S0 ?_
    · go_simp
    refine wpAnyH_take (i := 21) (v := .pointer (some ⟨p, 2, none⟩)) rfl (by kernel_rfl) (by kernel_rfl) (by kernel_rfl) (fun _ _ _ h => h) (Or.inl ⟨by kernel_rfl, fun W' hW => ?_⟩) S0 ?_
    · go_simp
    refine wpAnyH_take (i := 22) (v := .slice (some ⟨gb, 0, none⟩) n c) rfl (by kernel_rfl) (by kernel_rfl) (by kernel_rfl) (fun _ _ _ h => h) (Or.inl ⟨by kernel_rfl, fun W' hW => ?_⟩) S0 ?_
    · have e := (gw_kept hW).cell HC2.out (fun f => f)
      go_simp
    refine wpAnyH_take (i := 23) (v := .int .i64 l) rfl (by kernel_rfl) (by kernel_rfl) (by kernel_rfl) (fun _ _ _ h => h) (Or.inl ⟨by kernel_rfl, fun W' hW => ?_⟩) S0 ?_
    · go_simp
    refine wpAnyH_take (i := 24) (v := .pointer (some ⟨gb, l * 2, none⟩)) rfl (by kernel_rfl) (by kernel_rfl) (by kernel_rfl) (fun _ _ _ h => h) (Or.inl ⟨by kernel_rfl, fun W' hW => ?_⟩) S0 ?_
    · go_simp
      all_goals (intro h; omega)
    refine wpAnyH_take (i := 25) (v := .agg #[.int .i64 x.1, .int .u64 x.2]) rfl (by kernel_rfl) (by kernel_rfl) (by kernel_rfl) (fun _ _ _ h => h) (Or.inl ⟨by kernel_rfl, fun W' hW => ?_⟩) S0 ?_
    · exact load_hit (x := .tmp 38) (b := gb) (off := l * 2) (y := x) rfl (by go_simp) ((gw_kept hW).cell HX.out.1 (fun f => f)) ((gw_kept hW).cell HX.out.2 (fun f => f))
    refine wpAnyH_all (rs := [26]) (by kernel_rfl) (by simp) ?_
    intro i hi
    obtain rfl : i = 26 := by simpa using hi
    have E26 := hideT (EA.out w.drew)
    unfold wpOp
    go_simp
    first | refine E26.out.mono ?_ | refine Or.inl (E26.out.mono ?_)
    rintro e W5 ⟨rfl, h5⟩
    have h5 := S0.trans h5
    first | refine ⟨h5, ?_⟩ | refine Or.inl ⟨h5, ?_⟩
    refine wpAnyH_all (rs := [27]) (by kernel_rfl) (by simp) ?_
    intro i hi
    obtain rfl : i = 27 := by simpa using hi
    unfold wpOp
    go_simp
    first | (change wpAnyH _ _ _ _ _ _ _ _ _) | (refine Or.inl ?_; change wpAnyH _ _ _ _ _ _ _ _ _) | refine Or.inl ⟨h5, ?_⟩ | refine ⟨h5, ?_⟩
    refine wpAnyH_done (by kernel_rfl) ?_ _
    have H5 := hideT h5
    have K5 := hideT (gw_kept h5)
    clear h5 S0
    cases t with
    | true =>
      have hbt : Bt x y := of_decide_eq_true HT.out.symm
      have HU2 := HU.out
      rw [if_pos ⟨hrn, hbt⟩] at HU2
      have HU3 := hideT HU2
      clear HU2 hbt
      go_wp2
      go_ret2
      rw [HU3.out]
      exact ⟨by kernel_rfl, H5.out⟩
    | false =>
      have hbt : ¬ Bt x y := of_decide_eq_false HT.out.symm
      have HU2 := HU.out
      rw [if_neg (fun e => hbt e.2)] at HU2
      have HU3 := hideT HU2
      clear HU2 hbt
      have e5 := K5.out.cell HC2.out (fun f => f)
      have hlI : (l : Int) < (n : Int) := by omega
      go_wp2
      go_quiet (fail)
      go_wp2
      go_ret2
      rw [HU3.out]
      exact ⟨by simp [hln], H5.out.drewN _⟩
  · have hrI : ¬ (r : Int) < (n : Int) := by omega
    have HU2 := HU.out
    rw [if_neg (fun e => hrn e.1)] at HU2
    have HU3 := hideT HU2
    clear HU2
    have e2 := HC2.out
    clear S0
    go_quiet (fail)
    by_cases hln : l < n
    · have hlI : (l : Int) < (n : Int) := by omega
      go_wp2
      go_quiet (fail)
      go_wp2
      go_ret2
      rw [HU3.out]
      exact ⟨by simp [hln], ((Gw.refl w).drewN _).drewN _⟩
    · have hlI : ¬ (l : Int) < (n : Int) := by omega
      go_wp2
      go_quiet (fail)
      go_wp2
      go_ret2
      rw [HU3.out]
      exact ⟨by simp [hln], ((Gw.refl w).drewN _).drewN _⟩
end Go.Proofs.Ytkgcafomlhfonaa.Tk
