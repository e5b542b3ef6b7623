import Derived.Test.YtjmmdklgkcbihaaDoorMrg4
import Derived.Test.YtjmmdklgkcbihaaDoorLive
namespace Go.Proofs.YtjmmdklgkcbihaaDoor
open Go.ChangeShapes Go.WideShapes Go.ChangeAt Go.RowKit

theorem Tryd.infoStK : (Tryd.prog.info? 9).map (fun i => (i.zero, i.size, i.bytes)) = some (some (.string ⟨#[]⟩), 1, 16) := by kernel_rfl
theorem take_nextW {α : Type} {l : List α} {k : Nat} (h : k < l.length) : l.take (k + 1) = l.take k ++ [l[k]] := by
  rw [List.take_add_one, List.getElem?_eq_getElem h, Option.toList_some]
theorem total_takeK {S : List OpD} {k : Nat} (h : k < S.length) : total (S.take (k + 1)) = total (S.take k) + (S[k]).size := by
  rw [take_nextW h, total_append]
  simp [total]
theorem total_take_le (S : List OpD) (k : Nat) : total (S.take k) ≤ total S := by
  have := total_append (S.take k) (S.drop k)
  rw [List.take_append_drop] at this
  omega
/-- What is known at the head of the law's loop. -/
structure Wl (w W : World) (S : List OpD) (k : Nat) (o : Nat → Nat) (bW : Nat → Nat) (vW : Nat → Value) (X : Nat → List Int) (gh : Nat) (vh : Nat → Value) (kb : Nat) (vB vK vT : Value) (V : List Value) (Ls : List (List Int)) : Prop where
  ws : Ws AllK w W o bW vW X gh vh X kb vB vK vT V V Ls Ls
  ln : Ls.length = V.length
  vn : V.length ≤ k
  xn : ∀ j, j < 2 → (X j).length ≤ 32 * total (S.take k)
  ll : ∀ l ∈ Ls, l.length ≤ 32 * total S
theorem Wl.later {w W W' : World} {S : List OpD} {k : Nat} {o : Nat → Nat} {bW : Nat → Nat} {vW : Nat → Value} {X : Nat → List Int} {gh : Nat} {vh : Nat → Value} {kb : Nat} {vB vK vT : Value} {V : List Value} {Ls : List (List Int)} (h : Wl w W S k o bW vW X gh vh kb vB vK vT V Ls) (q : Kept (fun _ => False) W W') : Wl w W' S k o bW vW X gh vh kb vB vK vT V Ls := ⟨h.ws.later q, h.ln, h.vn, h.xn, h.ll⟩
theorem Wl.next {w W : World} {S : List OpD} {k : Nat} {o : Nat → Nat} {bW : Nat → Nat} {vW : Nat → Value} {X : Nat → List Int} {gh : Nat} {vh : Nat → Value} {kb : Nat} {vB vK vT : Value} {V : List Value} {Ls : List (List Int)} (h : Wl w W S k o bW vW X gh vh kb vB vK vT V Ls) (hk : k < S.length) : Wl w W S (k + 1) o bW vW X gh vh kb vB vK vT V Ls := ⟨h.ws, h.ln, Nat.le_trans h.vn (Nat.le_succ _), fun j hj => by have h1 := h.xn j hj; have h2 := total_takeK hk; omega, h.ll⟩
theorem Wl.long {w W : World} {S : List OpD} {k : Nat} {o : Nat → Nat} {bW : Nat → Nat} {vW : Nat → Value} {X : Nat → List Int} {gh : Nat} {vh : Nat → Value} {kb : Nat} {vB vK vT : Value} {V : List Value} {Ls : List (List Int)} (h : Wl w W S k o bW vW X gh vh kb vB vK vT V Ls) (j : Nat) (hj : j < 2) : (X j).length ≤ 32 * total S := by have h1 := h.xn j hj; have h2 := total_take_le S k; omega
/-- A list of bytes of one of the two: its shape, its bytes, its place. -/
theorem Wl.held {w W : World} {S : List OpD} {k : Nat} {o : Nat → Nat} {bW : Nat → Nat} {vW : Nat → Value} {X : Nat → List Int} {gh : Nat} {vh : Nat → Value} {kb : Nat} {vB vK vT : Value} {V : List Value} {Ls : List (List Int)} (h : Wl w W S k o bW vW X gh vh kb vB vK vT V Ls) (j : Nat) (hj : j < 2) : ∃ a c, vh j = .slice a (X j).length c ∧ Lib W (.slice a (X j).length c) (X j) := by
  have r := h.ws.hl j hj trivial
  obtain ⟨a, c, e⟩ := row_shapeH r
  refine ⟨a, c, e, ?_⟩
  rw [← e]
  exact Lib.of_own r
/-- The law's loop goes on with other bytes of one Writer. -/
theorem Wl.upd {w W W' : World} {S : List OpD} {k : Nat} {o o' : Nat → Nat} {bW : Nat → Nat} {vW vW' : Nat → Value} {X : Nat → List Int} {gh : Nat} {vh vh' : Nat → Value} {kb : Nat} {vB vK vT : Value} {V : List Value} {Ls : List (List Int)} (i : Nat) {X' : List Int} (h : Wl w W S k o bW vW X gh vh kb vB vK vT V Ls) (hk : k < S.length) (hX : X'.length ≤ 32 * total (S.take (k + 1))) (ws : Ws AllK w W' o' bW vW' (upK X i X') gh vh' (upK X i X') kb vB vK vT V V Ls Ls) : Wl w W' S (k + 1) o' bW vW' (upK X i X') gh vh' kb vB vK vT V Ls := by
  refine ⟨ws, h.ln, (h.next hk).vn, fun j hj => ?_, h.ll⟩
  by_cases e : j = i
  · rw [e, upK_at]; exact hX
  · rw [upK_ne _ _ e]; exact (h.next hk).xn j hj
/-- What a store into the list of two asks. -/
theorem ws_store {w W W' : World} {o : Nat → Nat} {bW : Nat → Nat} {vW : Nat → Value} {XW : Nat → List Int} {gh : Nat} {vh : Nat → Value} {XH : Nat → List Int} {kb : Nat} {vB vK vT : Value} {V VK : List Value} {Ls LT : List (List Int)} (i : Nat) (hi : i < 2) (h : Ws AllK w W o bW vW XW gh vh XH kb vB vK vT V VK Ls LT) (k : Kept (fun q => (vh i).ownBlock = some q) W W') : W'.cell? ⟨gh, 0, none⟩ = some (vh 0) ∧ W'.cell? ⟨gh, 1, none⟩ = some (vh 1) ∧ W'.frozen? ⟨gh, 0, none⟩ = false ∧ W'.frozen? ⟨gh, 1, none⟩ = false :=
  ws_cell (h.step (P' := fun c => c ≠ 3 + i) k o (fun _ _ => trivial) (by omega) (fun q f _ p => p (h.ol i hi trivial q f)) (fun _ _ => rfl)) (by omega)
theorem Ws.last {P : Nat → Prop} {w W : World} {o : Nat → Nat} {bW : Nat → Nat} {vW : Nat → Value} {XW : Nat → List Int} {gh : Nat} {vh : Nat → Value} {XH : Nat → List Int} {kb : Nat} {vB vK vT b : Value} {V VK : List Value} {Ls LT : List (List Int)} {l : List Int} (h : Ws P w W o bW vW XW gh vh XH kb vB vK vT (V ++ [b]) VK (Ls ++ [l]) LT) (p : P (10 + V.length)) (hn : Ls.length = V.length) : Lib W b l := by
  have q := h.ls V.length (by rw [List.length_append, List.length_singleton]; omega) p
  rw [List.getElem_append_right (Nat.le_refl _), List.getElem?_append_right (by omega)] at q
  simpa [hn] using q
set_option maxRecDepth 20000 in
set_option maxHeartbeats 16000000 in
/-- The law CodecWrites. -/
theorem writes_walk (bm : Nat → Nat → Int) (hbm : BmI bm) (S : List OpD) (sa : Option Addr) (sc : Nat) (ad : Nat → Addr) (w : World) (hS : OpsAt w sa S) (hO : ∀ o ∈ S, o.AtK w) (htot : total S ≤ 1048576) (hE : Es8K w ad) :
    Calls Tryd.prog 3 #[.slice sa S.length sc] w fun e w' => e = .returned (.bool true) ∧ Kept (fun _ => False) w w' := by
  have hcount := total_count S
  have LV := hideH (lives_any (ad 0) (ad 1) w hE.s0.var hE.s1.var)
  have BM := hideH hbm
  have HS := hideH hS
  have HO := hideH hO
  have HE := hideH hE
  obtain ⟨N, hN⟩ : ∃ N, N = S.length := ⟨_, rfl⟩
  rw [← hN] at hcount ⊢
  have HN := hideH hN
  clear hbm hS hO hE hN
  go_enter Tryd.func3, Tryd.ntmps3
  go_wp2_with (go_at_call 5; refine StpH.go ?_)
  refine ⟨?_⟩
  refine LV.out.mono ?_
  clear LV
  rintro e W1 ⟨rfl, k1⟩
  have HK1 := hideH k1
  have NW := hideH (new_any W1)
  clear k1
  go_wp2_with (go_at_call 6; refine StpH.go ?_)
  refine ⟨?_⟩
  refine NW.out.mono ?_
  clear NW
  rintro e W2 ⟨rfl, h0, k2⟩
  have HH0 := hideH h0
  have HK2 := hideH k2
  have NW := hideH (new_any W2)
  clear h0 k2
  go_wp2_with (go_at_call 6; refine StpH.go ?_)
  refine ⟨?_⟩
  refine NW.out.mono ?_
  clear NW
  rintro e W3 ⟨rfl, h1, k3⟩
  have HST := hideH (ws_start HK1.out HH0.out HK2.out h1 k3)
  clear h1 k3 HK1 HK2 HH0
  go_wp2_with fail
  obtain ⟨o0, s0⟩ := HST.out
  have eb0 : (fun j => if j = 0 then W1.heap.size else W2.heap.size) 0 = W1.heap.size := rfl
  have eb1 : (fun j => if j = 0 then W1.heap.size else W2.heap.size) 1 = W2.heap.size := rfl
  have HWL : Hid (Wl w _ S 0 o0 (fun j => if j = 0 then W1.heap.size else W2.heap.size) (fun _ => .slice none 0 0) (fun _ => []) (W3.heap.size + 1 + 1) (fun j => .slice (some ⟨W3.heap.size + j, 0, none⟩) 0 0) (W3.heap.size + 1 + 1 + 1) (.slice none 0 0) (.slice (some ⟨W3.heap.size + 1 + 1 + 1 + 1, 0, none⟩) 0 0) (.slice (some ⟨W3.heap.size + 1 + 1 + 1 + 1 + 1, 0, none⟩) 0 0) [] []) := hideH ⟨s0, rfl, Nat.le_refl _, fun j hj => Nat.zero_le _, fun l hl => by cases hl⟩
  clear s0 HST
  generalize (fun j => if j = 0 then W1.heap.size else W2.heap.size) = bW at HWL eb0 eb1
  rw [← eb0, ← eb1]
  generalize W3.heap.size + 1 + 1 = gh at HWL ⊢
  generalize gh + 1 = kb at HWL ⊢
  clear eb0 eb1
  go_loopw [8, 9, 40] (fun s8 s9 s40 wr => ∃ (k : Nat) (o : Nat → Nat) (vW : Nat → Value) (X : Nat → List Int) (vh : Nat → Value) (vB vK vT : Value) (V : List Value) (Ls : List (List Int)), k ≤ N ∧ vK = s8 ∧ vT = s9 ∧ s40 = .int .i64 k ∧ Hid (Wl w wr S k o bW vW X gh vh kb vB vK vT V Ls)) (fun _ _ s40 _ => N - (intOf s40).toNat)
  case atStart => exact ⟨0, _, _, _, _, _, _, _, _, _, Nat.zero_le _, rfl, rfl, rfl, HWL⟩
  case round =>
  obtain ⟨k, o, vW, X, vh, vB, vK, vT, V, Ls, hk, rfl, rfl, rfl, HW⟩ := hrel
  obtain ⟨Wa, hWa⟩ : ∃ Wa, Wa = wr := ⟨_, rfl⟩
  rw [← hWa] at HW ⊢
  clear hWa HWL
  have hT : 32 * total S ≤ 33554432 := by omega
  by_cases hlt : k < N
  · have hkS : k < S.length := by rw [← HN.out]; exact hlt
    have hkt := total_takeK hkS
    have hktl := total_take_le S (k + 1)
    have hiN : (k : Int) < (N : Int) := by omega
    obtain ⟨b, off, rfl, hc⟩ := HS.out (by intro e; rw [e] at hkS; simp at hkS)
    have hcw : ∀ j, j < 8 → Wa.cell? ⟨b, off + k * 8 + j, none⟩ = (S[k]).cells[j]? := by
      intro j hj
      have h1 := hc k hkS j hj
      have h2 : (S[k]).cells[j]? = some ((S[k]).cells[j]'(by rw [OpD.cells_length]; exact hj)) := List.getElem?_eq_getElem _
      rw [h2] at h1 ⊢
      rw [Nat.add_assoc]
      exact HW.out.ws.kp.cell h1 (fun f => f)
    have hA := HO.out _ (List.getElem_mem hkS)
    have hks := kout_small hA.op
    generalize S[k] = op at hcw hA hkt hks
    have hA2 := hA
    have hks2 := hks
    obtain ⟨kd, sec, nn, U, ii, ba, bc, B, s, la, lc, L⟩ := op
    have h0 : Wa.cell? ⟨b, off + k * 8, none⟩ = some (.int .i64 kd) := hcw 0 (by decide)
    have h1 : Wa.cell? ⟨b, off + k * 8 + 1, none⟩ = some (.bool sec) := hcw 1 (by decide)
    have h2 : Wa.cell? ⟨b, off + k * 8 + 2, none⟩ = some (.int .i64 nn) := hcw 2 (by decide)
    have h3 : Wa.cell? ⟨b, off + k * 8 + 3, none⟩ = some (.int .u64 U) := hcw 3 (by decide)
    have h4 : Wa.cell? ⟨b, off + k * 8 + 4, none⟩ = some (.int .i64 ii) := hcw 4 (by decide)
    have h5 : Wa.cell? ⟨b, off + k * 8 + 5, none⟩ = some (.slice ba B.length bc) := hcw 5 (by decide)
    have h6 : Wa.cell? ⟨b, off + k * 8 + 6, none⟩ = some (.string s) := hcw 6 (by decide)
    have h7 : Wa.cell? ⟨b, off + k * 8 + 7, none⟩ = some (.slice la L.length lc) := hcw 7 (by decide)
    obtain ⟨nB, hnB⟩ : ∃ n, n = B.length := ⟨_, rfl⟩
    obtain ⟨nL, hnL⟩ : ∃ n, n = L.length := ⟨_, rfl⟩
    rw [← hnB] at h5
    rw [← hnL] at h7
    have HA := hideH hA2
    have HKS := hideH hks2
    have HKT := hideH hkt
    have HNB := hideH hnB
    have HNL := hideH hnL
    clear hcw hc hA hA2 hks hks2 hkt hnB hnL
    have hbig : 32 * total (S.take (k + 1)) ≤ 33554432 := by omega
    have HKSl := hideH hkS
    clear hkS hktl
    obtain ⟨Wb, hWb⟩ : ∃ W, W = Wa.alloc (.cells #[.int .i64 kd, .bool sec, .int .i64 nn, .int .u64 (U : Int), .int .i64 ii, .slice ba nB bc, .string s, .slice la nL lc] 37) := ⟨_, rfl⟩
    have kab : Kept (fun _ => False) Wa Wb := by rw [hWb]; exact Kept.alloc _ _
    have hrow : Wb.heap[Wa.heap.size]? = some (.cells #[.int .i64 kd, .bool sec, .int .i64 nn, .int .u64 (U : Int), .int .i64 ii, .slice ba nB bc, .string s, .slice la nL lc] 37 (0, 0)) := by rw [hWb]; exact heap_alloc_new Wa _
    have HWb := hideH (HW.out.later kab)
    cases sec
    · have w0 : Wb.cell? ⟨Wa.heap.size, 0, none⟩ = some (.int .i64 kd) := by rw [cell_of_row _ _ 0 _ _ _ hrow]; rfl
      have w1 : Wb.cell? ⟨Wa.heap.size, 1, none⟩ = some (.bool false) := by rw [cell_of_row _ _ 1 _ _ _ hrow]; rfl
      have w2 : Wb.cell? ⟨Wa.heap.size, 2, none⟩ = some (.int .i64 nn) := by rw [cell_of_row _ _ 2 _ _ _ hrow]; rfl
      have w3 : Wb.cell? ⟨Wa.heap.size, 3, none⟩ = some (.int .u64 (U : Int)) := by rw [cell_of_row _ _ 3 _ _ _ hrow]; rfl
      have w4 : Wb.cell? ⟨Wa.heap.size, 4, none⟩ = some (.int .i64 ii) := by rw [cell_of_row _ _ 4 _ _ _ hrow]; rfl
      have w5 : Wb.cell? ⟨Wa.heap.size, 5, none⟩ = some (.slice ba nB bc) := by rw [cell_of_row _ _ 5 _ _ _ hrow]; rfl
      have w6 : Wb.cell? ⟨Wa.heap.size, 6, none⟩ = some (.string s) := by rw [cell_of_row _ _ 6 _ _ _ hrow]; rfl
      have w7 : Wb.cell? ⟨Wa.heap.size, 7, none⟩ = some (.slice la nL lc) := by rw [cell_of_row _ _ 7 _ _ _ hrow]; rfl
      obtain ⟨ah, ch, eh, hlib⟩ := HWb.out.held 0 (by decide)
      obtain ⟨nh, hnh⟩ : ∃ n, n = (X 0).length := ⟨_, rfl⟩
      have hnhb : nh ≤ 33554432 := by rw [hnh]; have := HWb.out.long 0 (by decide); omega
      rw [← hnh] at eh hlib
      have HNH := hideH hnh
      have HLIB := hideH hlib
      have HEH := hideH eh
      have hcell := (ws_cell HWb.out.ws trivial).1
      rw [eh] at hcell
      have HCELL := hideH hcell
      clear hnh hlib eh hrow kab hcell
      rw [hWb] at w0 w1 w2 w3 w4 w5 w6 w7
      by_cases q11 : kd = 11
      · subst q11

        have C : Hid (∀ W, Kept (fun _ => False) Wb W → Calls Tryd.prog 7 #[.pointer (some ⟨bW 0, 0, none⟩)] W fun e w' => e = .returned (.int .i64 nh) ∧ w' = W) := hideH (fun W kW => by rw [HNH.out]; exact wlen_any (bW 0) (vW 0) (X 0) W ((HWb.out.ws.wr 0 (by decide) trivial).kept kW (fun _ _ f => f)))
        have hS : Kept (fun _ => False) Wb Wb.drew := Kept.drew Wb
        go_wp2_with fail
        rw [← hWb]
        clear w0 w1 w2 w3 w4 w5 w6 w7 hWb
        refine wp_region_held (S := fun W' => W' = Wb.drew) (by kernel_rfl) ?_
        change wpAnyH _ _ _ _ _ _ _ _ (World.drew _)
        refine takeYH (i := 0) (d := 69) (v := .pointer (some ⟨bW 0, 0, none⟩)) rfl rfl (by kernel_rfl) (by kernel_rfl) (by kernel_rfl) (fun _ _ _ h => h) (Or.inl ⟨by rfl, fun W hW => ?_⟩) rfl ?_
        · (go_simp)
        simp only [Act.put, List.setIfInBounds_toArray, List.set_cons_zero, List.set_cons_succ]

        refine takeYH (i := 2) (d := 71) (v := .slice (some ⟨gh, 0, none⟩) 2 2) rfl rfl (by kernel_rfl) (by kernel_rfl) (by kernel_rfl) (fun _ _ _ h => h) (Or.inl ⟨by rfl, fun W hW => ?_⟩) rfl ?_
        · (go_simp)
        simp only [Act.put, List.setIfInBounds_toArray, List.set_cons_zero, List.set_cons_succ]
        refine takeYH (i := 3) (d := 72) (v := .int .i64 0) rfl rfl (by kernel_rfl) (by kernel_rfl) (by kernel_rfl) (fun _ _ _ h => h) (Or.inl ⟨by rfl, fun W hW => ?_⟩) rfl ?_
        · (go_simp)
        simp only [Act.put, List.setIfInBounds_toArray, List.set_cons_zero, List.set_cons_succ]
        refine takeYH (i := 4) (d := 73) (v := .pointer (some ⟨gh, 0, none⟩)) rfl rfl (by kernel_rfl) (by kernel_rfl) (by kernel_rfl) (fun _ _ _ h => h) (Or.inl ⟨by rfl, fun W hW => ?_⟩) rfl ?_
        · (go_simp)
        simp only [Act.put, List.setIfInBounds_toArray, List.set_cons_zero, List.set_cons_succ]

        refine takeYH (i := 5) (d := 74) (v := .slice ah nh ch) rfl rfl (by kernel_rfl) (by kernel_rfl) (by kernel_rfl) (fun _ _ _ h => h) (Or.inl ⟨by rfl, fun W hW => ?_⟩) rfl ?_
        · have x0 := hS.cell HCELL.out (fun f => f)
          rw [hW]
          (go_simp)
        simp only [Act.put, List.setIfInBounds_toArray, List.set_cons_zero, List.set_cons_succ]
        refine takeYH (i := 6) (d := 75) (v := .int .i64 nh) rfl rfl (by kernel_rfl) (by kernel_rfl) (by kernel_rfl) (fun _ _ _ h => h) (Or.inl ⟨by rfl, fun W hW => ?_⟩) rfl ?_
        · (go_simp)
        simp only [Act.put, List.setIfInBounds_toArray, List.set_cons_zero, List.set_cons_succ]

        refine wpAnyH_all (rs := [1]) (by kernel_rfl) (by simp) ?_
        intro i' hi'
        obtain rfl : i' = 1 := by simpa using hi'
        unfold wpOp
        go_simp
        first | refine (C.out Wb.drew hS).mono ?_ | refine Or.inl ((C.out Wb.drew hS).mono ?_)
        rintro e Wy ⟨rfl, rfl⟩
        first | refine ⟨rfl, ?_⟩ | skip
        refine takeYH (i := 7) (d := 76) (v := .bool false) rfl rfl (by kernel_rfl) (by kernel_rfl) (by kernel_rfl) (fun _ _ _ h => h) (Or.inl ⟨by rfl, fun W hW => ?_⟩) rfl ?_
        · (go_simp)
        simp only [Act.put, List.setIfInBounds_toArray, List.set_cons_zero, List.set_cons_succ]

        refine wpAnyH_done (by kernel_rfl) ?_ _
        have HF := hideH ((HWb.out.later hS).next HKSl.out)
        clear HWb HCELL HLIB HEH C hS
        go_wp2_with fail
        go_roundw
        case rel => exact ⟨k + 1, _, _, _, _, _, _, _, _, _, by omega, rfl, rfl, by go_num, HF⟩
        case measure => simp [intOf]; omega
      by_cases q12 : kd = 12
      · subst q12

        obtain ⟨aK, cK, eK⟩ := row_shapeH (HWb.out.ws.kr trivial)
        obtain ⟨aT, cT, eT⟩ := row_shapeH (HWb.out.ws.tr trivial)
        obtain ⟨nV, hnV⟩ : ∃ n, n = V.length := ⟨_, rfl⟩
        rw [HWb.out.ln, ← hnV] at eT
        rw [← hnV] at eK
        subst eK eT
        have hnVb : nV ≤ 1048576 := by rw [hnV]; have := HWb.out.vn; omega
        have HNV := hideH hnV
        clear hnV
        have C : Hid (Calls Tryd.prog 8 #[.pointer (some ⟨bW 0, 0, none⟩)] Wb fun e w' => e = .returned (.slice (some ⟨Wb.heap.size, 0, none⟩) nh nh) ∧ w'.ownsRow Wb.heap.size 5 1 (.slice (some ⟨Wb.heap.size, 0, none⟩) nh nh) nh (bs (X 0)) ∧ Kept (fun _ => False) Wb w') := hideH (by rw [HNH.out]; exact bytes_any (bW 0) (vW 0) (X 0) Wb (HWb.out.ws.wr 0 (by decide) trivial) (by rw [← HNH.out]; omega))
        go_wp2_with (go_at_call 8; refine StpH.go ?_)
        rw [← hWb]
        refine ⟨?_⟩
        refine C.out.mono ?_
        clear C w0 w1 w2 w3 w4 w5 w6 w7 hWb
        rintro e Wc ⟨rfl, hrb, kc⟩
        have ws1 := HWb.out.ws.fresh kc (10 + V.length)
        have lib1 : Lib Wc (.slice (some ⟨Wb.heap.size, 0, none⟩) nh nh) (X 0) := Lib.of_own hrb
        have own1 : newK Wb.heap.size (10 + V.length) o Wb.heap.size = 10 + V.length := newK_new (Nat.le_refl _)
        have c5 := kc.cell HCELL.out (fun f => f)
        have lib0 := HLIB.out.later kc
        generalize newK Wb.heap.size (10 + V.length) o = o1 at ws1 own1
        generalize Wb.heap.size = gb at lib1 own1 ⊢
        clear hrb kc HCELL HLIB
        go_wp2_with fail
        have hS : Kept (fun _ => False) Wc Wc.drew := Kept.drew Wc
        refine wp_region_held (S := fun W' => Kept (fun _ => False) Wc W') (by kernel_rfl) ?_
        change wpAnyH _ _ _ _ _ _ _ _ (World.drew _)
        refine takeYH (i := 0) (d := 81) (v := .slice (some ⟨gb, 0, none⟩) nh nh) rfl rfl (by kernel_rfl) (by kernel_rfl) (by kernel_rfl) (fun _ _ _ h => h) (Or.inl ⟨by rfl, fun W hW => ?_⟩) hS ?_
        · (go_simp)
        simp only [Act.put, List.setIfInBounds_toArray, List.set_cons_zero, List.set_cons_succ]
        refine takeYH (i := 1) (d := 82) (v := .string (strOfNums (X 0))) rfl rfl (by kernel_rfl) (by kernel_rfl) (by kernel_rfl) (fun _ _ _ h => h) (Or.inl ⟨by rfl, fun W hW => ?_⟩) hS ?_
        · have x0 := conv_atH (Lib.later lib1 hW)
          (go_simp)
        simp only [Act.put, List.setIfInBounds_toArray, List.set_cons_zero, List.set_cons_succ]
        refine takeYH (i := 2) (d := 83) (v := .slice (some ⟨gh, 0, none⟩) 2 2) rfl rfl (by kernel_rfl) (by kernel_rfl) (by kernel_rfl) (fun _ _ _ h => h) (Or.inl ⟨by rfl, fun W hW => ?_⟩) hS ?_
        · (go_simp)
        simp only [Act.put, List.setIfInBounds_toArray, List.set_cons_zero, List.set_cons_succ]
        refine takeYH (i := 3) (d := 84) (v := .int .i64 0) rfl rfl (by kernel_rfl) (by kernel_rfl) (by kernel_rfl) (fun _ _ _ h => h) (Or.inl ⟨by rfl, fun W hW => ?_⟩) hS ?_
        · (go_simp)
        simp only [Act.put, List.setIfInBounds_toArray, List.set_cons_zero, List.set_cons_succ]
        refine takeYH (i := 4) (d := 85) (v := .pointer (some ⟨gh, 0, none⟩)) rfl rfl (by kernel_rfl) (by kernel_rfl) (by kernel_rfl) (fun _ _ _ h => h) (Or.inl ⟨by rfl, fun W hW => ?_⟩) hS ?_
        · (go_simp)
        simp only [Act.put, List.setIfInBounds_toArray, List.set_cons_zero, List.set_cons_succ]
        refine takeYH (i := 5) (d := 86) (v := .slice ah nh ch) rfl rfl (by kernel_rfl) (by kernel_rfl) (by kernel_rfl) (fun _ _ _ h => h) (Or.inl ⟨by rfl, fun W hW => ?_⟩) hS ?_
        · have x0 := Kept.cell (F := fun _ => False) (w := Wc) (w' := W) hW c5 (fun f => f)
          (go_simp)
        simp only [Act.put, List.setIfInBounds_toArray, List.set_cons_zero, List.set_cons_succ]
        refine takeYH (i := 6) (d := 87) (v := .string (strOfNums (X 0))) rfl rfl (by kernel_rfl) (by kernel_rfl) (by kernel_rfl) (fun _ _ _ h => h) (Or.inl ⟨by rfl, fun W hW => ?_⟩) hS ?_
        · have x0 := conv_atH (Lib.later lib0 hW)
          (go_simp)
        simp only [Act.put, List.setIfInBounds_toArray, List.set_cons_zero, List.set_cons_succ]
        refine takeYH (i := 7) (d := 88) (v := .bool false) rfl rfl (by kernel_rfl) (by kernel_rfl) (by kernel_rfl) (fun _ _ _ h => h) (Or.inl ⟨by rfl, fun W hW => ?_⟩) hS ?_
        · (go_simp)
        simp only [Act.put, List.setIfInBounds_toArray, List.set_cons_zero, List.set_cons_succ]

        refine wpAnyH_done (by kernel_rfl) ?_ _
        have ws2 := ws1.later hS
        have lib2 := lib1.later hS
        generalize Wc.drew = Wd at ws2 lib2 ⊢
        have BB := hideH (book_bytes 0 kb nV vB V (some ⟨gb, 0, none⟩) nh nh Wd (ws2.bk trivial) HNV.out (by omega) (Nat.zero_le _))
        have HW2 := hideH ws2
        have HL2 := hideH lib2
        have HOWN := hideH own1
        clear ws1 ws2 lib1 lib2 lib0 c5 hS own1
        go_wp2_with (go_at_call 9; refine StpH.go ?_)
        refine ⟨?_⟩
        refine BB.out.mono ?_
        clear BB
        rintro e We ⟨rfl, vB', hb, ke, nw⟩
        have ws3 := HW2.out.book ke hb nw HL2.out (fun q e => by have e2 : gb = q := Option.some.inj e; rw [← e2]; exact HOWN.out) HWb.out.ln
        generalize newK Wd.heap.size 5 o1 = o3 at ws3
        have kw0 := Kept.alloc We (.cells #[.slice (some ⟨gb, 0, none⟩) nh nh] 26)
        have hrw := kw0.row (ws3.kr trivial) (fun _ _ f => f)
        rw [← HNV.out] at hrw
        have HRW := hideH hrw
        have HCW := hideH (one_new We (.slice (some ⟨gb, 0, none⟩) nh nh) 26)
        have HKW := hideH kw0
        have HW3 := hideH ws3
        obtain ⟨j0, hj0, hy0, hy1, hy2⟩ := info_parts Tryd.infoSlH
        have HJ := hideH (And.intro hj0 (And.intro hy0 (And.intro hy1 hy2)))
        clear hb ke nw ws3 kw0 hrw hj0 hy0 hy1 hy2 HW2 HL2 HOWN
        go_wp2_with (at_builtin; refine StpH.go ?_)
        refine ⟨?_⟩
        refine wpList_append_own_at _ rfl _ _ 27 rfl 0 26 j0 (.slice none 0 0) 1 24 Tryd.underlying27 HJ.out.1 HJ.out.2.1 HJ.out.2.2.1 HJ.out.2.2.2 rfl (by decide) (.slice aK nV cK) nV V rfl HRW.out ⟨We.heap.size, 0, none⟩ 1 1 [.slice (some ⟨gb, 0, none⟩) nh nh] rfl rfl HCW.out (by intro u hu; simp only [List.mem_singleton] at hu; rw [hu]; rfl) (by unfold maxLen; omega) (by omega) (Nat.zero_le _) ?_
        intro vX Wf ho1 hg1 _ hat
        have hk1 : Kept (fun q => (Value.slice aK nV cK).ownBlock = some q) We Wf := (HKW.out.mono (fun _ f => f.elim)).trans (Kept.grown hg1) (fun i hi => .inl hi)
        have hnew : ∀ q, vX.ownBlock = some q → (Value.slice aK nV cK).ownBlock = some q ∨ We.heap.size ≤ q := fun q hq => by
          rcases hat with e | e
          · exact .inl (by rw [← e]; exact hq)
          · rw [e] at hq
            have e2 := Option.some.inj hq
            have e3 := size_allocK We (.cells #[.slice (some ⟨gb, 0, none⟩) nh nh] 26)
            exact .inr (by omega)
        obtain ⟨aX, cX, eX⟩ := row_shapeH ho1
        subst eX
        have eVl : (V ++ [Value.slice (some ⟨gb, 0, none⟩) nh nh]).length = nV + 1 := by rw [List.length_append, List.length_singleton, HNV.out]
        have ws4 := HW3.out.keep hk1 (by rw [eVl]; exact ho1) hnew
        generalize newK We.heap.size 6 o3 = o4 at ws4
        have lib4 := ws4.last trivial HWb.out.ln
        have cvf := conv_atH lib4
        have kw0 := Kept.alloc Wf (.cells #[.string (strOfNums (X 0))] 9)
        have hrw := kw0.row (ws4.tr trivial) (fun _ _ f => f)
        rw [HWb.out.ln, ← HNV.out] at hrw
        have HRW := hideH hrw
        have HCW := hideH (one_new Wf (.string (strOfNums (X 0))) 9)
        have HKW := hideH kw0
        have HW4 := hideH ws4
        have HEV := hideH eVl
        obtain ⟨j1, hj1, hy0, hy1, hy2⟩ := info_parts Tryd.infoStK
        have HJ1 := hideH (And.intro hj1 (And.intro hy0 (And.intro hy1 hy2)))
        clear ho1 hg1 hat hk1 hnew eVl ws4 lib4 kw0 hrw hj1 hy0 hy1 hy2 HW3 HJ
        go_wp2_with (at_builtin; refine StpH.go ?_)
        refine ⟨?_⟩
        refine wpList_append_own_at _ rfl _ _ 33 rfl 0 9 j1 (.string ⟨#[]⟩) 1 16 Tryd.underlying33 HJ1.out.1 HJ1.out.2.1 HJ1.out.2.2.1 HJ1.out.2.2.2 rfl (by decide) (.slice aT nV cT) nV (Ls.map (fun l => Value.string (strOfNums l))) rfl HRW.out ⟨Wf.heap.size, 0, none⟩ 1 1 [.string (strOfNums (X 0))] rfl rfl HCW.out (by intro u hu; simp only [List.mem_singleton] at hu; rw [hu]; rfl) (by unfold maxLen; omega) (by omega) (Nat.zero_le _) ?_
        intro vY Wg ho1 hg1 _ hat
        have hk1 : Kept (fun q => (Value.slice aT nV cT).ownBlock = some q) Wf Wg := (HKW.out.mono (fun _ f => f.elim)).trans (Kept.grown hg1) (fun i hi => .inl hi)
        have hnew : ∀ q, vY.ownBlock = some q → (Value.slice aT nV cT).ownBlock = some q ∨ Wf.heap.size ≤ q := fun q hq => by
          rcases hat with e | e
          · exact .inl (by rw [← e]; exact hq)
          · rw [e] at hq
            have e2 := Option.some.inj hq
            have e3 := size_allocK Wf (.cells #[.string (strOfNums (X 0))] 9)
            exact .inr (by omega)
        obtain ⟨aY, cY, eY⟩ := row_shapeH ho1
        subst eY
        have eLl : (Ls ++ [X 0]).length = nV + 1 := by rw [List.length_append, List.length_singleton, HWb.out.ln, HNV.out]
        have ws5 := HW4.out.want (l := X 0) hk1 (by rw [eLl, List.map_append]; exact ho1) hnew
        generalize newK Wf.heap.size 7 o4 = o5 at ws5
        have HF : Hid (Wl w Wg S (k + 1) o5 bW vW X gh vh kb vB' (.slice aX (nV + 1) cX) (.slice aY (nV + 1) cY) (V ++ [.slice (some ⟨gb, 0, none⟩) nh nh]) (Ls ++ [X 0])) := hideH ⟨ws5, by rw [eLl, HEV.out], by rw [HEV.out]; have := HWb.out.vn; have := HNV.out; omega, (HWb.out.next HKSl.out).xn, fun l hl => by
          rcases List.mem_append.1 hl with q | q
          · exact HWb.out.ll l q
          · simp only [List.mem_singleton] at q
            rw [q]
            exact HWb.out.long 0 (by decide)⟩
        clear ho1 hg1 hat hk1 hnew eLl ws5 cvf HW4 HJ1 HRW HCW HKW HWb HEV
        go_wp2_with fail
        go_roundw
        case rel => exact ⟨k + 1, _, _, _, _, _, _, _, _, _, by omega, rfl, rfl, by go_num, HF⟩
        case measure => simp [intOf]; omega
      by_cases q13 : kd = 13
      · subst q13

        have C := hideH (reset_any (bW 0) (vW 0) (X 0) Wb (HWb.out.ws.wr 0 (by decide) trivial))
        go_wp2_with (go_at_call 10; refine StpH.go ?_)
        rw [← hWb]
        refine ⟨?_⟩
        refine C.out.mono ?_
        clear C w0 w1 w2 w3 w4 w5 w6 w7 hWb
        rintro e Wc ⟨rfl, hw, st⟩
        obtain ⟨o1, ws1, -, -⟩ := HWb.out.ws.write 0 (by decide) st hw
        have ka := Kept.alloc Wc (.cells #[] 5)
        have kF : Kept (fun q => (vh 0).ownBlock = some q) Wc (Wc.alloc (.cells #[] 5)) := ka.mono (fun _ f => f.elim)
        have ws2 := ws1.hold 0 (by decide) (v' := .slice (some ⟨Wc.heap.size, 0, none⟩) 0 0) (X' := []) kF (fun q e => .inr (by have e2 : Wc.heap.size = q := Option.some.inj e; omega)) (row_newK Wc 5)
        obtain ⟨y0, y1, f0, f1⟩ := ws_store 0 (by decide) ws1 kF
        have HF := hideH (HWb.out.upd 0 HKSl.out (Nat.zero_le _) ws2)
        clear ws1 ws2 ka kF st hw HWb HLIB HCELL
        go_wp2_with fail
        go_roundw
        case rel => exact ⟨k + 1, _, _, _, _, _, _, _, _, _, by omega, rfl, rfl, by go_num, HF⟩
        case measure => simp [intOf]; omega
      have d11 : (kd == 11) = false := by rw [beq_eq_false_iff_ne]; exact q11
      have d12 : (kd == 12) = false := by rw [beq_eq_false_iff_ne]; exact q12
      have d13 : (kd == 13) = false := by rw [beq_eq_false_iff_ne]; exact q13
      obtain ⟨Y, hY⟩ : ∃ Y, Y = kout ⟨kd, false, nn, U, ii, ba, bc, B, s, la, lc, L⟩ := ⟨_, rfl⟩
      have hYl := HKS.out
      rw [← hY] at hYl
      have hYt : (X 0 ++ Y).length ≤ 32 * total (S.take (k + 1)) := by
        rw [List.length_append]
        have h8 := HWb.out.xn 0 (by decide)
        have h9 := HKT.out
        omega
      have HYT := hideH hYt
      have C : Hid (Calls Tryd.prog 11 #[.pointer (some ⟨bW 0, 0, none⟩), .agg #[.int .i64 kd, .bool false, .int .i64 nn, .int .u64 (U : Int), .int .i64 ii, .slice ba nB bc, .string s, .slice la nL lc]] Wb fun e w' => ∃ va, e = .returned (.tuple #[va, .bool true]) ∧ PutK Wb w' (bW 0) (vW 0) (X 0) Y va) := hideH (by
        rw [HNB.out, HNL.out, hY]
        refine put_allK ⟨kd, false, nn, U, ii, ba, bc, B, s, la, lc, L⟩ (bW 0) (vW 0) (X 0) ad Wb (HWb.out.ws.wr 0 (by decide) trivial) (by rw [← HNH.out]; omega) (HA.out.later HWb.out.ws.kp) (fun hne a ea f => ?_) (fun W2 k2 => HE.out.kept (HWb.out.ws.kp.trans k2 (fun q f => .inr (HWb.out.ws.old (by rw [HWb.out.ws.ow 0 (by decide) trivial q f]; decide)))))
        obtain ⟨b2, off2, e2, hc2⟩ := HA.out.op.op.b hne
        have e3 : a = ⟨b2, off2, none⟩ := Option.some.inj (ea.symm.trans e2)
        have hl := World.block_lt_of_cell? w _ (hc2 0 (List.length_pos_iff.2 hne))
        have ho := HWb.out.ws.old (k := b2) (by rw [HWb.out.ws.ow 0 (by decide) trivial b2 (by rw [e3] at f; exact f)]; decide)
        exact absurd hl (Nat.not_lt.2 ho))
      clear hY hYl hYt
      go_wp2_with (go_at_call 11; refine StpH.go ?_)
      rw [← hWb]
      refine ⟨?_⟩
      refine C.out.mono ?_
      clear C w0 w1 w2 w3 w4 w5 w6 w7 hWb
      rintro e Wc ⟨va, rfl, hP⟩
      obtain ⟨⟨v', hw, st, hf⟩, ow⟩ := hP
      obtain ⟨av, cv, ev, hvz, -⟩ := (Lib.of_own ow).shape
      obtain ⟨m, hm⟩ : ∃ m, m = Y.length := ⟨_, rfl⟩
      rw [← hm] at ev ow
      subst ev
      have hmb : nh + m ≤ 33554432 := by have h8 := HYT.out; rw [List.length_append, ← HNH.out, ← hm] at h8; omega
      obtain ⟨av', cv', ev', hbt, -⟩ := bytes_of_own ow
      simp only [Value.slice.injEq] at ev'
      obtain ⟨rfl, -, rfl⟩ := ev'
      obtain ⟨o1, ws1, -, -⟩ := HWb.out.ws.write 0 (by decide) st hw
      have hrow := ws1.hl 0 (by decide) trivial
      rw [HEH.out, ← HNH.out] at hrow
      have hcl := (ws_cell ws1 trivial).1
      rw [HEH.out] at hcl
      have HM := hideH hm
      have HG := hideH hrow
      have HB := hideH hbt
      have H0 : Hid (av = none → cv = 0) := hideH (fun e => (hvz e).2)
      have HW1 := hideH ws1
      clear hw st hf ow hvz hm hbt ws1 hrow HCELL HLIB
      go_wp2_with (at_builtin; refine StpH.go ?_)
      refine ⟨?_⟩
      refine wpList_catN rfl _ _ rfl (.slice ah nh ch) nh (X 0) Y rfl HG av m cv rfl HM HB H0 (by omega) (hideH (Nat.zero_le _)) ?_
      intro a' c' Wd HO1 HK1 HN1
      have kF : Kept (fun q => (vh 0).ownBlock = some q) Wc Wd := by rw [HEH.out]; exact HK1.out
      obtain ⟨y0, y1, f0, f1⟩ := ws_store 0 (by decide) HW1.out kF
      have ws2 := HW1.out.hold 0 (by decide) (v' := .slice a' (nh + m) c') (X' := X 0 ++ Y) kF (by rw [HEH.out]; exact HN1.out) (by have q := HO1.out; rw [show nh + m = (X 0 ++ Y).length by rw [List.length_append, ← HNH.out, ← HM.out]] at q ⊢; exact q)
      have HF := hideH (HWb.out.upd 0 HKSl.out HYT.out ws2)
      rw [HEH.out] at y0
      clear ws2 kF HO1 HK1 HN1 HW1 HG HB H0 hcl HWb
      go_wp2_with fail
      go_roundw
      case rel => exact ⟨k + 1, _, _, _, _, _, _, _, _, _, by omega, rfl, rfl, by go_num, HF⟩
      case measure => simp [intOf]; omega
    · have w0 : Wb.cell? ⟨Wa.heap.size, 0, none⟩ = some (.int .i64 kd) := by rw [cell_of_row _ _ 0 _ _ _ hrow]; rfl
      have w1 : Wb.cell? ⟨Wa.heap.size, 1, none⟩ = some (.bool true) := by rw [cell_of_row _ _ 1 _ _ _ hrow]; rfl
      have w2 : Wb.cell? ⟨Wa.heap.size, 2, none⟩ = some (.int .i64 nn) := by rw [cell_of_row _ _ 2 _ _ _ hrow]; rfl
      have w3 : Wb.cell? ⟨Wa.heap.size, 3, none⟩ = some (.int .u64 (U : Int)) := by rw [cell_of_row _ _ 3 _ _ _ hrow]; rfl
      have w4 : Wb.cell? ⟨Wa.heap.size, 4, none⟩ = some (.int .i64 ii) := by rw [cell_of_row _ _ 4 _ _ _ hrow]; rfl
      have w5 : Wb.cell? ⟨Wa.heap.size, 5, none⟩ = some (.slice ba nB bc) := by rw [cell_of_row _ _ 5 _ _ _ hrow]; rfl
      have w6 : Wb.cell? ⟨Wa.heap.size, 6, none⟩ = some (.string s) := by rw [cell_of_row _ _ 6 _ _ _ hrow]; rfl
      have w7 : Wb.cell? ⟨Wa.heap.size, 7, none⟩ = some (.slice la nL lc) := by rw [cell_of_row _ _ 7 _ _ _ hrow]; rfl
      obtain ⟨ah, ch, eh, hlib⟩ := HWb.out.held 1 (by decide)
      obtain ⟨nh, hnh⟩ : ∃ n, n = (X 1).length := ⟨_, rfl⟩
      have hnhb : nh ≤ 33554432 := by rw [hnh]; have := HWb.out.long 1 (by decide); omega
      rw [← hnh] at eh hlib
      have HNH := hideH hnh
      have HLIB := hideH hlib
      have HEH := hideH eh
      have hcell := (ws_cell HWb.out.ws trivial).2.1
      rw [eh] at hcell
      have HCELL := hideH hcell
      clear hnh hlib eh hrow kab hcell
      rw [hWb] at w0 w1 w2 w3 w4 w5 w6 w7
      by_cases q11 : kd = 11
      · subst q11

        have C : Hid (∀ W, Kept (fun _ => False) Wb W → Calls Tryd.prog 7 #[.pointer (some ⟨bW 1, 0, none⟩)] W fun e w' => e = .returned (.int .i64 nh) ∧ w' = W) := hideH (fun W kW => by rw [HNH.out]; exact wlen_any (bW 1) (vW 1) (X 1) W ((HWb.out.ws.wr 1 (by decide) trivial).kept kW (fun _ _ f => f)))
        have hS : Kept (fun _ => False) Wb Wb.drew := Kept.drew Wb
        go_wp2_with fail
        rw [← hWb]
        clear w0 w1 w2 w3 w4 w5 w6 w7 hWb
        refine wp_region_held (S := fun W' => W' = Wb.drew) (by kernel_rfl) ?_
        change wpAnyH _ _ _ _ _ _ _ _ (World.drew _)
        refine takeYH (i := 0) (d := 69) (v := .pointer (some ⟨bW 1, 0, none⟩)) rfl rfl (by kernel_rfl) (by kernel_rfl) (by kernel_rfl) (fun _ _ _ h => h) (Or.inl ⟨by rfl, fun W hW => ?_⟩) rfl ?_
        · (go_simp)
        simp only [Act.put, List.setIfInBounds_toArray, List.set_cons_zero, List.set_cons_succ]

        refine takeYH (i := 2) (d := 71) (v := .slice (some ⟨gh, 0, none⟩) 2 2) rfl rfl (by kernel_rfl) (by kernel_rfl) (by kernel_rfl) (fun _ _ _ h => h) (Or.inl ⟨by rfl, fun W hW => ?_⟩) rfl ?_
        · (go_simp)
        simp only [Act.put, List.setIfInBounds_toArray, List.set_cons_zero, List.set_cons_succ]
        refine takeYH (i := 3) (d := 72) (v := .int .i64 1) rfl rfl (by kernel_rfl) (by kernel_rfl) (by kernel_rfl) (fun _ _ _ h => h) (Or.inl ⟨by rfl, fun W hW => ?_⟩) rfl ?_
        · (go_simp)
        simp only [Act.put, List.setIfInBounds_toArray, List.set_cons_zero, List.set_cons_succ]
        refine takeYH (i := 4) (d := 73) (v := .pointer (some ⟨gh, 1, none⟩)) rfl rfl (by kernel_rfl) (by kernel_rfl) (by kernel_rfl) (fun _ _ _ h => h) (Or.inl ⟨by rfl, fun W hW => ?_⟩) rfl ?_
        · (go_simp)
        simp only [Act.put, List.setIfInBounds_toArray, List.set_cons_zero, List.set_cons_succ]

        refine takeYH (i := 5) (d := 74) (v := .slice ah nh ch) rfl rfl (by kernel_rfl) (by kernel_rfl) (by kernel_rfl) (fun _ _ _ h => h) (Or.inl ⟨by rfl, fun W hW => ?_⟩) rfl ?_
        · have x0 := hS.cell HCELL.out (fun f => f)
          rw [hW]
          (go_simp)
        simp only [Act.put, List.setIfInBounds_toArray, List.set_cons_zero, List.set_cons_succ]
        refine takeYH (i := 6) (d := 75) (v := .int .i64 nh) rfl rfl (by kernel_rfl) (by kernel_rfl) (by kernel_rfl) (fun _ _ _ h => h) (Or.inl ⟨by rfl, fun W hW => ?_⟩) rfl ?_
        · (go_simp)
        simp only [Act.put, List.setIfInBounds_toArray, List.set_cons_zero, List.set_cons_succ]

        refine wpAnyH_all (rs := [1]) (by kernel_rfl) (by simp) ?_
        intro i' hi'
        obtain rfl : i' = 1 := by simpa using hi'
        unfold wpOp
        go_simp
        first | refine (C.out Wb.drew hS).mono ?_ | refine Or.inl ((C.out Wb.drew hS).mono ?_)
        rintro e Wy ⟨rfl, rfl⟩
        first | refine ⟨rfl, ?_⟩ | skip
        refine takeYH (i := 7) (d := 76) (v := .bool false) rfl rfl (by kernel_rfl) (by kernel_rfl) (by kernel_rfl) (fun _ _ _ h => h) (Or.inl ⟨by rfl, fun W hW => ?_⟩) rfl ?_
        · (go_simp)
        simp only [Act.put, List.setIfInBounds_toArray, List.set_cons_zero, List.set_cons_succ]

        refine wpAnyH_done (by kernel_rfl) ?_ _
        have HF := hideH ((HWb.out.later hS).next HKSl.out)
        clear HWb HCELL HLIB HEH C hS
        go_wp2_with fail
        go_roundw
        case rel => exact ⟨k + 1, _, _, _, _, _, _, _, _, _, by omega, rfl, rfl, by go_num, HF⟩
        case measure => simp [intOf]; omega
      by_cases q12 : kd = 12
      · subst q12

        obtain ⟨aK, cK, eK⟩ := row_shapeH (HWb.out.ws.kr trivial)
        obtain ⟨aT, cT, eT⟩ := row_shapeH (HWb.out.ws.tr trivial)
        obtain ⟨nV, hnV⟩ : ∃ n, n = V.length := ⟨_, rfl⟩
        rw [HWb.out.ln, ← hnV] at eT
        rw [← hnV] at eK
        subst eK eT
        have hnVb : nV ≤ 1048576 := by rw [hnV]; have := HWb.out.vn; omega
        have HNV := hideH hnV
        clear hnV
        have C : Hid (Calls Tryd.prog 8 #[.pointer (some ⟨bW 1, 0, none⟩)] Wb fun e w' => e = .returned (.slice (some ⟨Wb.heap.size, 0, none⟩) nh nh) ∧ w'.ownsRow Wb.heap.size 5 1 (.slice (some ⟨Wb.heap.size, 0, none⟩) nh nh) nh (bs (X 1)) ∧ Kept (fun _ => False) Wb w') := hideH (by rw [HNH.out]; exact bytes_any (bW 1) (vW 1) (X 1) Wb (HWb.out.ws.wr 1 (by decide) trivial) (by rw [← HNH.out]; omega))
        go_wp2_with (go_at_call 8; refine StpH.go ?_)
        rw [← hWb]
        refine ⟨?_⟩
        refine C.out.mono ?_
        clear C w0 w1 w2 w3 w4 w5 w6 w7 hWb
        rintro e Wc ⟨rfl, hrb, kc⟩
        have ws1 := HWb.out.ws.fresh kc (10 + V.length)
        have lib1 : Lib Wc (.slice (some ⟨Wb.heap.size, 0, none⟩) nh nh) (X 1) := Lib.of_own hrb
        have own1 : newK Wb.heap.size (10 + V.length) o Wb.heap.size = 10 + V.length := newK_new (Nat.le_refl _)
        have c5 := kc.cell HCELL.out (fun f => f)
        have lib0 := HLIB.out.later kc
        generalize newK Wb.heap.size (10 + V.length) o = o1 at ws1 own1
        generalize Wb.heap.size = gb at lib1 own1 ⊢
        clear hrb kc HCELL HLIB
        go_wp2_with fail
        have hS : Kept (fun _ => False) Wc Wc.drew := Kept.drew Wc
        refine wp_region_held (S := fun W' => Kept (fun _ => False) Wc W') (by kernel_rfl) ?_
        change wpAnyH _ _ _ _ _ _ _ _ (World.drew _)
        refine takeYH (i := 0) (d := 81) (v := .slice (some ⟨gb, 0, none⟩) nh nh) rfl rfl (by kernel_rfl) (by kernel_rfl) (by kernel_rfl) (fun _ _ _ h => h) (Or.inl ⟨by rfl, fun W hW => ?_⟩) hS ?_
        · (go_simp)
        simp only [Act.put, List.setIfInBounds_toArray, List.set_cons_zero, List.set_cons_succ]
        refine takeYH (i := 1) (d := 82) (v := .string (strOfNums (X 1))) rfl rfl (by kernel_rfl) (by kernel_rfl) (by kernel_rfl) (fun _ _ _ h => h) (Or.inl ⟨by rfl, fun W hW => ?_⟩) hS ?_
        · have x0 := conv_atH (Lib.later lib1 hW)
          (go_simp)
        simp only [Act.put, List.setIfInBounds_toArray, List.set_cons_zero, List.set_cons_succ]
        refine takeYH (i := 2) (d := 83) (v := .slice (some ⟨gh, 0, none⟩) 2 2) rfl rfl (by kernel_rfl) (by kernel_rfl) (by kernel_rfl) (fun _ _ _ h => h) (Or.inl ⟨by rfl, fun W hW => ?_⟩) hS ?_
        · (go_simp)
        simp only [Act.put, List.setIfInBounds_toArray, List.set_cons_zero, List.set_cons_succ]
        refine takeYH (i := 3) (d := 84) (v := .int .i64 1) rfl rfl (by kernel_rfl) (by kernel_rfl) (by kernel_rfl) (fun _ _ _ h => h) (Or.inl ⟨by rfl, fun W hW => ?_⟩) hS ?_
        · (go_simp)
        simp only [Act.put, List.setIfInBounds_toArray, List.set_cons_zero, List.set_cons_succ]
        refine takeYH (i := 4) (d := 85) (v := .pointer (some ⟨gh, 1, none⟩)) rfl rfl (by kernel_rfl) (by kernel_rfl) (by kernel_rfl) (fun _ _ _ h => h) (Or.inl ⟨by rfl, fun W hW => ?_⟩) hS ?_
        · (go_simp)
        simp only [Act.put, List.setIfInBounds_toArray, List.set_cons_zero, List.set_cons_succ]
        refine takeYH (i := 5) (d := 86) (v := .slice ah nh ch) rfl rfl (by kernel_rfl) (by kernel_rfl) (by kernel_rfl) (fun _ _ _ h => h) (Or.inl ⟨by rfl, fun W hW => ?_⟩) hS ?_
        · have x0 := Kept.cell (F := fun _ => False) (w := Wc) (w' := W) hW c5 (fun f => f)
          (go_simp)
        simp only [Act.put, List.setIfInBounds_toArray, List.set_cons_zero, List.set_cons_succ]
        refine takeYH (i := 6) (d := 87) (v := .string (strOfNums (X 1))) rfl rfl (by kernel_rfl) (by kernel_rfl) (by kernel_rfl) (fun _ _ _ h => h) (Or.inl ⟨by rfl, fun W hW => ?_⟩) hS ?_
        · have x0 := conv_atH (Lib.later lib0 hW)
          (go_simp)
        simp only [Act.put, List.setIfInBounds_toArray, List.set_cons_zero, List.set_cons_succ]
        refine takeYH (i := 7) (d := 88) (v := .bool false) rfl rfl (by kernel_rfl) (by kernel_rfl) (by kernel_rfl) (fun _ _ _ h => h) (Or.inl ⟨by rfl, fun W hW => ?_⟩) hS ?_
        · (go_simp)
        simp only [Act.put, List.setIfInBounds_toArray, List.set_cons_zero, List.set_cons_succ]

        refine wpAnyH_done (by kernel_rfl) ?_ _
        have ws2 := ws1.later hS
        have lib2 := lib1.later hS
        generalize Wc.drew = Wd at ws2 lib2 ⊢
        have BB := hideH (book_bytes 0 kb nV vB V (some ⟨gb, 0, none⟩) nh nh Wd (ws2.bk trivial) HNV.out (by omega) (Nat.zero_le _))
        have HW2 := hideH ws2
        have HL2 := hideH lib2
        have HOWN := hideH own1
        clear ws1 ws2 lib1 lib2 lib0 c5 hS own1
        go_wp2_with (go_at_call 9; refine StpH.go ?_)
        refine ⟨?_⟩
        refine BB.out.mono ?_
        clear BB
        rintro e We ⟨rfl, vB', hb, ke, nw⟩
        have ws3 := HW2.out.book ke hb nw HL2.out (fun q e => by have e2 : gb = q := Option.some.inj e; rw [← e2]; exact HOWN.out) HWb.out.ln
        generalize newK Wd.heap.size 5 o1 = o3 at ws3
        have kw0 := Kept.alloc We (.cells #[.slice (some ⟨gb, 0, none⟩) nh nh] 26)
        have hrw := kw0.row (ws3.kr trivial) (fun _ _ f => f)
        rw [← HNV.out] at hrw
        have HRW := hideH hrw
        have HCW := hideH (one_new We (.slice (some ⟨gb, 0, none⟩) nh nh) 26)
        have HKW := hideH kw0
        have HW3 := hideH ws3
        obtain ⟨j0, hj0, hy0, hy1, hy2⟩ := info_parts Tryd.infoSlH
        have HJ := hideH (And.intro hj0 (And.intro hy0 (And.intro hy1 hy2)))
        clear hb ke nw ws3 kw0 hrw hj0 hy0 hy1 hy2 HW2 HL2 HOWN
        go_wp2_with (at_builtin; refine StpH.go ?_)
        refine ⟨?_⟩
        refine wpList_append_own_at _ rfl _ _ 27 rfl 0 26 j0 (.slice none 0 0) 1 24 Tryd.underlying27 HJ.out.1 HJ.out.2.1 HJ.out.2.2.1 HJ.out.2.2.2 rfl (by decide) (.slice aK nV cK) nV V rfl HRW.out ⟨We.heap.size, 0, none⟩ 1 1 [.slice (some ⟨gb, 0, none⟩) nh nh] rfl rfl HCW.out (by intro u hu; simp only [List.mem_singleton] at hu; rw [hu]; rfl) (by unfold maxLen; omega) (by omega) (Nat.zero_le _) ?_
        intro vX Wf ho1 hg1 _ hat
        have hk1 : Kept (fun q => (Value.slice aK nV cK).ownBlock = some q) We Wf := (HKW.out.mono (fun _ f => f.elim)).trans (Kept.grown hg1) (fun i hi => .inl hi)
        have hnew : ∀ q, vX.ownBlock = some q → (Value.slice aK nV cK).ownBlock = some q ∨ We.heap.size ≤ q := fun q hq => by
          rcases hat with e | e
          · exact .inl (by rw [← e]; exact hq)
          · rw [e] at hq
            have e2 := Option.some.inj hq
            have e3 := size_allocK We (.cells #[.slice (some ⟨gb, 0, none⟩) nh nh] 26)
            exact .inr (by omega)
        obtain ⟨aX, cX, eX⟩ := row_shapeH ho1
        subst eX
        have eVl : (V ++ [Value.slice (some ⟨gb, 0, none⟩) nh nh]).length = nV + 1 := by rw [List.length_append, List.length_singleton, HNV.out]
        have ws4 := HW3.out.keep hk1 (by rw [eVl]; exact ho1) hnew
        generalize newK We.heap.size 6 o3 = o4 at ws4
        have lib4 := ws4.last trivial HWb.out.ln
        have cvf := conv_atH lib4
        have kw0 := Kept.alloc Wf (.cells #[.string (strOfNums (X 1))] 9)
        have hrw := kw0.row (ws4.tr trivial) (fun _ _ f => f)
        rw [HWb.out.ln, ← HNV.out] at hrw
        have HRW := hideH hrw
        have HCW := hideH (one_new Wf (.string (strOfNums (X 1))) 9)
        have HKW := hideH kw0
        have HW4 := hideH ws4
        have HEV := hideH eVl
        obtain ⟨j1, hj1, hy0, hy1, hy2⟩ := info_parts Tryd.infoStK
        have HJ1 := hideH (And.intro hj1 (And.intro hy0 (And.intro hy1 hy2)))
        clear ho1 hg1 hat hk1 hnew eVl ws4 lib4 kw0 hrw hj1 hy0 hy1 hy2 HW3 HJ
        go_wp2_with (at_builtin; refine StpH.go ?_)
        refine ⟨?_⟩
        refine wpList_append_own_at _ rfl _ _ 33 rfl 0 9 j1 (.string ⟨#[]⟩) 1 16 Tryd.underlying33 HJ1.out.1 HJ1.out.2.1 HJ1.out.2.2.1 HJ1.out.2.2.2 rfl (by decide) (.slice aT nV cT) nV (Ls.map (fun l => Value.string (strOfNums l))) rfl HRW.out ⟨Wf.heap.size, 0, none⟩ 1 1 [.string (strOfNums (X 1))] rfl rfl HCW.out (by intro u hu; simp only [List.mem_singleton] at hu; rw [hu]; rfl) (by unfold maxLen; omega) (by omega) (Nat.zero_le _) ?_
        intro vY Wg ho1 hg1 _ hat
        have hk1 : Kept (fun q => (Value.slice aT nV cT).ownBlock = some q) Wf Wg := (HKW.out.mono (fun _ f => f.elim)).trans (Kept.grown hg1) (fun i hi => .inl hi)
        have hnew : ∀ q, vY.ownBlock = some q → (Value.slice aT nV cT).ownBlock = some q ∨ Wf.heap.size ≤ q := fun q hq => by
          rcases hat with e | e
          · exact .inl (by rw [← e]; exact hq)
          · rw [e] at hq
            have e2 := Option.some.inj hq
            have e3 := size_allocK Wf (.cells #[.string (strOfNums (X 1))] 9)
            exact .inr (by omega)
        obtain ⟨aY, cY, eY⟩ := row_shapeH ho1
        subst eY
        have eLl : (Ls ++ [X 1]).length = nV + 1 := by rw [List.length_append, List.length_singleton, HWb.out.ln, HNV.out]
        have ws5 := HW4.out.want (l := X 1) hk1 (by rw [eLl, List.map_append]; exact ho1) hnew
        generalize newK Wf.heap.size 7 o4 = o5 at ws5
        have HF : Hid (Wl w Wg S (k + 1) o5 bW vW X gh vh kb vB' (.slice aX (nV + 1) cX) (.slice aY (nV + 1) cY) (V ++ [.slice (some ⟨gb, 0, none⟩) nh nh]) (Ls ++ [X 1])) := hideH ⟨ws5, by rw [eLl, HEV.out], by rw [HEV.out]; have := HWb.out.vn; have := HNV.out; omega, (HWb.out.next HKSl.out).xn, fun l hl => by
          rcases List.mem_append.1 hl with q | q
          · exact HWb.out.ll l q
          · simp only [List.mem_singleton] at q
            rw [q]
            exact HWb.out.long 1 (by decide)⟩
        clear ho1 hg1 hat hk1 hnew eLl ws5 cvf HW4 HJ1 HRW HCW HKW HWb HEV
        go_wp2_with fail
        go_roundw
        case rel => exact ⟨k + 1, _, _, _, _, _, _, _, _, _, by omega, rfl, rfl, by go_num, HF⟩
        case measure => simp [intOf]; omega
      by_cases q13 : kd = 13
      · subst q13

        have C := hideH (reset_any (bW 1) (vW 1) (X 1) Wb (HWb.out.ws.wr 1 (by decide) trivial))
        go_wp2_with (go_at_call 10; refine StpH.go ?_)
        rw [← hWb]
        refine ⟨?_⟩
        refine C.out.mono ?_
        clear C w0 w1 w2 w3 w4 w5 w6 w7 hWb
        rintro e Wc ⟨rfl, hw, st⟩
        obtain ⟨o1, ws1, -, -⟩ := HWb.out.ws.write 1 (by decide) st hw
        have ka := Kept.alloc Wc (.cells #[] 5)
        have kF : Kept (fun q => (vh 1).ownBlock = some q) Wc (Wc.alloc (.cells #[] 5)) := ka.mono (fun _ f => f.elim)
        have ws2 := ws1.hold 1 (by decide) (v' := .slice (some ⟨Wc.heap.size, 0, none⟩) 0 0) (X' := []) kF (fun q e => .inr (by have e2 : Wc.heap.size = q := Option.some.inj e; omega)) (row_newK Wc 5)
        obtain ⟨y0, y1, f0, f1⟩ := ws_store 1 (by decide) ws1 kF
        have HF := hideH (HWb.out.upd 1 HKSl.out (Nat.zero_le _) ws2)
        clear ws1 ws2 ka kF st hw HWb HLIB HCELL
        go_wp2_with fail
        go_roundw
        case rel => exact ⟨k + 1, _, _, _, _, _, _, _, _, _, by omega, rfl, rfl, by go_num, HF⟩
        case measure => simp [intOf]; omega
      have d11 : (kd == 11) = false := by rw [beq_eq_false_iff_ne]; exact q11
      have d12 : (kd == 12) = false := by rw [beq_eq_false_iff_ne]; exact q12
      have d13 : (kd == 13) = false := by rw [beq_eq_false_iff_ne]; exact q13
      obtain ⟨Y, hY⟩ : ∃ Y, Y = kout ⟨kd, true, nn, U, ii, ba, bc, B, s, la, lc, L⟩ := ⟨_, rfl⟩
      have hYl := HKS.out
      rw [← hY] at hYl
      have hYt : (X 1 ++ Y).length ≤ 32 * total (S.take (k + 1)) := by
        rw [List.length_append]
        have h8 := HWb.out.xn 1 (by decide)
        have h9 := HKT.out
        omega
      have HYT := hideH hYt
      have C : Hid (Calls Tryd.prog 11 #[.pointer (some ⟨bW 1, 0, none⟩), .agg #[.int .i64 kd, .bool true, .int .i64 nn, .int .u64 (U : Int), .int .i64 ii, .slice ba nB bc, .string s, .slice la nL lc]] Wb fun e w' => ∃ va, e = .returned (.tuple #[va, .bool true]) ∧ PutK Wb w' (bW 1) (vW 1) (X 1) Y va) := hideH (by
        rw [HNB.out, HNL.out, hY]
        refine put_allK ⟨kd, true, nn, U, ii, ba, bc, B, s, la, lc, L⟩ (bW 1) (vW 1) (X 1) ad Wb (HWb.out.ws.wr 1 (by decide) trivial) (by rw [← HNH.out]; omega) (HA.out.later HWb.out.ws.kp) (fun hne a ea f => ?_) (fun W2 k2 => HE.out.kept (HWb.out.ws.kp.trans k2 (fun q f => .inr (HWb.out.ws.old (by rw [HWb.out.ws.ow 1 (by decide) trivial q f]; decide)))))
        obtain ⟨b2, off2, e2, hc2⟩ := HA.out.op.op.b hne
        have e3 : a = ⟨b2, off2, none⟩ := Option.some.inj (ea.symm.trans e2)
        have hl := World.block_lt_of_cell? w _ (hc2 0 (List.length_pos_iff.2 hne))
        have ho := HWb.out.ws.old (k := b2) (by rw [HWb.out.ws.ow 1 (by decide) trivial b2 (by rw [e3] at f; exact f)]; decide)
        exact absurd hl (Nat.not_lt.2 ho))
      clear hY hYl hYt
      go_wp2_with (go_at_call 11; refine StpH.go ?_)
      rw [← hWb]
      refine ⟨?_⟩
      refine C.out.mono ?_
      clear C w0 w1 w2 w3 w4 w5 w6 w7 hWb
      rintro e Wc ⟨va, rfl, hP⟩
      obtain ⟨⟨v', hw, st, hf⟩, ow⟩ := hP
      obtain ⟨av, cv, ev, hvz, -⟩ := (Lib.of_own ow).shape
      obtain ⟨m, hm⟩ : ∃ m, m = Y.length := ⟨_, rfl⟩
      rw [← hm] at ev ow
      subst ev
      have hmb : nh + m ≤ 33554432 := by have h8 := HYT.out; rw [List.length_append, ← HNH.out, ← hm] at h8; omega
      obtain ⟨av', cv', ev', hbt, -⟩ := bytes_of_own ow
      simp only [Value.slice.injEq] at ev'
      obtain ⟨rfl, -, rfl⟩ := ev'
      obtain ⟨o1, ws1, -, -⟩ := HWb.out.ws.write 1 (by decide) st hw
      have hrow := ws1.hl 1 (by decide) trivial
      rw [HEH.out, ← HNH.out] at hrow
      have hcl := (ws_cell ws1 trivial).2.1
      rw [HEH.out] at hcl
      have HM := hideH hm
      have HG := hideH hrow
      have HB := hideH hbt
      have H0 : Hid (av = none → cv = 0) := hideH (fun e => (hvz e).2)
      have HW1 := hideH ws1
      clear hw st hf ow hvz hm hbt ws1 hrow HCELL HLIB
      go_wp2_with (at_builtin; refine StpH.go ?_)
      refine ⟨?_⟩
      refine wpList_catN rfl _ _ rfl (.slice ah nh ch) nh (X 1) Y rfl HG av m cv rfl HM HB H0 (by omega) (hideH (Nat.zero_le _)) ?_
      intro a' c' Wd HO1 HK1 HN1
      have kF : Kept (fun q => (vh 1).ownBlock = some q) Wc Wd := by rw [HEH.out]; exact HK1.out
      obtain ⟨y0, y1, f0, f1⟩ := ws_store 1 (by decide) HW1.out kF
      have ws2 := HW1.out.hold 1 (by decide) (v' := .slice a' (nh + m) c') (X' := X 1 ++ Y) kF (by rw [HEH.out]; exact HN1.out) (by have q := HO1.out; rw [show nh + m = (X 1 ++ Y).length by rw [List.length_append, ← HNH.out, ← HM.out]] at q ⊢; exact q)
      have HF := hideH (HWb.out.upd 1 HKSl.out HYT.out ws2)
      rw [HEH.out] at y1
      clear ws2 kF HO1 HK1 HN1 HW1 HG HB H0 hcl HWb
      go_wp2_with fail
      go_roundw
      case rel => exact ⟨k + 1, _, _, _, _, _, _, _, _, _, by omega, rfl, rfl, by go_num, HF⟩
      case measure => simp [intOf]; omega
  · obtain rfl : k = N := by omega
    have hiN : ¬ (k : Int) < (k : Int) := by omega
    obtain ⟨aK, cK, eK⟩ := row_shapeH (HW.out.ws.kr trivial)
    obtain ⟨aT, cT, eT⟩ := row_shapeH (HW.out.ws.tr trivial)
    obtain ⟨nV, hnV⟩ : ∃ n, n = V.length := ⟨_, rfl⟩
    rw [HW.out.ln, ← hnV] at eT
    rw [← hnV] at eK
    subst eK eT
    have hnVb : nV ≤ 1048576 := by rw [hnV]; have := HW.out.vn; omega
    have HNV := hideH hnV
    clear hnV
    go_wp2_with fail
    go_loopw [112] (fun s112 wr => ∃ (j : Nat), j ≤ nV ∧ s112 = .int .i64 j ∧ Hid (Wl w wr S k o bW vW X gh vh kb vB (.slice aK nV cK) (.slice aT nV cT) V Ls)) (fun s112 _ => nV - (intOf s112).toNat)
    case atStart => exact ⟨0, Nat.zero_le _, rfl, HW⟩
    case round =>
    obtain ⟨j, hj, rfl, HX⟩ := hrel
    obtain ⟨Wp, hWp⟩ : ∃ W, W = wr := ⟨_, rfl⟩
    rw [← hWp] at HX ⊢
    clear hWp HW
    by_cases hjl : j < nV
    · have i1 : (j : Int) < (nV : Int) := by omega
      have hjV : j < V.length := by rw [← HNV.out]; exact hjl
      have rK := HX.out.ws.kr trivial
      have rT := HX.out.ws.tr trivial
      obtain ⟨gK, rfl⟩ : ∃ g, aK = some ⟨g, 0, none⟩ := by
        rcases rK.2 with ⟨_, e2⟩ | ⟨g, cap, cur, e1, _⟩
        · omega
        · simp only [Value.slice.injEq] at e1
          exact ⟨g, e1.1⟩
      obtain ⟨gT, rfl⟩ : ∃ g, aT = some ⟨g, 0, none⟩ := by
        rcases rT.2 with ⟨_, e2⟩ | ⟨g, cap, cur, e1, _⟩
        · have := HX.out.ln; omega
        · simp only [Value.slice.injEq] at e1
          exact ⟨g, e1.1⟩
      have lj := HX.out.ws.ls j hjV trivial
      have cK1 : Wp.cell? ⟨gK, j, none⟩ = some V[j] := by have q := rK.cells (g := gK) rfl j _ (List.getElem?_eq_getElem hjV); rwa [Go.WideShapes.add_plain, Nat.zero_add] at q
      have hjL : j < Ls.length := by rw [HX.out.ln]; exact hjV
      have cT1 : Wp.cell? ⟨gT, j, none⟩ = some (.string (strOfNums (Ls[j]?.getD []))) := by have q := rT.cells (g := gT) rfl j (.string (strOfNums (Ls[j]?.getD []))) (by rw [List.getElem?_map, List.getElem?_eq_getElem hjL]; rfl); rwa [Go.WideShapes.add_plain, Nat.zero_add] at q
      obtain ⟨vj, hvj⟩ : ∃ v, v = V[j] := ⟨_, rfl⟩
      rw [← hvj] at lj cK1
      obtain ⟨lj', hlj⟩ : ∃ l, l = Ls[j]?.getD [] := ⟨_, rfl⟩
      rw [← hlj] at lj cT1
      obtain ⟨aj, cj, ej, -, -⟩ := lj.shape
      obtain ⟨nj, hnj⟩ : ∃ n, n = lj'.length := ⟨_, rfl⟩
      rw [← hnj] at ej
      subst ej
      have hS : Kept (fun _ => False) Wp Wp.drew := Kept.drew Wp
      clear hnj hlj hvj rK rT hjL hjV
      go_wp2_with fail
      refine wp_region_held (S := fun W' => Kept (fun _ => False) Wp W') (by kernel_rfl) ?_
      change wpAnyH _ _ _ _ _ _ _ _ (World.drew _)
      refine takeYH (i := 0) (d := 115) (v := .slice (some ⟨gK, 0, none⟩) nV cK) rfl rfl (by kernel_rfl) (by kernel_rfl) (by kernel_rfl) (fun _ _ _ h => h) (Or.inl ⟨by rfl, fun W hW => ?_⟩) hS ?_
      · (go_simp)
      simp only [Act.put, List.setIfInBounds_toArray, List.set_cons_zero, List.set_cons_succ]
      refine takeYH (i := 1) (d := 116) (v := .int .i64 j) rfl rfl (by kernel_rfl) (by kernel_rfl) (by kernel_rfl) (fun _ _ _ h => h) (Or.inl ⟨by rfl, fun W hW => ?_⟩) hS ?_
      · (go_simp)
      simp only [Act.put, List.setIfInBounds_toArray, List.set_cons_zero, List.set_cons_succ]
      refine takeYH (i := 2) (d := 117) (v := .pointer (some ⟨gK, j, none⟩)) rfl rfl (by kernel_rfl) (by kernel_rfl) (by kernel_rfl) (fun _ _ _ h => h) (Or.inl ⟨by rfl, fun W hW => ?_⟩) hS ?_
      · (go_simp)
      simp only [Act.put, List.setIfInBounds_toArray, List.set_cons_zero, List.set_cons_succ]
      refine takeYH (i := 3) (d := 118) (v := .slice aj nj cj) rfl rfl (by kernel_rfl) (by kernel_rfl) (by kernel_rfl) (fun _ _ _ h => h) (Or.inl ⟨by rfl, fun W hW => ?_⟩) hS ?_
      · have x0 := Kept.cell (F := fun _ => False) (w := Wp) (w' := W) hW cK1 (fun f => f)
        (go_simp)
      simp only [Act.put, List.setIfInBounds_toArray, List.set_cons_zero, List.set_cons_succ]
      refine takeYH (i := 4) (d := 119) (v := .string (strOfNums lj')) rfl rfl (by kernel_rfl) (by kernel_rfl) (by kernel_rfl) (fun _ _ _ h => h) (Or.inl ⟨by rfl, fun W hW => ?_⟩) hS ?_
      · have x0 := conv_atH (Lib.later lj hW)
        (go_simp)
      simp only [Act.put, List.setIfInBounds_toArray, List.set_cons_zero, List.set_cons_succ]
      refine takeYH (i := 5) (d := 120) (v := .slice (some ⟨gT, 0, none⟩) nV cT) rfl rfl (by kernel_rfl) (by kernel_rfl) (by kernel_rfl) (fun _ _ _ h => h) (Or.inl ⟨by rfl, fun W hW => ?_⟩) hS ?_
      · (go_simp)
      simp only [Act.put, List.setIfInBounds_toArray, List.set_cons_zero, List.set_cons_succ]
      refine takeYH (i := 6) (d := 121) (v := .int .i64 j) rfl rfl (by kernel_rfl) (by kernel_rfl) (by kernel_rfl) (fun _ _ _ h => h) (Or.inl ⟨by rfl, fun W hW => ?_⟩) hS ?_
      · (go_simp)
      simp only [Act.put, List.setIfInBounds_toArray, List.set_cons_zero, List.set_cons_succ]
      refine takeYH (i := 7) (d := 122) (v := .pointer (some ⟨gT, j, none⟩)) rfl rfl (by kernel_rfl) (by kernel_rfl) (by kernel_rfl) (fun _ _ _ h => h) (Or.inl ⟨by rfl, fun W hW => ?_⟩) hS ?_
      · (go_simp)
      simp only [Act.put, List.setIfInBounds_toArray, List.set_cons_zero, List.set_cons_succ]
      refine takeYH (i := 8) (d := 123) (v := .string (strOfNums lj')) rfl rfl (by kernel_rfl) (by kernel_rfl) (by kernel_rfl) (fun _ _ _ h => h) (Or.inl ⟨by rfl, fun W hW => ?_⟩) hS ?_
      · have x0 := Kept.cell (F := fun _ => False) (w := Wp) (w' := W) hW cT1 (fun f => f)
        (go_simp)
      simp only [Act.put, List.setIfInBounds_toArray, List.set_cons_zero, List.set_cons_succ]
      refine takeYH (i := 9) (d := 124) (v := .bool false) rfl rfl (by kernel_rfl) (by kernel_rfl) (by kernel_rfl) (fun _ _ _ h => h) (Or.inl ⟨by rfl, fun W hW => ?_⟩) hS ?_
      · (go_simp)
      simp only [Act.put, List.setIfInBounds_toArray, List.set_cons_zero, List.set_cons_succ]

      refine wpAnyH_done (by kernel_rfl) ?_ _
      have HF := hideH (HX.out.later hS)
      clear HX lj cK1 cT1 hS
      go_wp2_with fail
      go_roundw
      case rel => exact ⟨j + 1, by omega, by go_num, HF⟩
      case measure => simp [intOf]; omega
    · obtain rfl : j = nV := by omega
      have i1 : ¬ (j : Int) < (j : Int) := by omega
      obtain ⟨a0, c0, eh0, lib0⟩ := HX.out.held 0 (by decide)
      obtain ⟨a1, c1, eh1, lib1⟩ := HX.out.held 1 (by decide)
      obtain ⟨n0, hn0⟩ : ∃ n, n = (X 0).length := ⟨_, rfl⟩
      obtain ⟨n1, hn1⟩ : ∃ n, n = (X 1).length := ⟨_, rfl⟩
      have hnb0 : n0 ≤ 33554432 := by rw [hn0]; have := HX.out.long 0 (by decide); omega
      have hnb1 : n1 ≤ 33554432 := by rw [hn1]; have := HX.out.long 1 (by decide); omega
      rw [← hn0] at eh0 lib0
      rw [← hn1] at eh1 lib1
      have HN0 := hideH hn0
      have HN1 := hideH hn1
      have HE0 := hideH eh0
      have HE1 := hideH eh1
      clear hn0 hn1 eh0 eh1 lib0 lib1
      have CB0 : Hid (∀ W, Wr W (bW 0) (vW 0) (X 0) → Calls Tryd.prog 8 #[.pointer (some ⟨bW 0, 0, none⟩)] W fun e w' => e = .returned (.slice (some ⟨W.heap.size, 0, none⟩) n0 n0) ∧ w'.ownsRow W.heap.size 5 1 (.slice (some ⟨W.heap.size, 0, none⟩) n0 n0) n0 (bs (X 0)) ∧ Kept (fun _ => False) W w') := hideH (fun W h => by rw [HN0.out]; exact bytes_any (bW 0) (vW 0) (X 0) W h (by rw [← HN0.out]; omega))
      have CB1 : Hid (∀ W, Wr W (bW 1) (vW 1) (X 1) → Calls Tryd.prog 8 #[.pointer (some ⟨bW 1, 0, none⟩)] W fun e w' => e = .returned (.slice (some ⟨W.heap.size, 0, none⟩) n1 n1) ∧ w'.ownsRow W.heap.size 5 1 (.slice (some ⟨W.heap.size, 0, none⟩) n1 n1) n1 (bs (X 1)) ∧ Kept (fun _ => False) W w') := hideH (fun W h => by rw [HN1.out]; exact bytes_any (bW 1) (vW 1) (X 1) W h (by rw [← HN1.out]; omega))
      have C := hideH (CB0.out Wp (HX.out.ws.wr 0 (by decide) trivial))
      go_wp2_with (go_at_call 8; refine StpH.go ?_)
      refine ⟨?_⟩
      refine C.out.mono ?_
      clear C
      rintro e Wq ⟨rfl, hra, kq⟩
      have ws1 := HX.out.ws.fresh kq (10 + V.length)
      have liba : Lib Wq (.slice (some ⟨Wp.heap.size, 0, none⟩) n0 n0) (X 0) := Lib.of_own hra
      have owna : newK Wp.heap.size (10 + V.length) o Wp.heap.size = 10 + V.length := newK_new (Nat.le_refl _)
      generalize newK Wp.heap.size (10 + V.length) o = o1 at ws1 owna
      generalize Wp.heap.size = ga at liba owna ⊢
      have C := hideH (CB0.out Wq (ws1.wr 0 (by decide) trivial))
      have HW1 := hideH ws1
      have HLA := hideH liba
      have HOA := hideH owna
      have HLN := hideH HX.out.ln
      have HLL := hideH HX.out.ll
      clear hra kq ws1 liba owna HX
      go_wp2_with (go_at_call 8; refine StpH.go ?_)
      refine ⟨?_⟩
      refine C.out.mono ?_
      clear C
      rintro e Wr2 ⟨rfl, hra, kq⟩
      have ws2 := HW1.out.fresh kq (10 + (V.length + 1))
      have libb : Lib Wr2 (.slice (some ⟨Wq.heap.size, 0, none⟩) n0 n0) (X 0) := Lib.of_own hra
      have liba := HLA.out.later kq
      have ownb : newK Wq.heap.size (10 + (V.length + 1)) o1 Wq.heap.size = 10 + (V.length + 1) := newK_new (Nat.le_refl _)
      have owna : newK Wq.heap.size (10 + (V.length + 1)) o1 ga = 10 + V.length := (newK_old (HLA.out.lt rfl)).trans HOA.out
      generalize newK Wq.heap.size (10 + (V.length + 1)) o1 = o2 at ws2 owna ownb
      generalize Wq.heap.size = gb at libb ownb ⊢
      obtain ⟨y0, y1, -, -⟩ := ws_cell ws2 trivial
      rw [HE0.out] at y0
      rw [HE1.out] at y1
      have lib0 : Lib Wr2 (.slice a0 n0 c0) (X 0) := by have q := Lib.of_own (ws2.hl 0 (by decide) trivial); rw [HE0.out] at q; exact q
      have lib1 : Lib Wr2 (.slice a1 n1 c1) (X 1) := by have q := Lib.of_own (ws2.hl 1 (by decide) trivial); rw [HE1.out] at q; exact q
      have CL : Hid (∀ W, Kept (fun _ => False) Wr2 W → Calls Tryd.prog 7 #[.pointer (some ⟨bW 1, 0, none⟩)] W fun e w' => e = .returned (.int .i64 n1) ∧ w' = W) := hideH (fun W kW => by rw [HN1.out]; exact wlen_any (bW 1) (vW 1) (X 1) W ((ws2.wr 1 (by decide) trivial).kept kW (fun _ _ f => f)))
      have hS : Kept (fun _ => False) Wr2 Wr2.drew := Kept.drew Wr2
      clear hra kq HW1 HLA HOA
      go_wp2_with fail
      refine wp_region_held (S := fun W' => Kept (fun _ => False) Wr2 W') (by kernel_rfl) ?_
      change wpAnyH _ _ _ _ _ _ _ _ (World.drew _)
      refine takeYH (i := 0) (d := 130) (v := .slice (some ⟨ga, 0, none⟩) n0 n0) rfl rfl (by kernel_rfl) (by kernel_rfl) (by kernel_rfl) (fun _ _ _ h => h) (Or.inl ⟨by rfl, fun W hW => ?_⟩) hS ?_
      · (go_simp)
      simp only [Act.put, List.setIfInBounds_toArray, List.set_cons_zero, List.set_cons_succ]
      refine takeYH (i := 1) (d := 131) (v := .string (strOfNums (X 0))) rfl rfl (by kernel_rfl) (by kernel_rfl) (by kernel_rfl) (fun _ _ _ h => h) (Or.inl ⟨by rfl, fun W hW => ?_⟩) hS ?_
      · have x0 := conv_atH (Lib.later liba hW)
        (go_simp)
      simp only [Act.put, List.setIfInBounds_toArray, List.set_cons_zero, List.set_cons_succ]
      refine takeYH (i := 2) (d := 132) (v := .slice (some ⟨gh, 0, none⟩) 2 2) rfl rfl (by kernel_rfl) (by kernel_rfl) (by kernel_rfl) (fun _ _ _ h => h) (Or.inl ⟨by rfl, fun W hW => ?_⟩) hS ?_
      · (go_simp)
      simp only [Act.put, List.setIfInBounds_toArray, List.set_cons_zero, List.set_cons_succ]
      refine takeYH (i := 3) (d := 133) (v := .pointer (some ⟨gh, 0, none⟩)) rfl rfl (by kernel_rfl) (by kernel_rfl) (by kernel_rfl) (fun _ _ _ h => h) (Or.inl ⟨by rfl, fun W hW => ?_⟩) hS ?_
      · (go_simp)
      simp only [Act.put, List.setIfInBounds_toArray, List.set_cons_zero, List.set_cons_succ]
      refine takeYH (i := 4) (d := 134) (v := .slice a0 n0 c0) rfl rfl (by kernel_rfl) (by kernel_rfl) (by kernel_rfl) (fun _ _ _ h => h) (Or.inl ⟨by rfl, fun W hW => ?_⟩) hS ?_
      · have x0 := Kept.cell (F := fun _ => False) (w := Wr2) (w' := W) hW y0 (fun f => f)
        (go_simp)
      simp only [Act.put, List.setIfInBounds_toArray, List.set_cons_zero, List.set_cons_succ]
      refine takeYH (i := 5) (d := 135) (v := .string (strOfNums (X 0))) rfl rfl (by kernel_rfl) (by kernel_rfl) (by kernel_rfl) (fun _ _ _ h => h) (Or.inl ⟨by rfl, fun W hW => ?_⟩) hS ?_
      · have x0 := conv_atH (Lib.later lib0 hW)
        (go_simp)
      simp only [Act.put, List.setIfInBounds_toArray, List.set_cons_zero, List.set_cons_succ]
      refine takeYH (i := 6) (d := 136) (v := .bool false) rfl rfl (by kernel_rfl) (by kernel_rfl) (by kernel_rfl) (fun _ _ _ h => h) (Or.inl ⟨by rfl, fun W hW => ?_⟩) hS ?_
      · (go_simp)
      simp only [Act.put, List.setIfInBounds_toArray, List.set_cons_zero, List.set_cons_succ]
      refine takeYH (i := 7) (d := 137) (v := .bool false) rfl rfl (by kernel_rfl) (by kernel_rfl) (by kernel_rfl) (fun _ _ _ h => h) (Or.inl ⟨by rfl, fun W hW => ?_⟩) hS ?_
      · (go_simp)
      simp only [Act.put, List.setIfInBounds_toArray, List.set_cons_zero, List.set_cons_succ]
      refine takeYH (i := 8) (d := 138) (v := .slice (some ⟨gb, 0, none⟩) n0 n0) rfl rfl (by kernel_rfl) (by kernel_rfl) (by kernel_rfl) (fun _ _ _ h => h) (Or.inl ⟨by rfl, fun W hW => ?_⟩) hS ?_
      · (go_simp)
      simp only [Act.put, List.setIfInBounds_toArray, List.set_cons_zero, List.set_cons_succ]
      refine takeYH (i := 9) (d := 139) (v := .string (strOfNums (X 0))) rfl rfl (by kernel_rfl) (by kernel_rfl) (by kernel_rfl) (fun _ _ _ h => h) (Or.inl ⟨by rfl, fun W hW => ?_⟩) hS ?_
      · have x0 := conv_atH (Lib.later libb hW)
        (go_simp)
      simp only [Act.put, List.setIfInBounds_toArray, List.set_cons_zero, List.set_cons_succ]
      refine takeYH (i := 10) (d := 140) (v := .slice (some ⟨gh, 0, none⟩) 2 2) rfl rfl (by kernel_rfl) (by kernel_rfl) (by kernel_rfl) (fun _ _ _ h => h) (Or.inl ⟨by rfl, fun W hW => ?_⟩) hS ?_
      · (go_simp)
      simp only [Act.put, List.setIfInBounds_toArray, List.set_cons_zero, List.set_cons_succ]
      refine takeYH (i := 11) (d := 141) (v := .pointer (some ⟨gh, 0, none⟩)) rfl rfl (by kernel_rfl) (by kernel_rfl) (by kernel_rfl) (fun _ _ _ h => h) (Or.inl ⟨by rfl, fun W hW => ?_⟩) hS ?_
      · (go_simp)
      simp only [Act.put, List.setIfInBounds_toArray, List.set_cons_zero, List.set_cons_succ]
      refine takeYH (i := 12) (d := 142) (v := .slice a0 n0 c0) rfl rfl (by kernel_rfl) (by kernel_rfl) (by kernel_rfl) (fun _ _ _ h => h) (Or.inl ⟨by rfl, fun W hW => ?_⟩) hS ?_
      · have x0 := Kept.cell (F := fun _ => False) (w := Wr2) (w' := W) hW y0 (fun f => f)
        (go_simp)
      simp only [Act.put, List.setIfInBounds_toArray, List.set_cons_zero, List.set_cons_succ]
      refine takeYH (i := 13) (d := 143) (v := .string (strOfNums (X 0))) rfl rfl (by kernel_rfl) (by kernel_rfl) (by kernel_rfl) (fun _ _ _ h => h) (Or.inl ⟨by rfl, fun W hW => ?_⟩) hS ?_
      · have x0 := conv_atH (Lib.later lib0 hW)
        (go_simp)
      simp only [Act.put, List.setIfInBounds_toArray, List.set_cons_zero, List.set_cons_succ]
      refine takeYH (i := 14) (d := 144) (v := .bool false) rfl rfl (by kernel_rfl) (by kernel_rfl) (by kernel_rfl) (fun _ _ _ h => h) (Or.inl ⟨by rfl, fun W hW => ?_⟩) hS ?_
      · (go_simp)
      simp only [Act.put, List.setIfInBounds_toArray, List.set_cons_zero, List.set_cons_succ]
      refine takeYH (i := 15) (d := 145) (v := .bool false) rfl rfl (by kernel_rfl) (by kernel_rfl) (by kernel_rfl) (fun _ _ _ h => h) (Or.inl ⟨by rfl, fun W hW => ?_⟩) hS ?_
      · (go_simp)
      simp only [Act.put, List.setIfInBounds_toArray, List.set_cons_zero, List.set_cons_succ]
      refine takeYH (i := 16) (d := 146) (v := .bool false) rfl rfl (by kernel_rfl) (by kernel_rfl) (by kernel_rfl) (fun _ _ _ h => h) (Or.inl ⟨by rfl, fun W hW => ?_⟩) hS ?_
      · (go_simp)
      simp only [Act.put, List.setIfInBounds_toArray, List.set_cons_zero, List.set_cons_succ]
      refine takeYH (i := 17) (d := 147) (v := .pointer (some ⟨bW 1, 0, none⟩)) rfl rfl (by kernel_rfl) (by kernel_rfl) (by kernel_rfl) (fun _ _ _ h => h) (Or.inl ⟨by rfl, fun W hW => ?_⟩) hS ?_
      · (go_simp)
      simp only [Act.put, List.setIfInBounds_toArray, List.set_cons_zero, List.set_cons_succ]
      refine takeYH (i := 19) (d := 149) (v := .slice (some ⟨gh, 0, none⟩) 2 2) rfl rfl (by kernel_rfl) (by kernel_rfl) (by kernel_rfl) (fun _ _ _ h => h) (Or.inl ⟨by rfl, fun W hW => ?_⟩) hS ?_
      · (go_simp)
      simp only [Act.put, List.setIfInBounds_toArray, List.set_cons_zero, List.set_cons_succ]
      refine takeYH (i := 20) (d := 150) (v := .pointer (some ⟨gh, 1, none⟩)) rfl rfl (by kernel_rfl) (by kernel_rfl) (by kernel_rfl) (fun _ _ _ h => h) (Or.inl ⟨by rfl, fun W hW => ?_⟩) hS ?_
      · (go_simp)
      simp only [Act.put, List.setIfInBounds_toArray, List.set_cons_zero, List.set_cons_succ]
      refine takeYH (i := 21) (d := 151) (v := .slice a1 n1 c1) rfl rfl (by kernel_rfl) (by kernel_rfl) (by kernel_rfl) (fun _ _ _ h => h) (Or.inl ⟨by rfl, fun W hW => ?_⟩) hS ?_
      · have x0 := Kept.cell (F := fun _ => False) (w := Wr2) (w' := W) hW y1 (fun f => f)
        (go_simp)
      simp only [Act.put, List.setIfInBounds_toArray, List.set_cons_zero, List.set_cons_succ]
      refine takeYH (i := 22) (d := 152) (v := .int .i64 n1) rfl rfl (by kernel_rfl) (by kernel_rfl) (by kernel_rfl) (fun _ _ _ h => h) (Or.inl ⟨by rfl, fun W hW => ?_⟩) hS ?_
      · (go_simp)
      simp only [Act.put, List.setIfInBounds_toArray, List.set_cons_zero, List.set_cons_succ]

      refine wpAnyH_all (rs := [18]) (by kernel_rfl) (by simp) ?_
      intro i' hi'
      obtain rfl : i' = 18 := by simpa using hi'
      unfold wpOp
      go_simp
      first | refine (CL.out Wr2.drew hS).mono ?_ | refine Or.inl ((CL.out Wr2.drew hS).mono ?_)
      rintro e Wy ⟨rfl, rfl⟩
      first | refine ⟨hS, ?_⟩ | skip
      refine takeYH (i := 23) (d := 153) (v := .bool false) rfl rfl (by kernel_rfl) (by kernel_rfl) (by kernel_rfl) (fun _ _ _ h => h) (Or.inl ⟨by rfl, fun W hW => ?_⟩) hS ?_
      · (go_simp)
      simp only [Act.put, List.setIfInBounds_toArray, List.set_cons_zero, List.set_cons_succ]
      refine takeYH (i := 24) (d := 154) (v := .bool false) rfl rfl (by kernel_rfl) (by kernel_rfl) (by kernel_rfl) (fun _ _ _ h => h) (Or.inl ⟨by rfl, fun W hW => ?_⟩) hS ?_
      · (go_simp)
      simp only [Act.put, List.setIfInBounds_toArray, List.set_cons_zero, List.set_cons_succ]

      refine wpAnyH_done (by kernel_rfl) ?_ _
      have ws3 := ws2.later hS
      have liba3 := liba.later hS
      have libb3 := libb.later hS
      clear ws2 liba libb lib0 lib1 y0 y1 CL
      generalize Wr2.drew = Ws3 at ws3 liba3 libb3 ⊢
      clear hS
      have BB := hideH (book_bytes 0 kb j vB V (some ⟨ga, 0, none⟩) n0 n0 Ws3 (ws3.bk trivial) HNV.out (by omega) (Nat.zero_le _))
      have HW3 := hideH ws3
      have HLA := hideH liba3
      have HLB := hideH libb3
      have HOA := hideH owna
      have HOB := hideH ownb
      clear ws3 liba3 libb3 owna ownb
      go_wp2_with (go_at_call 9; refine StpH.go ?_)
      refine ⟨?_⟩
      refine BB.out.mono ?_
      clear BB
      rintro e We ⟨rfl, vB', hb, ke, nw⟩
      have ws4 := HW3.out.book ke hb nw HLA.out (fun q e => by have e2 : ga = q := Option.some.inj e; rw [← e2]; exact HOA.out) HLN.out
      have libb4 : Lib We (.slice (some ⟨gb, 0, none⟩) n0 n0) (X 0) := HLB.out.kept ke (fun q e f => by
        have e2 : gb = q := Option.some.inj e
        have h5 : o2 q = 5 := f.elim (fun e3 => by rw [e3]; exact HW3.out.ok trivial) (fun e3 => HW3.out.oB trivial q e3)
        rw [← e2, HOB.out] at h5
        omega)
      have ownb4 : newK Ws3.heap.size 5 o2 gb = 10 + (V.length + 1) := (newK_old (HLB.out.lt rfl)).trans HOB.out
      generalize newK Ws3.heap.size 5 o2 = o4 at ws4 ownb4
      have eVl : (V ++ [Value.slice (some ⟨ga, 0, none⟩) n0 n0]).length = j + 1 := by rw [List.length_append, List.length_singleton, HNV.out]
      have eLl : (Ls ++ [X 0]).length = j + 1 := by rw [List.length_append, List.length_singleton, HLN.out, HNV.out]
      have BB := hideH (book_bytes 0 kb (j + 1) vB' (V ++ [Value.slice (some ⟨ga, 0, none⟩) n0 n0]) (some ⟨gb, 0, none⟩) n0 n0 We (ws4.bk trivial) eVl.symm (by omega) (Nat.zero_le _))
      have HW4 := hideH ws4
      have HLB4 := hideH libb4
      have HOB4 := hideH ownb4
      have HEV := hideH eVl
      have HEL := hideH eLl
      clear hb ke nw ws4 libb4 ownb4 eVl eLl HW3 HLA HLB HOA HOB
      go_wp2_with (go_at_call 9; refine StpH.go ?_)
      refine ⟨?_⟩
      refine BB.out.mono ?_
      clear BB
      rintro e Wf ⟨rfl, vB2, hb, ke, nw⟩
      have ws5 := HW4.out.book ke hb nw HLB4.out (fun q e => by have e2 : gb = q := Option.some.inj e; rw [← e2, HOB4.out, HEV.out, HNV.out]) (by rw [HEV.out, HEL.out])
      have U := hideH (ws_unshared bm BM.out ws5 (by rw [List.length_append, List.length_singleton, HEV.out]; omega) (fun l hl => by
        have hx := HN0.out
        rcases List.mem_append.1 hl with q | q
        · rcases List.mem_append.1 q with q | q
          · have := HLL.out l q; omega
          · simp only [List.mem_singleton] at q
            rw [q]; omega
        · simp only [List.mem_singleton] at q
          rw [q]; omega))
      clear hb ke nw ws5 HW4 HLB4 HOB4
      go_wp2_with (go_at_call 12; refine StpH.go ?_)
      refine ⟨?_⟩
      refine U.out.mono ?_
      clear U
      rintro e Wz ⟨rfl, ws6⟩
      obtain ⟨y0, y1, -, -⟩ := ws_cell ws6 (by decide)
      rw [HE0.out] at y0
      rw [HE1.out] at y1
      have lib0 : Lib Wz (.slice a0 n0 c0) (X 0) := by have q := Lib.of_own (ws6.hl 0 (by decide) (by decide)); rw [HE0.out] at q; exact q
      have lib1 : Lib Wz (.slice a1 n1 c1) (X 1) := by have q := Lib.of_own (ws6.hl 1 (by decide) (by decide)); rw [HE1.out] at q; exact q
      have hw0 := ws6.wr 0 (by decide) (by decide)
      have hw1 := ws6.wr 1 (by decide) (by decide)
      have HKz := hideH ws6.kp
      have hS : Kept (fun _ => False) Wz Wz.drew := Kept.drew Wz
      clear ws6
      go_wp2_with fail
      refine wp_region_held (S := fun W' => Kept (fun _ => False) Wz W') (by kernel_rfl) ?_
      change wpAnyH _ _ _ _ _ _ _ _ (World.drew _)
      refine takeYH (i := 0) (d := 163) (v := .bool true) rfl rfl (by kernel_rfl) (by kernel_rfl) (by kernel_rfl) (fun _ _ _ h => h) (Or.inl ⟨by rfl, fun W hW => ?_⟩) hS ?_
      · (go_simp)
      simp only [Act.put, List.setIfInBounds_toArray, List.set_cons_zero, List.set_cons_succ]
      refine takeYH (i := 1) (d := 164) (v := .bool true) rfl rfl (by kernel_rfl) (by kernel_rfl) (by kernel_rfl) (fun _ _ _ h => h) (Or.inl ⟨by rfl, fun W hW => ?_⟩) hS ?_
      · (go_simp)
      simp only [Act.put, List.setIfInBounds_toArray, List.set_cons_zero, List.set_cons_succ]
      refine takeYH (i := 2) (d := 165) (v := .pointer (some ⟨bW 0, 0, none⟩)) rfl rfl (by kernel_rfl) (by kernel_rfl) (by kernel_rfl) (fun _ _ _ h => h) (Or.inl ⟨by rfl, fun W hW => ?_⟩) hS ?_
      · (go_simp)
      simp only [Act.put, List.setIfInBounds_toArray, List.set_cons_zero, List.set_cons_succ]
      refine takeYH (i := 5) (d := 168) (v := .slice (some ⟨gh, 0, none⟩) 2 2) rfl rfl (by kernel_rfl) (by kernel_rfl) (by kernel_rfl) (fun _ _ _ h => h) (Or.inl ⟨by rfl, fun W hW => ?_⟩) hS ?_
      · (go_simp)
      simp only [Act.put, List.setIfInBounds_toArray, List.set_cons_zero, List.set_cons_succ]
      refine takeYH (i := 6) (d := 169) (v := .pointer (some ⟨gh, 0, none⟩)) rfl rfl (by kernel_rfl) (by kernel_rfl) (by kernel_rfl) (fun _ _ _ h => h) (Or.inl ⟨by rfl, fun W hW => ?_⟩) hS ?_
      · (go_simp)
      simp only [Act.put, List.setIfInBounds_toArray, List.set_cons_zero, List.set_cons_succ]
      refine takeYH (i := 7) (d := 170) (v := .slice a0 n0 c0) rfl rfl (by kernel_rfl) (by kernel_rfl) (by kernel_rfl) (fun _ _ _ h => h) (Or.inl ⟨by rfl, fun W hW => ?_⟩) hS ?_
      · have x0 := Kept.cell (F := fun _ => False) (w := Wz) (w' := W) hW y0 (fun f => f)
        (go_simp)
      simp only [Act.put, List.setIfInBounds_toArray, List.set_cons_zero, List.set_cons_succ]
      refine takeYH (i := 8) (d := 171) (v := .string (strOfNums (X 0))) rfl rfl (by kernel_rfl) (by kernel_rfl) (by kernel_rfl) (fun _ _ _ h => h) (Or.inl ⟨by rfl, fun W hW => ?_⟩) hS ?_
      · have x0 := conv_atH (Lib.later lib0 hW)
        (go_simp)
      simp only [Act.put, List.setIfInBounds_toArray, List.set_cons_zero, List.set_cons_succ]

      refine wpAnyH_all (rs := [3]) (by kernel_rfl) (by simp) ?_
      intro i' hi'
      obtain rfl : i' = 3 := by simpa using hi'
      unfold wpOp
      go_simp
      first | refine (CB0.out Wz.drew (hw0.kept hS (fun _ _ f => f))).mono ?_ | refine Or.inl ((CB0.out Wz.drew (hw0.kept hS (fun _ _ f => f))).mono ?_)
      rintro e Wy ⟨rfl, hry, ky0⟩
      have ky : Kept (fun _ => False) Wz Wy := hS.trans ky0 (fun _ f => f.elim)
      have cy : (convert 26 9 (.slice (some ⟨Wz.heap.size, 0, none⟩) n0 n0)).run Tryd.prog Wy = .ok (.string (strOfNums (X 0))) Wy := conv_atH (Lib.of_own hry)
      refine ⟨ky, ?_⟩
      refine wpAnyH_all (rs := [4]) (by kernel_rfl) (by simp) ?_
      intro i' hi'
      obtain rfl : i' = 4 := by simpa using hi'
      unfold wpOp
      go_simp
      first | refine Or.inl ⟨ky, ?_⟩ | refine ⟨ky, ?_⟩ | (change wpAnyH _ _ _ _ _ _ _ _ _) | refine Or.inl ?_
      clear cy hry ky0
      refine takeYH (i := 9) (d := 172) (v := .bool true) rfl rfl (by kernel_rfl) (by kernel_rfl) (by kernel_rfl) (fun _ _ _ h => h) (Or.inl ⟨by rfl, fun W hW => ?_⟩) ky ?_
      · (go_simp)
      simp only [Act.put, List.setIfInBounds_toArray, List.set_cons_zero, List.set_cons_succ]
      refine takeYH (i := 10) (d := 173) (v := .bool true) rfl rfl (by kernel_rfl) (by kernel_rfl) (by kernel_rfl) (fun _ _ _ h => h) (Or.inl ⟨by rfl, fun W hW => ?_⟩) ky ?_
      · (go_simp)
      simp only [Act.put, List.setIfInBounds_toArray, List.set_cons_zero, List.set_cons_succ]
      refine takeYH (i := 11) (d := 174) (v := .bool true) rfl rfl (by kernel_rfl) (by kernel_rfl) (by kernel_rfl) (fun _ _ _ h => h) (Or.inl ⟨by rfl, fun W hW => ?_⟩) ky ?_
      · (go_simp)
      simp only [Act.put, List.setIfInBounds_toArray, List.set_cons_zero, List.set_cons_succ]
      refine takeYH (i := 12) (d := 175) (v := .pointer (some ⟨bW 1, 0, none⟩)) rfl rfl (by kernel_rfl) (by kernel_rfl) (by kernel_rfl) (fun _ _ _ h => h) (Or.inl ⟨by rfl, fun W hW => ?_⟩) ky ?_
      · (go_simp)
      simp only [Act.put, List.setIfInBounds_toArray, List.set_cons_zero, List.set_cons_succ]
      refine takeYH (i := 15) (d := 178) (v := .slice (some ⟨gh, 0, none⟩) 2 2) rfl rfl (by kernel_rfl) (by kernel_rfl) (by kernel_rfl) (fun _ _ _ h => h) (Or.inl ⟨by rfl, fun W hW => ?_⟩) ky ?_
      · (go_simp)
      simp only [Act.put, List.setIfInBounds_toArray, List.set_cons_zero, List.set_cons_succ]
      refine takeYH (i := 16) (d := 179) (v := .pointer (some ⟨gh, 1, none⟩)) rfl rfl (by kernel_rfl) (by kernel_rfl) (by kernel_rfl) (fun _ _ _ h => h) (Or.inl ⟨by rfl, fun W hW => ?_⟩) ky ?_
      · (go_simp)
      simp only [Act.put, List.setIfInBounds_toArray, List.set_cons_zero, List.set_cons_succ]
      refine takeYH (i := 17) (d := 180) (v := .slice a1 n1 c1) rfl rfl (by kernel_rfl) (by kernel_rfl) (by kernel_rfl) (fun _ _ _ h => h) (Or.inl ⟨by rfl, fun W hW => ?_⟩) ky ?_
      · have x0 := Kept.cell (F := fun _ => False) (w := Wz) (w' := W) hW y1 (fun f => f)
        (go_simp)
      simp only [Act.put, List.setIfInBounds_toArray, List.set_cons_zero, List.set_cons_succ]
      refine takeYH (i := 18) (d := 181) (v := .string (strOfNums (X 1))) rfl rfl (by kernel_rfl) (by kernel_rfl) (by kernel_rfl) (fun _ _ _ h => h) (Or.inl ⟨by rfl, fun W hW => ?_⟩) ky ?_
      · have x0 := conv_atH (Lib.later lib1 hW)
        (go_simp)
      simp only [Act.put, List.setIfInBounds_toArray, List.set_cons_zero, List.set_cons_succ]

      refine wpAnyH_all (rs := [13]) (by kernel_rfl) (by simp) ?_
      intro i' hi'
      obtain rfl : i' = 13 := by simpa using hi'
      unfold wpOp
      go_simp
      first | refine (CB1.out Wy (hw1.kept ky (fun _ _ f => f))).mono ?_ | refine Or.inl ((CB1.out Wy (hw1.kept ky (fun _ _ f => f))).mono ?_)
      rintro e Wx ⟨rfl, hrx, kx0⟩
      have kx : Kept (fun _ => False) Wz Wx := ky.trans kx0 (fun _ f => f.elim)
      have cx : (convert 26 9 (.slice (some ⟨Wy.heap.size, 0, none⟩) n1 n1)).run Tryd.prog Wx = .ok (.string (strOfNums (X 1))) Wx := conv_atH (Lib.of_own hrx)
      refine ⟨kx, ?_⟩
      refine wpAnyH_all (rs := [14]) (by kernel_rfl) (by simp) ?_
      intro i' hi'
      obtain rfl : i' = 14 := by simpa using hi'
      unfold wpOp
      go_simp
      first | refine Or.inl ⟨kx, ?_⟩ | refine ⟨kx, ?_⟩ | (change wpAnyH _ _ _ _ _ _ _ _ _) | refine Or.inl ?_
      clear cx hrx kx0
      refine takeYH (i := 19) (d := 182) (v := .bool true) rfl rfl (by kernel_rfl) (by kernel_rfl) (by kernel_rfl) (fun _ _ _ h => h) (Or.inl ⟨by rfl, fun W hW => ?_⟩) kx ?_
      · (go_simp)
      simp only [Act.put, List.setIfInBounds_toArray, List.set_cons_zero, List.set_cons_succ]
      refine takeYH (i := 20) (d := 183) (v := .bool true) rfl rfl (by kernel_rfl) (by kernel_rfl) (by kernel_rfl) (fun _ _ _ h => h) (Or.inl ⟨by rfl, fun W hW => ?_⟩) kx ?_
      · (go_simp)
      simp only [Act.put, List.setIfInBounds_toArray, List.set_cons_zero, List.set_cons_succ]
      refine takeYH (i := 21) (d := 2) (v := .bool true) rfl rfl (by kernel_rfl) (by kernel_rfl) (by kernel_rfl) (fun _ _ _ h => h) (Or.inl ⟨by rfl, fun W hW => ?_⟩) kx ?_
      · (go_simp)
      simp only [Act.put, List.setIfInBounds_toArray, List.set_cons_zero, List.set_cons_succ]

      refine wpAnyH_done (by kernel_rfl) ?_ _
      have HKx := hideH (HKz.out.trans kx (fun _ f => f.elim))
      go_wp2_with fail
      go_ret
      exact ⟨rfl, HKx.out⟩
end Go.Proofs.YtjmmdklgkcbihaaDoor
