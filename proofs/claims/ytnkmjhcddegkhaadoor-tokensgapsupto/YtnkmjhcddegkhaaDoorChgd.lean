import Derived.Test.YtnkmjhcddegkhaaDoorChgc
namespace Go.Proofs.YtnkmjhcddegkhaaDoor
open Go.ChangeShapes Go.WideShapes Go.ChangeAt Go.RowKit

theorem mine_bounds (TT : Nat → ByteArray) (f : Fd) (v : Vl) (h : v.t.size ≤ 1048576) : (mine TT f v).length ≤ wrds f v ∧ wrds f v ≤ 1048577 := by
  have h1 := of_len TT f.k f.fo f.st f.se v.t.data.toList
  have h2 := ofN_le f.k v.t.data.toList
  rw [Array.length_toList] at h2
  have h3 : v.t.data.size ≤ 1048576 := h
  exact ⟨h1, by unfold wrds; omega⟩
/-- A field as it lies at a place. -/
def FdAt (w : World) (b o : Nat) (f : Fd) : Prop := w.cell? ⟨b, o, none⟩ = some (.string f.n) ∧ w.cell? ⟨b, o + 1, none⟩ = some (.int .i64 f.k) ∧ w.cell? ⟨b, o + 2, none⟩ = some (.bool f.fo) ∧ w.cell? ⟨b, o + 3, none⟩ = some (.bool f.st) ∧ w.cell? ⟨b, o + 4, none⟩ = some (.bool f.se)
theorem FdAt.kept {w w' : World} {b o : Nat} {f : Fd} (h : FdAt w b o f) (k : Kept (fun _ => False) w w') : FdAt w' b o f :=
  ⟨k.cell h.1 (fun f => f), k.cell h.2.1 (fun f => f), k.cell h.2.2.1 (fun f => f), k.cell h.2.2.2.1 (fun f => f), k.cell h.2.2.2.2 (fun f => f)⟩
set_option maxRecDepth 20000 in
set_option maxHeartbeats 8000000 in
theorem field_at (TT : Nat → ByteArray) (f : Fd) (fb fo fn fc jj : Nat) (xs : List Vl) (va : Option Addr) (n vc : Nat) (w : World) (hj : jj < fn) (hF : FdAt w fb (fo + jj * 5) f) (hX : VsAt w va xs) (hn : n = xs.length) (hn2 : n ≤ 1048576) (hXt : ∀ v ∈ xs, v.t.size ≤ 1048576) (hS : StopsT TT w) (hE : Es2 w) :
    Calls Tryd.prog 11 #[.agg #[.slice (some ⟨fb, fo, none⟩) fn fc], .int .i64 jj, .slice va n vc] w fun e w' => ∃ a c, e = .returned (.slice a (frun TT f xs).L.length c) ∧ Gro w w' 29 5 (.slice a (frun TT f xs).L.length c) (frun TT f xs).L.length (tkvs (frun TT f xs).L) := by
  have hji : (jj : Int) < (fn : Int) := by omega
  have hj0 : ¬ (jj : Int) < 0 := by omega
  have hjd : decide ((fn : Int) ≤ (jj : Int)) = false := decide_eq_false (by omega)
  have hjd2 : decide (fn ≤ jj) = false := decide_eq_false (by omega)
  have K1 : Kept (fun _ => False) w (w.alloc (.cells #[.slice (some ⟨fb, fo, none⟩) fn fc] 35)) := Kept.alloc _ _
  obtain ⟨y0, y1, y2, y3, y4⟩ := hF.kept K1
  have KB := hideV K1
  obtain ⟨nm, kd, ffo, fst, fse⟩ := f
  simp only at y0 y1 y2 y3 y4
  have HX := hideV hX
  have HXt := hideV hXt
  have HN := hideV hn
  have HS := hideV hS
  have HE := hideV hE
  clear hX hXt hn hS hE hF K1
  obtain ⟨f, hff⟩ : ∃ f, f = (⟨nm, kd, ffo, fst, fse⟩ : Fd) := ⟨_, rfl⟩
  rw [← hff]
  have HFF := hideV hff
  clear hff
  have KF := hideV (Kept.alloc (w.alloc (.cells #[.slice (some ⟨fb, fo, none⟩) fn fc] 35)) (fdO nm kd ffo fst fse))
  have KW := hideV (KB.out.trans KF.out (fun _ f => f.elim))
  go_enter Tryd.func11, Tryd.ntmps11
  go_wp2
  have FB : Hid (FdAt ((w.alloc (.cells #[.slice (some ⟨fb, fo, none⟩) fn fc] 35)).alloc (fdO nm kd ffo fst fse)) (w.heap.size + 1) 0 ⟨nm, kd, ffo, fst, fse⟩) := hideV (by
    have hh := heap_alloc_new (w.alloc (.cells #[.slice (some ⟨fb, fo, none⟩) fn fc] 35)) (fdO nm kd ffo fst fse)
    have ez : (w.alloc (.cells #[.slice (some ⟨fb, fo, none⟩) fn fc] 35)).heap.size = w.heap.size + 1 := by simp
    rw [ez] at hh
    exact ⟨cell_of_row _ _ 0 _ _ _ hh, cell_of_row _ _ 1 _ _ _ hh, cell_of_row _ _ 2 _ _ _ hh, cell_of_row _ _ 3 _ _ _ hh, cell_of_row _ _ 4 _ _ _ hh⟩)
  clear KB KF y0 y1 y2 y3 y4
  generalize (w.alloc (.cells #[.slice (some ⟨fb, fo, none⟩) fn fc] 35)).alloc (fdO nm kd ffo fst fse) = W2 at *
  generalize w.heap.size + 1 = b1 at *
  go_loopw [8, 9, 32] (fun v8 v9 i wr => ∃ (k m b : Nat) (a : Option Addr) (c : Nat), k ≤ n ∧ m ≤ k * 1048577 ∧ b ≤ k * 1048593 ∧ i = .int .i64 k ∧ v8 = .slice a m c ∧ v9 = .int .i64 b ∧ Hid (m = (frun TT f (xs.take k)).L.length ∧ b = (frun TT f (xs.take k)).b) ∧ Hid (Gro W2 wr 29 5 (.slice a m c) m (tkvs (frun TT f (xs.take k)).L))) (fun _ _ i _ => n - (intOf i).toNat)
  case atStart => exact ⟨0, 0, 0, _, _, by omega, by omega, by omega, rfl, rfl, rfl, hideV ⟨rfl, rfl⟩, gro_nil W2 _ _⟩
  case round =>
    obtain ⟨k, m, b, a, c, hk, hmk, hbk, rfl, rfl, rfl, HM, HG⟩ := hrel
    have KK := hideV HG.out.kept
    by_cases hlt : k < n
    · have hlt2 : k < xs.length := by rw [← HN.out]; exact hlt
      have HX2 := hideV (HX.out.kept KW.out)
      obtain ⟨vb, vo, rfl, hc⟩ := HX.out (by intro e; rw [e] at hlt2; simp at hlt2)
      obtain ⟨z0, z1⟩ := hc k hlt2
      have z0 := KK.out.cell (KW.out.cell z0 (fun f => f)) (fun f => f)
      have z1 := KK.out.cell (KW.out.cell z1 (fun f => f)) (fun f => f)
      have hvt := HXt.out _ (List.getElem_mem hlt2)
      have hmb := mine_bounds TT f _ hvt
      have HR := hideV (frun_next TT f xs k hlt2)
      have HI := hideV (frun_i TT f xs k (by omega))
      have hki : (k : Int) < (n : Int) := by omega
      generalize xs[k] = v at *
      obtain ⟨vn, vt⟩ := v
      simp only at z0 z1 hvt
      have KA : Hid (Kept (fun _ => False) wr (wr.alloc (.cells #[.string vn, .string vt] 39))) := hideV (Kept.alloc _ _)
      obtain ⟨f0, f1, f2, f3, f4⟩ := (FB.out.kept KK.out).kept KA.out
      obtain ⟨e0, e1, e2, e3, e4⟩ := FB.out.kept KK.out
      simp only [Nat.zero_add] at f0 f1 f2 f3 f4 e0 e1 e2 e3 e4
      have hb1 : b1 < wr.heap.size := World.block_lt_of_cell? wr _ e0
      clear hc HX2
      by_cases hnm : vn = nm
      · subst hnm
        have hq : (vn.toList == vn.toList) = true := beq_self_eq_true _
        have hq2 : (vn.toList != vn.toList) = false := by rw [bne, hq]; rfl
        obtain ⟨tl, htl⟩ : ∃ tl, tl = vt.data.toList := ⟨_, rfl⟩
        have hxt : vt = bq tl := by rw [htl]; rfl
        have hlen : tl.length ≤ 1099511627776 := by rw [htl, Array.length_toList]; exact Nat.le_trans hvt (by decide)
        have hM : mine TT f ⟨vn, vt⟩ = ofL TT kd ffo fst fse tl := by rw [HFF.out, htl]; rfl
        have hW : wrds f ⟨vn, vt⟩ = ofN kd tl := by rw [HFF.out, htl]; rfl
        have CT := hideV (tokensOf_any TT vn kd ffo fst fse tl (wr.alloc (.cells #[.string vn, .string vt] 39)) hlen (HS.out.kept ((KW.out.trans KK.out (fun _ f => f.elim)).trans KA.out (fun _ f => f.elim)) (fun f => f)) (HE.out.kept ((KW.out.trans KK.out (fun _ f => f.elim)).trans KA.out (fun _ f => f.elim))))
        have HRi := hideV (of_ris TT kd ffo fst fse tl)
        have HR2 : Hid ((frun TT f (xs.take (k + 1))).L = (frun TT f (xs.take k)).L ++ (ofL TT kd ffo fst fse tl).map (shT k b) ∧ (frun TT f (xs.take (k + 1))).b = b + ofN kd tl + 16) := hideV (by
          rw [HR.out]; unfold fstep
          rw [if_pos (show vn = f.n by rw [HFF.out]), HI.out, ← HM.out.2, hM, hW]
          exact ⟨rfl, rfl⟩)
        rw [hM, hW] at hmb
        rw [← hxt] at CT
        clear HR HI HX HXt HS HE hM hW htl hxt hlen
        generalize ofL TT kd ffo fst fse tl = M at *
        generalize ofN kd tl = nw at *
        obtain ⟨nl, hnl⟩ : ∃ nl, nl = M.length := ⟨_, rfl⟩
        rw [← hnl] at CT hmb
        have HNL := hideV hnl
        clear hnl
        obtain ⟨hmb1, hmb2⟩ := hmb
        go_wp2_with (go_at_call 12; refine CT.out.mono ?_; clear CT; rintro e W3 ⟨a3, c3, rfl, G3⟩; have G3 := hideV G3)
        have HG3 := hideV ((HG.out.later KA.out).later G3.out.kept)
        have HB3 := hideV (bes_new HG.out KA.out G3.out)
        have hm41 : m ≤ 1099512676352 := by have := Nat.mul_le_mul_right 1048577 (Nat.le_trans hk hn2); omega
        have hb41 : b ≤ 1099529453568 := by have := Nat.mul_le_mul_right 1048593 (Nat.le_trans hk hn2); omega
        clear HG G3 KA f0 f1 f2 f3 f4 e0 e1 e2 e3 e4 hb1 z0 z1 KK
        generalize wr.heap.size = bv at *
        go_loopw [8, 51] (fun v8 ix w4 => ∃ (j mm : Nat) (a' : Option Addr) (c' : Nat), j ≤ nl ∧ Hid (mm = m + j) ∧ ix = .int .i64 j ∧ v8 = .slice a' mm c' ∧ Hid (Gro W2 w4 29 5 (.slice a' mm c') mm (tkvs ((frun TT f (xs.take k)).L ++ (M.take j).map (shT k b)))) ∧ Hid (Bes w4 (.slice a' mm c') (.slice a3 nl c3) nl M)) (fun _ ix _ => nl - (intOf ix).toNat)
        case atStart => exact ⟨0, m, a, c, by omega, hideV rfl, rfl, rfl, hideV (by rw [List.take_zero, List.map_nil, List.append_nil]; exact HG3.out), HB3⟩
        case round =>
          obtain ⟨j, mm, a', c', hj1, hmm, rfl, rfl, HG4, HB4⟩ := hrel
          have hmmb : mm ≤ 1099513724929 := by have := hmm.out; omega
          by_cases hjl : j < nl
          · have hjl2 : j < M.length := by rw [← HNL.out]; exact hjl
            obtain ⟨g3, rfl, t0, t1, t2, t3, t4⟩ := HB4.out.tok hjl2 HNL.out
            have HT := hideV (shT_take M k b j hjl2)
            have hp := HRi.out.2 _ (List.getElem_mem hjl2)
            have hji2 : (j : Int) < (nl : Int) := by omega
            generalize M[j] = X at *
            obtain ⟨xt, xv, xp, xs', xe⟩ := X
            simp only at t0 t1 t2 t3 t4 hp HT
            have hwr : IntKind.i64.wrap (xp + (b : Int)) = xp + (b : Int) := by rw [IntKind.wrap_i64]; omega
            have HG5 := hideV (HG4.out.later (Kept.alloc wr (.cells #[.string xt, .int .i64 k, .int .i64 (xp + b), .int .i64 xs', .int .i64 xe] 29)))
            have HB5 := hideV (HB4.out.kept (Kept.alloc wr (.cells #[.string xt, .int .i64 k, .int .i64 (xp + b), .int .i64 xs', .int .i64 xe] 29)) (fun _ _ f => f))
            have HT2 : Hid (tkvs ((frun TT f (xs.take k)).L ++ (M.take (j + 1)).map (shT k b)) = tkvs ((frun TT f (xs.take k)).L ++ (M.take j).map (shT k b)) ++ [.string xt, .int .i64 k, .int .i64 (xp + b), .int .i64 xs', .int .i64 xe]) := hideV (by rw [tkvs_append, HT.out, tkvs_append, List.append_assoc])
            clear HT HG3 HB3 HG4 HB4 HRi
            go_wp2_with (at_builtin; refine wpList_push2 rfl _ _ rfl (.slice a' mm c') mm (mm + 1) _ _ _ _ _ _ _ rfl HG5 _ _ _ HB5 _ (by first | rfl | simp) rfl HT2 rfl (by omega) ?_; intro a5 c5 W5 HG6 HB6)
            go_roundw
            case rel => exact ⟨j + 1, mm + 1, a5, c5, by omega, hideV (by have := hmm.out; omega), by go_num, rfl, HG6, HB6⟩
            case measure => simp [intOf]; omega
          · obtain rfl : j = nl := by omega
            have hT : M.take j = M := List.take_of_length_le (by rw [HNL.out]; exact Nat.le_refl _)
            rw [hT, ← HR2.out.1] at HG4
            have HM2 : Hid (mm = (frun TT f (xs.take (k + 1))).L.length ∧ b + nw + 16 = (frun TT f (xs.take (k + 1))).b) := hideV ⟨by rw [HR2.out.1, List.length_append, List.length_map, ← HM.out.1, ← HNL.out]; exact hmm.out, HR2.out.2.symm⟩
            have hmm2 : mm ≤ (k + 1) * 1048577 := by have := hmm.out; rw [Nat.add_mul]; omega
            have hbb2 : b + nw + 16 ≤ (k + 1) * 1048593 := by rw [Nat.add_mul]; omega
            clear HB4 HB3 HG3 HR2 HM hT HRi HNL
            go_wp2
            go_roundw
            case rel => exact ⟨k + 1, mm, b + nw + 16, a', c', hlt, hmm2, hbb2, by go_num, rfl, by go_num, HM2, HG4⟩
            case measure => simp [intOf]; omega
      · have hq : (vn.toList == nm.toList) = false := by rw [beq_l]; exact decide_eq_false hnm
        have hq2 : (vn.toList != nm.toList) = true := by rw [bne, hq]; rfl
        have HR2 : Hid ((frun TT f (xs.take (k + 1))).L = (frun TT f (xs.take k)).L ∧ (frun TT f (xs.take (k + 1))).b = (frun TT f (xs.take k)).b) := hideV (by
          rw [HR.out]; unfold fstep
          rw [if_neg (show ¬ vn = f.n by rw [HFF.out]; exact hnm)]
          exact ⟨rfl, rfl⟩)
        clear HR HI HX HXt HS HE hnm
        go_wp2
        go_roundw
        case rel => exact ⟨k + 1, m, b, a, c, hlt, Nat.le_trans hmk (Nat.mul_le_mul_right _ (Nat.le_succ k)), Nat.le_trans hbk (Nat.mul_le_mul_right _ (Nat.le_succ k)), by go_num, rfl, rfl, by rw [HR2.out.1, HR2.out.2]; exact HM, by rw [HR2.out.1]; exact HG.out.later KA.out⟩
        case measure => simp [intOf]; omega
    · obtain rfl : k = n := by omega
      have hT : xs.take k = xs := List.take_of_length_le (by rw [HN.out]; exact Nat.le_refl _)
      rw [hT] at HM HG
      have e2 := HM.out.1
      subst e2
      clear HX HXt HS HE HN HM
      go_wp2
      go_ret
      exact ⟨a, c, rfl, HG.out.base KW.out⟩
set_option maxRecDepth 20000 in
set_option maxHeartbeats 2000000 in
theorem field_out (fa : Option Addr) (fn fc : Nat) (z : Int) (va : Option Addr) (n vc : Nat) (w : World) (hz : z < 0 ∨ (fn : Int) ≤ z) :
    Calls Tryd.prog 11 #[.agg #[.slice fa fn fc], .int .i64 z, .slice va n vc] w fun e w' => e = .returned (.slice none 0 0) ∧ Kept (fun _ => False) w w' := by
  by_cases h0 : z < 0
  · clear hz
    go_enter Tryd.func11, Tryd.ntmps11
    go_wp2
    go_ret
    exact ⟨rfl, Kept.alloc _ _⟩
  · have h1 : (fn : Int) ≤ z := hz.resolve_left h0
    have hd : decide ((fn : Int) ≤ z) = true := decide_eq_true h1
    clear hz
    go_enter Tryd.func11, Tryd.ntmps11
    go_wp2
    go_ret
    exact ⟨rfl, Kept.alloc _ _⟩
end Go.Proofs.YtnkmjhcddegkhaaDoor
