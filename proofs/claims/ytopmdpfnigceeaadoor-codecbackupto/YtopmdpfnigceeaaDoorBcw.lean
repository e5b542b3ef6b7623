import Derived.Test.YtopmdpfnigceeaaDoorBck
namespace Go.Proofs.YtopmdpfnigceeaaDoor
open Go.ChangeShapes Go.WideShapes Go.ChangeAt Go.RowKit

def zeroOp : Value := .agg #[.int .i64 0, .bool false, .int .i64 0, .int .u64 0, .int .i64 0, .slice none 0 0, .string ⟨#[]⟩, .slice none 0 0]
theorem Tryd.infoOp : (Tryd.prog.info? 30).map (fun i => (i.zero, i.size, i.bytes)) = some (some zeroOp, 8, 104) := by kernel_rfl
theorem take_next {α : Type} {l : List α} {k : Nat} (h : k < l.length) : l.take (k + 1) = l.take k ++ [l[k]] := by
  rw [List.take_add_one, List.getElem?_eq_getElem h, Option.toList_some]
set_option maxRecDepth 20000 in
set_option maxHeartbeats 4000000 in
theorem back_walk (S : List OpD) (sa : Option Addr) (sc : Nat) (a0 a1 a2 a3 a7 : Addr) (w : World) (hS : OpsAt w sa S) (hO : ∀ o ∈ S, o.At w) (htot : total S ≤ 1073741824)
    (g0 : w.cell? ⟨2, 0, none⟩ = some (errV a0)) (g1 : w.cell? ⟨5, 0, none⟩ = some (errV a1)) (g2 : w.cell? ⟨0, 0, none⟩ = some (errV a2)) (g3 : w.cell? ⟨4, 0, none⟩ = some (errV a3)) (g7 : w.cell? ⟨3, 0, none⟩ = some (errV a7)) :
    Calls Tryd.prog 3 #[.slice sa S.length sc] w fun e w' => e = .returned (.bool true) ∧ Kept (fun _ => False) w w' := by
  obtain ⟨i0, hi, hz0, hz1, hz2⟩ := info_parts Tryd.infoOp
  have hcount := total_count S
  have hbg := outs_small S hO
  have hbyt := outs_bytes S hO
  have hE : ∀ W, Kept (fun _ => False) w W → W.cell? ⟨2, 0, none⟩ = some (errV a0) ∧ W.cell? ⟨5, 0, none⟩ = some (errV a1) ∧ W.cell? ⟨0, 0, none⟩ = some (errV a2) ∧ W.cell? ⟨4, 0, none⟩ = some (errV a3) ∧ W.cell? ⟨3, 0, none⟩ = some (errV a7) := fun W k => ⟨k.cell g0 (fun f => f), k.cell g1 (fun f => f), k.cell g2 (fun f => f), k.cell g3 (fun f => f), k.cell g7 (fun f => f)⟩
  have hlim : 0 < w.heap.size := World.block_lt_of_cell? w _ g2
  have LV : Hid (Calls Tryd.prog 6 #[] w fun e W => e = .returned (.bool true) ∧ Hid (Kept (fun _ => False) w W)) := (lives_any a0 a1 w g0 g1).mono fun e W q => ⟨q.1, q.2⟩
  have NW : Hid (∀ W, Hid (Kept (fun _ => False) w W) → Calls Tryd.prog 7 #[] W fun e W' => ∃ bw, e = .returned (.pointer (some ⟨bw, 0, none⟩)) ∧ Hid (Wr W' bw (.slice none 0 0) [] ∧ w.heap.size ≤ bw ∧ Kept (fun _ => False) w W')) := by
    intro W hk
    refine (new_any W).mono ?_
    rintro e W' ⟨rfl, h1, h2⟩
    exact ⟨_, rfl, h1, hk.out.size, hk.out.trans h2 (fun _ f => f.elim)⟩
  -- what one put does
  have WT : Hid (∀ k (hk : k < S.length) W bw v p, Hid (Bd w W bw v p (outs (S.take k)) (puts (S.take k))) → Calls Tryd.prog 9 #[.pointer (some ⟨bw, 0, none⟩), .agg (S[k]).cells.toArray] (W.alloc (.cells (S[k]).cells.toArray 30)) fun e W' => ∃ v', e = .returned (.tuple #[.bool (S[k]).out.1, .bool true]) ∧ Hid (Bd w W' bw v' p (outs (S.take (k + 1))) (puts (S.take k))) ∧ Hid (W'.heap[W.heap.size]? = some (.cells (S[k]).cells.toArray 30))) := by
    intro k hk W bw v p hb
    have hAt := hO _ (List.getElem_mem hk)
    have e1 : outs (S.take (k + 1)) = outs (S.take k) ++ (S[k]).out.2 := by rw [take_next hk, outs_snoc]
    have hle : (outs (S.take k)).length ≤ (outs S).length := by
      have := congrArg outs (List.take_append_drop k S)
      rw [outs_append] at this
      rw [← this, List.length_append]
      omega
    generalize S[k] = o at hAt e1 ⊢
    obtain ⟨kd, sec, nn, U, ii, ba, bc, B, s, la, lc, L⟩ := o
    have b1 := hb.out.same (Kept.alloc W (.cells (OpD.cells ⟨kd, sec, nn, U, ii, ba, bc, B, s, la, lc, L⟩).toArray 30))
    have hA1 := hAt.kept b1.kept (fun _ _ f => f)
    obtain ⟨_, _, q2, q3, q7⟩ := hE _ b1.kept
    have hfar : IntsFar (W.alloc (.cells (OpD.cells ⟨kd, sec, nn, U, ii, ba, bc, B, s, la, lc, L⟩).toArray 30)) la L bw v := by
      intro hne
      obtain ⟨bb', off, e, hc⟩ := hA1.op.l hne
      refine ⟨bb', off, e, ?_, hc⟩
      have hlt := intsAt_lt hAt.op.l hne _ e
      simp only at hlt
      rintro (e1 | e1)
      · have := hb.out.new
        omega
      · have := hb.out.own _ e1
        omega
    refine (write_all kd bw v (outs (S.take k)) sec nn ii U ba bc B s la lc L a2 a3 a7 _ b1.wr hA1.op hfar (by omega) q2 q3 q7).mono ?_
    rintro e W' ⟨rfl, v', r1, r2⟩
    refine ⟨v', rfl, ?_, r2.kept.heap (heap_alloc_new W _) ?_⟩
    · rw [e1]
      exact b1.write r1 r2
    · rintro (e | e)
      · have := hb.out.wr.lt
        omega
      · have := (hb.out.wr.own.lt _ e).2
        omega
  have LE : Hid (∀ W bw v p ys ps, Hid (Bd w W bw v p ys ps) → Calls Tryd.prog 8 #[.pointer (some ⟨bw, 0, none⟩)] W fun e W' => e = .returned (.int .i64 ys.length) ∧ W' = W) := fun W bw v p ys ps hb => wlen_any bw v ys W hb.out.wr
  have HS := hide hS
  have HO := hide hO
  have HE := hide hE
  have HBY := hide hbyt
  clear hS hO hE hbyt g0 g1 g2 g3 g7
  go_enter Tryd.func3, Tryd.ntmps3
  go_wp2_with (first | (go_at_call 6; refine LV.out.mono ?_; rintro e W2 ⟨rfl, K2⟩) | (go_at_call 7; refine (NW.out W2 K2).mono ?_; rintro e W3 ⟨bw, rfl, K3⟩))
  go_loopw [5, 24] (fun p i wr => ∃ (k : Nat) (v : Value), k ≤ S.length ∧ i = .int .i64 k ∧ Hid (Bd w wr bw v p (outs (S.take k)) (puts (S.take k)))) (fun _ i _ => S.length - (intOf i).toNat)
  case atStart =>
    obtain ⟨h1, h2, h3⟩ := K3.out
    have ka := Kept.alloc W3 (.cells #[] 30)
    refine ⟨0, .slice none 0 0, Nat.zero_le _, rfl, ?_⟩
    refine ⟨h1.kept ka (fun _ _ f => f), h2, fun k hk => by simp [Value.ownBlock] at hk, ⟨rfl, .inr ⟨W3.heap.size, 0, #[], rfl, h3.size, heap_alloc_new W3 _, Nat.le_refl _, Nat.zero_le _, rfl, rfl⟩⟩, fun g hg => ?_, h3.trans ka (fun _ f => f.elim)⟩
    simp only [Value.ownBlock, Option.some.injEq] at hg
    have := h1.lt
    exact ⟨by omega, by simp [Value.ownBlock]⟩
  case round =>
    obtain ⟨k, v, hk, rfl, HB⟩ := hrel
    by_cases hlt : k < S.length
    · obtain ⟨b, off, rfl, hc⟩ := HS.out (by intro e; rw [e] at hlt; simp at hlt)
      have hcw : ∀ j, j < 8 → wr.cell? ⟨b, off + k * 8 + j, none⟩ = (S[k]).cells[j]? := by
        intro j hj
        have h1 := hc k hlt j hj
        have h2 : (S[k]).cells[j]? = some ((S[k]).cells[j]'(by rw [OpD.cells_length]; exact hj)) := List.getElem?_eq_getElem _
        rw [h2] at h1 ⊢
        rw [Nat.add_assoc]
        exact HB.out.kept.cell h1 (fun f => f)
      have wt := WT.out k hlt wr bw v _ HB
      have le1 := LE.out _ _ _ _ _ _ (hide (HB.out.same (Kept.alloc wr (.cells (S[k]).cells.toArray 30))))
      have hn0 : Hid ((S[k]).out.1 = false → (outs (S.take (k + 1))).length = (outs (S.take k)).length) := by
        intro h
        rw [take_next hlt, outs_snoc, show (S[k]).out.2 = [] from opOut_none h, List.append_nil]
      have hp1 : Hid ((S[k]).out.1 = true → puts (S.take (k + 1)) = puts (S.take k) ++ [S[k]]) := fun h => by rw [take_next hlt, puts_snoc_t h]
      have hp0 : Hid ((S[k]).out.1 = false → puts (S.take (k + 1)) = puts (S.take k)) := fun h => by rw [take_next hlt, puts_snoc_f h]
      have hpn : (puts (S.take k)).length ≤ 1073741824 := by
        have := puts_le (S.take k)
        rw [List.length_take] at this
        omega
      have hcl1 := cells_one (S[k])
      generalize S[k] = o at hcw wt le1 hn0 hp1 hp0 hcl1
      obtain ⟨tk, htk⟩ : ∃ tk, tk = o.out.1 := ⟨_, rfl⟩
      rw [← htk] at wt hn0 hp1 hp0
      clear htk hc
      obtain ⟨kd, sec, nn, U, ii, ba, bc, B, s, la, lc, L⟩ := o
      have h0 : wr.cell? ⟨b, off + k * 8, none⟩ = some (.int .i64 kd) := hcw 0 (by decide)
      have h1 : wr.cell? ⟨b, off + k * 8 + 1, none⟩ = some (.bool sec) := hcw 1 (by decide)
      have h2 : wr.cell? ⟨b, off + k * 8 + 2, none⟩ = some (.int .i64 nn) := hcw 2 (by decide)
      have h3 : wr.cell? ⟨b, off + k * 8 + 3, none⟩ = some (.int .u64 U) := hcw 3 (by decide)
      have h4 : wr.cell? ⟨b, off + k * 8 + 4, none⟩ = some (.int .i64 ii) := hcw 4 (by decide)
      have h5 : wr.cell? ⟨b, off + k * 8 + 5, none⟩ = some (.slice ba B.length bc) := hcw 5 (by decide)
      have h6 : wr.cell? ⟨b, off + k * 8 + 6, none⟩ = some (.string s) := hcw 6 (by decide)
      have h7 : wr.cell? ⟨b, off + k * 8 + 7, none⟩ = some (.slice la L.length lc) := hcw 7 (by decide)
      obtain ⟨ys', hys'⟩ : ∃ y, y = outs (S.take (k + 1)) := ⟨_, rfl⟩
      obtain ⟨ys, hys⟩ : ∃ y, y = outs (S.take k) := ⟨_, rfl⟩
      obtain ⟨ps', hps'⟩ : ∃ y, y = puts (S.take (k + 1)) := ⟨_, rfl⟩
      obtain ⟨ps, hps⟩ : ∃ y, y = puts (S.take k) := ⟨_, rfl⟩
      obtain ⟨n0, hn0'⟩ : ∃ n, n = ys.length := ⟨_, rfl⟩
      rw [← hys', ← hps] at wt
      rw [← hys, ← hn0'] at le1
      rw [← hys', ← hys, ← hn0'] at hn0
      rw [← hps', ← hps] at hp1 hp0
      rw [← hps] at hpn
      have HY' := hide hys'
      have HP' := hide hps'
      have WT1 : Hid (Calls Tryd.prog 9 #[.pointer (some ⟨bw, 0, none⟩), .agg #[.int .i64 kd, .bool sec, .int .i64 nn, .int .u64 U, .int .i64 ii, .slice ba B.length bc, .string s, .slice la L.length lc]] (wr.alloc (.cells #[.int .i64 kd, .bool sec, .int .i64 nn, .int .u64 U, .int .i64 ii, .slice ba B.length bc, .string s, .slice la L.length lc] 30)) fun e W' => ∃ v', e = .returned (.tuple #[.bool tk, .bool true]) ∧ Hid (Bd w W' bw v' u5 ys' ps) ∧ Hid (W'.heap[wr.heap.size]? = some (.cells #[.int .i64 kd, .bool sec, .int .i64 nn, .int .u64 U, .int .i64 ii, .slice ba B.length bc, .string s, .slice la L.length lc] 30))) := wt
      have LE1 : Hid (Calls Tryd.prog 8 #[.pointer (some ⟨bw, 0, none⟩)] (wr.alloc (.cells #[.int .i64 kd, .bool sec, .int .i64 nn, .int .u64 U, .int .i64 ii, .slice ba B.length bc, .string s, .slice la L.length lc] 30)) fun e W' => e = .returned (.int .i64 n0) ∧ W' = wr.alloc (.cells #[.int .i64 kd, .bool sec, .int .i64 nn, .int .u64 U, .int .i64 ii, .slice ba B.length bc, .string s, .slice la L.length lc] 30)) := le1
      have hn0b : n0 ≤ 1099511627776 := by
        have hle : (outs (S.take k)).length ≤ (outs S).length := by
          have := congrArg outs (List.take_append_drop k S)
          rw [outs_append] at this
          rw [← this, List.length_append]
          omega
        rw [hn0', hys]
        omega
      clear wt le1 hys' hys hps' hps hn0' hcw HB
      cases tk
      · have e0 := hn0.out rfl
        have ep := hp0.out rfl
        have LE2 : Hid (∀ W v', Hid (Bd w W bw v' u5 ys' ps) → Calls Tryd.prog 8 #[.pointer (some ⟨bw, 0, none⟩)] W fun e W' => e = .returned (.int .i64 n0) ∧ W' = W) := fun W v' hb => by
          have := LE.out _ _ _ _ _ _ hb
          rw [e0] at this
          exact this
        have EP := hide ep
        clear e0 ep hn0 hp0 hp1 hcl1 LE
        go_wp2_with (first | (go_at_call 8; refine LE1.out.mono ?_; clear LE1; rintro e W' ⟨rfl, e2⟩; subst e2) | (go_at_call 9; refine WT1.out.mono ?_; rintro e W4 ⟨v', rfl, K4, K4b⟩) | (go_at_call 8; refine (LE2.out W4 v' K4).mono ?_; rintro e W' ⟨rfl, e2⟩; subst e2))
        go_roundw
        case rel => exact ⟨k + 1, v', by omega, by go_num, by rw [← HY'.out, ← HP'.out, EP.out]; exact K4⟩
        case measure => simp [intOf]; omega
      · have ep := hp1.out rfl
        have EP := hide ep
        have HC1 := hide hcl1
        clear ep hn0 hp0 hp1 hcl1
        go_wp2_with (first | (go_at_call 8; refine LE1.out.mono ?_; clear LE1; rintro e W' ⟨rfl, e2⟩; subst e2) | (go_at_call 9; refine WT1.out.mono ?_; rintro e W4 ⟨v', rfl, K4, K4b⟩; have z := K4b.out; have y0 : W4.cell? ⟨wr.heap.size, 0, none⟩ = some (.int .i64 kd) := (by simp [World.cell?, z]); have y1 : W4.cell? ⟨wr.heap.size, 1, none⟩ = some (.bool sec) := (by simp [World.cell?, z]); have y2 : W4.cell? ⟨wr.heap.size, 2, none⟩ = some (.int .i64 nn) := (by simp [World.cell?, z]); have y3 : W4.cell? ⟨wr.heap.size, 3, none⟩ = some (.int .u64 U) := (by simp [World.cell?, z]); have y4 : W4.cell? ⟨wr.heap.size, 4, none⟩ = some (.int .i64 ii) := (by simp [World.cell?, z]); have y5 : W4.cell? ⟨wr.heap.size, 5, none⟩ = some (.slice ba B.length bc) := (by simp [World.cell?, z]); have y6 : W4.cell? ⟨wr.heap.size, 6, none⟩ = some (.string s) := (by simp [World.cell?, z]); have y7 : W4.cell? ⟨wr.heap.size, 7, none⟩ = some (.slice la L.length lc) := (by simp [World.cell?, z]); clear z; have kal := hide (Kept.alloc W4 (.cells #[.int .i64 kd, .bool sec, .int .i64 nn, .int .u64 U, .int .i64 ii, .slice ba B.length bc, .string s, .slice la L.length lc] 30))) | (at_builtin; refine wpList_append_lies _ rfl _ _ 22 rfl w.heap.size 30 i0 zeroOp 8 104 Tryd.underlying22 hi hz0 hz1 hz2 rfl (by decide) u5 ps.length (rows ps) rfl (kal.out.row K4.out.put (fun _ _ f => f)) ⟨W4.heap.size, 0, none⟩ 1 1 (opRow kd sec nn U ii ba B.length bc s la L.length lc) rfl rfl ?c1 HC1.out (by decide) ?c4 ?c5 ?c6 _ rfl ?_))
        case c1 => exact World.news_of_block (heap_alloc_new W4 _)
        case c4 => unfold maxLen; omega
        case c5 => omega
        case c6 => exact Nat.le_trans K4.out.kept.size kal.out.size
        intro g cap W5 q1 q2 q3 q4
        have e5 : rows ps' = rows ps ++ opRow kd sec nn U ii ba B.length bc s la L.length lc := by rw [EP.out, rows_snoc]; rfl
        have e6 : ps'.length = ps.length + 1 := by rw [EP.out, List.length_append]; rfl
        rw [← e5, ← e6] at q1
        have HB5 := hide (K4.out.app kal.out q1 q2 rfl (q3.imp_right fun e => by rw [e]; simp))
        clear q1 q2 q3 q4 e5
        rw [← e6]
        clear e6
        go_wp2
        go_roundw
        case rel => exact ⟨k + 1, v', by omega, by go_num, by rw [← HY'.out, ← HP'.out]; exact HB5⟩
        case measure => simp [intOf]; omega
    · obtain rfl : k = S.length := by omega
      rw [List.take_length] at HB
      clear hlt hk WT NW LV LE
      obtain ⟨wa, ewa⟩ : ∃ wa, wa = wr := ⟨wr, rfl⟩
      subst ewa
      obtain ⟨ALL, hALL⟩ : ∃ l, l = outs S := ⟨_, rfl⟩
      obtain ⟨ps, hps⟩ : ∃ l, l = puts S := ⟨_, rfl⟩
      have hoP : outs ps = ALL := by rw [hps, hALL, outs_puts]
      have hmem : ∀ o ∈ ps, o ∈ S ∧ o.out.1 = true := by
        intro o ho
        rw [hps] at ho
        simpa [puts] using ho
      rw [← hALL] at HB hbg
      rw [← hps] at HB
      have HBY2 := HBY
      rw [← hALL] at HBY2
      have hpl : ps.length ≤ 1073741824 := by
        have := puts_le S
        rw [← hps] at this
        omega
      obtain ⟨pa, pc, rfl, hOps, hpb⟩ := ops_of_own HB.out.put
      have BY : Hid (Calls Tryd.prog 10 #[.pointer (some ⟨bw, 0, none⟩)] wa fun e W' => ∃ g, e = .returned (.slice (some ⟨g, 0, none⟩) ALL.length ALL.length) ∧ Hid (BytesAt W' (some ⟨g, 0, none⟩) ALL ∧ Kept (fun _ => False) wa W')) := by
        refine (bytes_any bw v ALL wa HB.out.wr (by omega)).mono ?_
        rintro e W' ⟨rfl, h1, h2⟩
        obtain ⟨a, c, e, hb, _⟩ := bytes_of_own h1
        simp only [Value.slice.injEq] at e
        obtain ⟨rfl, _, _⟩ := e
        exact ⟨_, rfl, hb, h2⟩
      have NR : Hid (∀ W g, Hid (BytesAt W (some ⟨g, 0, none⟩) ALL ∧ Kept (fun _ => False) wa W) → Calls Tryd.prog 11 #[.slice (some ⟨g, 0, none⟩) ALL.length ALL.length] W fun e W' => ∃ br rv, e = .returned (.pointer (some ⟨br, 0, none⟩)) ∧ Hid (Rd W' br rv ALL 0 ∧ wa.heap.size ≤ br ∧ Kept (fun _ => False) wa W')) := by
        intro W g hh
        refine (newr_any ALL (some ⟨g, 0, none⟩) _ W hh.out.1 HBY2.out (by omega)).mono ?_
        rintro e W' ⟨br, rv, rfl, r1, r2, _, r4⟩
        exact ⟨br, rv, rfl, r1, Nat.le_trans hh.out.2.size r2, hh.out.2.trans r4 (fun _ f => f.elim)⟩
      have LN : Hid (∀ W br rv, Hid (Rd W br rv ALL 0 ∧ wa.heap.size ≤ br ∧ Kept (fun _ => False) wa W) → Calls Tryd.prog 8 #[.pointer (some ⟨bw, 0, none⟩)] W fun e W' => e = .returned (.int .i64 ALL.length) ∧ W' = W) := fun W br rv hh => wlen_any bw v ALL W (HB.out.wr.kept hh.out.2.2 (fun _ _ f => f))
      have RB : Hid (∀ k (hk : k < ps.length) W br rv, Hid (Rd W br rv ALL (outs (ps.take k)).length ∧ wa.heap.size ≤ br ∧ Kept (fun i => i = br) wa W) → Calls Tryd.prog 12 #[.pointer (some ⟨br, 0, none⟩), .agg (ps[k]).cells.toArray] (W.alloc (.cells (ps[k]).cells.toArray 30)) fun e W' => e = .returned (.bool true) ∧ Hid (Rd W' br rv ALL (outs (ps.take (k + 1))).length ∧ wa.heap.size ≤ br ∧ Kept (fun i => i = br) wa W')) := by
        intro k hk W br rv hh
        obtain ⟨h1, h2, h3⟩ := hh.out
        obtain ⟨m1, m2⟩ := hmem _ (List.getElem_mem hk)
        have hAt := HO.out _ m1
        have kw : Kept (fun i => i = br) w W := (HB.out.kept.mono (fun _ f => f.elim)).trans h3 (fun _ e => .inl e)
        have hbr : w.heap.size ≤ br := Nat.le_trans HB.out.kept.size h2
        have kF : Kept (fun _ => False) w W := kw.mono (fun i e => .inr (by omega))
        have e1 : outs (ps.take (k + 1)) = outs (ps.take k) ++ (ps[k]).out.2 := by rw [take_next hk, outs_snoc]
        have e2 : ALL.drop (outs (ps.take k)).length = (ps[k]).out.2 ++ outs (ps.drop (k + 1)) := by
          have : ALL = outs (ps.take k) ++ ((ps[k]).out.2 ++ outs (ps.drop (k + 1))) := by
            rw [← List.append_assoc, ← e1, ← outs_append, List.take_append_drop, hoP]
          rw [this, List.drop_left]
        generalize ps[k] = o at hAt e1 e2 m2 ⊢
        obtain ⟨kd, sec, nn, U, ii, ba, bc, B, s, la, lc, L⟩ := o
        have ka := Kept.alloc W (.cells (OpD.cells ⟨kd, sec, nn, U, ii, ba, bc, B, s, la, lc, L⟩).toArray 30)
        have kF1 := kF.trans ka (fun _ f => f.elim)
        have hA1 := hAt.kept kF1 (fun _ _ f => f)
        obtain ⟨q0, q1, q2, q3, _⟩ := HE.out _ kF1
        have hb1 : B ≠ [] → ∀ ad, ba = some ad → ad.block ≠ br := fun hne ad e => by have := bytesAt_lt hAt.op.b hne ad e; omega
        have hl1 : L ≠ [] → ∀ ad, la = some ad → ad.block ≠ br := fun hne ad e => by have := intsAt_lt hAt.op.l hne ad e; omega
        refine (back_all kd br rv ALL _ sec nn ii U ba bc B s la lc L (outs (ps.drop (k + 1))) a0 a1 a2 a3 _ (h1.kept ka (fun f => f) (fun _ _ f => f)) hA1.op hb1 hl1 (by omega) (by omega) q0 q1 q2 q3 m2 e2).mono ?_
        rintro e W' ⟨rfl, r1, r2⟩
        refine ⟨rfl, ?_, h2, (h3.trans ka (fun _ f => f.elim)).trans r2 (fun _ e => .inl e)⟩
        rw [e1, List.length_append]
        exact r1
      have DN : Hid (∀ W br rv, Hid (Rd W br rv ALL ALL.length ∧ wa.heap.size ≤ br ∧ Kept (fun i => i = br) wa W) → Calls Tryd.prog 13 #[.pointer (some ⟨br, 0, none⟩)] W fun e W' => e = .returned .nilIface ∧ Hid (Rd W' br rv ALL ALL.length ∧ wa.heap.size ≤ br ∧ Kept (fun i => i = br) wa W')) := by
        intro W br rv hh
        refine (done_any br rv ALL W hh.out.1).mono ?_
        rintro e W' ⟨rfl, n, rfl⟩
        exact ⟨rfl, hh.out.1.kept (Kept.drewN W n) (fun f => f) (fun _ _ f => f), hh.out.2.1, hh.out.2.2.trans (Kept.drewN W n) (fun _ f => f.elim)⟩
      have AT : Hid (∀ W br rv, Hid (Rd W br rv ALL ALL.length ∧ wa.heap.size ≤ br ∧ Kept (fun i => i = br) wa W) → Calls Tryd.prog 14 #[.pointer (some ⟨br, 0, none⟩)] W fun e W' => e = .returned (.int .i64 ALL.length) ∧ W' = W) := fun W br rv hh => at_any br rv ALL ALL.length W hh.out.1
      have LF : Hid (∀ W br rv, Hid (Rd W br rv ALL ALL.length ∧ wa.heap.size ≤ br ∧ Kept (fun i => i = br) wa W) → Calls Tryd.prog 15 #[.pointer (some ⟨br, 0, none⟩)] W fun e W' => e = .returned (.int .i64 0) ∧ Hid (Kept (fun _ => False) w W')) := by
        intro W br rv hh
        have q := left_any br rv ALL ALL.length W hh.out.1
        rw [Nat.sub_self] at q
        refine q.mono ?_
        rintro e W' ⟨rfl, n, rfl⟩
        have hbr : w.heap.size ≤ br := Nat.le_trans HB.out.kept.size hh.out.2.1
        exact ⟨rfl, ((HB.out.kept.mono (fun _ f => f.elim)).trans (hh.out.2.2.trans (Kept.drewN W n) (fun _ f => f.elim)) (fun _ e => .inl e)).mono (fun i e => .inr (by omega))⟩
      obtain ⟨n, hn⟩ : ∃ n, n = ALL.length := ⟨_, rfl⟩
      have hOps2 := hide hOps
      have HPB := hide hpb
      have hsz := HB.out.kept.size
      have hoN : Hid ((outs (ps.take ps.length)).length = n) := by
        show (outs (ps.take ps.length)).length = n
        rw [List.take_length, hoP, hn]
      rw [← hn] at BY NR LN DN AT LF hbg
      clear hALL hps hoP hmem hOps hpb HBY HBY2 HB hn HS HO HE
      go_wp2_with (first | (go_at_call 10; refine BY.out.mono ?_; rintro e W4 ⟨g4, rfl, K4⟩) | (go_at_call 11; refine (NR.out W4 g4 K4).mono ?_; rintro e W5 ⟨br, rv, rfl, K5⟩) | (go_at_call 8; refine (LN.out _ _ _ K5).mono ?_; rintro e W' ⟨rfl, e2⟩; subst e2))
      go_loopw [69] (fun i wr => ∃ k : Nat, k ≤ ps.length ∧ i = .int .i64 k ∧ Hid (Rd wr br rv ALL (outs (ps.take k)).length ∧ wa.heap.size ≤ br ∧ Kept (fun i => i = br) wa wr)) (fun i _ => ps.length - (intOf i).toNat)
      case atStart => exact ⟨0, Nat.zero_le _, rfl, K5.out.1, K5.out.2.1, K5.out.2.2.mono (fun _ f => f.elim)⟩
      case round =>
        obtain ⟨k, hk, rfl, K6⟩ := hrel
        by_cases hlt : k < ps.length
        · obtain ⟨b, off, rfl, hc⟩ := hOps2.out (by intro e; rw [e] at hlt; simp at hlt)
          have hbl := (HPB.out _ rfl).2
          have hbr := K6.out.2.1
          have hcw : ∀ j, j < 8 → wr.cell? ⟨b, off + k * 8 + j, none⟩ = (ps[k]).cells[j]? := by
            intro j hj
            have h1 := hc k hlt j hj
            have h2 : (ps[k]).cells[j]? = some ((ps[k]).cells[j]'(by rw [OpD.cells_length]; exact hj)) := List.getElem?_eq_getElem _
            rw [h2] at h1 ⊢
            rw [Nat.add_assoc]
            exact K6.out.2.2.cell h1 (by simp only at hbl ⊢; omega)
          have rb := RB.out k hlt wr br rv K6
          generalize ps[k] = o at hcw rb
          clear hc hbl hbr
          obtain ⟨kd, sec, nn, U, ii, ba, bc, B, s, la, lc, L⟩ := o
          have h0 : wr.cell? ⟨b, off + k * 8, none⟩ = some (.int .i64 kd) := hcw 0 (by decide)
          have h1 : wr.cell? ⟨b, off + k * 8 + 1, none⟩ = some (.bool sec) := hcw 1 (by decide)
          have h2 : wr.cell? ⟨b, off + k * 8 + 2, none⟩ = some (.int .i64 nn) := hcw 2 (by decide)
          have h3 : wr.cell? ⟨b, off + k * 8 + 3, none⟩ = some (.int .u64 U) := hcw 3 (by decide)
          have h4 : wr.cell? ⟨b, off + k * 8 + 4, none⟩ = some (.int .i64 ii) := hcw 4 (by decide)
          have h5 : wr.cell? ⟨b, off + k * 8 + 5, none⟩ = some (.slice ba B.length bc) := hcw 5 (by decide)
          have h6 : wr.cell? ⟨b, off + k * 8 + 6, none⟩ = some (.string s) := hcw 6 (by decide)
          have h7 : wr.cell? ⟨b, off + k * 8 + 7, none⟩ = some (.slice la L.length lc) := hcw 7 (by decide)
          have RB1 : Hid (Calls Tryd.prog 12 #[.pointer (some ⟨br, 0, none⟩), .agg #[.int .i64 kd, .bool sec, .int .i64 nn, .int .u64 U, .int .i64 ii, .slice ba B.length bc, .string s, .slice la L.length lc]] (wr.alloc (.cells #[.int .i64 kd, .bool sec, .int .i64 nn, .int .u64 U, .int .i64 ii, .slice ba B.length bc, .string s, .slice la L.length lc] 30)) fun e W' => e = .returned (.bool true) ∧ Hid (Rd W' br rv ALL (outs (ps.take (k + 1))).length ∧ wa.heap.size ≤ br ∧ Kept (fun i => i = br) wa W')) := rb
          clear rb hcw RB K6 K5
          go_wp2_with (go_at_call 12; refine RB1.out.mono ?_; rintro e W7 ⟨rfl, K7⟩)
          go_roundw
          case rel => exact ⟨k + 1, by omega, by go_num, K7⟩
          case measure => simp [intOf]; omega
        · obtain rfl : k = ps.length := by omega
          rw [hoN.out] at K6
          clear hlt hk RB K5
          go_wp2_with (first | (go_at_call 13; refine (DN.out _ _ _ K6).mono ?_; rintro e W7 ⟨rfl, K7⟩) | (go_at_call 14; refine (AT.out _ _ _ K7).mono ?_; rintro e W' ⟨rfl, e2⟩; subst e2) | (go_at_call 15; refine (LF.out _ _ _ K7).mono ?_; rintro e W9 ⟨rfl, K9⟩))
          go_ret
          exact ⟨rfl, K9.out⟩
end Go.Proofs.YtopmdpfnigceeaaDoor
