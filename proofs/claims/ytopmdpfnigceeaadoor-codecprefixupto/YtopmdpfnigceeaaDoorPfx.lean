import Derived.Test.YtopmdpfnigceeaaDoorLwJ
import Derived.Test.YtopmdpfnigceeaaDoorLive
namespace Go.Proofs.YtopmdpfnigceeaaDoor
open Go.ChangeShapes Go.WideShapes Go.ChangeAt Go.RowKit

theorem own_bytes {w : World} {base g n cap : Nat} {l : List Int} (h : w.ownsRow base 5 1 (.slice (some ⟨g, 0, none⟩) n cap) n (bs l)) : BytesAt w (some ⟨g, 0, none⟩) l ∧ g < w.heap.size := by
  obtain ⟨a, c, e, hb, _⟩ := bytes_of_own h
  simp only [Value.slice.injEq] at e
  obtain ⟨rfl, _, _⟩ := e
  refine ⟨hb, ?_⟩
  rcases h.2 with ⟨e, _⟩ | ⟨g', cap', cur, hv, _, hg, _⟩
  · cases e
  · simp only [Value.slice.injEq, Option.some.injEq, Addr.mk.injEq, and_true] at hv
    obtain ⟨rfl, _⟩ := hv
    exact lt_of_block hg

set_option maxRecDepth 20000 in
set_option maxHeartbeats 2000000 in
theorem prefix_walk (kd : Int) (sec : Bool) (nn ii : Int) (U : Nat) (ba : Option Addr) (bc : Nat) (B : List Int) (s : ByteArray) (la : Option Addr) (lc : Nat) (L : List Int) (ta : Option Addr) (tc : Nat) (T : List Int) (cut : Int) (a0 a1 a2 a3 a7 : Addr) (w : World) (ho : OpAt w ii U ba bc B s la L) (hT : BytesAt w ta T) (hTB : IsBytes T) (hTn : T.length ≤ 1073741824)
    (hbb : B ≠ [] → ∀ ad, ba = some ad → ad.block < w.heap.size) (hll : L ≠ [] → ∀ ad, la = some ad → ad.block < w.heap.size) (hw3 : 0 < w.heap.size)
    (g0 : w.cell? ⟨2, 0, none⟩ = some (errV a0)) (g1 : w.cell? ⟨5, 0, none⟩ = some (errV a1)) (g2 : w.cell? ⟨0, 0, none⟩ = some (errV a2)) (g3 : w.cell? ⟨4, 0, none⟩ = some (errV a3)) (g7 : w.cell? ⟨3, 0, none⟩ = some (errV a7)) :
    Calls Tryd.prog 5 #[.agg #[.int .i64 kd, .bool sec, .int .i64 nn, .int .u64 U, .int .i64 ii, .slice ba B.length bc, .string s, .slice la L.length lc], .slice ta T.length tc, .int .i64 cut] w fun e w' => e = .returned (.bool true) ∧ Kept (fun _ => False) w w' := by
  have _ := hw3
  obtain ⟨o, hoo⟩ : ∃ o, o = opB kd sec nn U ii (.slice ba B.length bc) s (.slice la L.length lc) := ⟨_, rfl⟩
  have hK1 := Kept.alloc w o
  have hs1 : (w.alloc o).heap.size = w.heap.size + 1 := by simp
  obtain ⟨w1, hw1⟩ : ∃ w1, w1 = w.alloc o := ⟨_, rfl⟩
  rw [← hw1] at hK1 hs1
  have gK : ∀ W, Kept (fun _ => False) w1 W → Kept (fun _ => False) w W := fun W k => hK1.trans k (fun _ f => f.elim)
  have hO : ∀ W, Kept (fun _ => False) w1 W → OpAt W ii U ba bc B s la L := fun W k => ho.kept (gK W k) (fun _ _ _ f => f) (fun _ _ _ f => f)
  have hE : ∀ W, Kept (fun _ => False) w1 W → W.cell? ⟨2, 0, none⟩ = some (errV a0) ∧ W.cell? ⟨5, 0, none⟩ = some (errV a1) ∧ W.cell? ⟨0, 0, none⟩ = some (errV a2) ∧ W.cell? ⟨4, 0, none⟩ = some (errV a3) ∧ W.cell? ⟨3, 0, none⟩ = some (errV a7) := fun W k => ⟨(gK W k).cell g0 (fun f => f), (gK W k).cell g1 (fun f => f), (gK W k).cell g2 (fun f => f), (gK W k).cell g3 (fun f => f), (gK W k).cell g7 (fun f => f)⟩
  have hTT : ∀ W, Kept (fun _ => False) w1 W → BytesAt W ta T := fun W k => bytes_kept hT (gK W k) (fun _ _ _ f => f)
  have hob := out_bytes (kd := kd) (nn := nn) ho
  have hol := out_len (kd := kd) (nn := nn) ho
  obtain ⟨ov, hov⟩ : ∃ ov, ov = Value.agg #[.int .i64 kd, .bool sec, .int .i64 nn, .int .u64 U, .int .i64 ii, .slice ba B.length bc, .string s, .slice la L.length lc] := ⟨_, rfl⟩
  obtain ⟨tk, htk⟩ : ∃ tk, tk = (opOut kd nn ii U B s L).1 := ⟨_, rfl⟩
  obtain ⟨b, hb⟩ : ∃ b, b = (opOut kd nn ii U B s L).2 := ⟨_, rfl⟩
  rw [← hb] at hob hol
  have lv : Calls Tryd.prog 6 #[] w1 fun e W => e = .returned (.bool true) ∧ Hid (Kept (fun _ => False) w1 W) := by
    have q := hE w1 (Kept.refl _ _)
    exact (lives_any a0 a1 w1 q.1 q.2.1).mono fun e W q => ⟨q.1, q.2⟩
  have nw : ∀ W, Hid (Kept (fun _ => False) w1 W) → Calls Tryd.prog 7 #[] W fun e W' => ∃ bw, e = .returned (.pointer (some ⟨bw, 0, none⟩)) ∧ Hid (Wr W' bw (.slice none 0 0) [] ∧ w1.heap.size ≤ bw ∧ Kept (fun _ => False) w1 W') := by
    intro W hk
    refine (new_any W).mono ?_
    rintro e W' ⟨rfl, h1, h2⟩
    exact ⟨_, rfl, h1, hk.out.size, hk.out.trans h2 (fun _ f => f.elim)⟩
  have wt : ∀ W bw, Hid (Wr W bw (.slice none 0 0) [] ∧ w1.heap.size ≤ bw ∧ Kept (fun _ => False) w1 W) → Calls Tryd.prog 9 #[.pointer (some ⟨bw, 0, none⟩), ov] W fun e W' => ∃ v', e = .returned (.tuple #[.bool tk, .bool true]) ∧ Hid (Wr W' bw v' b ∧ Kept (fun _ => False) w1 W') := by
    intro W bw hh
    obtain ⟨h1, h2, h3⟩ := hh.out
    obtain ⟨_, _, q2, q3, q7⟩ := hE W h3
    have hfar : IntsFar W la L bw (.slice none 0 0) := by
      intro hne
      obtain ⟨bb', off, e, hc⟩ := (hO W h3).l hne
      refine ⟨bb', off, e, ?_, hc⟩
      rintro (e1 | e1)
      · have := hll hne _ e
        simp only at this
        omega
      · cases e1
    rw [hov, htk, hb]
    refine (write_all kd bw (.slice none 0 0) [] sec nn ii U ba bc B s la lc L a2 a3 a7 W h1 (hO W h3) hfar (by simp) q2 q3 q7).mono ?_
    rintro e W' ⟨rfl, v', r1, r2⟩
    refine ⟨v', rfl, by simpa using r1, h3.trans r2.kept ?_⟩
    rintro i (e1 | e1)
    · subst e1; exact .inr h2
    · cases e1
  have by_ : ∀ W bw v', Hid (Wr W bw v' b ∧ Kept (fun _ => False) w1 W) → Calls Tryd.prog 10 #[.pointer (some ⟨bw, 0, none⟩)] W fun e W' => ∃ g, e = .returned (.slice (some ⟨g, 0, none⟩) b.length b.length) ∧ Hid (BytesAt W' (some ⟨g, 0, none⟩) b ∧ g < W'.heap.size ∧ Kept (fun _ => False) w1 W') := by
    intro W bw v' hh
    refine (bytes_any bw v' b W hh.out.1 (by omega)).mono ?_
    rintro e W' ⟨rfl, h1, h2⟩
    obtain ⟨h3, h4⟩ := own_bytes h1
    exact ⟨_, rfl, h3, h4, hh.out.2.trans h2 (fun _ f => f.elim)⟩
  have co : ∀ W g, Hid (BytesAt W (some ⟨g, 0, none⟩) b ∧ g < W.heap.size ∧ Kept (fun _ => False) w1 W) → Calls Tryd.prog 17 #[.slice (some ⟨W.heap.size, 0, none⟩) 2 2] (W.alloc (.cells #[.slice (some ⟨g, 0, none⟩) b.length b.length, .slice ta T.length tc] 27)) fun e W' => ∃ g', e = .returned (.slice (some ⟨g', 0, none⟩) (b ++ T).length (b ++ T).length) ∧ Hid (BytesAt W' (some ⟨g', 0, none⟩) (b ++ T) ∧ BytesAt W' (some ⟨g, 0, none⟩) b ∧ g < W'.heap.size ∧ Kept (fun _ => False) w1 W') := by
    intro W g hh
    obtain ⟨h1, h2, h3⟩ := hh.out
    obtain ⟨oo, hoo2⟩ : ∃ oo : Obj, oo = .cells #[.slice (some ⟨g, 0, none⟩) b.length b.length, .slice ta T.length tc] 27 := ⟨_, rfl⟩
    rw [← hoo2]
    have k1 := Kept.alloc W oo
    have hb1 : BytesAt (W.alloc oo) (some ⟨g, 0, none⟩) b := bytes_kept h1 k1 (fun _ _ _ f => f)
    have ht1 : BytesAt (W.alloc oo) ta T := bytes_kept (hTT W h3) k1 (fun _ _ _ f => f)
    have e0 : flat [((some ⟨g, 0, none⟩, b.length, b) : Part), (ta, tc, T)] = b ++ T := by simp [flat]
    have q := concat_any [((some ⟨g, 0, none⟩, b.length, b) : Part), (ta, tc, T)] (some ⟨W.heap.size, 0, none⟩) 2 (W.alloc oo) (by
        intro _
        refine ⟨W.heap.size, 0, rfl, fun k hk => ?_⟩
        rw [hoo2, World.cell?_alloc_at (hn := rfl)]
        match k, hk with
        | 0, _ => rfl
        | 1, _ => rfl
        | n + 2, h => simp at h; omega) (by
        intro p hp
        simp only [List.mem_cons, List.not_mem_nil, or_false] at hp
        rcases hp with rfl | rfl
        · exact hb1
        · exact ht1) (by simp) (by rw [e0, List.length_append]; omega)
    rw [e0] at q
    refine q.mono ?_
    rintro e W' ⟨rfl, r1, r2⟩
    refine ⟨_, rfl, (own_bytes r1).1, bytes_kept hb1 r2 (fun _ _ _ f => f), ?_, (h3.trans k1 (fun _ f => f.elim)).trans r2 (fun _ f => f.elim)⟩
    have := k1.size
    have := r2.size
    omega
  have nr : ∀ W g g', Hid (BytesAt W (some ⟨g', 0, none⟩) (b ++ T) ∧ BytesAt W (some ⟨g, 0, none⟩) b ∧ g < W.heap.size ∧ Kept (fun _ => False) w1 W) → Calls Tryd.prog 11 #[.slice (some ⟨g', 0, none⟩) (b ++ T).length (b ++ T).length] W fun e W' => ∃ br rv, e = .returned (.pointer (some ⟨br, 0, none⟩)) ∧ Hid (Rd W' br rv (b ++ T) 0 ∧ BytesAt W' (some ⟨g, 0, none⟩) b ∧ g < br ∧ w1.heap.size ≤ br ∧ Kept (fun _ => False) w1 W') := by
    intro W g g' hh
    obtain ⟨h1, h2, h3, h4⟩ := hh.out
    refine (newr_any (b ++ T) (some ⟨g', 0, none⟩) _ W h1 (app_bytes hob hTB) (by rw [List.length_append]; omega)).mono ?_
    rintro e W' ⟨br, rv, rfl, r1, r2, _, r4⟩
    have := h4.size
    exact ⟨br, rv, rfl, r1, bytes_kept h2 r4 (fun _ _ _ f => f), by omega, by omega, h4.trans r4 (fun _ f => f.elim)⟩
  have rb : tk = true → ∀ W g br rv, Hid (Rd W br rv (b ++ T) 0 ∧ BytesAt W (some ⟨g, 0, none⟩) b ∧ g < br ∧ w1.heap.size ≤ br ∧ Kept (fun _ => False) w1 W) → Calls Tryd.prog 12 #[.pointer (some ⟨br, 0, none⟩), ov] W fun e W' => e = .returned (.bool true) ∧ Hid (Rd W' br rv (b ++ T) b.length ∧ BytesAt W' (some ⟨g, 0, none⟩) b ∧ Kept (fun _ => False) w1 W') := by
    intro ht W g br rv hh
    obtain ⟨h1, h2, h3, h4, h5⟩ := hh.out
    obtain ⟨q0, q1, q2, q3, _⟩ := hE W h5
    rw [hov]
    rw [htk] at ht
    have q := back_all kd br rv (b ++ T) 0 sec nn ii U ba bc B s la lc L T a0 a1 a2 a3 W h1 (hO W h5) (fun hne ad e => by have := hbb hne ad e; omega) (fun hne ad e => by have := hll hne ad e; omega) (by omega) (by rw [List.length_append]; omega) q0 q1 q2 q3 ht (by rw [← hb]; rfl)
    rw [← hb, Nat.zero_add] at q
    refine q.mono ?_
    rintro e W' ⟨rfl, r1, r2⟩
    exact ⟨rfl, r1, bytes_kept h2 r2 (fun _ ad e => by simp only [Option.some.injEq] at e; subst e; simp only; omega), h5.trans r2 (fun i e => .inr (by omega))⟩
  have at_ : ∀ W br rv g, Hid (Rd W br rv (b ++ T) b.length ∧ BytesAt W (some ⟨g, 0, none⟩) b ∧ Kept (fun _ => False) w1 W) → Calls Tryd.prog 14 #[.pointer (some ⟨br, 0, none⟩)] W fun e W' => e = .returned (.int .i64 b.length) ∧ W' = W := fun W br rv g hh => at_any br rv (b ++ T) b.length W hh.out.1
  have lf : ∀ W br rv g, Hid (Rd W br rv (b ++ T) b.length ∧ BytesAt W (some ⟨g, 0, none⟩) b ∧ Kept (fun _ => False) w1 W) → Calls Tryd.prog 15 #[.pointer (some ⟨br, 0, none⟩)] W fun e W' => e = .returned (.int .i64 T.length) ∧ Hid (BytesAt W' (some ⟨g, 0, none⟩) b ∧ Kept (fun _ => False) w1 W') := by
    intro W br rv g hh
    have q := left_any br rv (b ++ T) b.length W hh.out.1
    rw [List.length_append, Nat.add_sub_cancel_left] at q
    refine q.mono ?_
    rintro e W' ⟨rfl, n, rfl⟩
    exact ⟨rfl, hh.out.2.1, hh.out.2.2.trans (Kept.drewN _ _) (fun _ f => f.elim)⟩
  have n2 : ∀ W g k, k < b.length → Hid (BytesAt W (some ⟨g, 0, none⟩) b ∧ Kept (fun _ => False) w1 W) → Calls Tryd.prog 11 #[.slice (some ⟨g, 0, none⟩) k b.length] W fun e W' => ∃ br rv, e = .returned (.pointer (some ⟨br, 0, none⟩)) ∧ Hid (Rd W' br rv (b.take k) 0 ∧ Kept (fun _ => False) w1 W') := by
    intro W g k hk hh
    have hl : (b.take k).length = k := by rw [List.length_take]; omega
    have hb2 : BytesAt W (some ⟨g, 0, none⟩) (b.take k) := by
      intro hne
      obtain ⟨b', off, e, hc⟩ := hh.out.1 (by intro e; rw [e] at hk; simp at hk)
      exact ⟨b', off, e, fun j hj => by rw [hl] at hj; rw [List.getElem?_take, if_pos hj]; exact hc j (by omega)⟩
    have q := newr_any (b.take k) (some ⟨g, 0, none⟩) b.length W hb2 (fun x hx => hob x (List.mem_of_mem_take hx)) (by omega)
    rw [hl] at q
    refine q.mono ?_
    rintro e W' ⟨br, rv, rfl, r1, _, _, r4⟩
    exact ⟨br, rv, rfl, r1, hh.out.2.trans r4 (fun _ f => f.elim)⟩
  have sh : tk = true → ∀ W br rv k, k < b.length → Hid (Rd W br rv (b.take k) 0 ∧ Kept (fun _ => False) w1 W) → Calls Tryd.prog 18 #[.pointer (some ⟨br, 0, none⟩), ov] W fun e W' => e = .returned (.bool true) ∧ Hid (Kept (fun _ => False) w W') := by
    intro ht W br rv k hk hh
    obtain ⟨h1, h2⟩ := hh.out
    obtain ⟨q0, q1, q2, q3, _⟩ := hE W h2
    rw [hov]
    rw [htk] at ht
    rw [hb] at h1 hk
    refine (short_all kd br rv k sec nn ii U ba bc B s la lc L a0 a1 a2 a3 W (hO W h2) h1 hk q0 q1 q2 q3 ht).mono ?_
    rintro e W' ⟨rfl, r⟩
    exact ⟨rfl, (gK W h2).trans r (fun _ f => f.elim)⟩
  have bx : ∀ W, Kept (fun _ => False) w1 W → W.heap[w.heap.size]? = some o := by
    intro W k
    refine k.heap ?_ (fun f => f)
    rw [hw1]
    exact heap_alloc_new w _
  have LV := hide lv
  have NW := hide nw
  have WT := hide wt
  have BY := hide by_
  have CO := hide co
  have NR := hide nr
  have RB := hide rb
  have AT := hide at_
  have LF := hide lf
  have N2 := hide n2
  have SH := hide sh
  have BX := hide bx
  have GK := hide gK
  obtain ⟨n, hn⟩ : ∃ n, n = b.length := ⟨_, rfl⟩
  obtain ⟨N, hN⟩ : ∃ N, N = (b ++ T).length := ⟨_, rfl⟩
  rw [← hn] at hol BY CO RB AT N2 SH
  have lf2 := LF.out
  rw [← hn] at lf2
  have LF2 := hide lf2
  rw [← hN] at CO NR
  have hNb : N ≤ 18253611008 := by rw [hN, List.length_append]; omega
  subst hov
  subst hw1
  subst hoo
  clear lv nw wt by_ co nr rb at_ lf n2 sh bx gK lf2 LF hn hN hob hb htk ho hT hTB hK1 hO hE hTT g0 g1 g2 g3 g7 hbb hll
  have CL := hide (fun (W : World) (hk : Kept (fun _ => False) (w.alloc (opB kd sec nn U ii (.slice ba B.length bc) s (.slice la L.length lc))) W) => (show W.cell? ⟨w.heap.size, 0, none⟩ = some (.int .i64 kd) ∧ W.cell? ⟨w.heap.size, 1, none⟩ = some (.bool sec) ∧ W.cell? ⟨w.heap.size, 2, none⟩ = some (.int .i64 nn) ∧ W.cell? ⟨w.heap.size, 3, none⟩ = some (.int .u64 U) ∧ W.cell? ⟨w.heap.size, 4, none⟩ = some (.int .i64 ii) ∧ W.cell? ⟨w.heap.size, 5, none⟩ = some (.slice ba B.length bc) ∧ W.cell? ⟨w.heap.size, 6, none⟩ = some (.string s) ∧ W.cell? ⟨w.heap.size, 7, none⟩ = some (.slice la L.length lc) by
    have z := BX.out W hk
    unfold opB at z
    refine ⟨?_, ?_, ?_, ?_, ?_, ?_, ?_, ?_⟩ <;> simp [World.cell?, z]))
  clear BX
  cases tk
  · go_enter Tryd.func5, Tryd.ntmps5
    go_wp2_with (first | (go_at_call 6; refine LV.out.mono ?_; rintro e W2 ⟨rfl, K2⟩) | (go_at_call 7; refine (NW.out W2 K2).mono ?_; rintro e W3 ⟨bw, rfl, K3⟩; obtain ⟨y0, y1, y2, y3, y4, y5, y6, y7⟩ := CL.out W3 K3.out.2.2) | (go_at_call 9; refine (WT.out W3 bw K3).mono ?_; rintro e W4 ⟨v', rfl, K4⟩))
    go_ret
    exact ⟨rfl, GK.out _ K4.out.2⟩
  · have RB2 := hide (RB.out rfl)
    have SH2 := hide (SH.out rfl)
    clear RB SH
    by_cases hn0 : n = 0
    · subst hn0
      go_enter Tryd.func5, Tryd.ntmps5
      go_wp2_with (first | (go_at_call 6; refine LV.out.mono ?_; rintro e W2 ⟨rfl, K2⟩) | (go_at_call 7; refine (NW.out W2 K2).mono ?_; rintro e W3 ⟨bw, rfl, K3⟩; obtain ⟨y0, y1, y2, y3, y4, y5, y6, y7⟩ := CL.out W3 K3.out.2.2) | (go_at_call 9; refine (WT.out W3 bw K3).mono ?_; rintro e W4 ⟨v', rfl, K4⟩) | (go_at_call 10; refine (BY.out W4 bw v' K4).mono ?_; rintro e W5 ⟨g, rfl, K5⟩) | (go_at_call 17; refine (CO.out W5 g K5).mono ?_; rintro e W6 ⟨g', rfl, K6⟩) | (go_at_call 11; refine (NR.out W6 g g' K6).mono ?_; rintro e W7 ⟨br, rv, rfl, K7⟩; obtain ⟨x0, x1, x2, x3, x4, x5, x6, x7⟩ := CL.out W7 K7.out.2.2.2.2) | (go_at_call 12; refine (RB2.out W7 g br rv K7).mono ?_; rintro e W8 ⟨rfl, K8⟩) | (go_at_call 14; refine (AT.out W8 br rv g K8).mono ?_; rintro e W8' ⟨rfl, rfl⟩) | (go_at_call 15; refine (LF2.out _ br rv g K8).mono ?_; rintro e W9 ⟨rfl, K9⟩))
      go_ret
      exact ⟨rfl, GK.out _ K9.out.2⟩
    · have hnp : 0 < n := by omega
      have hnI : (0 : Int) < n := by omega
      have hnI0 : (n : Int) ≠ 0 := by omega
      clear hn0
      obtain ⟨r, hr⟩ : ∃ r, r = cut.tmod n := ⟨_, rfl⟩
      have hr1 : r < n := by rw [hr]; exact Int.tmod_lt_of_pos _ hnI
      have hr2 : -(n : Int) < r := by rw [hr]; have := Int.lt_tmod_of_pos cut hnI; omega
      have hr' := hr.symm
      clear hr
      by_cases hneg : r < 0
      · obtain ⟨k, hk⟩ : ∃ k : Nat, r + n = k := ⟨(r + n).toNat, by omega⟩
        have hkn : k < n := by omega
        go_enter Tryd.func5, Tryd.ntmps5
        go_wp2_with (first | (go_at_call 6; refine LV.out.mono ?_; rintro e W2 ⟨rfl, K2⟩) | (go_at_call 7; refine (NW.out W2 K2).mono ?_; rintro e W3 ⟨bw, rfl, K3⟩; obtain ⟨y0, y1, y2, y3, y4, y5, y6, y7⟩ := CL.out W3 K3.out.2.2) | (go_at_call 9; refine (WT.out W3 bw K3).mono ?_; rintro e W4 ⟨v', rfl, K4⟩) | (go_at_call 10; refine (BY.out W4 bw v' K4).mono ?_; rintro e W5 ⟨g, rfl, K5⟩) | (go_at_call 17; refine (CO.out W5 g K5).mono ?_; rintro e W6 ⟨g', rfl, K6⟩) | (go_at_call 11; refine (NR.out W6 g g' K6).mono ?_; rintro e W7 ⟨br, rv, rfl, K7⟩; obtain ⟨x0, x1, x2, x3, x4, x5, x6, x7⟩ := CL.out W7 K7.out.2.2.2.2) | (go_at_call 12; refine (RB2.out W7 g br rv K7).mono ?_; rintro e W8 ⟨rfl, K8⟩) | (go_at_call 14; refine (AT.out W8 br rv g K8).mono ?_; rintro e W8' ⟨rfl, rfl⟩) | (go_at_call 15; refine (LF2.out _ br rv g K8).mono ?_; rintro e W9 ⟨rfl, K9⟩) | (go_at_call 11; refine (N2.out W9 g k hkn K9).mono ?_; rintro e W10 ⟨br2, rv2, rfl, K10⟩; obtain ⟨z0, z1, z2, z3, z4, z5, z6, z7⟩ := CL.out W10 K10.out.2) | (go_at_call 18; refine (SH2.out W10 br2 rv2 k hkn K10).mono ?_; rintro e W11 ⟨rfl, K11⟩))
        go_ret
        exact ⟨rfl, K11.out⟩
      · obtain ⟨k, hk⟩ : ∃ k : Nat, r = k := ⟨r.toNat, by omega⟩
        subst hk
        have hkn : k < n := by omega
        go_enter Tryd.func5, Tryd.ntmps5
        go_wp2_with (first | (go_at_call 6; refine LV.out.mono ?_; rintro e W2 ⟨rfl, K2⟩) | (go_at_call 7; refine (NW.out W2 K2).mono ?_; rintro e W3 ⟨bw, rfl, K3⟩; obtain ⟨y0, y1, y2, y3, y4, y5, y6, y7⟩ := CL.out W3 K3.out.2.2) | (go_at_call 9; refine (WT.out W3 bw K3).mono ?_; rintro e W4 ⟨v', rfl, K4⟩) | (go_at_call 10; refine (BY.out W4 bw v' K4).mono ?_; rintro e W5 ⟨g, rfl, K5⟩) | (go_at_call 17; refine (CO.out W5 g K5).mono ?_; rintro e W6 ⟨g', rfl, K6⟩) | (go_at_call 11; refine (NR.out W6 g g' K6).mono ?_; rintro e W7 ⟨br, rv, rfl, K7⟩; obtain ⟨x0, x1, x2, x3, x4, x5, x6, x7⟩ := CL.out W7 K7.out.2.2.2.2) | (go_at_call 12; refine (RB2.out W7 g br rv K7).mono ?_; rintro e W8 ⟨rfl, K8⟩) | (go_at_call 14; refine (AT.out W8 br rv g K8).mono ?_; rintro e W8' ⟨rfl, rfl⟩) | (go_at_call 15; refine (LF2.out _ br rv g K8).mono ?_; rintro e W9 ⟨rfl, K9⟩) | (go_at_call 11; refine (N2.out W9 g k hkn K9).mono ?_; rintro e W10 ⟨br2, rv2, rfl, K10⟩; obtain ⟨z0, z1, z2, z3, z4, z5, z6, z7⟩ := CL.out W10 K10.out.2) | (go_at_call 18; refine (SH2.out W10 br2 rv2 k hkn K10).mono ?_; rintro e W11 ⟨rfl, K11⟩))
        go_ret
        exact ⟨rfl, K11.out⟩
end Go.Proofs.YtopmdpfnigceeaaDoor
