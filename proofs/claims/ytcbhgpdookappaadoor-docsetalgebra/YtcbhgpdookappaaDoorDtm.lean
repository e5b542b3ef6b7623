import Derived.Test.YtcbhgpdookappaaDoorDtl
namespace Go.Proofs.YtcbhgpdookappaaDoor.Ds
open Go.ChangeShapes Go.WideShapes Go.ChangeAt Go.RowKit Go.Shelf
attribute [local go_sem] Oper.semAt_some

set_option maxRecDepth 20000 in
set_option maxHeartbeats 1000000 in
theorem ball_any (b : Nat → Nat) (w : World) :
    Calls Tryd.prog 72 #[.agg (bw b)] w fun e w' => e = .returned (.func (.func 80) #[] #[.pointer (some ⟨w.heap.size, 0, none⟩)]) ∧ w' = w.alloc (.cells (bw b) 73) := by
  go_enter Tryd.func72, Tryd.ntmps72
  go_wp2
  go_ret
  exact ⟨rfl, rfl⟩
set_option maxRecDepth 20000 in
set_option maxHeartbeats 1000000 in
theorem members_any (v : Value) (w : World) (hv : v.oneCell' = true) (a : Option Addr) (n c : Nat) (e : v = .slice a n c) :
    Calls Tryd.prog 51 #[v] w fun e w' => e = .returned (.func (.func 71) #[] #[.pointer (some ⟨w.heap.size, 0, none⟩)]) ∧ w' = w.alloc (.cells #[v] 69) := by
  subst e
  go_enter Tryd.func51, Tryd.ntmps51
  go_wp2
  go_ret
  exact ⟨rfl, rfl⟩
/-- What the members' iterator reads. -/
structure MsK (bk rb nb cap : Nat) (ws : Nat → Nat) (A : World) : Prop where
  db : DbAt A
  box : A.heap[bk]? = some (.cells #[.slice (some ⟨rb, 0, none⟩) nb cap] 69 (0, 0))
  row : RowAt A rb nb ws
/-- What lies there between two blocks. -/
structure MsI (l s : Nat) (J : List Nat → World → Prop) (ws : Nat → Nat) (k : Nat) (bs : List Nat) (wr : World) : Prop where
  j : J (mlist ws (4 * k)) wr
  yb : wr.heap[s]? = some (.cells #[.func (.yield l) #[] #[]] 33 (0, 0))
  mks : Marks s wr.heap.size wr bs
/-- What lies there between two members of block k: s: where the iterator began; t: where its inner loop began. -/
structure MsR (l s t jb bx : Nat) (J : List Nat → World → Prop) (ws : Nat → Nat) (k : Nat) (bs : List Nat) (pre : List Nat) (A : World) : Prop where
  j : J (mlist ws (4 * k) ++ pre.map (fun i => 256 * k + i)) A
  yb : A.heap[s]? = some (.cells #[.func (.yield l) #[] #[]] 33 (0, 0))
  jc : A.heap[jb]? = some (.cells #[.int .i64 (k : Nat)] 3 (0, 0))
  bc : A.heap[bx]? = some (.cells (bw (blk ws k)) 73 (0, 0))
  mks : Marks s t A bs
  sz : t ≤ A.heap.size
set_option maxRecDepth 100000 in
set_option maxHeartbeats 4000000 in
/-- The members' iterator: whatever loop goes over it. -/
theorem mem_seq (m : Nat) (hm : 3 ≤ m) (ws : Nat → Nat) (hok : BOk ws) (bk rb nb cap : Nat) (hnb : nb ≤ 4096) (T : TypeId → Prop) (t1 : ¬ T 3) (t2 : ¬ T 73) (t3 : ¬ T 33) :
    SeqN Fence.wide m Tryd.prog 71 #[.pointer (some ⟨bk, 0, none⟩)] encN (MsK bk rb nb cap ws) T (fun pre x => (pre ++ [x]) <+: mlist ws (4 * nb)) (fun xs => xs = mlist ws (4 * nb)) := by
  intro l J Jx W hK hJ hJx hY h0
  have h1 : 1 ≤ m := by omega
  have hk0 := hK _ _ h0
  have q0 : W.cell? ⟨bk, 0, none⟩ = some (.slice (some ⟨rb, 0, none⟩) nb cap) := (cell_of_row _ _ _ _ _ _ hk0.box).trans rfl
  have hbk : bk < W.heap.size := lt_of_block hk0.box
  have HK := hideD hK
  have HY := hideD hY
  have H0 := hideD h0
  have HJ := hideD hJ
  have HJx := hideD hJx
  have HB := hideD hok
  have q1 : (W.alloc (.cells #[.func (.yield l) #[] #[]] 33)).cell? ⟨bk, 0, none⟩ = some (.slice (some ⟨rb, 0, none⟩) nb cap) := (Kept.alloc W _).cell q0 (fun f => f)
  clear hK hJ hJx hY h0 hok hk0
  refine callsIn_of_wp_marks Tryd.func71 rfl trivial ?_ rfl
  simp only [Tryd.ntmps71, List.size_toArray, List.length_cons, List.length_nil, Nat.reduceAdd, Nat.reduceSub, Array.replicate_succ, Array.replicate_zero, List.push_toArray, List.append_toArray, List.nil_append, List.cons_append]
  gi_wp2
  have HI0 := hideD (show MsI l W.heap.size J ws 0 [] (W.alloc (.cells #[.func (.yield l) #[] #[]] 33)) from ⟨by rw [Nat.mul_zero, mlist_zero]; exact HJ.out _ _ _ H0.out (.of_kept (Kept.alloc _ _)), heap_alloc_new W _, Marks.nil _ _ _⟩)
  obtain ⟨W0, hW0⟩ : ∃ W0, W0 = W.alloc (.cells #[.func (.yield l) #[] #[]] 33) := ⟨_, rfl⟩
  have HW0 := hideD (show W.heap.size < W0.heap.size from by rw [hW0]; simp)
  rw [← hW0] at HI0 ⊢
  clear hW0 q0 q1
  refine wpIn_loop (fun a w => ∃ (k : Nat) (bs : List Nat) (u3 u4 u5 u9 u10 u11 u12 u13 u14 u15 u16 u17 u18 u19 u20 u21 u22 u23 : Value), k ≤ nb ∧ a = { tmps := #[.func (.yield l) #[] #[], .pointer (some ⟨bk, 0, none⟩), .pointer (some ⟨W.heap.size, 0, none⟩), u3, u4, u5, .slice (some ⟨rb, 0, none⟩) nb cap, .int .i64 nb, .int .i64 k, u9, u10, u11, u12, u13, u14, u15, u16, u17, u18, u19, u20, u21, u22, u23], defers := marks bs } ∧ Hid (MsI l W.heap.size J ws k bs w)) (fun a _ => nb - (intOf (a.tmps.getD 8 undef)).toNat) ⟨0, [], undef, undef, undef, undef, undef, undef, undef, undef, undef, undef, undef, undef, undef, undef, undef, undef, undef, undef, by omega, rfl, HI0⟩ ?_
  rintro a wr ⟨k, bs, u3, u4, u5, u9, u10, u11, u12, u13, u14, u15, u16, u17, u18, u19, u20, u21, u22, u23, hk, rfl, HI⟩
  by_cases hlt : k < nb
  · obtain ⟨d0, d1, d2, d3⟩ := (HK.out _ _ HI.out.j).row.blk hlt
    have hki : 0 ≤ (k : Int) ∧ (k : Int) < (nb : Nat) := by omega
    have BA := hideD (fun w => ball_any (blk ws k) w)
    gi_wp2_with (refine ⟨trivial, ?_⟩; gi_at_call 72; refine (callsIn_wide.2 (BA.out _)).mono ?_; rintro e W4 ⟨rfl, rfl⟩)
    obtain ⟨G, hG⟩ : ∃ G : Value, G = .agg #[.int .u64 (blk ws k 0 : Nat), .int .u64 (blk ws k 1 : Nat), .int .u64 (blk ws k 2 : Nat), .int .u64 (blk ws k 3 : Nat)] := ⟨_, rfl⟩
    obtain ⟨V1, hV1⟩ : ∃ V1, V1 = (wr.alloc (.cells #[.int .i64 (k : Nat)] 3)).alloc (.cells #[.int .u64 (blk ws k 0 : Nat), .int .u64 (blk ws k 1 : Nat), .int .u64 (blk ws k 2 : Nat), .int .u64 (blk ws k 3 : Nat)] 73) := ⟨_, rfl⟩
    obtain ⟨V, hV⟩ : ∃ V, V = V1.alloc (.cells (bw (blk ws k)) 73) := ⟨_, rfl⟩
    have kV1 : Kept (fun _ => False) wr V1 := by rw [hV1]; exact (Kept.alloc _ _).trans (Kept.alloc _ _) (fun _ f => f.elim)
    have s1 : V1.heap.size = wr.heap.size + 1 + 1 := by rw [hV1]; simp
    have kV : Kept (fun _ => False) wr V := by rw [hV]; exact kV1.trans (Kept.alloc _ _) (fun _ f => f.elim)
    have sV : V.heap.size = wr.heap.size + 1 + 1 + 1 := by rw [hV, World.size_alloc, s1]
    have jV : V.heap[wr.heap.size]? = some (.cells #[.int .i64 (k : Nat)] 3 (0, 0)) := by rw [hV, hV1]; exact (Kept.alloc _ _).heap ((Kept.alloc _ _).heap (heap_alloc_new wr _) (fun f => f)) (fun f => f)
    have bV : V.heap[wr.heap.size + 1 + 1]? = some (.cells (bw (blk ws k)) 73 (0, 0)) := by rw [hV, ← s1]; exact heap_alloc_new V1 _
    rw [← hG, ← hV1, ← hV]
    have R0 := hideD (show MsR l W.heap.size V.heap.size wr.heap.size (wr.heap.size + 1 + 1) J ws k bs [] V from ⟨by simpa using HJ.out _ _ _ HI.out.j (.of_kept kV), kV.heap HI.out.yb (fun f => f), jV, bV, ((HI.out.mks.keptN (KeptN.of_kept kV) (Nat.le_refl _)).mono kV.size), Nat.le_refl _⟩)
    have hsw := lt_of_block HI.out.yb
    have HSV := hideD sV
    clear hV hV1 hG kV1 s1 kV jV bV d0 d1 d2 d3 BA HI sV
    refine range_n (α := Nat) rfl h1 (gf := 80) (lb := #[.pointer (some ⟨wr.heap.size + 1 + 1, 0, none⟩)]) rfl trivial (enters_of Tryd.func80 (by kernel_rfl) rfl) (ball_seq (m - 1) (by omega) (blk ws k) (blk_ok HB.out k) (wr.heap.size + 1 + 1) T) (fun _ => rfl)
      (fun pre A => MsR l W.heap.size V.heap.size wr.heap.size (wr.heap.size + 1 + 1) J ws k bs pre A) (fun c _ A => c = .ret ∧ (∃ p, Jx p A) ∧ Marks W.heap.size V.heap.size A bs ∧ V.heap.size ≤ A.heap.size)
      (fun pre A h => ⟨(HK.out _ _ h.j).db, h.bc⟩) ?_ ?_ ?_
      (fun x a' _ => a' = { tmps := #[.func (.yield l) #[] #[], .pointer (some ⟨bk, 0, none⟩), .pointer (some ⟨W.heap.size, 0, none⟩), .pointer (some ⟨wr.heap.size, 0, none⟩), .pointer (some ⟨wr.heap.size + 1, 0, none⟩), .int .i64 x, .slice (some ⟨rb, 0, none⟩) nb cap, .int .i64 nb, .int .i64 k, .bool true, .int .i64 k, .pointer (some ⟨rb, k * 4, none⟩), G, G, .func (.func 80) #[] #[.pointer (some ⟨wr.heap.size + 1 + 1, 0, none⟩)], .int .i64 x, u16, u17, u18, u19, u20, u21, u22, u23], defers := [] })
      (fun _ _ _ _ h _ => h) ?_ ?_ ?_ ?_
    · intro pre A B h kk
      exact ⟨HJ.out _ _ _ h.j (kk.mono (by have := HSV.out; omega)), kk.cells h.yb, kk.cells h.jc, kk.cells h.bc, h.mks.keptN kk (by omega), Nat.le_trans h.sz kk.size⟩
    · rintro c pre A B ⟨h1, ⟨p, h2⟩, h3, h4⟩ kk
      exact ⟨h1, ⟨p, HJx.out _ _ _ h2 (kk.mono (by have := HSV.out; omega))⟩, h3.keptN kk (by omega), Nat.le_trans h4 kk.size⟩
    · intro r
      have kk : KeptN (V.heap.size + 1) V ((V.alloc (.deferred (some []))).alloc (.loop r)) := .of_kept ((Kept.alloc _ _).trans (Kept.alloc _ _) (fun _ f => f.elim))
      exact ⟨HJ.out _ _ _ R0.out.j (kk.mono (by have := HSV.out; omega)), kk.cells R0.out.yb, kk.cells R0.out.jc, kk.cells R0.out.bc, R0.out.mks.keptN kk (by omega), kk.size⟩
    · intro l2 x B K hs hK2
      simp only [encN]
      gi_wp2
      exact hK2 _ _ (Kept.refl _ _) rfl
    · rintro l2 pre x a' B hmx hI hs hD ⟨r, hr⟩ rfl
      have y0 := cell_of_one hI.yb
      have y1 := cell_of_one hI.jc
      have hWB : W.heap.size ≤ B.heap.size := by have := HSV.out; omega
      have hpx : (mlist ws (4 * k) ++ pre.map (fun i => 256 * k + i)) ++ [256 * k + x] <+: mlist ws (4 * nb) := by
        have h1 := (mlist_blk ws k) ▸ (mlist_le ws (show 4 * (k + 1) ≤ 4 * nb by omega))
        obtain ⟨r, hr⟩ := hmx
        rw [← hr] at h1
        refine List.IsPrefix.trans ⟨r.map (fun i => 256 * k + i), ?_⟩ h1
        simp
      obtain ⟨fn, tmps, assign, body', hy2, hR⟩ := HY.out _ (256 * k + x) B hpx hI.j hWB
      have hR2 : RoundIn (Fence.wide.inRound l2) (m - 1 - 1 - 1) Tryd.prog l fn tmps assign body' B _ := round_any (F := Fence.wide) rfl hR
      have ev : encN (256 * k + x) = #[.int .i64 ((k : Int) * 256 + (x : Int))] := by unfold encN; rw [show ((256 * k + x : Nat) : Int) = (k : Int) * 256 + (x : Int) by omega]
      rw [ev] at hy2
      have HII := hideD hI
      have HDD := hideD hD
      have HRR := hideD hr
      have h11 : 1 ≤ m - 1 - 1 := by omega
      have hx4 : x < 256 := by
        have hm2 : x ∈ blist (blk ws k) := hmx.mem (by simp)
        unfold blist mlist at hm2
        rw [List.mem_filter, List.mem_range] at hm2
        omega
      have HPX := hideD hmx
      clear hI hD hr hR ev hmx hpx
      gi_wp2
      refine hR2.mono ?_
      rintro e C ⟨AB, (⟨rfl, JC⟩ | ⟨rfl, XC⟩)⟩
      · have HAB := hideD AB
        have HJC := hideD JC
        clear AB JC hR2 hy2 y0 y1
        gi_wp2
        refine ⟨?_, HAB.out.mono (by have := HSV.out; omega), ⟨?_, HAB.out.cells (Nat.le_refl _) HII.out.yb t3, HAB.out.cells (by omega) HII.out.jc t1, HAB.out.cells (by omega) HII.out.bc t2, HII.out.mks.above HAB.out (Nat.le_refl _), Nat.le_trans HII.out.sz HAB.out.size⟩⟩
        · rintro i (rfl | rfl)
          · rw [HDD.out]; exact HAB.out.other (by have := HSV.out; omega) HDD.out rfl
          · rw [HRR.out]; exact HAB.out.other (by have := HSV.out; omega) HRR.out rfl
        · rw [List.map_append, ← List.append_assoc]
          exact HJC.out
      · have HAB := hideD AB
        have HXC := hideD XC
        clear AB XC hR2 hy2 y0 y1
        gi_wp2
        refine ⟨?_, HAB.out.mono (by have := HSV.out; omega), rfl, ⟨_, HXC.out⟩, HII.out.mks.above HAB.out (Nat.le_refl _), Nat.le_trans HII.out.sz HAB.out.size⟩
        rintro i (rfl | rfl)
        · rw [HDD.out]; exact HAB.out.other (by have := HSV.out; omega) HDD.out rfl
        · rw [HRR.out]; exact HAB.out.other (by have := HSV.out; omega) HRR.out rfl
    · rintro xs W' rfl hI hab hs hD
      have HII := hideD hI
      have HDD := hideD hD
      clear hI hD hab
      gi_wp2
      refine ⟨⟨k + 1, V.heap.size :: bs, _, _, _, _, _, _, _, _, _, _, _, _, _, _, _, _, _, _, by omega, rfl, hideD ⟨?_, HII.out.yb, ?_⟩⟩, ?_⟩
      · rw [mlist_blk]
        exact HII.out.j
      · exact (HII.out.mks.cons (by have := HSV.out; omega) (Nat.le_refl _) HDD.out).mono (by omega)
      · simp [intOf]; omega
    · rintro c pre W' ⟨rfl, ⟨p, hx⟩, hm3, hsz⟩ hab hs hD
      gi_wp2
      have hmk : Marks W.heap.size (V.heap.size + 1) W' (V.heap.size :: bs) := hm3.cons (by have := HSV.out; omega) (Nat.le_refl _) hD
      refine leaves_marks (V.heap.size :: bs) W' hmk.nodup (fun D hD => ⟨(hmk.at_ D hD).1, (hmk.at_ D hD).2.2⟩) fun W2 k' => ⟨_, results_none rfl _ _ _, ⟨_, rfl⟩, above_self (by have := k'.size; have := HSV.out; omega), .inr ⟨p, HJx.out _ _ _ hx k'⟩⟩
  · obtain rfl : k = nb := by omega
    clear hlt hk
    gi_wp2
    refine leaves_marks bs wr HI.out.mks.nodup (fun D hD => ⟨(HI.out.mks.at_ D hD).1, (HI.out.mks.at_ D hD).2.2⟩) fun W' k' => ⟨_, results_none rfl _ _ _, ⟨_, rfl⟩, above_self (Nat.le_trans (Nat.le_of_lt (lt_of_block HI.out.yb)) k'.size), .inl ⟨_, rfl, HJ.out _ _ _ HI.out.j k'⟩⟩
end Go.Proofs.YtcbhgpdookappaaDoor.Ds
