import Derived.Test.YtbhoplmbiomogaaDoorRdx
namespace Go.Proofs.YtbhoplmbiomogaaDoor
open Go.ChangeShapes Go.WideShapes Go.ChangeAt Go.RowKit

set_option maxRecDepth 20000 in
set_option maxHeartbeats 16000000 in
theorem rdecS_ok (l : List Int) (a : Option Addr) (n c m k : Nat) (w : World) (hn : n = l.length) (hB : BytesAt w a l) (hI : IsBytes l) (hl : l.length ≤ 140737488355328) (hc : n ≤ c) (hr : rup 16 l 0 = .ok (m, k)) :
    Calls Tryd.prog 10 #[.slice a n c] w fun e w' => rdP (dec l) w' e ∧ Kept (fun _ => False) w w' := by
  have KA := Kept.alloc w (.cells #[.slice none 0 0] 24)
  have CU := hideD (rgetp_any 16 l a n c 0 _ hn (hB.keptD KA) hI (by omega) hl (by omega))
  rw [hr] at CU
  simp only [gpV, Nat.zero_add] at CU
  have hm16 := (rup_ok hr).2
  have hkl := rdu_le _ _ _ _ _ (rup_ok hr).1
  rw [List.length_drop] at hkl
  obtain ⟨i0, hi0, hz0, hz1, hz2⟩ := info_parts Tryd.infoF
  have HUp := hideD hr
  have HI := hideD hI
  have hnb : n ≤ 140737488355328 := by omega
  have hkn : k ≤ n := by omega
  obtain ⟨W1, hW1⟩ : ∃ W1, W1 = (w.alloc (.cells #[.slice none 0 0] 24)).alloc (.cells #[.slice none 0 0] 24) := ⟨_, rfl⟩
  have HK1 : Hid (Kept (fun _ => False) w W1) := hideD (by rw [hW1]; exact KA.trans (Kept.alloc _ _) (fun _ f => f.elim))
  have HR1 : Hid (W1.heap[w.heap.size]? = some (.cells #[.slice none 0 0] 24 (0, 0))) := hideD (by rw [hW1]; exact (Kept.alloc _ _).heap (heap_alloc_new w _) (fun f => f))
  have HS1 : Hid (W1.heap[w.heap.size + 1]? = some (.cells #[.slice none 0 0] 24 (0, 0))) := hideD (by rw [hW1]; have := heap_alloc_new (w.alloc (.cells #[.slice none 0 0] 24)) (.cells #[.slice none 0 0] 24); simpa using this)
  have HB1 := hideD (hB.keptD HK1.out)
  have HLw := hideD (show w.heap.size + 1 < W1.heap.size from lt_of_block HS1.out)
  have CT : Hid (∀ W p, Kept (fun k => k = w.heap.size + 1) W1 W → p ≤ n → Calls Tryd.prog 29 #[.slice a n c, .int .i64 p, .int .i64 32] W fun e w' => e = .returned (gtV p (rtx l p)) ∧ w' = W) := hideD (fun W p hk hp => by
    refine rgett_any l a n c p W hn ?_ hI (by omega) hl hc
    intro hne
    obtain ⟨b, off, e, hcl⟩ := hB hne
    refine ⟨b, off, e, fun j hj => hk.cell (HK1.out.cell (hcl j hj) (fun f => f)) (fun e2 => ?_)⟩
    have := World.block_lt_of_cell? w _ (hcl j hj)
    simp only at e2 this
    omega)
  have CB : Hid (∀ W q, Kept (fun k => k = w.heap.size + 1) W1 W → q < n → Calls Tryd.prog 30 #[.slice a n c, .int .i64 q] W fun e w' => e = .returned (.tuple #[.int .u8 (l[q]?.getD 0), .int .i64 ((q : Int) + 1), .int .i64 0]) ∧ w' = W) := hideD (fun W q hk hq => by
    refine rgetb_ok l a n c q W hn ?_ (by omega) hl
    intro hne
    obtain ⟨b, off, e, hcl⟩ := hB hne
    refine ⟨b, off, e, fun j hj => hk.cell (HK1.out.cell (hcl j hj) (fun f => f)) (fun e2 => ?_)⟩
    have := World.block_lt_of_cell? w _ (hcl j hj)
    simp only at e2 this
    omega)
  have HN := hideD hn
  clear hB hI hl hc hr hkl hn KA
  go_enter Tryd.func10, Tryd.ntmps10
  go_wp2_with (go_at_call 28; refine CU.out.mono ?_; clear CU; rintro e W2 ⟨rfl, rfl⟩)
  rw [← hW1]
  clear hW1
  obtain ⟨bs, hbs⟩ : ∃ bs, bs = w.heap.size + 1 := ⟨_, rfl⟩
  rw [← hbs] at HS1 HLw CT CB ⊢
  obtain ⟨br, hbr⟩ : ∃ br, br = w.heap.size := ⟨_, rfl⟩
  rw [← hbr] at HR1 hbs ⊢
  have HBS := hideD hbs
  have HBR := hideD hbr
  clear hbs hbr
  go_loopw [5, 8, 9] (fun v5 v8 v9 wr => ∃ (i p : Nat) (bd : Bool) (F : List Fd) (B : List Nat) (ar : Option Addr) (cr : Nat), i ≤ m ∧ p ≤ n ∧ v9 = .int .i64 i ∧ v5 = .int .i64 p ∧ v8 = .bool bd ∧ Hid (wr.heap[bs]? = some (.cells #[.slice ar i cr] 24 (0, 0))) ∧ Hid (wr.ownsRow W1.heap.size 46 5 (.slice ar i cr) i (fcells F)) ∧ Hid (F.length = i ∧ rfd l m k = prd F B (rfd l (m - i) p) ∧ bd = decide (31 < orL B)) ∧ Hid (Kept (fun k => k = bs) W1 wr)) (fun _ _ v9 _ => m - (intOf v9).toNat)
  case atStart => exact ⟨0, k, false, [], [], none, 0, by omega, hkn, rfl, rfl, rfl, HS1, hideD (World.ownsRow_nil _ _ _ _), hideD ⟨rfl, (prd_nil _).symm, by decide⟩, Kept.refl _ _⟩
  case round =>
    obtain ⟨i, p, bd, F, B, ar, cr, hi, hpn, rfl, rfl, rfl, HSb, HSo, HF, KK⟩ := hrel
    have hrs : ¬ br = bs := by have := HBS.out; omega
    have HRb := hideD (KK.out.heap HR1.out hrs)
    have f5 := free_of_one HRb.out
    have c5 := cell_of_one HRb.out
    have cb := cell_of_one HSb.out
    have HKw : Hid (Kept (fun _ => False) w wr) := hideD (HK1.out.trans KK.out (fun i hi => .inr (by have := HBS.out; have := HBR.out; omega)))
    clear HR1 HS1
    by_cases hlt : i < m
    · have hii : (i : Int) < (m : Int) := by omega
      obtain ⟨m1, hm1⟩ : ∃ m1, m - i = m1 + 1 := ⟨m - i - 1, by omega⟩
      have HFr := hideD HF.out.2.1
      rw [hm1] at HFr
      have CTp := hideD (CT.out wr p KK.out hpn)
      cases hT : rtx l p with
      | error er =>
        have HBad := hideD (dec_fd HUp.out (HFr.out.trans (prd_text hT)))
        rw [hT] at CTp
        simp only [gtV] at CTp
        have g1 : (((er + 1 : Nat) : Int) != 0) = true := by rw [bne, show (((er + 1 : Nat) : Int) == 0) = false from by rw [beq_eq_false_iff_ne]; omega]; rfl
        obtain ⟨E, hE⟩ : ∃ E : Int, E = ((er + 1 : Nat) : Int) := ⟨_, rfl⟩
        rw [← hE] at CTp g1
        have HEe := hideD hE
        clear hE hT HFr hm1 CT CB HF
        go_wp2_with (go_at_call 29; refine CTp.out.mono ?_; clear CTp; rintro e W5 ⟨rfl, rfl⟩)
        have c6 : (W5.setCell ⟨br, 0, none⟩ (.slice none 0 0)).cell? ⟨br, 0, none⟩ = some (.slice none 0 0) := cell_of_one (one_setCell HRb.out)
        refine bodyPost_ret (v := .tuple #[.agg #[.slice none 0 0], .int .i64 E]) (by simp [results, Tryd.results10, go_sem, c6]) rfl ⟨rdP_err HBad.out HEe.out, ?_⟩
        exact HKw.out.trans (kset _ br 0 _) (fun i hi => .inr (by have := HBR.out; omega))
      | ok tq =>
        obtain ⟨t, q⟩ := tq
        have hqn : q ≤ n := by have := rtx_le hT; have := HN.out; omega
        by_cases hq : q < n
        · obtain ⟨b, hb, hb256⟩ : ∃ b : Nat, l[q]?.getD 0 = (b : Int) ∧ b < 256 := by
            have hql : q < l.length := by have := HN.out; omega
            have h1 := HI.out _ (List.getElem_mem hql)
            rw [List.getElem?_eq_getElem hql]
            exact ⟨l[q].toNat, by simp only [Option.getD_some]; omega, by omega⟩
          have CBp := hideD (CB.out wr q KK.out hq)
          rw [hb] at CBp
          rw [hT] at CTp
          simp only [gtV] at CTp
          obtain ⟨N0, hN0⟩ : ∃ N0, N0 = strOfNums t := ⟨_, rfl⟩
          rw [← hN0] at CTp
          have hbt : ∀ x : Nat, decide (b / x % 2 = 1) = ((b : Int) / (x : Int) % 2 == 1) := fun x => by
            have e : (b : Int) / (x : Int) % 2 = ((b / x % 2 : Nat) : Int) := by omega
            rw [e]
            by_cases h : b / x % 2 = 1
            · rw [decide_eq_true h, h]; rfl
            · rw [decide_eq_false h]
              symm
              rw [beq_eq_false_iff_ne]
              omega
          have hfd : fdOf (strOfNums t) b = (⟨N0, (b : Int) % 4, ((b : Int) / 4 % 2 == 1), ((b : Int) / 8 % 2 == 1), ((b : Int) / 16 % 2 == 1)⟩ : Fd) := by
            rw [fdOf, hN0]
            have h1 : ((b % 4 : Nat) : Int) = (b : Int) % 4 := by omega
            rw [h1, hbt 4, hbt 8, hbt 16]
            rfl
          have HSt : Hid (rfd l m k = prd (F ++ [⟨N0, (b : Int) % 4, ((b : Int) / 4 % 2 == 1), ((b : Int) / 8 % 2 == 1), ((b : Int) / 16 % 2 == 1)⟩]) (B ++ [b]) (rfd l m1 (q + 1))) := hideD (by
            have := HFr.out.trans (prd_step hT (by have := HN.out; omega))
            rw [hb, Int.toNat_natCast, hfd] at this
            exact this)
          have HOr : Hid (decide (31 < orL (B ++ [b])) = (bd || decide (31 < b))) := hideD (by rw [orL_snoc, or31, HF.out.2.2])
          have HFl := hideD HF.out.1
          have HM1 := hideD hm1
          have w4 : IntKind.i64.wrap ((b : Int) % 4) = (b : Int) % 4 := by rw [IntKind.wrap_i64]; omega
          clear hb hT HFr HF hm1 hfd hbt hN0 CT CB
          have hq1 : IntKind.i64.wrap ((q : Int) + 1) = (q : Int) + 1 := by rw [IntKind.wrap_i64]; omega
          cases bd
          · by_cases h31 : 31 < b
            · have g1 : decide ((31 : Int) < (b : Int)) = true := decide_eq_true (by omega)
              have g2 : decide (31 < b) = true := decide_eq_true h31
              have HBD : Hid (true = decide (31 < orL (B ++ [b]))) := hideD (by rw [HOr.out, g2]; rfl)
              clear HOr
              go_wp2_with (first
                | (go_at_call 29; refine CTp.out.mono ?_; clear CTp; rintro e W5 ⟨rfl, rfl⟩)
                | (go_at_call 30; refine CBp.out.mono ?_; clear CBp; rintro e W6 ⟨rfl, rfl⟩)
                | (at_builtin; refine wpList_append_own _ rfl _ _ 22 rfl W1.heap.size 46 i0 _ 5 32 Tryd.underlying22 hi0 hz0 hz1 hz2 rfl (by decide) (.slice ar i cr) i (fcells F) rfl (HSo.out.alloc _) ⟨W6.heap.size, 0, none⟩ 1 1 [.string N0, .int .i64 ((b : Int) % 4), .bool ((b : Int) / 4 % 2 == 1), .bool ((b : Int) / 8 % 2 == 1), .bool ((b : Int) / 16 % 2 == 1)] rfl rfl (row_news W6 _ 46) (by intro u hu; simp at hu; rcases hu with rfl | rfl | rfl | rfl | rfl <;> rfl) (by unfold maxLen; omega) (by omega) (by have := KK.out.size; simp; omega) ?_; intro v' W' ho hg _; obtain ⟨a', c', rfl⟩ := own_slice ho; obtain ⟨s1, s2, s3, s4, s5⟩ := sbox_stepD (f := ⟨N0, (b : Int) % 4, ((b : Int) / 4 % 2 == 1), ((b : Int) / 8 % 2 == 1), ((b : Int) / 16 % 2 == 1)⟩) HLw.out HSb.out HSo.out KK.out ho hg; have HS3 := hideD s3; have HS4 := hideD s4; have HS5 := hideD s5; clear s3 s4 s5 ho hg))
              go_roundw
              case rel => exact ⟨i + 1, q + 1, true, F ++ [⟨N0, (b : Int) % 4, ((b : Int) / 4 % 2 == 1), ((b : Int) / 8 % 2 == 1), ((b : Int) / 16 % 2 == 1)⟩], B ++ [b], a', c', hlt, by omega, by go_num, by go_num, rfl, HS3, HS4, hideD ⟨by rw [List.length_append, HFl.out]; rfl, by rw [show m - (i + 1) = m1 from by have := HM1.out; omega]; exact HSt.out, HBD.out⟩, HS5⟩
              case measure => simp [intOf]; omega
            · have g1 : decide ((31 : Int) < (b : Int)) = false := decide_eq_false (by omega)
              have g2 : decide (31 < b) = false := decide_eq_false h31
              have HBD : Hid (false = decide (31 < orL (B ++ [b]))) := hideD (by rw [HOr.out, g2]; rfl)
              clear HOr
              go_wp2_with (first
                | (go_at_call 29; refine CTp.out.mono ?_; clear CTp; rintro e W5 ⟨rfl, rfl⟩)
                | (go_at_call 30; refine CBp.out.mono ?_; clear CBp; rintro e W6 ⟨rfl, rfl⟩)
                | (at_builtin; refine wpList_append_own _ rfl _ _ 22 rfl W1.heap.size 46 i0 _ 5 32 Tryd.underlying22 hi0 hz0 hz1 hz2 rfl (by decide) (.slice ar i cr) i (fcells F) rfl (HSo.out.alloc _) ⟨W6.heap.size, 0, none⟩ 1 1 [.string N0, .int .i64 ((b : Int) % 4), .bool ((b : Int) / 4 % 2 == 1), .bool ((b : Int) / 8 % 2 == 1), .bool ((b : Int) / 16 % 2 == 1)] rfl rfl (row_news W6 _ 46) (by intro u hu; simp at hu; rcases hu with rfl | rfl | rfl | rfl | rfl <;> rfl) (by unfold maxLen; omega) (by omega) (by have := KK.out.size; simp; omega) ?_; intro v' W' ho hg _; obtain ⟨a', c', rfl⟩ := own_slice ho; obtain ⟨s1, s2, s3, s4, s5⟩ := sbox_stepD (f := ⟨N0, (b : Int) % 4, ((b : Int) / 4 % 2 == 1), ((b : Int) / 8 % 2 == 1), ((b : Int) / 16 % 2 == 1)⟩) HLw.out HSb.out HSo.out KK.out ho hg; have HS3 := hideD s3; have HS4 := hideD s4; have HS5 := hideD s5; clear s3 s4 s5 ho hg))
              go_roundw
              case rel => exact ⟨i + 1, q + 1, false, F ++ [⟨N0, (b : Int) % 4, ((b : Int) / 4 % 2 == 1), ((b : Int) / 8 % 2 == 1), ((b : Int) / 16 % 2 == 1)⟩], B ++ [b], a', c', hlt, by omega, by go_num, by go_num, rfl, HS3, HS4, hideD ⟨by rw [List.length_append, HFl.out]; rfl, by rw [show m - (i + 1) = m1 from by have := HM1.out; omega]; exact HSt.out, HBD.out⟩, HS5⟩
              case measure => simp [intOf]; omega
          · have HBD : Hid (true = decide (31 < orL (B ++ [b]))) := hideD (by rw [HOr.out]; rfl)
            clear HOr
            go_wp2_with (first
              | (go_at_call 29; refine CTp.out.mono ?_; clear CTp; rintro e W5 ⟨rfl, rfl⟩)
              | (go_at_call 30; refine CBp.out.mono ?_; clear CBp; rintro e W6 ⟨rfl, rfl⟩)
              | (at_builtin; refine wpList_append_own _ rfl _ _ 22 rfl W1.heap.size 46 i0 _ 5 32 Tryd.underlying22 hi0 hz0 hz1 hz2 rfl (by decide) (.slice ar i cr) i (fcells F) rfl (HSo.out.alloc _) ⟨W6.heap.size, 0, none⟩ 1 1 [.string N0, .int .i64 ((b : Int) % 4), .bool ((b : Int) / 4 % 2 == 1), .bool ((b : Int) / 8 % 2 == 1), .bool ((b : Int) / 16 % 2 == 1)] rfl rfl (row_news W6 _ 46) (by intro u hu; simp at hu; rcases hu with rfl | rfl | rfl | rfl | rfl <;> rfl) (by unfold maxLen; omega) (by omega) (by have := KK.out.size; simp; omega) ?_; intro v' W' ho hg _; obtain ⟨a', c', rfl⟩ := own_slice ho; obtain ⟨s1, s2, s3, s4, s5⟩ := sbox_stepD (f := ⟨N0, (b : Int) % 4, ((b : Int) / 4 % 2 == 1), ((b : Int) / 8 % 2 == 1), ((b : Int) / 16 % 2 == 1)⟩) HLw.out HSb.out HSo.out KK.out ho hg; have HS3 := hideD s3; have HS4 := hideD s4; have HS5 := hideD s5; clear s3 s4 s5 ho hg))
            go_roundw
            case rel => exact ⟨i + 1, q + 1, true, F ++ [⟨N0, (b : Int) % 4, ((b : Int) / 4 % 2 == 1), ((b : Int) / 8 % 2 == 1), ((b : Int) / 16 % 2 == 1)⟩], B ++ [b], a', c', hlt, by omega, by go_num, by go_num, rfl, HS3, HS4, hideD ⟨by rw [List.length_append, HFl.out]; rfl, by rw [show m - (i + 1) = m1 from by have := HM1.out; omega]; exact HSt.out, HBD.out⟩, HS5⟩
            case measure => simp [intOf]; omega
        · obtain rfl : q = n := by omega
          have HBad := hideD (dec_fd HUp.out (HFr.out.trans (prd_short hT (by have := HN.out; omega))))
          have CBe := fun w => hideD (rgetb_end a q c w)
          rw [hT] at CTp
          simp only [gtV] at CTp
          generalize strOfNums t = N0 at *
          clear hT HFr hm1 CT CB HF hq
          go_wp2_with (first
            | (go_at_call 29; refine CTp.out.mono ?_; clear CTp; rintro e W5 ⟨rfl, rfl⟩)
            | (go_at_call 30; refine (CBe _).out.mono ?_; clear CBe; rintro e W6 ⟨rfl, rfl⟩))
          have c6 : (W6.setCell ⟨br, 0, none⟩ (.slice none 0 0)).cell? ⟨br, 0, none⟩ = some (.slice none 0 0) := cell_of_one (one_setCell HRb.out)
          refine bodyPost_ret (v := .tuple #[.agg #[.slice none 0 0], .int .i64 1]) (by simp [results, Tryd.results10, go_sem, c6]) rfl ⟨rdP_err HBad.out rfl, ?_⟩
          exact HKw.out.trans (kset _ br 0 _) (fun i hi => .inr (by have := HBR.out; omega))
    · obtain rfl : i = m := by omega
      have HOk : Hid (rfd l i k = .ok (F, B, p)) := hideD (by
        have := HF.out.2.1
        rw [Nat.sub_self] at this
        rw [this]
        simp [rfd, prd])
      have HD := hideD (dec_ok HUp.out HOk.out)
      have HFl := hideD HF.out.1
      have HFo := hideD (rfd_ok HOk.out).2
      have HBd := hideD HF.out.2.2
      clear CT CB HF
      by_cases hpl : p < n
      · have HX : Hid (dec l = .error 4) := hideD (by rw [HD.out, if_pos (by have := HN.out; omega)])
        have g1 : (p : Int) < (n : Int) := by omega
        clear HD
        go_wp2
        have c6 : (wr.setCell ⟨br, 0, none⟩ (.slice none 0 0)).cell? ⟨br, 0, none⟩ = some (.slice none 0 0) := cell_of_one (one_setCell HRb.out)
        refine bodyPost_ret (v := .tuple #[.agg #[.slice none 0 0], .int .i64 5]) (by simp [results, Tryd.results10, go_sem, c6]) rfl ⟨rdP_err HX.out rfl, ?_⟩
        exact HKw.out.trans (kset _ br 0 _) (fun i hi => .inr (by have := HBR.out; omega))
      · have g1 : ¬ (p : Int) < (n : Int) := by omega
        have HD2 : Hid (dec l = if orL B ≤ 31 ∧ gschema F = true then .ok F else .error 10) := hideD (by rw [HD.out, if_neg (by have := HN.out; omega)])
        clear HD
        cases bd with
        | true =>
          have HX : Hid (dec l = .error 10) := hideD (by rw [HD2.out, if_neg (fun e => by have h := HBd.out.symm; rw [decide_eq_true_eq] at h; omega)])
          go_wp2
          have c6 : (wr.setCell ⟨br, 0, none⟩ (.slice none 0 0)).cell? ⟨br, 0, none⟩ = some (.slice none 0 0) := cell_of_one (one_setCell HRb.out)
          refine bodyPost_ret (v := .tuple #[.agg #[.slice none 0 0], .int .i64 11]) (by simp [results, Tryd.results10, go_sem, c6]) rfl ⟨rdP_err HX.out rfl, ?_⟩
          exact HKw.out.trans (kset _ br 0 _) (fun i hi => .inr (by have := HBR.out; omega))
        | false =>
          have h31 : orL B ≤ 31 := by have h := HBd.out.symm; rw [decide_eq_false_iff_not] at h; omega
          have HFs : Hid (FsAt wr ar F) := hideD (fs_of_own (base := W1.heap.size) (c := cr) (by rw [HFl.out]; exact HSo.out))
          have CC := hideD (rcheck_any F ar cr wr HFs.out HFo.out)
          rw [HFl.out] at CC
          have HRe : Hid (∀ b off, ar = some ⟨b, off, none⟩ → ¬ b = br) := hideD (fun b off e hb => by
            have := (HSo.out.lt b (by rw [e]; rfl)).1
            have h1 := HLw.out
            have h2 := HBS.out
            omega)
          cases hG : gschema F with
          | true =>
            have HX : Hid (dec l = .ok F) := hideD (by rw [HD2.out, if_pos ⟨h31, hG⟩])
            rw [chkN_good hG] at CC
            clear hG HD2
            go_wp2_with (go_at_call 22; refine CC.out.mono ?_; clear CC; rintro e W5 ⟨rfl, K5⟩; have HR5 := hideD (K5.heap HRb.out (fun f => f)); have f6 := free_of_one HR5.out; have c7 := cell_of_one HR5.out; have b5 := cell_of_one (K5.heap HSb.out (fun f => f)); have HF5 := hideD (HFs.out.kept K5); have HK5 := hideD K5; clear K5)
            have c6 : (W5.setCell ⟨br, 0, none⟩ (.slice ar i cr)).cell? ⟨br, 0, none⟩ = some (.slice ar i cr) := cell_of_one (one_setCell HR5.out)
            refine bodyPost_ret (v := .tuple #[.agg #[.slice ar i cr], .int .i64 0]) (by simp [results, Tryd.results10, go_sem, c6]) rfl ⟨rdP_ok HX.out HFl.out (HF5.out.putD br HRe.out), ?_⟩
            exact (HKw.out.trans HK5.out (fun _ f => f.elim)).trans (kset _ br 0 _) (fun i hi => .inr (by have := HBR.out; omega))
          | false =>
            have HX : Hid (dec l = .error 10) := hideD (by rw [HD2.out, if_neg (fun e => by rw [hG] at e; cases e.2)])
            rw [chkN_bad hG] at CC
            clear hG HD2
            go_wp2_with (go_at_call 22; refine CC.out.mono ?_; clear CC; rintro e W5 ⟨rfl, K5⟩; have HR5 := hideD (K5.heap HRb.out (fun f => f)); have f6 := free_of_one HR5.out; have c7 := cell_of_one HR5.out; have HK5 := hideD K5; clear K5)
            have c6 : (W5.setCell ⟨br, 0, none⟩ (.slice none 0 0)).cell? ⟨br, 0, none⟩ = some (.slice none 0 0) := cell_of_one (one_setCell HR5.out)
            refine bodyPost_ret (v := .tuple #[.agg #[.slice none 0 0], .int .i64 11]) (by simp [results, Tryd.results10, go_sem, c6]) rfl ⟨rdP_err HX.out rfl, ?_⟩
            exact (HKw.out.trans HK5.out (fun _ f => f.elim)).trans (kset _ br 0 _) (fun i hi => .inr (by have := HBR.out; omega))
end Go.Proofs.YtbhoplmbiomogaaDoor
