import Derived.Test.YtidgofpmnlddaaaGreatDoorMrg12
import Derived.Test.YtidgofpmnlddaaaGreatDoorPdb
import Derived.Test.YtidgofpmnlddaaaGreatDoorPda
namespace Go.Proofs.YtidgofpmnlddaaaGreatDoor
open Go.ChangeShapes Go.WideShapes Go.ChangeAt Go.RowKit

/-- An address in new memory. -/
def Newb (W : World) (a : Option Addr) : Prop := ∀ b off, a = some ⟨b, off, none⟩ → W.heap.size ≤ b
theorem Gro.newb {w0 w : World} {e : TypeId} {sz c n : Nat} {a : Option Addr} {xs : List Value} (h : Gro w0 w e sz (.slice a n c) n xs) : Newb w0 a := by
  intro b off ea
  rcases h.own.2 with ⟨e1, e2⟩ | ⟨g, cap, cur, e1, hg, _⟩
  · injection e1 with e3
    rw [ea] at e3
    cases e3
  · injection e1 with e3
    rw [ea] at e3
    simp only [Option.some.injEq, Addr.mk.injEq, and_true] at e3
    rw [e3.1]
    exact hg
theorem gro_intsX {w0 w : World} {v : Value} {n : Nat} {l : List Int} (h : Gro w0 w 3 1 v n (is l)) (hn : n = l.length) : ∃ (a : Option Addr) (c : Nat), v = .slice a n c ∧ IntsAt w a l := by
  obtain ⟨a, c, rfl⟩ := h.shape
  refine ⟨a, c, rfl, fun hne => ?_⟩
  obtain ⟨g', e, _, hc⟩ := h.cell (by rw [hn]; exact List.length_pos_iff.2 hne)
  subst e
  refine ⟨g', 0, rfl, fun k hk => ?_⟩
  rw [Nat.zero_add]
  exact hc k _ (by simp [is, List.getElem?_eq_getElem hk])
theorem is_newX (W : World) (l : List Int) : IntsAt (W.alloc (.cells (is l).toArray 3)) (some ⟨W.heap.size, 0, none⟩) l := by
  intro _
  refine ⟨W.heap.size, 0, rfl, fun k hk => ?_⟩
  rw [Nat.zero_add, cell_of_row _ _ _ _ _ _ (heap_alloc_new W _)]
  simp [is, List.getElem?_eq_getElem hk]
theorem madeIX (n : Nat) : madeCells #[Value.int .i64 0] n = (is (List.replicate n (0 : Int))).toArray := by
  apply Array.ext
  · rw [size_madeCells, List.size_toArray]; simp [is]
  · intro i h1 h2
    simp [madeCells, is, Nat.mod_one]
theorem make_intsX (n : Nat) (W : World) (hn : n ≤ 1099511627776) :
    (Instr.makeSlice 24 (.int .i64 (n : Int)) (.int .i64 (n : Int))).run Tryz.prog W = .ok (.slice (some ⟨W.heap.size, 0, none⟩) n n) (W.alloc (.cells (is (List.replicate n (0 : Int))).toArray 3)) := by
  obtain ⟨i0, hi, hz0, hz1, hz2⟩ := info_partsP Tryz.infoI
  have q := run_make (P := Tryz.prog) W 24 3 i0 (.int .i64 0) Tryz.underlying24 hi hz0 .i64 .i64 (n : Int) (n : Int) (by omega) (by omega) (by rw [hz2]; omega) (by omega)
  rw [hz1, Nat.mul_one, Int.toNat_natCast] at q
  rw [q, show (Value.int .i64 0).cells = #[Value.int .i64 0] from rfl, madeIX]
/-- What the document's GetPacked answers. -/
def gkP (W : World) (e : Ending) (w' : World) : Option (List Int × Nat) → Prop
  | none => ∃ (a : Option Addr) (c : Nat) (z code : Int), code ≠ 0 ∧ e = .returned (.tuple #[.slice a 0 c, .int .i64 z, .int .i64 code]) ∧ Kept (fun _ => False) W w'
  | some (xs, q) => ∃ (a : Option Addr) (c : Nat), e = .returned (.tuple #[.slice a xs.length c, .int .i64 q, .int .i64 0]) ∧ IntsAt w' a xs ∧ Newb W a ∧ Kept (fun _ => False) W w'
theorem pkn_body {l : List Int} {p m q d : Nat} (hu : upn 16 l p = some (m, q)) (hm : m ≠ 0) (hm16 : m ≤ 16) (hq : q < l.length) (hd : l[q] = (d : Int)) :
    pkn 16 l p = if 63 < d then none else if 8 * (l.length - (q + 1)) < m * d then none else if vle ((l.drop (q + 1)).take ((m * d + 7) / 8)) < 2 ^ (m * d) ∧ bitLen (orl (unp (vle ((l.drop (q + 1)).take ((m * d + 7) / 8))) d m)) = d then some (unp (vle ((l.drop (q + 1)).take ((m * d + 7) / 8))) d m, q + 1 + (m * d + 7) / 8) else none := by
  unfold pkn
  rw [hu]
  simp only
  rw [List.drop_eq_getElem_cons hq, hd, rdp, if_neg hm]
  simp only [Int.toNat_natCast]
  by_cases h1 : 63 < d
  · rw [if_pos (.inl h1), if_pos h1]
  · rw [if_neg (by omega), if_neg h1, List.length_drop]
    by_cases h2 : 8 * (l.length - (q + 1)) < m * d
    · rw [if_pos (by omega), if_pos h2]
    · rw [if_neg (by omega), if_neg h2]
      unfold tightB
      rw [unp_length]
      by_cases h3 : vle ((l.drop (q + 1)).take ((m * d + 7) / 8)) < 2 ^ (m * d) ∧ bitLen (orl (unp (vle ((l.drop (q + 1)).take ((m * d + 7) / 8))) d m)) = d
      · rw [if_pos h3, if_pos (by simp only [Bool.and_eq_true, decide_eq_true_eq]; exact h3)]
        simp only [Option.some.injEq, Prod.mk.injEq, true_and]
        omega
      · rw [if_neg h3, if_neg (by simp only [Bool.and_eq_true, decide_eq_true_eq]; exact h3)]
set_option maxRecDepth 20000 in
set_option maxHeartbeats 16000000 in
theorem gpk_any (l : List Int) (a : Option Addr) (n c p : Nat) (w : World) (hn : n = l.length) (hB : BytesAt w a l) (hI : IsBytes l) (hp : p ≤ l.length) (hl : l.length ≤ 1073741824) :
    Calls Tryz.prog 72 #[.slice a n c, .int .i64 p, .int .i64 16] w fun e w' => gkP w e w' (pkn 16 l p) := by
  have CU := hideP (rgetq_any 16 l a n c p w hn hB hI hp (by omega) (by decide))
  rw [show (((16 : Nat) : Nat) : Int) = 16 from rfl] at CU
  have HC : Hid (∀ k, k < n → ∃ b off d : Nat, a = some ⟨b, off, none⟩ ∧ w.cell? ⟨b, off + k, none⟩ = some (.int .u8 (d : Int)) ∧ l[k]? = some (d : Int) ∧ d < 256) := hideP (fun k hk => by
    obtain ⟨b, off, e, hc⟩ := hB (by intro e; rw [e] at hn; simp at hn; omega)
    have h1 := hc k (by omega)
    have h2 := hI _ (List.getElem_mem (show k < l.length by omega))
    have h3 : l[k]?.getD 0 = l[k] := by rw [List.getElem?_eq_getElem (by omega)]; rfl
    refine ⟨b, off, l[k].toNat, e, ?_, ?_, by omega⟩
    · rw [h1, h3]; congr 2; omega
    · rw [List.getElem?_eq_getElem (by omega)]; congr 1; omega)
  have HI := hideP hI
  have HNL := hideP hn
  have hnb : n ≤ 1073741824 := by omega
  cases hu : upn (16 : Int) l p with
  | none =>
    have hk : pkn 16 l p = none := by unfold pkn; rw [hu]
    rw [hk]
    rw [hu] at CU
    clear hu hk hB hI hn hp hl HC
    go_enter Tryz.func72, Tryz.ntmps72
    go_wp2_with (go_at_call 50; refine StpQ.go ?_)
    refine ⟨?_⟩
    refine CU.out.mono ?_
    clear CU
    rintro e W1 ⟨⟨code, hc, rfl⟩, rfl⟩
    have g1 : (code != 0) = true := by simp [hc]
    have HCo := hideP hc
    clear hc
    go_wp2
    go_ret3
    exact ⟨_, _, _, code, HCo.out, rfl, Kept.alloc _ _⟩
  | some mq =>
    obtain ⟨m, q⟩ := mq
    obtain ⟨up1, up2, up3, up4⟩ := upn_back hI hu
    rw [hu] at CU
    have hm16 : m ≤ 16 := by omega
    have hqn : q ≤ n := by omega
    by_cases hm : m = 0
    · have hk : pkn 16 l p = some ([], q) := by unfold pkn; rw [hu]; simp only; rw [hm, show rdp 0 (l.drop q) = .ok ([], 0) from by unfold rdp; rw [if_pos rfl]]; rfl
      rw [hk]
      subst hm
      clear hu hk hB hI hn hp hl HC up4
      go_enter Tryz.func72, Tryz.ntmps72
      go_wp2_with (go_at_call 50; refine StpQ.go ?_)
      refine ⟨?_⟩
      refine CU.out.mono ?_
      clear CU
      rintro e W1 ⟨h, rfl⟩
      unfold gqP at h
      subst h
      go_wp2
      go_ret3
      exact ⟨_, _, rfl, fun e => (e rfl).elim, fun b off e => by simp only [Option.some.injEq, Addr.mk.injEq, and_true] at e; rw [← e.1]; exact Nat.le_refl _, Kept.alloc _ _⟩
    · by_cases hqe : q = n
      · have hk : pkn 16 l p = none := by
          unfold pkn
          rw [hu]
          simp only
          rw [List.drop_eq_nil_of_le (by omega), rdp, if_neg hm]
        rw [hk]
        have g0 : ((m : Int) == 0) = false := by rw [beq_eq_false_iff_ne]; omega
        have g1 : (n : Int) ≤ (n : Int) := by omega
        subst hqe
        clear hu hk hB hI hn hp hl HC up4
        go_enter Tryz.func72, Tryz.ntmps72
        go_wp2_with (go_at_call 50; refine StpQ.go ?_)
        refine ⟨?_⟩
        refine CU.out.mono ?_
        clear CU
        rintro e W1 ⟨h, rfl⟩
        unfold gqP at h
        subst h
        go_wp2
        go_ret3
        exact ⟨_, _, _, 1, by decide, rfl, Kept.alloc _ _⟩
      · have hql : q < l.length := by omega
        have hqn2 : q < n := by omega
        obtain ⟨b, off, d, rfl, xc, hd?, hd256⟩ := HC.out q hqn2
        have hd : l[q] = (d : Int) := by rw [List.getElem?_eq_getElem hql] at hd?; exact Option.some.inj hd?
        have hk := pkn_body hu hm hm16 hql hd
        rw [← hn] at hk
        have g0 : ((m : Int) == 0) = false := by rw [beq_eq_false_iff_ne]; omega
        have g1 : ¬ (n : Int) ≤ (q : Int) := by omega
        have g2 : (q : Int) < (n : Int) := by omega
        have g1b : decide (n ≤ q) = false := decide_eq_false (by omega)
        have g1c : decide ((n : Int) ≤ (q : Int)) = false := decide_eq_false (by omega)
        obtain ⟨V, hV⟩ : ∃ V, V = vle ((l.drop (q + 1)).take ((m * d + 7) / 8)) := ⟨_, rfl⟩
        rw [← hV] at hk
        have HV := hideP hV
        clear hu hB hI hp hl up4 hd? hd hV
        by_cases h63 : 63 < d
        · rw [hk, if_pos h63]
          have g3 : decide ((63 : Int) < (d : Int)) = true := decide_eq_true (by omega)
          have g4 : (63 : Int) < (d : Int) := by omega
          clear hk HC hn
          go_enter Tryz.func72, Tryz.ntmps72
          go_wp2_with (go_at_call 50; refine StpQ.go ?_)
          refine ⟨?_⟩
          refine CU.out.mono ?_
          clear CU
          rintro e W1 ⟨h, rfl⟩
          unfold gqP at h
          subst h
          go_wp2
          go_ret3
          exact ⟨_, _, _, 3, by decide, rfl, Kept.alloc _ _⟩
        rw [if_neg h63] at hk
        have g3 : decide ((63 : Int) < (d : Int)) = false := decide_eq_false (by omega)
        have g4 : ¬ (63 : Int) < (d : Int) := by omega
        have g5 : ¬ (65536 : Int) < (m : Int) := by omega
        have g6 : decide ((65536 : Int) < (m : Int)) = false := decide_eq_false g5
        by_cases hd0 : d = 0
        · subst hd0
          have hk2 : pkn 16 l p = some (List.replicate m 0, q + 1) := by
            rw [hk, Nat.mul_zero, if_neg (by omega)]
            have hV0 : V = 0 := by rw [HV.out]; simp [vle]
            rw [hV0, unp_zero]
            have ho : bitLen (orl (List.replicate m (0 : Int))) = 0 := by
              have h := (bitLen_le_iff (orl (List.replicate m (0 : Int))) 0).2 (orl_lt 0 _ (fun x hx => by rw [List.mem_replicate] at hx; rw [hx.2]; decide))
              omega
            rw [if_pos ⟨by decide, ho⟩]
          rw [hk2]
          have mk := fun W => make_intsX m W (by omega)
          have HIN := hideP (is_newX w (List.replicate m 0))
          clear hk hk2 HC hn
          go_enter Tryz.func72, Tryz.ntmps72
          go_wp2_with (go_at_call 50; refine StpQ.go ?_)
          refine ⟨?_⟩
          refine CU.out.mono ?_
          clear CU
          rintro e W1 ⟨h, rfl⟩
          unfold gqP at h
          subst h
          go_wp2
          go_ret3
          exact ⟨_, _, by rw [List.length_replicate]; first | rfl | go_num, HIN.out, fun b off e => by simp only [Option.some.injEq, Addr.mk.injEq, and_true] at e; rw [← e.1]; exact Nat.le_refl _, Kept.alloc _ _⟩
        have g7 : ((d : Int) == 0) = false := by rw [beq_eq_false_iff_ne]; omega
        obtain ⟨md, hmd⟩ : ∃ md, md = m * d := ⟨_, rfl⟩
        have hmdb : md ≤ 1008 := by rw [hmd]; exact Nat.le_trans (Nat.mul_le_mul hm16 (Nat.le_of_not_lt h63)) (by decide)
        have hmdi : (m : Int) * (d : Int) = (md : Int) := by rw [hmd]; push_cast; rfl
        rw [← hmd] at hk HV
        obtain ⟨bt, hbt⟩ : ∃ bt, bt = 8 * (n - (q + 1)) := ⟨_, rfl⟩
        have b1 : (8 : Int) * ((n : Int) - ((q : Int) + 1)) = (bt : Int) := by omega
        obtain ⟨qt, hqt⟩ : ∃ qt, qt = bt / d := ⟨_, rfl⟩
        have b2 : (bt : Int).tdiv (d : Int) = (qt : Int) := by rw [Int.tdiv_eq_ediv_of_nonneg (by omega), hqt]; rfl
        have b3 : (bt : Int) / (d : Int) = (qt : Int) := by rw [hqt]; rfl
        have hqm : qt < m ↔ bt < md := by rw [hqt, hmd, Nat.div_lt_iff_lt_mul (by omega)]
        have b5 : 0 < (d : Int) := by omega
        have hbb : bt ≤ 8589934592 := by omega
        have hqb : qt ≤ 8589934592 := by rw [hqt]; exact Nat.le_trans (Nat.div_le_self _ _) hbb
        have b6 : ¬ (d : Int) = 0 := by omega
        by_cases hsh : bt < md
        · have hk2 : pkn 16 l p = none := by rw [hk, if_pos (by omega)]
          rw [hk2]
          have b4 : (qt : Int) < (m : Int) := by have := hqm.2 hsh; omega
          have HX := hideP hqm
          clear hk hk2 HC hn hmd hqt hbt hqm
          go_enter Tryz.func72, Tryz.ntmps72
          go_wp2_with (go_at_call 50; refine StpQ.go ?_)
          refine ⟨?_⟩
          refine CU.out.mono ?_
          clear CU
          rintro e W1 ⟨h, rfl⟩
          unfold gqP at h
          subst h
          go_wp2
          go_ret3
          exact ⟨_, _, _, 1, by decide, rfl, Kept.alloc _ _⟩
        rw [if_neg (by omega)] at hk
        have b4 : ¬ (qt : Int) < (m : Int) := by have h9 : ¬ qt < m := fun h => hsh (hqm.1 h); omega
        have b7 : ¬ qt < m := by omega
        have b8 : decide ((qt : Int) < (m : Int)) = false := decide_eq_false b4
        have b9 : decide (qt < m) = false := decide_eq_false b7
        have b10 : decide (bt / d < m) = false := decide_eq_false (by rw [← hqt]; exact b7)
        have b11 : ¬ bt / d < m := by rw [← hqt]; exact b7
        obtain ⟨M, hM⟩ : ∃ M, M = (md + 7) / 8 := ⟨_, rfl⟩
        rw [← hM] at hk HV
        have hMb : q + 1 + M ≤ n := by omega
        have HK := hideP hk
        have HMD := hideP hmd
        have HMM := hideP hM
        have HBit : Hid (∀ P, P / 8 < M → ∃ dd : Nat, w.cell? ⟨b, off + (q + 1 + P / 8), none⟩ = some (.int .u8 (dd : Int)) ∧ dd < 256 ∧ dd / 2 ^ (P % 8) % 2 = V / 2 ^ P % 2) := hideP (fun P hP => by
          obtain ⟨b', off', dd, e', xc', hd', hd25⟩ := HC.out (q + 1 + P / 8) (by omega)
          simp only [Option.some.injEq, Addr.mk.injEq, and_true] at e'
          obtain ⟨rfl, rfl⟩ := e'
          exact ⟨dd, xc', hd25, by rw [HV.out]; exact bit_at HI.out (by have := HNL.out; omega) hP hd'⟩)
        have hdm : d ≤ md := by rw [hmd]; exact Nat.le_mul_of_pos_left _ (by omega)
        clear hk hn hmd hM hqt hqm HC hbt
        go_enter Tryz.func72, Tryz.ntmps72
        go_wp2_with (go_at_call 50; refine StpQ.go ?_)
        refine ⟨?_⟩
        refine CU.out.mono ?_
        clear CU
        rintro e W1 ⟨h, hW⟩
        obtain rfl : w = W1 := hW.symm
        unfold gqP at h
        subst h
        have HG0 := hideP (gro_empty w w 3 1 (Kept.refl _ _))
        go_wp2
        go_loopw [14, 15] (fun s14 s15 wr => ∃ (i : Nat) (vl : Value), i ≤ m ∧ vl = s14 ∧ s15 = .int .i64 i ∧ Hid (Gro w wr 3 1 vl i (is (unp V d i)))) (fun _ s15 _ => m - (intOf s15).toNat)
        case atStart => exact ⟨0, _, by omega, rfl, rfl, HG0⟩
        case round =>
        obtain ⟨i, vl, hi, rfl, rfl, HG⟩ := hrel
        obtain ⟨W2, hW2⟩ : ∃ W2, W2 = wr := ⟨_, rfl⟩
        rw [← hW2] at HG ⊢
        clear hW2
        by_cases hlt : i < m
        · have hii : (i : Int) < (m : Int) := by omega
          obtain ⟨I, hIe⟩ : ∃ I, I = i * d := ⟨_, rfl⟩
          have hId : I + d ≤ md := by
            have h1 : (i + 1) * d ≤ m * d := Nat.mul_le_mul_right d hlt
            rw [Nat.succ_mul] at h1
            rw [HMD.out, hIe]
            exact h1
          have i1 : (i : Int) * (d : Int) = (I : Int) := by rw [hIe]; push_cast; rfl
          have HIe := hideP hIe
          clear hIe
          go_wp2
          go_loopw [16, 17] (fun s16 s17 wr => ∃ (j x : Nat) (z : Int), j ≤ d ∧ s16 = .int .i64 x ∧ s17 = .int .i64 z ∧ -1 ≤ z ∧ z ≤ 63 ∧ W2 = wr ∧ Hid (z = (d : Int) - 1 - j) ∧ Hid (x = V / 2 ^ (I + (d - j)) % 2 ^ j)) (fun _ s17 _ => (intOf s17 + 1).toNat)
          case atStart => exact ⟨0, 0, (d : Int) - 1, by omega, rfl, by first | rfl | go_num, by omega, by omega, rfl, hideP (by omega), hideP (by rw [Nat.pow_zero, Nat.mod_one])⟩
          case round =>
          obtain ⟨j, x, z, hj, rfl, rfl, z1, z2, rfl, HZ, HX⟩ := hrel
          have hx63 : x < 2 ^ 63 := by
            rw [HX.out]
            exact Nat.lt_of_lt_of_le (Nat.mod_lt _ (Nat.two_pow_pos _)) (Nat.pow_le_pow_right (by decide) (by omega))
          by_cases hjd : j < d
          · obtain ⟨t, ht⟩ : ∃ t, t = d - 1 - j := ⟨_, rfl⟩
            obtain rfl : z = (t : Int) := by have := HZ.out; omega
            obtain ⟨P, hP⟩ : ∃ P, P = I + t := ⟨_, rfl⟩
            have hPm : P < md := by omega
            obtain ⟨dd, c1, hdd, hbit⟩ := HBit.out P (by have := HMM.out; omega)
            have c2 := HG.out.kept.cell c1 (fun f => f)
            obtain ⟨P8, hP8⟩ : ∃ P8, P8 = P / 8 := ⟨_, rfl⟩
            obtain ⟨r, hr⟩ : ∃ r, r = P % 8 := ⟨_, rfl⟩
            obtain ⟨y, hy⟩ : ∃ y, y = dd / 2 ^ r := ⟨_, rfl⟩
            obtain ⟨bb, hbb⟩ : ∃ bb, bb = y % 2 := ⟨_, rfl⟩
            obtain ⟨x', hx'⟩ : ∃ x', x' = 2 * x + bb := ⟨_, rfl⟩
            rw [← hP8] at c2
            have hyb : y < 256 := by rw [hy]; exact Nat.lt_of_le_of_lt (Nat.div_le_self _ _) hdd
            have HX2 : Hid (x' = V / 2 ^ (I + (d - (j + 1))) % 2 ^ (j + 1)) := hideP (by
              have e1 : I + (d - (j + 1)) = P := by omega
              have e2 : I + (d - j) = P + 1 := by omega
              rw [e1, bit_step, ← e2, ← HX.out, hx', hbb, hy, hr, hbit])
            have hx'63 : x' < 2 ^ 63 := by
              rw [HX2.out]
              exact Nat.lt_of_lt_of_le (Nat.mod_lt _ (Nat.two_pow_pos _)) (Nat.pow_le_pow_right (by decide) (by omega))
            have p1 : (I : Int) + (t : Int) = (P : Int) := by omega
            have p2 : (P : Int).tdiv 8 = (P8 : Int) := by rw [Int.tdiv_eq_ediv_of_nonneg (by omega)]; omega
            have p3 : (P : Int) / 8 = (P8 : Int) := by omega
            have p4 : (P : Int).tmod 8 = (r : Int) := by rw [Int.tmod_eq_emod_of_nonneg (by omega)]; omega
            have p5 : (P : Int) % 8 = (r : Int) := by omega
            have p6 : (dd : Int) / (2 : Int) ^ r = (y : Int) := by rw [shr_cast, hy]
            have p7 : (y : Int).tmod 2 = (bb : Int) := by rw [Int.tmod_eq_emod_of_nonneg (by omega)]; omega
            have p8 : (y : Int) % 2 = (bb : Int) := by omega
            have p9 : (2 : Int) * (x : Int) + (bb : Int) = (x' : Int) := by omega
            have q1 : (0 : Int) ≤ (t : Int) := by omega
            have q2 : q + 1 + P8 < n := by omega
            have q3 : (q : Int) + 1 + (P8 : Int) < (n : Int) := by omega
            have q4 : r < 64 := by omega
            have HT : Hid ((t : Int) - 1 = (d : Int) - 1 - ((j + 1 : Nat) : Int)) := hideP (by omega)
            clear ht hP hP8 hr hy hbb hx' hbit c1 HX
            go_wp2
            go_roundw
            case rel => exact ⟨j + 1, x', (t : Int) - 1, by omega, by first | rfl | go_num, by first | rfl | go_num, by omega, by omega, by first | rfl | trivial, HT, HX2⟩
            case measure => first | (simp [intOf]; done) | (simp [intOf]; omega)
          obtain rfl : j = d := by omega
          have hzz : z = -1 := by have := HZ.out; omega
          subst hzz
          have hxe := HX.out
          rw [Nat.sub_self, Nat.add_zero, HIe.out] at hxe
          have HXE : Hid (is (unp V j (i + 1)) = is (unp V j i) ++ [.int .i64 (x : Int)]) := hideP (by rw [unp_succ, ← hxe]; unfold is; rw [List.map_append]; rfl)
          have gz : ¬ (0 : Int) ≤ -1 := by omega
          clear hxe HX HZ
          go_wp2_with (at_builtin; refine StpQ.go ?_)
          refine ⟨?_⟩
          refine wpList_pushN rfl (.tmp 112) (.tmp 114) rfl vl i (unp V j i) (x : Int) rfl HG W2.heap.size rfl (by rfl) (by omega) ?_
          intro g5 c5 W5 HG5 HS5
          have HG6 : Hid (Gro w W5 3 1 (.slice (some ⟨g5, 0, none⟩) (i + 1) c5) (i + 1) (is (unp V j (i + 1)))) := hideP (by rw [HXE.out, ← is_app]; exact HG5.out)
          clear HG5 HS5 HG
          go_wp2
          go_roundw
          case rel => exact ⟨i + 1, _, by omega, rfl, by go_num, HG6⟩
          case measure => simp [intOf]; omega
        obtain rfl : i = m := by omega
        have hii : ¬ (i : Int) < (i : Int) := by omega
        obtain ⟨sa, sc, rfl⟩ := HG.out.shape
        obtain ⟨a9, c9, e9, hI9⟩ := gro_intsX HG.out (by rw [unp_length])
        injection e9 with e9 e8 e7
        subst e9 e7
        have HI9 := hideP hI9
        have HNW := hideP HG.out.newb
        have HKW := hideP HG.out.kept
        have CW := hideP (dwid_any (unp V d i) sa sc W2 hI9 (fun x hx => (unp_mem hx).1) (unp_ints (by omega)) (by rw [unp_length]; omega))
        rw [unp_length] at CW
        have HUL := hideP (unp_length V d i)
        obtain ⟨U, hU⟩ : ∃ U, U = unp V d i := ⟨_, rfl⟩
        rw [← hU] at HK CW HI9 HUL
        obtain ⟨bl, hbl⟩ : ∃ bl, bl = bitLen (orl U) := ⟨_, rfl⟩
        rw [← hbl] at HK CW
        have hblb : bl ≤ 64 := by
          rw [hbl, hU]
          have := (bitLen_le_iff (orl (unp V d i)) 63).2 (orl_lt 63 _ (fun x hx => by
            have h := unp_mem hx
            have h2 : (2 : Int) ^ d ≤ 2 ^ 63 := by
              have : (2 : Nat) ^ d ≤ 2 ^ 63 := Nat.pow_le_pow_right (by decide) (by omega)
              exact_mod_cast this
            have h3 : x.toNat < 2 ^ 63 := by
              have h4 : x < (2 : Int) ^ 63 := by omega
              have h5 : (2 : Int) ^ 63 = 9223372036854775808 := rfl
              have h6 : (2 : Nat) ^ 63 = 9223372036854775808 := rfl
              omega
            exact h3))
          omega
        have m1 : ((md : Int) + 7).tdiv 8 = (M : Int) := by rw [Int.tdiv_eq_ediv_of_nonneg (by omega)]; have := HMM.out; omega
        have m2 : ((md : Int) + 7) / 8 = (M : Int) := by have := HMM.out; omega
        have hM8 : md ≤ 8 * M := by have := HMM.out; omega
        have hMs : M ≤ 200 := by have := HMM.out; omega
        clear hU hbl hI9 HG
        go_wp2
        go_loopw [20] (fun s20 wr => ∃ P : Nat, md ≤ P ∧ P ≤ 8 * M ∧ s20 = .int .i64 P ∧ W2 = wr ∧ Hid (∀ P', md ≤ P' → P' < P → V / 2 ^ P' % 2 = 0)) (fun s20 _ => 8 * M - (intOf s20).toNat)
        case atStart => exact ⟨md, Nat.le_refl _, hM8, by first | rfl | go_num, rfl, hideP (fun P' h1 h2 => by omega)⟩
        case round =>
        obtain ⟨P, hP1, hP2, rfl, rfl, HP⟩ := hrel
        by_cases hlt : P < 8 * M
        · obtain ⟨dd, c1, hdd, hbit⟩ := HBit.out P (by omega)
          have c2 := HKW.out.cell c1 (fun f => f)
          obtain ⟨P8, hP8⟩ : ∃ P8, P8 = P / 8 := ⟨_, rfl⟩
          obtain ⟨r, hr⟩ : ∃ r, r = P % 8 := ⟨_, rfl⟩
          obtain ⟨y, hy⟩ : ∃ y, y = dd / 2 ^ r := ⟨_, rfl⟩
          obtain ⟨bb, hbb⟩ : ∃ bb, bb = y % 2 := ⟨_, rfl⟩
          rw [← hP8] at c2
          have hyb : y < 256 := by rw [hy]; exact Nat.lt_of_le_of_lt (Nat.div_le_self _ _) hdd
          have HBB : Hid (bb = V / 2 ^ P % 2) := hideP (by rw [hbb, hy, hr, hbit])
          have p0 : (P : Int) < 8 * (M : Int) := by omega
          have p2 : (P : Int).tdiv 8 = (P8 : Int) := by rw [Int.tdiv_eq_ediv_of_nonneg (by omega)]; omega
          have p3 : (P : Int) / 8 = (P8 : Int) := by omega
          have p4 : (P : Int).tmod 8 = (r : Int) := by rw [Int.tmod_eq_emod_of_nonneg (by omega)]; omega
          have p5 : (P : Int) % 8 = (r : Int) := by omega
          have p6 : (dd : Int) / (2 : Int) ^ r = (y : Int) := by rw [shr_cast, hy]
          have p7 : (y : Int).tmod 2 = (bb : Int) := by rw [Int.tmod_eq_emod_of_nonneg (by omega)]; omega
          have p8 : (y : Int) % 2 = (bb : Int) := by omega
          have q2 : q + 1 + P8 < n := by omega
          have q3 : (q : Int) + 1 + (P8 : Int) < (n : Int) := by omega
          have q4 : r < 64 := by omega
          have hb2 : bb < 2 := by omega
          by_cases hb0 : bb = 0
          · have v1 : ((bb : Int) != 0) = false := by rw [hb0]; rfl
            have v2 : ((bb : Int) == 0) = true := by rw [hb0]; rfl
            have HP2 : Hid (∀ P', md ≤ P' → P' < P + 1 → V / 2 ^ P' % 2 = 0) := hideP (fun P' h1 h2 => by
              rcases Nat.lt_or_ge P' P with o | o
              · exact HP.out P' h1 o
              · obtain rfl : P' = P := by omega
                rw [← HBB.out]
                exact hb0)
            have HB0 := hideP hb0
            clear hP8 hr hy hbb hbit c1 HP hb0
            go_wp2
            go_roundw
            case rel => exact ⟨P + 1, by omega, by omega, by go_num, by first | rfl | trivial, HP2⟩
            case measure => simp [intOf]; omega
          · have v1 : ((bb : Int) != 0) = true := by simp; omega
            have v2 : ((bb : Int) == 0) = false := by rw [beq_eq_false_iff_ne]; omega
            have HN9 : Hid (pkn 16 l p = none) := hideP (by
              rw [HK.out, if_neg]
              rintro ⟨h1, -⟩
              exact pad_one (by rw [← HBB.out]; exact hb0) hP1 h1)
            clear hP8 hr hy hbb hbit c1 HP HK
            go_wp2
            go_ret3
            rw [HN9.out]
            exact ⟨_, _, _, 4, by decide, rfl, HKW.out.trans (Kept.alloc _ _) (fun _ f => f.elim)⟩
        obtain rfl : P = 8 * M := by omega
        have p0 : ¬ ((8 * M : Nat) : Int) < 8 * (M : Int) := by omega
        have p00 : ¬ 8 * (M : Int) < 8 * (M : Int) := by omega
        have hVl : V < 2 ^ md := pad_zero (M := 8 * M) (by
          rw [HV.out]
          have h1 := vle_lt ((l.drop (q + 1)).take M) (isb_take (isb_drop HI.out _) _)
          rw [List.length_take, List.length_drop, Nat.min_eq_left (by have := HNL.out; omega), show (256 : Nat) = 2 ^ 8 from rfl, ← Nat.pow_mul] at h1
          exact h1) HP.out
        by_cases hbd : bl = d
        · have HS9 : Hid (pkn 16 l p = some (U, q + 1 + M)) := hideP (by rw [HK.out, if_pos ⟨hVl, hbd⟩])
          have v1 : ((bl : Int) != (d : Int)) = false := by simp [hbd]
          have v2 : ((bl : Int) == (d : Int)) = true := by simp [hbd]
          have HBD := hideP hbd
          clear HP hVl hbd HK
          go_wp2_with (go_at_call 77; refine CW.out.mono ?_; clear CW; rintro e W7 ⟨rfl, rfl⟩)
          go_ret3
          rw [HS9.out]
          exact ⟨sa, sc, by rw [HUL.out]; first | rfl | go_num, HI9.out, HNW.out, HKW.out⟩
        · have HS9 : Hid (pkn 16 l p = none) := hideP (by rw [HK.out, if_neg (fun h => hbd h.2)])
          have v1 : ((bl : Int) != (d : Int)) = true := by simp; omega
          have v2 : ((bl : Int) == (d : Int)) = false := by rw [beq_eq_false_iff_ne]; omega
          clear HP hVl HK
          go_wp2_with (go_at_call 77; refine CW.out.mono ?_; clear CW; rintro e W7 ⟨rfl, rfl⟩)
          go_ret3
          rw [HS9.out]
          exact ⟨_, _, _, 4, by decide, rfl, HKW.out.trans (Kept.alloc _ _) (fun _ f => f.elim)⟩
end Go.Proofs.YtidgofpmnlddaaaGreatDoor
