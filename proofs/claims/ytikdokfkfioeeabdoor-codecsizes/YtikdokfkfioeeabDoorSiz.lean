import Derived.Test.YtikdokfkfioeeabDoorNb
namespace Go.Proofs.YtikdokfkfioeeabDoor
open Go.ChangeShapes Go.WideShapes Go.ChangeAt Go.RowKit

theorem ulen_step (n : Nat) : ulen n = 1 + (if n / 128 = 0 then 0 else ulen (n / 128)) := by
  by_cases h : n < 128
  · rw [ulen_small h, if_pos (by omega)]
  · rw [ulen_big h, if_neg (by omega)]
theorem bitLen_zero_iff (n : Nat) : bitLen n = 0 ↔ n = 0 := by
  have := bitLen_le_iff n 0
  simp at this
  omega
theorem shr_pos_iff (x b : Nat) : 0 < x / 2 ^ b ↔ b < bitLen x := by
  have h := bitLen_le_iff x b
  have e : x / 2 ^ b = 0 ↔ x < 2 ^ b := by
    rw [Nat.div_eq_zero_iff]
    have := Nat.two_pow_pos b
    omega
  rw [Nat.pos_iff_ne_zero]
  constructor
  · intro h1
    rcases Nat.lt_or_ge b (bitLen x) with h2 | h2
    · exact h2
    · exact absurd (e.2 (h.1 h2)) h1
  · intro h1 h2
    have := h.2 (e.1 h2)
    omega

theorem zeros_t {a b y : Nat} (h : b = a ||| y) (hz : true = decide (a = 0)) : Value.bool ((y : Int) == 0) = Value.bool (decide (b = 0)) := by
  have h0 : a = 0 := by simpa using hz.symm
  subst h0
  rw [Nat.zero_or] at h
  subst h
  congr 1
  rw [Bool.eq_iff_iff]
  simp
theorem zeros_f {a b y : Nat} (h : b = a ||| y) (hz : false = decide (a = 0)) : Value.bool false = Value.bool (decide (b = 0)) := by
  have h0 : ¬ a = 0 := by simpa using hz.symm
  have h1 : ¬ b = 0 := by
    have := Nat.left_le_or (n := a) (m := y)
    omega
  simp [h1]
/-- What is kept behind the first part: a Writer that holds nothing, in memory of the call's own. -/
structure SzRel (w wr : World) (bw : Nat) : Prop where
  st : Wr wr bw (.slice none 0 0) []
  kept : Kept (fun _ => False) w wr
  new : w.heap.size ≤ bw

set_option maxRecDepth 20000 in
set_option maxHeartbeats 4000000 in
theorem sizes_walk (U : Nat) (l : List Int) (a : Option Addr) (c : Nat) (f n : Int) (a0 a1 : Addr) (w : World)
    (hU : U < 18446744073709551616) (hA : IntsAt w a l) (hI : IsInts l) (hl : l.length ≤ 17592186043904)
    (f0 : -9223372036854775808 ≤ f) (f1 : f ≤ 9223372036854775807) (n0 : -9223372036854775808 ≤ n) (n1 : n ≤ 9223372036854775807)
    (g0 : w.cell? ⟨0, 0, none⟩ = some (errV a0)) (g1 : w.cell? ⟨1, 0, none⟩ = some (errV a1)) :
    Calls Tryd.prog 4 #[.int .u64 U, .slice a l.length c, .int .i64 f, .int .i64 n] w fun e w' => e = .returned (.bool true) ∧ Below w.heap.size w w' := by
  have hlv := lives_any a0 a1 w g0 g1
  have HA := hide hA
  have HI := hide hI
  clear hA hI g0 g1
  go_enter Tryd.func4, Tryd.ntmps4
  go_wp2_with (go_at_call 7; refine hlv.mono ?_; rintro e wl ⟨rfl, kl⟩)
  have HL := hide kl
  clear hlv kl
  go_loop [10, 11] (fun b x => ∃ k m : Nat, b = .int .i64 k ∧ x = .int .u64 m ∧ m < 18446744073709551616 ∧ 1 ≤ k ∧ ulen U = k + (if m = 0 then 0 else ulen m)) (fun _ x => (intOf x).toNat)
  case atStart => exact ⟨1, U / 128, rfl, by go_num, by omega, by omega, ulen_step U⟩
  case round =>
    obtain ⟨k, m, rfl, rfl, hm, hk1, hu⟩ := hrel
    have hu10 := (ulen_le U (by omega)).2
    by_cases hm0 : 0 < m
    · have hu2 : ulen U = k + 1 + (if m / 128 = 0 then 0 else ulen (m / 128)) := by
        rw [hu, if_neg (by omega), ulen_step m]; omega
      have HU := hide hu2
      have hk10 : k ≤ 10 := by omega
      clear hu hu2 hu10
      go_wp2
      go_round
      case rel => exact ⟨k + 1, m / 128, by go_num, by go_num, by omega, by omega, HU.out⟩
      case measure => simp [intOf]; omega
    · have hke : k = ulen U := by rw [hu, if_pos (by omega)]; rfl
      subst hke
      clear hu
      have ul := (ulen_le U (by omega)).1
      have hul := uvb_length U
      go_wp2_with (first
        | (go_at_call 8; refine (new_any _).mono ?_; rintro e wn ⟨rfl, hW1, hK1⟩)
        | (go_at_call 17; refine (ulen_any _ _ (by omega) (by omega)).mono ?_; rintro e w' ⟨rfl, rfl⟩)
        | (go_at_call 18; refine (wuv_any wl.heap.size (.slice none 0 0) [] U _ hW1 hU (by decide)).mono ?_; rintro e w2 ⟨rfl, v2, hW2, hS2⟩)
        | (go_at_call 19; refine (wlen_any wl.heap.size v2 _ _ hW2).mono ?_; rintro e w3 ⟨rfl, rfl⟩)
        | (go_at_call 20; refine (reset_any wl.heap.size v2 _ _ hW2).mono ?_; rintro e w4 ⟨rfl, hW4, hS4⟩))
      have hsz : SzRel w w4 wl.heap.size := by
        refine ⟨hW4, ?_, HL.out.size⟩
        have k1 := HL.out.trans hK1 (fun _ (f : False) => f.elim)
        refine k1.trans (hS2.trans hS4).kept (fun i hi => .inr ?_)
        rcases hi with e | e
        · rw [e]; exact HL.out.size
        · simp [Value.ownBlock] at e
      have HZ := hide hsz
      obtain ⟨bw, hbw⟩ : ∃ bw, bw = wl.heap.size := ⟨_, rfl⟩
      rw [← hbw] at HZ ⊢
      clear hsz hW1 hW2 hW4 hS2 hS4 hK1 hbw hul HL
      have HA4 : Hid (IntsAt w4 a l) := by
        intro hne
        obtain ⟨b, off, e, hc⟩ := HA.out hne
        exact ⟨b, off, e, fun k hk => HZ.out.kept.cell (hc k hk) (fun f => f)⟩
      go_loop [13, 14, 50] (fun bt z i => ∃ k : Nat, k ≤ l.length ∧ i = .int .i64 k ∧ bt = .int .i64 (bitLen (orl (l.take k))) ∧ z = .bool (decide (orl (l.take k) = 0)) ∧ ∀ x ∈ l.take k, 0 ≤ x) (fun _ _ i => l.length - (intOf i).toNat)
      case atStart => exact ⟨0, Nat.zero_le _, rfl, rfl, rfl, fun x hx => by simp at hx⟩
      case round =>
        obtain ⟨k, hk, rfl, rfl, rfl, hp⟩ := hrel
        have HP := hide hp
        clear hp
        have hb63 : bitLen (orl (l.take k)) ≤ 63 := orl_bits _ HP.out (fun x hx => HI.out x (List.mem_of_mem_take hx))
        by_cases hlt : k < l.length
        · obtain ⟨b, off, rfl, hc⟩ := HA4.out.get hlt
          have hxi := HI.out.at hlt
          obtain ⟨x, hx⟩ : ∃ x, x = l[k]?.getD 0 := ⟨_, rfl⟩
          rw [← hx] at hc hxi
          have HX := hide hx
          clear hx
          by_cases hneg : x < 0
          · go_wp2
            go_ret
            exact ⟨rfl, HZ.out.kept.below (Nat.le_refl _) (fun _ _ f => f)⟩
          · obtain ⟨y, rfl⟩ : ∃ y : Nat, x = y := ⟨x.toNat, by omega⟩
            have hor : Hid (orl (l.take (k + 1)) = orl (l.take k) ||| y) := by
              show orl (l.take (k + 1)) = orl (l.take k) ||| y
              have e := HX.out
              rw [List.getElem?_eq_getElem hlt] at e
              simp at e
              rw [List.take_succ_eq_append_getElem hlt, orl_snoc, ← e]; rfl
            have hpk : Hid (∀ x ∈ l.take (k + 1), 0 ≤ x) := by
              intro z hz
              rw [List.take_succ_eq_append_getElem hlt, List.mem_append] at hz
              rcases hz with hz | hz
              · exact HP.out z hz
              · simp at hz
                have e := HX.out
                rw [List.getElem?_eq_getElem hlt] at e
                simp at e
                omega
            have hy63 : bitLen y ≤ 63 := by rw [bitLen_le_iff]; omega
            obtain ⟨ob, hob⟩ : ∃ ob, ob = bitLen (orl (l.take k)) := ⟨_, rfl⟩
            rw [← hob] at hb63 ⊢
            obtain ⟨oz, hoz⟩ : ∃ oz, oz = decide (orl (l.take k) = 0) := ⟨_, rfl⟩
            rw [← hoz]
            have HOB := hide hob
            have HOZ := hide hoz
            clear hob hoz
            go_wp2
            go_loop [13] (fun bt => ∃ b2 : Nat, bt = .int .i64 b2 ∧ ob ≤ b2 ∧ b2 ≤ max ob (bitLen y)) (fun bt => 63 - (intOf bt).toNat)
            case atStart => exact ⟨ob, rfl, Nat.le_refl _, Nat.le_max_left ..⟩
            case round =>
              obtain ⟨b2, rfl, hb1, hb2⟩ := hrel
              have hsp := shr_pos_iff y b2
              by_cases h63 : b2 < 63
              · by_cases hpos : 0 < y / 2 ^ b2
                · have hlb := hsp.1 hpos
                  have hq : (0 : Int) < (y : Int) / 2 ^ b2 := by
                    have : ((y / 2 ^ b2 : Nat) : Int) = (y : Int) / 2 ^ b2 := by push_cast; rfl
                    omega
                  clear hsp hpos
                  go_wp2
                  go_round
                  case rel => exact ⟨b2 + 1, by go_num, by omega, by omega⟩
                  case measure => simp [intOf]; omega
                · have hq : (y : Int) / 2 ^ b2 = 0 := by
                    have : ((y / 2 ^ b2 : Nat) : Int) = (y : Int) / 2 ^ b2 := by push_cast; rfl
                    rw [← this, Nat.eq_zero_of_not_pos hpos]; rfl
                  have hle : Hid (b2 = max ob (bitLen y)) := by
                    show b2 = max ob (bitLen y)
                    have : ¬ b2 < bitLen y := fun h => hpos (hsp.2 h)
                    omega
                  clear hsp hpos
                  rcases Bool.eq_false_or_eq_true oz with ez | ez
                  all_goals
                    subst ez
                    go_wp2
                    go_round
                    case rel =>
                      refine ⟨k + 1, by omega, by go_num, by rw [hor.out, bitLen_or, ← HOB.out, hle.out], ?_, hpk.out⟩
                      first | exact zeros_t hor.out HOZ.out | exact zeros_f hor.out HOZ.out
                    case measure => simp [intOf]; omega
              · have hle : Hid (b2 = max ob (bitLen y)) := by
                  show b2 = max ob (bitLen y)
                  omega
                clear hsp
                rcases Bool.eq_false_or_eq_true oz with ez | ez
                all_goals
                  subst ez
                  go_wp2
                  go_round
                  case rel =>
                    refine ⟨k + 1, by omega, by go_num, by rw [hor.out, bitLen_or, ← HOB.out, hle.out], ?_, hpk.out⟩
                    first | exact zeros_t hor.out HOZ.out | exact zeros_f hor.out HOZ.out
                  case measure => simp [intOf]; omega
        · obtain rfl : k = l.length := by omega
          have h0 := HP.out
          rw [List.take_length] at h0 hb63 ⊢
          obtain ⟨ob, hob⟩ : ∃ ob, ob = bitLen (orl l) := ⟨_, rfl⟩
          have hzi := bitLen_zero_iff (orl l)
          rw [← hob] at hb63 hzi ⊢
          have hfar : IntsFar w4 a l bw (.slice none 0 0) := by
            intro hne
            obtain ⟨b, off, e, hc⟩ := HA.out hne
            have hblk := World.block_lt_of_cell? w _ (hc 0 (List.length_pos_iff.2 hne))
            refine ⟨b, off, e, ?_, fun k hk => HZ.out.kept.cell (hc k hk) (fun f => f)⟩
            rintro (e1 | e1)
            · have := HZ.out.new; simp at hblk; omega
            · simp [Value.ownBlock] at e1
          have c1 : (ob ≠ 0 ∨ l.length ≤ 65536) → Calls Tryd.prog 21 #[.pointer (some ⟨bw, 0, none⟩), .slice a l.length c] w4 fun e w' => e = .returned .nilIface ∧ ∃ v', Wr w' bw v' (packed l) ∧ WStep w4 w' bw (.slice none 0 0) v' := by
            intro hz
            rw [hob] at hz
            have q := packed_any bw (.slice none 0 0) [] l a c w4 HZ.out.st hfar h0 HI.out hz (by omega) (by simp; omega)
            rwa [List.nil_append] at q
          have hpl := packed_length l
          rw [← hob] at hpl
          have HC1 := hide c1
          have HPL := hide hpl
          have hmul : l.length * ob ≤ l.length * 63 := Nat.mul_le_mul_left _ hb63
          have m0 : (0 : Int) ≤ (ob : Int) * l.length := by have : ((ob * l.length : Nat) : Int) = (ob : Int) * l.length := by push_cast; rfl
                                                            omega
          have m1 : (ob : Int) * l.length ≤ 1108307720765952 := by
            have : ((l.length * ob : Nat) : Int) = (ob : Int) * l.length := by push_cast; rw [Int.mul_comm]
            omega
          have M2 : Hid ((ob : Int) * l.length = ((l.length * ob : Nat) : Int)) := by
            show (ob : Int) * l.length = ((l.length * ob : Nat) : Int)
            push_cast; rw [Int.mul_comm]
          have HOB := hide hob
          have ul2 := ulen_le l.length (by omega)
          clear c1 hpl hfar h0 HP HA4 hmul hob
          by_cases hbig : orl l = 0 ∧ 65536 < l.length
          · have e1 : decide (orl l = 0) = true := by simp [hbig.1]
            have h2 := hbig.2
            rw [e1]
            clear hbig e1 hzi
            go_wp2
            go_ret
            exact ⟨rfl, HZ.out.kept.below (Nat.le_refl _) (fun _ _ f => f)⟩
          · have hz : ob ≠ 0 ∨ l.length ≤ 65536 := by
              rcases Nat.lt_or_ge 65536 l.length with h1 | h1
              · left; intro e; exact hbig ⟨hzi.1 e, h1⟩
              · exact .inr h1
            have c1 := HC1.out hz
            obtain ⟨zz, hzz⟩ : ∃ zz, zz = decide (orl l = 0) := ⟨_, rfl⟩
            have hzb : zz = true → l.length ≤ 65536 := by
              intro e
              rw [hzz] at e
              have : orl l = 0 := by simpa using e
              rcases hz with h1 | h1
              · exact absurd (hzi.2 this) h1
              · exact h1
            rw [← hzz]
            have HB := hide hzb
            clear hbig hzi hz hzz hzb HC1
            have cu : ∀ W, Calls Tryd.prog 17 #[.int .u64 (l.length : Int)] W fun e w' => e = .returned (.int .i64 (ulen l.length)) ∧ W = w' := by
              intro W
              refine (ulen_any _ W (by omega) (by omega)).mono ?_
              rintro e w' ⟨rfl, rfl⟩
              exact ⟨by simp, rfl⟩
            have cl : ∀ v W, Wr W bw v (packed l) → Calls Tryd.prog 19 #[.pointer (some ⟨bw, 0, none⟩)] W fun e w' => e = .returned (.int .i64 (packed l).length) ∧ W = w' := by
              intro v W h
              refine (wlen_any bw v _ W h).mono ?_
              rintro e w' ⟨rfl, rfl⟩
              exact ⟨rfl, rfl⟩
            have C1 := hide c1
            have CU := hide cu
            have CL := hide cl
            have fin : ∀ (w5 w6 : World) (v5 : Value), WStep w4 w5 bw (.slice none 0 0) v5 → Kept (WF bw v5) w5 w6 → Below w.heap.size w w6 := by
              intro w5 w6 v5 hS5 hK6
              have hn := HZ.out.new
              have k1 : Kept (WF bw (.slice none 0 0)) w4 w6 := hS5.kept.trans hK6 (fun i hi => by
                rcases hi with e | e
                · exact .inl (.inl e)
                · rcases hS5.new i e with x | x
                  · exact .inl (.inr x)
                  · exact .inr x)
              refine (HZ.out.kept.trans k1 (fun i hi => .inr ?_)).below (Nat.le_refl _) (fun _ _ f => f)
              rcases hi with e | e
              · omega
              · simp [Value.ownBlock] at e
            have HF := hide fin
            clear c1 cu cl fin
            by_cases hl0 : 0 < l.length
            · have hp : ((packed l).length : Int) = (ulen l.length : Int) + (1 + ((ob : Int) * l.length + 7) / 8) := by
                have h1 := HPL.out
                rw [if_neg (fun e => by rw [e] at hl0; simp at hl0)] at h1
                rw [h1, M2.out]
                push_cast
                omega
              rcases Bool.eq_false_or_eq_true zz with ez | ez
              all_goals
                subst ez
                try have hsm := HB.out rfl
                go_wp2_with (first
                  | (go_at_call 21; refine C1.out.mono ?_; rintro e w5 ⟨rfl, v5, hW5, hS5⟩)
                  | (go_at_call 17; refine (CU.out _).mono ?_; rintro e w' ⟨rfl, rfl⟩)
                  | (go_at_call 19; refine (CL.out v5 _ hW5).mono ?_; rintro e w' ⟨rfl, rfl⟩)
                  | (go_at_call 22; refine (nb_any bw v5 (packed l) f n _ hW5 f0 f1 n0 n1).mono ?_; rintro e w6 ⟨rfl, hK6⟩))
                go_ret
                exact ⟨rfl, HF.out _ _ _ hS5 hK6⟩
            · have hp : ((packed l).length : Int) = (ulen l.length : Int) := by
                have h1 := HPL.out
                rw [if_pos (List.eq_nil_of_length_eq_zero (by omega))] at h1
                rw [h1]; rfl
              rcases Bool.eq_false_or_eq_true zz with ez | ez
              all_goals
                subst ez
                try have hsm := HB.out rfl
                go_wp2_with (first
                  | (go_at_call 21; refine C1.out.mono ?_; rintro e w5 ⟨rfl, v5, hW5, hS5⟩)
                  | (go_at_call 17; refine (CU.out _).mono ?_; rintro e w' ⟨rfl, rfl⟩)
                  | (go_at_call 19; refine (CL.out v5 _ hW5).mono ?_; rintro e w' ⟨rfl, rfl⟩)
                  | (go_at_call 22; refine (nb_any bw v5 (packed l) f n _ hW5 f0 f1 n0 n1).mono ?_; rintro e w6 ⟨rfl, hK6⟩))
                go_ret
                exact ⟨rfl, HF.out _ _ _ hS5 hK6⟩
end Go.Proofs.YtikdokfkfioeeabDoor
