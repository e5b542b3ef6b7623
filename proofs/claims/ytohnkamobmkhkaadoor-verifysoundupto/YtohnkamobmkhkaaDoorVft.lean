import Derived.Test.YtohnkamobmkhkaaDoorVfs
import Derived.Deep.DeepCutAuto
namespace Go.Proofs.YtohnkamobmkhkaaDoor
open Go.ChangeShapes Go.WideShapes Go.ChangeAt Go.RowKit

set_option maxRecDepth 20000 in
set_option maxHeartbeats 16000000 in
theorem tables_any (p : Pg) (aA aC aN aD aO : Option Addr) (cA cC cN cD cO : Nat) (w : World) (hP : PgAt w p aA aC aN aD aO) (hO : p.Ok) (v : Bool) (hv : v = true ↔ TbOk p) :
    Calls Tryd.prog 19 #[.agg #[.slice aA p.av.length cA, .slice aC p.cu.length cC, .slice aN p.nr.length cN, .bool p.al, .slice aD p.dr.length cD, .slice aO p.co.length cO]] w fun e w' => e = .returned (.bool v) ∧ Kept (fun _ => False) w w' := by
  obtain ⟨l1, l2, l3, l4, l5⟩ := hO.len
  have KA := Kept.alloc w (.cells #[.slice aA p.av.length cA, .slice aC p.cu.length cC, .slice aN p.nr.length cN, .bool p.al, .slice aD p.dr.length cD, .slice aO p.co.length cO] 27)
  have HP := hideI (hP.kept KA)
  have HKA := hideI KA
  have HO := hideI hO
  have HBX : Hid ((w.alloc (.cells #[.slice aA p.av.length cA, .slice aC p.cu.length cC, .slice aN p.nr.length cN, .bool p.al, .slice aD p.dr.length cD, .slice aO p.co.length cO] 27)).heap[w.heap.size]? = some (.cells #[.slice aA p.av.length cA, .slice aC p.cu.length cC, .slice aN p.nr.length cN, .bool p.al, .slice aD p.dr.length cD, .slice aO p.co.length cO] 27 (0, 0))) := hideI (heap_alloc_new w _)
  have HV : Hid (∀ b : Bool, IsB b (P4 p p.nr.length) → v = b) := hideI (fun b h => isB_of h (by rw [hv, p4_tb]))
  clear KA hP hO hv
  obtain ⟨n1, hn1⟩ : ∃ n1, n1 = p.av.length := ⟨_, rfl⟩
  obtain ⟨n2, hn2⟩ : ∃ n2, n2 = p.cu.length := ⟨_, rfl⟩
  obtain ⟨n3, hn3⟩ : ∃ n3, n3 = p.nr.length := ⟨_, rfl⟩
  obtain ⟨n4, hn4⟩ : ∃ n4, n4 = p.dr.length := ⟨_, rfl⟩
  obtain ⟨n5, hn5⟩ : ∃ n5, n5 = p.co.length := ⟨_, rfl⟩
  obtain ⟨al, hal⟩ : ∃ al, al = p.al := ⟨_, rfl⟩
  have HN1 := hideI hn1
  have HN2 := hideI hn2
  have HN3 := hideI hn3
  have HN4 := hideI hn4
  have HAL := hideI hal
  have HP0 : Hid (P0 p ↔ (1 ≤ n1 ∧ n1 ≤ 16) ∧ (al = true → n4 = 0)) := hideI (by rw [hn1, hn4, hal]; exact Iff.rfl)
  rw [← hn1, ← hn2, ← hn3, ← hn4, ← hn5, ← hal] at HKA HBX HP ⊢
  rw [← hn1] at l1
  rw [← hn2] at l3
  rw [← hn3] at l4
  rw [← hn4] at l2
  clear hn1 hn2 hn3 hn4 hn5 hal l5
  go_enter Tryd.func19, Tryd.ntmps19
  go_upto_region 1 with fail
  obtain ⟨V, hV⟩ : ∃ V, V = w.alloc (.cells #[.slice aA n1 cA, .slice aC n2 cC, .slice aN n3 cN, .bool al, .slice aD n4 cD, .slice aO n5 cO] 27) := ⟨_, rfl⟩
  rw [← hV] at HKA HP HBX ⊢
  clear hV
  have HB6 := fun (W : World) (K : Kept (fun _ => False) V W) => hideI (box6 (K.heap HBX.out (fun f => f)))
  go_cut [3] (fun s3 wx => ∃ b, s3 = .bool b ∧ Hid (IsB b (P0 p)) ∧ Hid (Kept (fun _ => False) V wx))
  case first =>
    obtain ⟨z0, z1, z2, z3, z4, z5⟩ := (HB6 V (Kept.refl _ _)).out
    by_cases h1 : 1 ≤ n1
    · have g1 : (1 : Int) ≤ (n1 : Int) := by omega
      by_cases h2 : n1 ≤ 16
      · have g2 : (n1 : Int) ≤ 16 := by omega
        cases al with
        | false =>
          have HR : Hid (IsB true (P0 p)) := hideI ⟨fun _ => HP0.out.2 ⟨⟨h1, h2⟩, fun e => (by cases e)⟩, fun _ => rfl⟩
          clear HP0 h1 h2
          go_wp2
          go_meet
          case rel => exact ⟨true, rfl, HR, hideI (Kept.refl _ _)⟩
        | true =>
          by_cases h4 : n4 = 0
          · have HR : Hid (IsB true (P0 p)) := hideI ⟨fun _ => HP0.out.2 ⟨⟨h1, h2⟩, fun _ => h4⟩, fun _ => rfl⟩
            have g4 : (n4 : Int) = 0 := by omega
            have g5 : ((n4 : Int) == 0) = true := by rw [g4]; rfl
            clear HP0 h1 h2 h4
            go_wp2
            go_meet
            case rel => exact ⟨true, by simp, HR, hideI (Kept.refl _ _)⟩
          · have HR : Hid (IsB false (P0 p)) := hideI ⟨fun e => (by cases e), fun f => absurd ((HP0.out.1 f).2 rfl) h4⟩
            have g4 : ¬ (n4 : Int) = 0 := by omega
            have g5 : ((n4 : Int) == 0) = false := by rw [beq_eq_false_iff_ne]; exact g4
            clear HP0 h1 h2 h4
            go_wp2
            go_meet
            case rel => exact ⟨false, by simp, HR, hideI (Kept.refl _ _)⟩
      · have HR : Hid (IsB false (P0 p)) := hideI ⟨fun e => (by cases e), fun f => absurd (HP0.out.1 f).1.2 h2⟩
        have g2 : ¬ (n1 : Int) ≤ 16 := by omega
        clear HP0 h1 h2
        go_wp2
        go_meet
        case rel => exact ⟨false, rfl, HR, hideI (Kept.refl _ _)⟩
    · have HR : Hid (IsB false (P0 p)) := hideI ⟨fun e => (by cases e), fun f => absurd (HP0.out.1 f).1.1 h1⟩
      have g1 : ¬ (1 : Int) ≤ (n1 : Int) := by omega
      clear HP0 h1
      go_wp2
      go_meet
      case rel => exact ⟨false, rfl, HR, hideI (Kept.refl _ _)⟩
  case rest =>
    obtain ⟨b0, rfl, HB0, HK0⟩ := hcut
    have HB1 : Hid (IsB b0 (P1 p 0)) := hideI (isB_iff HB0.out (p1_0 p).symm)
    obtain ⟨z0, z1, z2, z3, z4, z5⟩ := (HB6 wc HK0.out).out
    clear HP0 HB0
    go_wp2
    clear z0 z1 z2 z3 z4 z5
    go_loopw [3, 39] (fun s3 s39 wr => ∃ (j : Nat) (b : Bool), j ≤ n1 ∧ s39 = .int .i64 j ∧ s3 = .bool b ∧ Hid (IsB b (P1 p j)) ∧ Hid (Kept (fun _ => False) V wr)) (fun _ s39 _ => n1 - (intOf s39).toNat)
    case atStart => exact ⟨0, b0, by omega, rfl, rfl, HB1, HK0⟩
    case round =>
      obtain ⟨j, b, hj, rfl, rfl, HB, HK⟩ := hrel
      by_cases hlt : j < n1
      · as_aux_lemma =>
          have hjl : j < p.av.length := by rw [← HN1.out]; exact hlt
          have hji : (j : Int) < (n1 : Int) := by omega
          obtain ⟨fb, fo, rfl, hc⟩ := HP.out.av.get hjl
          rw [List.getElem?_eq_getElem hjl, Option.getD_some] at hc
          have hc := HK.out.cell hc (fun f => f)
          have HS := hideI (p1_s p hjl)
          generalize p.av[j] = x at *
          clear HB1
          cases b with
          | false =>
            have HR := hideI (grow_n HB.out HS.out)
            clear HS HB
            go_wp2
            go_roundw
            case rel => exact ⟨j + 1, false, hlt, by go_num, rfl, HR, HK⟩
            case measure => simp [intOf]; omega
          | true =>
            by_cases hx : 0 ≤ x
            · have HR := hideI (grow_t HB.out HS.out hx)
              clear HS HB
              go_wp2
              go_roundw
              case rel => exact ⟨j + 1, true, hlt, by go_num, by simp, HR, HK⟩
              case measure => simp [intOf]; omega
            · have HR := hideI (grow_f HS.out hx)
              clear HS HB
              go_wp2
              go_roundw
              case rel => exact ⟨j + 1, false, hlt, by go_num, by simp, HR, HK⟩
              case measure => simp [intOf]; omega
      · obtain rfl : j = n1 := by omega
        have hji : ¬ (j : Int) < (j : Int) := by omega
        have HB2 : Hid (IsB b (P2 p 0)) := hideI (isB_iff (by have := HB.out; rw [HN1.out] at this; exact this) (p2_0 p).symm)
        obtain ⟨z0, z1, z2, z3, z4, z5⟩ := (HB6 wr HK.out).out
        clear HB HB1
        go_wp2
        clear z0 z1 z2 z3 z4 z5 HK0
        go_loopw [3, 52] (fun s3 s52 wx => ∃ (k : Nat) (b : Bool), k ≤ n2 ∧ s52 = .int .i64 k ∧ s3 = .bool b ∧ Hid (IsB b (P2 p k)) ∧ Hid (Kept (fun _ => False) V wx)) (fun _ s52 _ => n2 - (intOf s52).toNat)
        case atStart => exact ⟨0, b, by omega, rfl, rfl, HB2, HK⟩
        case round =>
          obtain ⟨k, b2, hk, rfl, rfl, HB, HKy⟩ := hrel
          by_cases hlt2 : k < n2
          · as_aux_lemma =>
              have hkl : k < p.cu.length := by rw [← HN2.out]; exact hlt2
              have hki : (k : Int) < (n2 : Int) := by omega
              obtain ⟨fb, fo, ea, hc⟩ := HP.out.cu (by intro e; rw [e] at hkl; simp at hkl)
              obtain ⟨x0, x1⟩ := hc k hkl
              subst ea
              have x0 := HKy.out.cell x0 (fun f => f)
              have x1 := HKy.out.cell x1 (fun f => f)
              have HS := hideI (p2_s p hkl)
              rw [← HN1.out] at HS
              generalize p.cu[k] = c at *
              obtain ⟨f, t⟩ := c
              simp only at x0 x1
              have HKx := hideI (HKy.out.trans (Kept.alloc _ (.cells #[.int .i64 f, .string t] 63)) (fun _ f => f.elim))
              obtain ⟨y0, -, -, -, -, -⟩ := (HB6 _ HKx.out).out
              clear hc HB2
              cases b2 with
              | false =>
                have HR := hideI (grow_n HB.out HS.out)
                clear HS HB
                go_wp2
                go_roundw
                case rel => exact ⟨k + 1, false, hlt2, by go_num, rfl, HR, HKx⟩
                case measure => simp [intOf]; omega
              | true =>
                by_cases hx : 0 ≤ f
                · by_cases hx2 : f < (j : Int)
                  · by_cases hx3 : t.size ≤ 64
                    · have HR := hideI (grow_t HB.out HS.out ⟨hx, hx2, hx3⟩)
                      have hx3i : ((t.size : Nat) : Int) ≤ 64 := by omega
                      clear HS HB
                      go_wp2
                      go_roundw
                      case rel => exact ⟨k + 1, true, hlt2, by go_num, by simp, HR, HKx⟩
                      case measure => simp [intOf]; omega
                    · have HR := hideI (grow_f HS.out (fun e => hx3 e.2.2))
                      have hx3i : ¬ ((t.size : Nat) : Int) ≤ 64 := by omega
                      clear HS HB
                      go_wp2
                      go_roundw
                      case rel => exact ⟨k + 1, false, hlt2, by go_num, by simp, HR, HKx⟩
                      case measure => simp [intOf]; omega
                  · have HR := hideI (grow_f HS.out (fun e => hx2 e.2.1))
                    clear HS HB
                    go_wp2
                    go_roundw
                    case rel => exact ⟨k + 1, false, hlt2, by go_num, rfl, HR, HKx⟩
                    case measure => simp [intOf]; omega
                · have HR := hideI (grow_f HS.out (fun e => hx e.1))
                  clear HS HB
                  go_wp2
                  go_roundw
                  case rel => exact ⟨k + 1, false, hlt2, by go_num, rfl, HR, HKx⟩
                  case measure => simp [intOf]; omega
          · obtain rfl : k = n2 := by omega
            have hki : ¬ (k : Int) < (k : Int) := by omega
            have HB3 : Hid (IsB b2 (P3 p 0)) := hideI (isB_iff (by have := HB.out; rw [HN2.out] at this; exact this) (p3_0 p).symm)
            obtain ⟨z0, z1, z2, z3, z4, z5⟩ := (HB6 _ HKy.out).out
            clear HB HB2
            go_wp2
            clear z0 z1 z2 z3 z4 z5 HK
            go_loopw [3, 8, 80] (fun s3 s8 s80 wx => ∃ (i : Nat) (b : Bool), i ≤ n4 ∧ s80 = .int .i64 i ∧ s8 = .int .i64 (laD p.dr i) ∧ s3 = .bool b ∧ Hid (IsB b (P3 p i)) ∧ Hid (Kept (fun _ => False) V wx)) (fun _ _ s80 _ => n4 - (intOf s80).toNat)
            case atStart => exact ⟨0, b2, by omega, rfl, rfl, rfl, HB3, HKy⟩
            case round =>
              obtain ⟨i, b3, hi, rfl, rfl, rfl, HB, HKz⟩ := hrel
              by_cases hlt3 : i < n4
              · as_aux_lemma =>
                  have hil : i < p.dr.length := by rw [← HN4.out]; exact hlt3
                  have hii : (i : Int) < (n4 : Int) := by omega
                  obtain ⟨fb, fo, rfl, hc⟩ := HP.out.dr.get hil
                  have hc := HKz.out.cell hc (fun f => f)
                  have HS := hideI (p3_s p (j := i))
                  rw [← HN2.out] at HS
                  have HN : Hid (laD p.dr (i + 1) = p.dr[i]?.getD 0) := hideI (by unfold laD; rw [if_neg (by omega)]; rfl)
                  obtain ⟨-, y1, -, -, -, -⟩ := (HB6 _ HKz.out).out
                  obtain ⟨x, hx⟩ : ∃ x, x = p.dr[i]?.getD 0 := ⟨_, rfl⟩
                  rw [← hx] at hc HS HN
                  clear HB3 hx
                  generalize laD p.dr i = la at *
                  cases b3 with
                  | false =>
                    have HR := hideI (grow_n HB.out HS.out)
                    clear HS HB
                    go_wp2
                    go_roundw
                    case rel => exact ⟨i + 1, false, hlt3, by go_num, congrArg (Value.int .i64) HN.out.symm, rfl, HR, HKz⟩
                    case measure => simp [intOf]; omega
                  | true =>
                    by_cases h1 : la < x
                    · have h1' : x > la := h1
                      by_cases h2 : x < (k : Int)
                      · have HR := hideI (grow_t HB.out HS.out ⟨h1, h2⟩)
                        clear HS HB
                        go_wp2
                        go_roundw
                        case rel => exact ⟨i + 1, true, hlt3, by go_num, congrArg (Value.int .i64) HN.out.symm, by simp, HR, HKz⟩
                        case measure => simp [intOf]; omega
                      · have HR := hideI (grow_f HS.out (fun e => h2 e.2))
                        clear HS HB
                        go_wp2
                        go_roundw
                        case rel => exact ⟨i + 1, false, hlt3, by go_num, congrArg (Value.int .i64) HN.out.symm, by simp, HR, HKz⟩
                        case measure => simp [intOf]; omega
                    · have HR := hideI (grow_f HS.out (fun e => h1 e.1))
                      have h1' : ¬ x > la := h1
                      clear HS HB
                      go_wp2
                      go_roundw
                      case rel => exact ⟨i + 1, false, hlt3, by go_num, congrArg (Value.int .i64) HN.out.symm, rfl, HR, HKz⟩
                      case measure => simp [intOf]; omega
              · obtain rfl : i = n4 := by omega
                have hii : ¬ (i : Int) < (i : Int) := by omega
                have HB4 : Hid (IsB b3 (P4 p 0)) := hideI (isB_iff (by have := HB.out; rw [HN4.out] at this; exact this) (p4_0 p).symm)
                obtain ⟨z0, z1, z2, z3, z4, z5⟩ := (HB6 _ HKz.out).out
                clear HB HB3
                go_wp2
                clear z0 z1 z2 z3 z4 z5 HKy
                go_loopw [3, 102] (fun s3 s102 wr => ∃ (m : Nat) (b : Bool), m ≤ n3 ∧ s102 = .int .i64 m ∧ s3 = .bool b ∧ Hid (IsB b (P4 p m)) ∧ Hid (Kept (fun _ => False) V wr)) (fun _ s102 _ => n3 - (intOf s102).toNat)
                case atStart => exact ⟨0, b3, by omega, rfl, rfl, HB4, HKz⟩
                case round =>
                  obtain ⟨m, b4, hm, rfl, rfl, HB, HKm⟩ := hrel
                  by_cases hlt4 : m < n3
                  · have hml : m < p.nr.length := by rw [← HN3.out]; exact hlt4
                    have hmi : (m : Int) < (n3 : Int) := by omega
                    obtain ⟨fb, fo, ea, hc⟩ := HP.out.nr (by intro e; rw [e] at hml; simp at hml)
                    obtain ⟨a1, c1, a2, c2, x0, x1, x2, i1, i2⟩ := hc m hml
                    subst ea
                    have x0 := HKm.out.cell x0 (fun f => f)
                    have x1 := HKm.out.cell x1 (fun f => f)
                    have x2 := HKm.out.cell x2 (fun f => f)
                    have HS := hideI (p4_s p hml)
                    have hnl := HO.out.nlen (List.getElem_mem hml)
                    generalize p.nr[m] = nn at *
                    obtain ⟨cs, os, sl⟩ := nn
                    simp only at x0 x1 x2 i1 i2 hnl HS
                    have HP5 := hideI (p5_0 p m ⟨cs, os, sl⟩)
                    simp only at HP5
                    have HI1 := hideI i1
                    have HI2 := hideI i2
                    obtain ⟨cl, hcl⟩ : ∃ cl, cl = cs.length := ⟨_, rfl⟩
                    obtain ⟨ol, hol⟩ : ∃ ol, ol = os.length := ⟨_, rfl⟩
                    have HCL := hideI hcl
                    have HOL := hideI hol
                    rw [← hcl] at x0 hnl HS HP5
                    rw [← hol] at x1 hnl HP5
                    obtain ⟨hnl1, hnl2⟩ := hnl
                    have HKn := hideI (HKm.out.trans (Kept.alloc wr (.cells #[.slice a1 cl c1, .slice a2 ol c2, .int .i64 sl] 65)) (fun _ f => f.elim))
                    have HNX := hideI (heap_alloc_new wr (.cells #[.slice a1 cl c1, .slice a2 ol c2, .int .i64 sl] 65 (0, 0)))
                    clear hc HB4 i1 i2 hcl hol
                    go_upto_region 22 with fail
                    generalize wr.heap.size = gx at *
                    generalize wr.alloc (.cells #[.slice a1 cl c1, .slice a2 ol c2, .int .i64 sl] 65) = W5 at *
                    go_cut [3] (fun s3 wx => ∃ b, s3 = .bool b ∧ Hid (IsB b (P5 p m ⟨cs, os, sl⟩ 0)) ∧ Hid (Kept (fun _ => False) W5 wx))
                    case first =>
                      obtain ⟨q0, q1, q2⟩ := bin3 HNX.out
                      cases b4 with
                      | false =>
                        have HR := hideI (grow_n HB.out HP5.out)
                        clear HS HB HP5 x0 x1 x2
                        go_wp2
                        go_meet
                        case rel => exact ⟨false, rfl, HR, hideI (Kept.refl _ _)⟩
                      | true =>
                        by_cases h1 : 1 ≤ cl
                        · have g1 : (cl : Int) > 0 := by omega
                          by_cases h2 : cl = ol
                          · have g2 : ((cl : Int) == (ol : Int)) = true := by rw [h2]; simp
                            by_cases h3 : 0 ≤ sl
                            · by_cases h4 : sl < 2147483647
                              · have HR := hideI (grow_t HB.out HP5.out ⟨h1, h2, h3, h4⟩)
                                clear HS HB HP5 x0 x1 x2 h2
                                go_wp2
                                go_meet
                                case rel => exact ⟨true, by simp, HR, hideI (Kept.refl _ _)⟩
                              · have HR := hideI (grow_f HP5.out (fun e => h4 e.2.2.2))
                                clear HS HB HP5 x0 x1 x2 h2
                                go_wp2
                                go_meet
                                case rel => exact ⟨false, by simp, HR, hideI (Kept.refl _ _)⟩
                            · have HR := hideI (grow_f HP5.out (fun e => h3 e.2.2.1))
                              clear HS HB HP5 x0 x1 x2 h2
                              go_wp2
                              go_meet
                              case rel => exact ⟨false, rfl, HR, hideI (Kept.refl _ _)⟩
                          · have g2 : ((cl : Int) == (ol : Int)) = false := by rw [beq_eq_false_iff_ne]; omega
                            have HR := hideI (grow_f HP5.out (fun e => h2 e.2.1))
                            clear HS HB HP5 x0 x1 x2 h2
                            go_wp2
                            go_meet
                            case rel => exact ⟨false, rfl, HR, hideI (Kept.refl _ _)⟩
                        · have g1 : ¬ (cl : Int) > 0 := by omega
                          have HR := hideI (grow_f HP5.out (fun e => h1 e.1))
                          clear HS HB HP5 x0 x1 x2
                          go_wp2
                          go_meet
                          case rel => exact ⟨false, rfl, HR, hideI (Kept.refl _ _)⟩
                    case rest =>
                      obtain ⟨b5, rfl, HB5, HKc⟩ := hcut
                      clear x0 x1 x2 HP5 HB HKm
                      go_wp2
                      go_loopw [3, 13] (fun s3 s13 w6 => ∃ (ii : Nat) (b : Bool), ii ≤ cl ∧ s13 = .int .i64 ii ∧ s3 = .bool b ∧ Hid (IsB b (P5 p m ⟨cs, os, sl⟩ ii)) ∧ Hid (Kept (fun _ => False) W5 w6)) (fun s3 s13 _ => cl - (intOf s13).toNat)
                      case atStart => exact ⟨0, b5, by omega, rfl, rfl, HB5, HKc⟩
                      case round =>
                        obtain ⟨ii, b6, hii6, rfl, rfl, HB, HK6⟩ := hrel
                        obtain ⟨q0, q1, q2⟩ := bin3 (HK6.out.heap HNX.out (fun f => f))
                        have HKV := hideI (HKn.out.trans HK6.out (fun _ f => f.elim))
                        clear HB5 HKc
                        cases b6 with
                        | false =>
                          have HR : Hid (IsB false (P4 p (m + 1))) := hideI (isB_iff (p5_mono HB.out hii6) HS.out.symm)
                          clear HS HB
                          go_wp2
                          go_roundw
                          case rel => exact ⟨m + 1, false, hlt4, by go_num, rfl, HR, HKV⟩
                          case measure => simp [intOf]; omega
                        | true =>
                          by_cases hlt6 : ii < cl
                          · as_aux_lemma =>
                              have hci : ii < cs.length := by rw [← HCL.out]; exact hlt6
                              have hoi : ii < os.length := by have := HB.out.yes.1.2.2.1; simp only at this; omega
                              have hli : (ii : Int) < (cl : Int) := by omega
                              have hli2 : (ii : Int) < (ol : Int) := by have := HOL.out; omega
                              have hl0 : (0 : Int) < (cl : Int) := by omega
                              obtain ⟨b1, o1, ea1, d1⟩ := HI1.out.get hci
                              obtain ⟨b1', o1', ea1', d0⟩ := HI1.out.get (k := 0) (by omega)
                              obtain ⟨b2, o2, ea2, d2⟩ := HI2.out.get hoi
                              rw [ea1] at ea1'
                              cases ea1'
                              have d1 := HKV.out.cell d1 (fun f => f)
                              have d0 := HKV.out.cell d0 (fun f => f)
                              have d2 := HKV.out.cell d2 (fun f => f)
                              have HS6 := hideI (p5_s p m ⟨cs, os, sl⟩ ii)
                              have HZ : Hid ((0 : Int) ≤ cs[ii]?.getD 0 ∧ cs[ii]?.getD 0 < (k : Int) → (0 : Int) ≤ cs[0]?.getD 0 ∧ cs[0]?.getD 0 < (k : Int)) := hideI (fun e => by
                                by_cases hk0 : ii = 0
                                · subst hk0; exact e
                                · have q := (HB.out.yes.2 0 (by omega)).1
                                  rw [HN2.out]
                                  exact ⟨q.1, q.2.1⟩)
                              unfold QnOk CsOk at HS6
                              simp only at HS6
                              rw [← HN2.out] at HS6
                              rw [Nat.add_zero] at d0
                              generalize cs[ii]?.getD 0 = c at *
                              generalize cs[0]?.getD 0 = c0 at *
                              generalize os[ii]?.getD 0 = o at *
                              subst ea1
                              subst ea2
                              obtain ⟨-, y1, -, -, -, -⟩ := (HB6 _ HKV.out).out
                              clear HS hci hoi
                              by_cases h1 : 0 ≤ c
                              · by_cases h2 : c < (k : Int)
                                · by_cases h3 : 0 ≤ o
                                  · by_cases h4 : o < 2147483647
                                    · obtain ⟨z1, z2⟩ := HZ.out ⟨h1, h2⟩
                                      obtain ⟨fi, rfl⟩ : ∃ fi : Nat, c = fi := ⟨c.toNat, by omega⟩
                                      obtain ⟨f0, rfl⟩ : ∃ f0 : Nat, c0 = f0 := ⟨c0.toNat, by omega⟩
                                      obtain ⟨cb, co, ec, e1⟩ := HP.out.cu.fd (i := fi) (by rw [← HN2.out]; omega)
                                      obtain ⟨cb', co', ec', e2⟩ := HP.out.cu.fd (i := f0) (by rw [← HN2.out]; omega)
                                      rw [ec] at ec'
                                      cases ec'
                                      have e1 := HKV.out.cell e1 (fun f => f)
                                      have e2 := HKV.out.cell e2 (fun f => f)
                                      subst ec
                                      by_cases hff : fdA p.cu fi = fdA p.cu f0
                                      · have HR := hideI (grow_t HB.out HS6.out ⟨⟨h1, h2, hff⟩, h3, h4⟩)
                                        rw [hff] at e1
                                        generalize fdA p.cu f0 = ff at *
                                        have g1 : ((ff : Int) == ff) = true := by simp
                                        clear HB HS6 HZ z1 h1 hff
                                        go_wp2
                                        go_quiet (fail)
                                        go_wp2
                                        go_roundw
                                        case rel => exact ⟨ii + 1, true, hlt6, by go_num, by simp, HR, hideI (HK6.out.trans (Kept.drewN _ _) (fun _ f => f.elim))⟩
                                        case measure => simp [intOf]; omega
                                      · have HR := hideI (grow_f HS6.out (fun e => hff e.1.2.2))
                                        generalize fdA p.cu fi = f1 at *
                                        generalize fdA p.cu f0 = f2 at *
                                        have g1 : ((f1 : Int) == f2) = false := by rw [beq_eq_false_iff_ne]; exact hff
                                        clear HB HS6 HZ z1 h1
                                        go_wp2
                                        go_quiet (fail)
                                        go_wp2
                                        go_roundw
                                        case rel => exact ⟨ii + 1, false, hlt6, by go_num, by simp, HR, hideI (HK6.out.trans (Kept.drewN _ _) (fun _ f => f.elim))⟩
                                        case measure => simp [intOf]; omega
                                    · have HR := hideI (grow_f HS6.out (fun e => h4 e.2.2))
                                      clear HB HS6 HZ
                                      go_wp2
                                      go_quiet (fail)
                                      go_wp2
                                      go_roundw
                                      case rel => exact ⟨ii + 1, false, hlt6, by go_num, rfl, HR, hideI (HK6.out.trans (Kept.drewN _ _) (fun _ f => f.elim))⟩
                                      case measure => simp [intOf]; omega
                                  · have HR := hideI (grow_f HS6.out (fun e => h3 e.2.1))
                                    clear HB HS6 HZ
                                    go_wp2
                                    go_quiet (fail)
                                    go_wp2
                                    go_roundw
                                    case rel => exact ⟨ii + 1, false, hlt6, by go_num, rfl, HR, hideI (HK6.out.trans (Kept.drewN _ _) (fun _ f => f.elim))⟩
                                    case measure => simp [intOf]; omega
                                · have HR := hideI (grow_f HS6.out (fun e => h2 e.1.2.1))
                                  clear HB HS6 HZ
                                  go_wp2
                                  go_quiet (fail)
                                  go_wp2
                                  go_roundw
                                  case rel => exact ⟨ii + 1, false, hlt6, by go_num, rfl, HR, hideI (HK6.out.trans (Kept.drewN _ _) (fun _ f => f.elim))⟩
                                  case measure => simp [intOf]; omega
                              · have HR := hideI (grow_f HS6.out (fun e => h1 e.1.1))
                                clear HB HS6 HZ
                                go_wp2
                                go_quiet (fail)
                                go_wp2
                                go_roundw
                                case rel => exact ⟨ii + 1, false, hlt6, by go_num, rfl, HR, hideI (HK6.out.trans (Kept.drewN _ _) (fun _ f => f.elim))⟩
                                case measure => simp [intOf]; omega
                          · obtain rfl : ii = cl := by omega
                            have hli : ¬ (ii : Int) < (ii : Int) := by omega
                            have HR : Hid (IsB true (P4 p (m + 1))) := hideI (isB_iff HB.out HS.out.symm)
                            clear HS HB
                            go_wp2
                            go_roundw
                            case rel => exact ⟨m + 1, true, hlt4, by go_num, rfl, HR, HKV⟩
                            case measure => simp [intOf]; omega
                  · obtain rfl : m = n3 := by omega
                    have hmi : ¬ (m : Int) < (m : Int) := by omega
                    have hvb := HV.out b4 (by have := HB.out; rw [HN3.out] at this; exact this)
                    subst hvb
                    clear HB HV HB4
                    go_wp2
                    go_ret
                    exact ⟨rfl, HKA.out.trans HKm.out (fun _ f => f.elim)⟩
end Go.Proofs.YtohnkamobmkhkaaDoor
