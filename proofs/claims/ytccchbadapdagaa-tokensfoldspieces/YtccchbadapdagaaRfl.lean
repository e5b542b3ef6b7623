import Derived.Test.YtccchbadapdagaaGro
namespace Go.Proofs.Ytccchbadapdagaa
open Go.ChangeShapes Go.WideShapes Go.ChangeAt Go.RowKit

theorem fl_take (l : List UInt8) (k : Nat) (h : k < l.length) (p : UInt8) (hp : p = if k = 0 then 0 else l.getD (k - 1) 0) : (fl 0 l).take (k + 1) = (fl 0 l).take k ++ [fb p l[k]] := by
  rw [List.take_succ_eq_append_getElem (by rw [fl_len]; exact h), fl_get 0 l k h, ← hp]
theorem fb_nat_yes (p c : UInt8) (h : fq p c) : (c.toNat : Int) + 32 = ((fb p c).toNat : Int) := by rw [fb_nat, if_pos h]; rfl
theorem fb_nat_no (p c : UInt8) (h : ¬ fq p c) : (c.toNat : Int) = ((fb p c).toNat : Int) := by rw [fb_nat, if_neg h]
set_option maxRecDepth 20000 in
set_option maxHeartbeats 2000000 in
theorem rfold_any (s : ByteArray) (w : World) (hs : s.size ≤ 140737488355328) :
    Calls Try.prog 6 #[.string s] w fun e w' => e = .returned (.string ⟨(fl 0 s.data.toList).toArray⟩) ∧ Kept (fun _ => False) w w' := by
  obtain ⟨l, hl⟩ : ∃ l, l = s.data.toList := ⟨_, rfl⟩
  have hn : s.size = l.length := by rw [hl, Array.length_toList]; rfl
  rw [← hl]
  have HX : Hid (∀ k (h : k < l.length) (h2 : k < s.size), s[k] = l[k]) := hideG (fun k h h2 => by subst hl; rfl)
  have HE := hideG hn
  clear hl hn
  go_enter Try.func6, Try.ntmps6
  go_wp2
  go_loopw [3, 4] (fun v i wr => ∃ (k : Nat) (a : Option Addr) (c : Nat), k ≤ s.size ∧ i = .int .i64 k ∧ v = .slice a k c ∧ Hid (Gro w wr 5 1 (.slice a k c) k (bu ((fl 0 l).take k)))) (fun _ i _ => s.size - (intOf i).toNat)
  case atStart => exact ⟨0, _, _, by omega, rfl, rfl, gro_empty w w 5 1 (Kept.refl _ _)⟩
  case round =>
    obtain ⟨k, a, c0, hk, rfl, rfl, HG⟩ := hrel
    by_cases hlt : k < s.size
    · have hkl : k < l.length := by rw [← HE.out]; exact hlt
      obtain ⟨p, hp⟩ : ∃ p : UInt8, p = if k = 0 then 0 else l.getD (k - 1) 0 := ⟨_, rfl⟩
      have HT := hideG (fl_take l k hkl p hp)
      have HP : Hid (0 < k → ∀ h : k - 1 < s.size, s[k - 1] = p) := hideG (fun h0 h => by
        rw [HX.out (k - 1) (by omega) h, hp, if_neg (by omega), List.getD_eq_getElem?_getD, List.getElem?_eq_getElem (by omega), Option.getD_some])
      have HP0 : Hid (k = 0 → p.toNat ≠ 195) := hideG (fun h0 => by rw [hp, if_pos h0]; decide)
      have hc : s[k] = l[k] := HX.out k hkl hlt
      obtain ⟨c, hc1⟩ : ∃ c, c = l[k] := ⟨_, rfl⟩
      rw [← hc1] at hc HT
      have hc3 : s[k].toNat = c.toNat := by rw [hc]
      have hcb : c.toNat < 256 := c.toNat_lt
      clear hp hc hc1 hkl
      by_cases hC : 65 ≤ c.toNat ∧ c.toNat ≤ 90
      · have HQ := hideG (fb_nat_yes p c (Or.inl hC))
        have c2 : IntKind.u8.wrap ((c.toNat : Int) + 32) = (c.toNat : Int) + 32 := by rw [IntKind.wrap_u8]; omega
        have c3 : ¬ (128 : Int) ≤ (c.toNat : Int) + 32 := by omega
        have c4 : (65 : Int) ≤ (c.toNat : Int) := by omega
        have c5 : (c.toNat : Int) ≤ 90 := by omega
        clear hC
        by_cases h0 : k = 0
        · have z0 : ¬ (0 : Int) < (k : Int) := by omega
          clear HP HP0 h0
          go_wp2_with (at_builtin; refine wpList_pushB rfl _ _ rfl _ k (k + 1) _ _ _ _ rfl HG rfl HQ HT rfl (by omega) ?_; intro a' c' W' HG')
          go_roundw
          case rel => exact ⟨k + 1, a', c', by omega, by go_num, rfl, HG'⟩
          case measure => simp [intOf]; omega
        · have z0 : (0 : Int) < (k : Int) := by omega
          have z1 : (0 : Int) ≤ (k : Int) - 1 := by omega
          have z2 : (k : Int) - 1 < (s.size : Int) := by omega
          have z3 : ((k : Int) - 1).toNat = k - 1 := by omega
          have z4 : wrap64 ((k : Int) - 1) = (k : Int) - 1 := by unfold wrap64; omega
          have z5 : k - 1 < s.size := by omega
          have z6 := HP.out (by omega) z5
          have z7 : s[k - 1].toNat = p.toNat := by rw [z6]
          clear HP HP0 h0 z6
          by_cases hp1 : p.toNat = 195
          · go_wp2_with (at_builtin; refine wpList_pushB rfl _ _ rfl _ k (k + 1) _ _ _ _ rfl HG rfl HQ HT rfl (by omega) ?_; intro a' c' W' HG')
            go_roundw
            case rel => exact ⟨k + 1, a', c', by omega, by go_num, rfl, HG'⟩
            case measure => simp [intOf]; omega
          · go_wp2_with (at_builtin; refine wpList_pushB rfl _ _ rfl _ k (k + 1) _ _ _ _ rfl HG rfl HQ HT rfl (by omega) ?_; intro a' c' W' HG')
            go_roundw
            case rel => exact ⟨k + 1, a', c', by omega, by go_num, rfl, HG'⟩
            case measure => simp [intOf]; omega
      · have HNO := hideG (fun h : ¬ fq p c => fb_nat_no p c h)
        by_cases c4 : (65 : Int) ≤ (c.toNat : Int)
        · have c5 : ¬ (c.toNat : Int) ≤ 90 := by omega
          by_cases h0 : k = 0
          · have z0 : ¬ (0 : Int) < (k : Int) := by omega
            have HQ := hideG (HNO.out (by unfold fq; have := HP0.out h0; omega))
            clear HP HP0 h0 hC HNO
            go_wp2_with (at_builtin; refine wpList_pushB rfl _ _ rfl _ k (k + 1) _ _ _ _ rfl HG rfl HQ HT rfl (by omega) ?_; intro a' c' W' HG')
            go_roundw
            case rel => exact ⟨k + 1, a', c', by omega, by go_num, rfl, HG'⟩
            case measure => simp [intOf]; omega
          · have z0 : (0 : Int) < (k : Int) := by omega
            have z1 : (0 : Int) ≤ (k : Int) - 1 := by omega
            have z2 : (k : Int) - 1 < (s.size : Int) := by omega
            have z3 : ((k : Int) - 1).toNat = k - 1 := by omega
            have z4 : wrap64 ((k : Int) - 1) = (k : Int) - 1 := by unfold wrap64; omega
            have z5 : k - 1 < s.size := by omega
            have z6 := HP.out (by omega) z5
            have z7 : s[k - 1].toNat = p.toNat := by rw [z6]
            clear HP HP0 h0 z6
            by_cases hp1 : p.toNat = 195
            · by_cases a1 : (128 : Int) ≤ (c.toNat : Int)
              · by_cases a2 : (c.toNat : Int) ≤ 158
                · by_cases a3 : (c.toNat : Int) = 151
                  · have HQ := hideG (HNO.out (by unfold fq; omega))
                    have a4 : ((c.toNat : Int) != 151) = false := by simp [a3]
                    clear hC HNO a3
                    go_wp2_with (at_builtin; refine wpList_pushB rfl _ _ rfl _ k (k + 1) _ _ _ _ rfl HG rfl HQ HT rfl (by omega) ?_; intro a' c' W' HG')
                    go_roundw
                    case rel => exact ⟨k + 1, a', c', by omega, by go_num, rfl, HG'⟩
                    case measure => simp [intOf]; omega
                  · have HQ := hideG (fb_nat_yes p c (Or.inr ⟨hp1, by omega, by omega, by omega⟩))
                    have c2 : IntKind.u8.wrap ((c.toNat : Int) + 32) = (c.toNat : Int) + 32 := by rw [IntKind.wrap_u8]; omega
                    have a4 : ((c.toNat : Int) != 151) = true := by simp [a3]
                    clear hC HNO a3
                    go_wp2_with (at_builtin; refine wpList_pushB rfl _ _ rfl _ k (k + 1) _ _ _ _ rfl HG rfl HQ HT rfl (by omega) ?_; intro a' c' W' HG')
                    go_roundw
                    case rel => exact ⟨k + 1, a', c', by omega, by go_num, rfl, HG'⟩
                    case measure => simp [intOf]; omega
                · have HQ := hideG (HNO.out (by unfold fq; omega))
                  clear hC HNO
                  go_wp2_with (at_builtin; refine wpList_pushB rfl _ _ rfl _ k (k + 1) _ _ _ _ rfl HG rfl HQ HT rfl (by omega) ?_; intro a' c' W' HG')
                  go_roundw
                  case rel => exact ⟨k + 1, a', c', by omega, by go_num, rfl, HG'⟩
                  case measure => simp [intOf]; omega
              · have HQ := hideG (HNO.out (by unfold fq; omega))
                clear hC HNO
                go_wp2_with (at_builtin; refine wpList_pushB rfl _ _ rfl _ k (k + 1) _ _ _ _ rfl HG rfl HQ HT rfl (by omega) ?_; intro a' c' W' HG')
                go_roundw
                case rel => exact ⟨k + 1, a', c', by omega, by go_num, rfl, HG'⟩
                case measure => simp [intOf]; omega
            · have HQ := hideG (HNO.out (by unfold fq; omega))
              clear hC HNO
              go_wp2_with (at_builtin; refine wpList_pushB rfl _ _ rfl _ k (k + 1) _ _ _ _ rfl HG rfl HQ HT rfl (by omega) ?_; intro a' c' W' HG')
              go_roundw
              case rel => exact ⟨k + 1, a', c', by omega, by go_num, rfl, HG'⟩
              case measure => simp [intOf]; omega
        · by_cases h0 : k = 0
          · have z0 : ¬ (0 : Int) < (k : Int) := by omega
            have HQ := hideG (HNO.out (by unfold fq; have := HP0.out h0; omega))
            clear HP HP0 h0 hC HNO
            go_wp2_with (at_builtin; refine wpList_pushB rfl _ _ rfl _ k (k + 1) _ _ _ _ rfl HG rfl HQ HT rfl (by omega) ?_; intro a' c' W' HG')
            go_roundw
            case rel => exact ⟨k + 1, a', c', by omega, by go_num, rfl, HG'⟩
            case measure => simp [intOf]; omega
          · have z0 : (0 : Int) < (k : Int) := by omega
            have z1 : (0 : Int) ≤ (k : Int) - 1 := by omega
            have z2 : (k : Int) - 1 < (s.size : Int) := by omega
            have z3 : ((k : Int) - 1).toNat = k - 1 := by omega
            have z4 : wrap64 ((k : Int) - 1) = (k : Int) - 1 := by unfold wrap64; omega
            have z5 : k - 1 < s.size := by omega
            have z6 := HP.out (by omega) z5
            have z7 : s[k - 1].toNat = p.toNat := by rw [z6]
            clear HP HP0 h0 z6
            by_cases hp1 : p.toNat = 195
            · have HQ := hideG (HNO.out (by unfold fq; omega))
              have c3 : ¬ (128 : Int) ≤ (c.toNat : Int) := by omega
              clear hC HNO
              go_wp2_with (at_builtin; refine wpList_pushB rfl _ _ rfl _ k (k + 1) _ _ _ _ rfl HG rfl HQ HT rfl (by omega) ?_; intro a' c' W' HG')
              go_roundw
              case rel => exact ⟨k + 1, a', c', by omega, by go_num, rfl, HG'⟩
              case measure => simp [intOf]; omega
            · have HQ := hideG (HNO.out (by unfold fq; omega))
              clear hC HNO
              go_wp2_with (at_builtin; refine wpList_pushB rfl _ _ rfl _ k (k + 1) _ _ _ _ rfl HG rfl HQ HT rfl (by omega) ?_; intro a' c' W' HG')
              go_roundw
              case rel => exact ⟨k + 1, a', c', by omega, by go_num, rfl, HG'⟩
              case measure => simp [intOf]; omega
    · obtain rfl : k = s.size := by omega
      have hb := gro_string HG.out (by rw [List.length_take, fl_len, HE.out]; omega)
      rw [List.take_of_length_le (by rw [fl_len, HE.out]; exact Nat.le_refl _)] at hb
      go_wp2
      go_ret
      exact ⟨rfl, HG.out.kept⟩
end Go.Proofs.Ytccchbadapdagaa
