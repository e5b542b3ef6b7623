import Derived.Test.YtmfdoohnladohaaLvt
namespace Go.Proofs.Ytmfdoohnladohaa
open Go.ChangeShapes Go.WideShapes Go.ChangeAt Go.RowKit

def vc (b : Bool) : UInt8 := if b then 118 else 99
def fm (l : List UInt8) : List UInt8 := (vwl l).map vc
theorem fm_len (l : List UInt8) : (fm l).length = l.length := by unfold fm; rw [List.length_map, vwl_len]
theorem fm_take (l : List UInt8) (k : Nat) (h : k < l.length) (p : Bool) (hp : p = if k = 0 then true else vat l (k - 1)) (b : Bool) (hb : vb p l[k] = b) : (fm l).take (k + 1) = (fm l).take k ++ [vc b] := by
  unfold fm
  rw [← List.map_take, List.take_succ_eq_append_getElem (by rw [vwl_len]; exact h), List.map_append, vwl_get l k h p hp, hb, List.map_take]
  rfl
theorem fm_pre (l : List UInt8) (k : Nat) (h : k < l.length) (h0 : 0 < k) : (bu ((fm l).take k))[k - 1]? = some (.int .u8 ((vc (vat l (k - 1))).toNat : Int)) := by
  unfold fm bu vat
  rw [List.getElem?_map, List.getElem?_take, if_pos (by omega), List.getElem?_map, List.getElem?_eq_getElem (by rw [vwl_len]; omega), List.getD_eq_getElem?_getD, List.getElem?_eq_getElem (by rw [vwl_len]; omega), Option.getD_some]
  rfl
set_option maxRecDepth 20000 in
set_option maxHeartbeats 4000000 in
theorem rform_any (l : List UInt8) (w : World) (hl : l.length ≤ 140737488355328) :
    Calls Try.prog 49 #[.string (bq l)] w fun e w' => e = .returned (.string (bq (fm l))) ∧ Kept (fun _ => False) w w' := by
  obtain ⟨s, hs⟩ : ∃ s, s = bq l := ⟨_, rfl⟩
  have hz : s.size = l.length := by rw [hs]; exact bq_size l
  have hz' : (s.size : Int) = (l.length : Int) := by rw [hz]
  have HX : Hid (∀ k (h : k < l.length) (h2 : k < s.size), s[k] = l[k]) := hideV (fun k h h2 => by subst hs; rfl)
  rw [← hs]
  clear hs
  go_enter Try.func49, Try.ntmps49
  go_wp2
  go_loopw [3, 4] (fun v i wr => ∃ (k : Nat) (a : Option Addr) (c : Nat), k ≤ l.length ∧ i = .int .i64 k ∧ v = .slice a k c ∧ Hid (Gro w wr 5 1 (.slice a k c) k (bu ((fm l).take k)))) (fun _ i _ => l.length - (intOf i).toNat)
  case atStart => exact ⟨0, _, _, by omega, rfl, rfl, gro_empty w w 5 1 (Kept.refl _ _)⟩
  case round =>
    obtain ⟨k, a, c0, hk, rfl, rfl, HG⟩ := hrel
    by_cases hlt : k < l.length
    · obtain ⟨p, hp⟩ : ∃ p : Bool, p = if k = 0 then true else vat l (k - 1) := ⟨_, rfl⟩
      have h2 : k < s.size := by omega
      have hc0 := HX.out k hlt h2
      have HN := hideV (fun b hb => fm_take l k hlt p hp b hb)
      have HP : Hid (0 < k → ∃ g, a = some ⟨g, 0, none⟩ ∧ wr.cell? ⟨g, k - 1, none⟩ = some (.int .u8 ((vc p).toNat : Int))) := hideV (fun h0 => by
        obtain ⟨g, rfl, _, hc⟩ := HG.out.cell h0
        refine ⟨g, rfl, ?_⟩
        rw [hp, if_neg (by omega)]
        exact hc _ _ (fm_pre l k hlt h0))
      have HP0 : Hid (k = 0 → p = true) := hideV (fun h0 => by rw [hp, if_pos h0])
      clear hp
      obtain ⟨c, hc1⟩ : ∃ c, c = l[k] := ⟨_, rfl⟩
      rw [← hc1] at hc0 HN
      have hc3 : s[k].toNat = c.toNat := by rw [hc0]
      clear hc0 hc1 HX
      have hki : (k : Int) < (l.length : Int) := by omega
      by_cases v97 : c = 97
      · have HT := hideV (HN.out true (by rw [v97]; rfl))
        have hc4 : s[k].toNat = 97 := by rw [hc3, v97]; rfl
        clear v97 HN HP HP0 hc3
        go_wp2_with (at_builtin; refine wpList_pushB rfl _ _ rfl _ k (k + 1) _ _ _ _ rfl HG rfl (hideV (rfl : _ = ((vc true).toNat : Int))) HT rfl (by omega) ?_; intro a' c' W' HG')
        go_roundw
        case rel => exact ⟨k + 1, a', c', by omega, by go_num, rfl, HG'⟩
        case measure => simp [intOf]; omega
      · have n97 : ((c.toNat : Int) == 97) = false := u8_ne v97
        by_cases v101 : c = 101
        · have HT := hideV (HN.out true (by rw [v101]; rfl))
          have hc4 : s[k].toNat = 101 := by rw [hc3, v101]; rfl
          clear v101 HN HP HP0 hc3
          go_wp2_with (at_builtin; refine wpList_pushB rfl _ _ rfl _ k (k + 1) _ _ _ _ rfl HG rfl (hideV (rfl : _ = ((vc true).toNat : Int))) HT rfl (by omega) ?_; intro a' c' W' HG')
          go_roundw
          case rel => exact ⟨k + 1, a', c', by omega, by go_num, rfl, HG'⟩
          case measure => simp [intOf]; omega
        · have n101 : ((c.toNat : Int) == 101) = false := u8_ne v101
          by_cases v105 : c = 105
          · have HT := hideV (HN.out true (by rw [v105]; rfl))
            have hc4 : s[k].toNat = 105 := by rw [hc3, v105]; rfl
            clear v105 HN HP HP0 hc3
            go_wp2_with (at_builtin; refine wpList_pushB rfl _ _ rfl _ k (k + 1) _ _ _ _ rfl HG rfl (hideV (rfl : _ = ((vc true).toNat : Int))) HT rfl (by omega) ?_; intro a' c' W' HG')
            go_roundw
            case rel => exact ⟨k + 1, a', c', by omega, by go_num, rfl, HG'⟩
            case measure => simp [intOf]; omega
          · have n105 : ((c.toNat : Int) == 105) = false := u8_ne v105
            by_cases v111 : c = 111
            · have HT := hideV (HN.out true (by rw [v111]; rfl))
              have hc4 : s[k].toNat = 111 := by rw [hc3, v111]; rfl
              clear v111 HN HP HP0 hc3
              go_wp2_with (at_builtin; refine wpList_pushB rfl _ _ rfl _ k (k + 1) _ _ _ _ rfl HG rfl (hideV (rfl : _ = ((vc true).toNat : Int))) HT rfl (by omega) ?_; intro a' c' W' HG')
              go_roundw
              case rel => exact ⟨k + 1, a', c', by omega, by go_num, rfl, HG'⟩
              case measure => simp [intOf]; omega
            · have n111 : ((c.toNat : Int) == 111) = false := u8_ne v111
              by_cases v117 : c = 117
              · have HT := hideV (HN.out true (by rw [v117]; rfl))
                have hc4 : s[k].toNat = 117 := by rw [hc3, v117]; rfl
                clear v117 HN HP HP0 hc3
                go_wp2_with (at_builtin; refine wpList_pushB rfl _ _ rfl _ k (k + 1) _ _ _ _ rfl HG rfl (hideV (rfl : _ = ((vc true).toNat : Int))) HT rfl (by omega) ?_; intro a' c' W' HG')
                go_roundw
                case rel => exact ⟨k + 1, a', c', by omega, by go_num, rfl, HG'⟩
                case measure => simp [intOf]; omega
              · have n117 : ((c.toNat : Int) == 117) = false := u8_ne v117
                by_cases v121 : c = 121
                · have hc4 : s[k].toNat = 121 := by rw [hc3, v121]; rfl
                  have HT0 := hideV (HN.out (!p) (by rw [v121, vb_y]))
                  clear v97 v101 v105 v111 v117 n97 n101 n105 n111 n117 v121 HN hc3
                  by_cases h0 : k = 0
                  · have hpt := HP0.out h0
                    subst hpt
                    have HT : Hid ((fm l).take (k + 1) = (fm l).take k ++ [vc false]) := HT0
                    have z0 : ¬ (0 : Int) < (k : Int) := by omega
                    clear HP HP0 h0 HT0
                    go_wp2_with (at_builtin; refine wpList_pushB rfl _ _ rfl _ k (k + 1) _ _ _ _ rfl HG rfl (hideV (rfl : _ = ((vc false).toNat : Int))) HT rfl (by omega) ?_; intro a' c' W' HG')
                    go_roundw
                    case rel => exact ⟨k + 1, a', c', by omega, by go_num, rfl, HG'⟩
                    case measure => simp [intOf]; omega
                  · obtain ⟨g, rfl, y0⟩ := HP.out (by omega)
                    have z0 : (0 : Int) < (k : Int) := by omega
                    have z1 : (0 : Int) ≤ (k : Int) - 1 := by omega
                    have z3 : ((k : Int) - 1).toNat = k - 1 := by omega
                    have z5 : (k : Int) - 1 < (k : Int) := by omega
                    have z4 : wrap64 ((k : Int) - 1) = (k : Int) - 1 := by unfold wrap64; omega
                    clear HP HP0 h0
                    cases p with
                    | true =>
                      have HT : Hid ((fm l).take (k + 1) = (fm l).take k ++ [vc false]) := HT0
                      have y1 : wr.cell? ⟨g, k - 1, none⟩ = some (.int .u8 118) := y0
                      clear HT0 y0
                      go_wp2_with (at_builtin; refine wpList_pushB rfl _ _ rfl _ k (k + 1) _ _ _ _ rfl HG rfl (hideV (rfl : _ = ((vc false).toNat : Int))) HT rfl (by omega) ?_; intro a' c' W' HG')
                      go_roundw
                      case rel => exact ⟨k + 1, a', c', by omega, by go_num, rfl, HG'⟩
                      case measure => simp [intOf]; omega
                    | false =>
                      have HT : Hid ((fm l).take (k + 1) = (fm l).take k ++ [vc true]) := HT0
                      have y1 : wr.cell? ⟨g, k - 1, none⟩ = some (.int .u8 99) := y0
                      clear HT0 y0
                      go_wp2_with (at_builtin; refine wpList_pushB rfl _ _ rfl _ k (k + 1) _ _ _ _ rfl HG rfl (hideV (rfl : _ = ((vc true).toNat : Int))) HT rfl (by omega) ?_; intro a' c' W' HG')
                      go_roundw
                      case rel => exact ⟨k + 1, a', c', by omega, by go_num, rfl, HG'⟩
                      case measure => simp [intOf]; omega
                · have n121 : ((c.toNat : Int) == 121) = false := u8_ne v121
                  have HT := hideV (HN.out false (vb_no p c v97 v101 v105 v111 v117 v121))
                  clear v97 v101 v105 v111 v117 v121 HN HP HP0
                  go_wp2_with (at_builtin; refine wpList_pushB rfl _ _ rfl _ k (k + 1) _ _ _ _ rfl HG rfl (hideV (rfl : _ = ((vc false).toNat : Int))) HT rfl (by omega) ?_; intro a' c' W' HG')
                  go_roundw
                  case rel => exact ⟨k + 1, a', c', by omega, by go_num, rfl, HG'⟩
                  case measure => simp [intOf]; omega
    · obtain rfl : k = l.length := by omega
      have hb := gro_string HG.out (by rw [List.length_take, fm_len]; omega)
      rw [List.take_of_length_le (by rw [fm_len]; exact Nat.le_refl _)] at hb
      go_wp2
      go_ret
      exact ⟨rfl, HG.out.kept⟩
end Go.Proofs.Ytmfdoohnladohaa
