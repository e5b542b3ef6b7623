import Derived.Test.YtiemiphlfbaojaaDoorMrg11
namespace Go.Proofs.YtiemiphlfbaojaaDoor
open Go.ChangeShapes Go.WideShapes Go.ChangeAt Go.RowKit

theorem mapN_zero (o : Option Nat) : o.map (· + 0) = o := by cases o <;> rfl
theorem mapN_two (o : Option Nat) (i j : Nat) : (o.map (· + i)).map (· + j) = o.map (· + (i + j)) := by
  cases o with
  | none => rfl
  | some y => show some (y + i + j) = some (y + (i + j)); rw [Nat.add_assoc]
/-- Is a wild mark among these signs? -/
def stA (G : List Sg) (i k : Nat) : Bool := ((G.drop i).take (k - i)).any (fun x => isW (sgB x))
theorem stA_self (G : List Sg) (i : Nat) : stA G i i = false := by unfold stA; rw [Nat.sub_self, List.take_zero]; rfl
theorem stA_next {G : List Sg} {i k : Nat} {x : Sg} (hx : G[k]? = some x) (h : i ≤ k) : stA G i (k + 1) = (stA G i k || isW (sgB x)) := by
  unfold stA
  obtain ⟨hk, rfl⟩ := List.getElem?_eq_some_iff.1 hx
  rw [show k + 1 - i = (k - i) + 1 by omega, List.take_succ_eq_append_getElem (by rw [List.length_drop]; omega), List.any_append, List.getElem_drop]
  simp [show i + (k - i) = k by omega]
/-- What run answers. -/
def ruPost (w : World) (l : List UInt8) (G : List Sg) (p : Nat) (x : Ending) (w' : World) : Prop :=
  ((rnL (l.drop p) = none ∧ ∃ z : Int, x = .returned (.tuple #[.int .i64 (-1), .string ⟨#[]⟩, .int .i64 z])) ∨ (∃ (m j : Nat), rnL (l.drop p) = some m ∧ SP l G j (p + m) ∧ x = .returned (.tuple #[.int .i64 ((kdF ((l.drop p).take m) : Nat) : Int), .string (bq (txF ((l.drop p).take m))), .int .i64 (j : Int)]))) ∧ Kept (fun _ => False) w w'
theorem ru_no {w w' : World} {l : List UInt8} {G : List Sg} {p : Nat} (h : rnL (l.drop p) = none) (k : Kept (fun _ => False) w w') (z : Int) : ruPost w l G p (.returned (.tuple #[.int .i64 (-1), .string ⟨#[]⟩, .int .i64 z])) w' := ⟨.inl ⟨h, z, rfl⟩, k⟩
theorem stA_T {G : List Sg} {i k : Nat} {T : List UInt8} (h : ((G.drop i).take (k - i)).map sgB = sgn T) : stA G i k = (sgn T).any isW := by
  unfold stA
  rw [← h, List.any_map]
  rfl
theorem run_out (l : List UInt8) (G : List Sg) (i p k p' n : Nat) (hn : n = G.length) (hS : SP l G i p) (hSp : SP l G k p') (hik : i ≤ k) (hk : k ≤ n) : ∃ (R : List Sg) (T : List UInt8), R = (G.drop i).take (k - i) ∧ T = (l.drop p).take (p' - p) ∧ k - i = R.length ∧ p + (p' - p) = p' ∧ ((rsv T = 1 ∧ kwF R = -1 ∧ R.flatMap (txE (stA G i k)) = txF T ∧ kdF T = if stA G i k then 2 else 1) ∨ (∃ r : Nat, 4 ≤ r ∧ r ≤ 7 ∧ kwF R = (r : Int) ∧ kdF T = r ∧ txF T = [])) := by
  obtain ⟨h1, h2⟩ := sp_piece l G (k - i) i p p' hS (by rw [show i + (k - i) = k by omega]; exact hSp) (by omega)
  refine ⟨_, _, rfl, rfl, by rw [List.length_take, List.length_drop]; omega, by omega, ?_⟩
  have hkw := kw_T _ _ h2
  have hst := stA_T (i := i) (k := k) h2
  generalize (l.drop p).take (p' - p) = T at *
  by_cases hr : rsv T = 1
  · rw [if_pos hr] at hkw
    obtain ⟨q1, q2⟩ := tx_T _ T h2 hr _ hst
    exact .inl ⟨hr, hkw, q1, q2⟩
  · rw [if_neg hr] at hkw
    have hb : 4 ≤ rsv T ∧ rsv T ≤ 7 := by
      revert hr
      unfold rsv
      split
      · intro _; exact ⟨by decide, by decide⟩
      · split
        · intro _; exact ⟨by decide, by decide⟩
        · split
          · intro _; exact ⟨by decide, by decide⟩
          · split
            · intro _; exact ⟨by decide, by decide⟩
            · intro h; exact absurd rfl h
    have hkd : kdF T = rsv T := by unfold kdF; rw [if_pos hr]
    refine .inr ⟨rsv T, hb.1, hb.2, hkw, hkd, ?_⟩
    unfold txF
    rw [hkd, if_neg hr, if_neg (by omega)]
theorem flat_next {α β : Type} (f : α → List β) {R : List α} {k : Nat} {x : α} (h : R[k]? = some x) : (R.take (k + 1)).flatMap f = (R.take k).flatMap f ++ f x := by
  obtain ⟨hk, rfl⟩ := List.getElem?_eq_some_iff.1 h
  rw [List.take_succ_eq_append_getElem hk, List.flatMap_append]
  simp
set_option maxRecDepth 20000 in
set_option maxHeartbeats 4000000 in
theorem run13_any (l : List UInt8) (G : List Sg) (b n cp i p : Nat) (w : World) (hn : n = G.length) (hnb : n ≤ 400000000000) (hG : SgB w b G) (hS : SP l G i p) (hi : i < n) (hcp : n ≤ cp) :
    Calls Tryd.prog 74 #[.slice (some ⟨b, 0, none⟩) n cp, .int .i64 (i : Int)] w (ruPost w l G p) := by
  obtain ⟨Z, hZ⟩ : ∃ Z, Z = rnL (l.drop p) := ⟨_, rfl⟩
  have HN := hideL hn
  have CP := hideL (fun (k : Nat) (c : UInt8) (W : World) (h : SgB W b G) => plain13_any G b n cp k c W hn h.l)
  have CB := hideL rblank_any
  have CM := hideL rmark_any
  have CW := hideL rwild_any
  have HG0 := hideL hG
  have HS0 := hideL hS
  have HZ0 : Hid (Z = (rnL (l.drop p)).map (· + (p - p))) := hideL (by rw [Nat.sub_self, mapN_zero]; exact hZ)
  have HT0 : Hid (false = stA G i i) := hideL (stA_self G i).symm
  have HE := hideL hZ
  have HNO : Hid (∀ w', Z = none → Kept (fun _ => False) w w' → ∀ z, ruPost w l G p (.returned (.tuple #[.int .i64 (-1), .string ⟨#[]⟩, .int .i64 z])) w') := hideL (fun w' h k z => ru_no (hZ ▸ h) k z)
  have HK0 : Hid (Kept (fun _ => False) w w) := hideL (Kept.refl _ _)
  have HYE : Hid (∀ (m j : Nat) (w' : World), Z = some m → SP l G j (p + m) → Kept (fun _ => False) w w' → ruPost w l G p (.returned (.tuple #[.int .i64 ((kdF ((l.drop p).take m) : Nat) : Int), .string (bq (txF ((l.drop p).take m))), .int .i64 (j : Int)])) w') := hideL (fun m j w' h s k => ⟨.inr ⟨m, j, hZ ▸ h, s, rfl⟩, k⟩)
  have HSI := hideL hS
  generalize ruPost w l G p = Q at *
  clear hG hn hS hZ
  go_enter Tryd.func74, Tryd.ntmps74
  go_wp2
  go_loopw [1, 8] (fun iv sv wr => ∃ (k p' : Nat) (st : Bool), iv = .int .i64 k ∧ sv = .bool st ∧ i ≤ k ∧ k ≤ n ∧ p ≤ p' ∧ Hid (Kept (fun _ => False) w wr) ∧ Hid (SgB wr b G) ∧ Hid (SP l G k p') ∧ Hid (Z = (rnL (l.drop p')).map (· + (p' - p))) ∧ Hid (st = stA G i k)) (fun iv _ _ => n - (intOf iv).toNat)
  case atStart => exact ⟨i, p, false, rfl, rfl, Nat.le_refl _, Nat.le_of_lt hi, Nat.le_refl _, HK0, HG0, HS0, HZ0, HT0⟩
  case round =>
    obtain ⟨k, p', st, rfl, rfl, hik, hk, hpp, HK, HGr, HSp, HZ, HT⟩ := hrel
    clear HG0 HS0 HZ0 HT0 HK0
    rcases sp_cases HSp.out with ⟨h1, h2⟩ | ⟨x, q, hkG, hx, hq, hSn, hh⟩
    · have hkn : k = n := by have := HN.out; omega
      have hkz : ¬ (k : Int) < (n : Int) := by omega
      have hz0 : rnL (l.drop p') = some 0 := by rw [List.drop_of_length_le (by omega), rn_nil]
      clear h1 h2 hkn
      have hz : Z = some (p' - p) := by rw [HZ.out, hz0]; show some (0 + (p' - p)) = _; rw [Nat.zero_add]
      have hkc : k ≤ cp := by omega
      have hnc : (k : Int) ≤ (cp : Int) := by omega
      have hic : (i : Int) ≤ (k : Int) := by omega
      have hci : ¬ cp = i := by omega
      have hdb : k - i ≤ 400000000000 := by omega
      obtain ⟨R, T, hR, hT', hRl, hpe, hcase⟩ := run_out l G i p k p' n HN.out HSI.out HSp.out hik (by omega)
      have HYk : Hid (∀ w', Kept (fun _ => False) w w' → Q (.returned (.tuple #[.int .i64 ((kdF T : Nat) : Int), .string (bq (txF T)), .int .i64 (k : Int)])) w') := hideL (fun w' kk => by subst hT'; exact HYE.out _ k w' hz (by rw [hpe]; exact HSp.out) kk)
      have HP : Hid (∀ W, SgB W b G → SgO W b (i * 4) R) := hideL (fun W h => by subst hR; exact h.piece i (k - i))
      have CK := hideL (fun (W : World) (h : SgB W b G) => keyword13_any R b (i * 4) (k - i) (cp - i) W hRl hdb (HP.out W h))
      have HRl := hideL hRl
      clear hR hT' hRl hpe hz hz0 HYE HSI HZ HSp HE HNO CP CB CM CW
      rcases hcase with ⟨-, hkw, htx, hkd⟩ | ⟨r, hr4, hr7, hkw, hkd, htx⟩
      · rw [← HT.out] at htx hkd
        rw [hkw] at CK
        rw [← htx, hkd] at HYk
        clear HT htx hkd hkw
        cases st with
        | true =>
          have HYk : Hid (∀ w', Kept (fun _ => False) w w' → Q (.returned (.tuple #[.int .i64 2, .string (bq (R.flatMap (txE true))), .int .i64 (k : Int)])) w') := HYk
          go_wp2_with (first
            | (go_at_call 84; refine (CK.out _ HGr.out).mono ?_; clear CK; rintro e W9 ⟨rfl, k9⟩; have HK9 := hideL (HK.out.trans k9 (fun _ f => f.elim)); have HS9 := hideL ((HP.out _ (HGr.out.later k9)).later (Kept.alloc W9 (.cells #[] 5))); have HB9 : Hid (Gb W9 (W9.alloc (.cells #[] 5)) (some ⟨W9.heap.size, 0, none⟩) 0 0 ((R.take 0).flatMap (txE true))) := hideL (gb_empty W9); clear k9 HP HGr HK))
          generalize k - i = d at *
          go_loopw [10, 81] (fun v ix wr => ∃ (j m : Nat) (a : Option Addr) (c : Nat), j ≤ d ∧ m ≤ 2 * j ∧ ix = .int .i64 j ∧ v = .slice a m c ∧ Hid (Gb W9 wr a c m ((R.take j).flatMap (txE true))) ∧ Hid (SgO wr b (i * 4) R)) (fun _ ix _ => d - (intOf ix).toNat)
          case atStart => exact ⟨0, 0, _, _, by omega, by omega, rfl, rfl, HB9, HS9⟩
          case round =>
            obtain ⟨j, m, a, c0, hj, hmj, rfl, rfl, HB, HS⟩ := hrel
            clear HB9 HS9
            by_cases hlt : j < d
            · have hjR : j < R.length := by rw [← HRl.out]; exact hlt
              have hjz : (j : Int) < (d : Int) := by omega
              have hxj : R[j]? = some R[j] := List.getElem?_eq_getElem hjR
              have hnx := flat_next (txE true) hxj
              obtain ⟨y0, y1, y2, y3⟩ := HS.out.l j _ hxj
              have C1 := hideL (fun W => rwild_any R[j].c W)
              generalize R[j] = X at hxj hnx y0 y1 y2 y3 C1
              obtain ⟨xc, xl, xp, xz⟩ := X
              dsimp only at y0 y1 y2 y3 C1 hnx
              obtain ⟨qq, hq⟩ : ∃ qq, qq = xc.toNat := ⟨_, rfl⟩
              have hqb : qq < 256 := by rw [hq]; exact xc.toNat_lt
              have HQ0 : Hid ((qq : Int) = (xc.toNat : Int)) := hideL (by rw [hq])
              have H92 : Hid ((92 : Int) = ((92 : UInt8).toNat : Int)) := hideL rfl
              rw [← hq] at y0 C1
              have HV : Hid (Gb W9 (nsg wr qq xp xz xl) a c0 m ((R.take j).flatMap (txE true))) := hideL (HB.out.later (Kept.alloc _ _))
              have HW := hideL (HS.out.later (Kept.alloc wr (.cells #[.int .u8 qq, .bool xl, .int .i64 xp, .int .i64 xz] 85)))
              have HC := hideL (fun (W : World) (h : KT 5 (nsg wr qq xp xz xl) W) => nsg_blk h)
              have q1 : ((qq : Int) == 92) = (xc == 92) := by rw [hq]; exact u8_byL xc 92
              cases xl with
              | false =>
                have hnx : (R.take (j + 1)).flatMap (txE true) = (R.take j).flatMap (txE true) ++ [xc] := hnx
                have HNX := hideL hnx
                clear hnx hxj hq HB HS C1
                go_wp2_with (at_builtin; refine wpList_pushC rfl _ _ rfl _ _ m _ xc _ rfl HV _ (by first | rfl | simp) rfl HQ0 (by omega) ?_; intro a4 c4 W4 G4 K4; have HW4 := hideL (HW.out.other K4.out (by decide)); clear HV K4 HW HC)
                rw [← HNX.out] at G4
                go_roundw
                case rel => exact ⟨j + 1, m + 1, a4, c4, by omega, by omega, by go_num, rfl, G4, HW4⟩
                case measure => simp [intOf] <;> omega
              | true =>
                cases hwd : wdB xc with
                | true =>
                  cases htt : (xc == 92) with
                  | true =>
                    rw [htt] at q1
                    rw [hwd] at C1
                    have hnx : (R.take (j + 1)).flatMap (txE true) = (R.take j).flatMap (txE true) ++ [92] ++ [xc] := by rw [hnx, List.append_assoc]; unfold txE; simp only [hwd, htt]; rfl
                    have HNX := hideL hnx
                    clear hnx hxj hq HB HS htt hwd
                    go_wp2_with (first | (go_at_call 83; refine (C1.out _).mono ?_; clear C1; rintro e w6 ⟨rfl, e6⟩; subst e6) | (at_builtin; refine wpList_pushC rfl _ _ rfl _ _ m _ 92 _ rfl HV _ (by first | rfl | simp) rfl H92 (by omega) ?_; intro a3 c3 W3 G3 K3; have HW3 := hideL (HW.out.other K3.out (by decide)); obtain ⟨v0, v1⟩ := HC.out _ K3.out; clear HV K3 HC HW) | (at_builtin; refine wpList_pushC rfl _ _ rfl _ _ (m + 1) _ xc _ rfl G3 _ (by first | rfl | simp) rfl HQ0 (by omega) ?_; intro a4 c4 W4 G4 K4; have HW4 := hideL (HW3.out.other K4.out (by decide)); clear G3 K4 HW3))
                    rw [← HNX.out] at G4
                    go_roundw
                    case rel => exact ⟨j + 1, m + 1 + 1, a4, c4, by omega, by omega, by go_num, rfl, G4, HW4⟩
                    case measure => simp [intOf] <;> omega
                  | false =>
                    rw [htt] at q1
                    rw [hwd] at C1
                    have hnx : (R.take (j + 1)).flatMap (txE true) = (R.take j).flatMap (txE true) ++ [92] ++ [xc] := by rw [hnx, List.append_assoc]; unfold txE; simp only [hwd, htt]; rfl
                    have HNX := hideL hnx
                    clear hnx hxj hq HB HS htt hwd
                    go_wp2_with (first | (go_at_call 83; refine (C1.out _).mono ?_; clear C1; rintro e w6 ⟨rfl, e6⟩; subst e6) | (at_builtin; refine wpList_pushC rfl _ _ rfl _ _ m _ 92 _ rfl HV _ (by first | rfl | simp) rfl H92 (by omega) ?_; intro a3 c3 W3 G3 K3; have HW3 := hideL (HW.out.other K3.out (by decide)); obtain ⟨v0, v1⟩ := HC.out _ K3.out; clear HV K3 HC HW) | (at_builtin; refine wpList_pushC rfl _ _ rfl _ _ (m + 1) _ xc _ rfl G3 _ (by first | rfl | simp) rfl HQ0 (by omega) ?_; intro a4 c4 W4 G4 K4; have HW4 := hideL (HW3.out.other K4.out (by decide)); clear G3 K4 HW3))
                    rw [← HNX.out] at G4
                    go_roundw
                    case rel => exact ⟨j + 1, m + 1 + 1, a4, c4, by omega, by omega, by go_num, rfl, G4, HW4⟩
                    case measure => simp [intOf] <;> omega
                | false =>
                  cases htt : (xc == 92) with
                  | true =>
                    rw [htt] at q1
                    rw [hwd] at C1
                    have hnx : (R.take (j + 1)).flatMap (txE true) = (R.take j).flatMap (txE true) ++ [92] ++ [xc] := by rw [hnx, List.append_assoc]; unfold txE; simp only [hwd, htt]; rfl
                    have HNX := hideL hnx
                    clear hnx hxj hq HB HS htt hwd
                    go_wp2_with (first | (go_at_call 83; refine (C1.out _).mono ?_; clear C1; rintro e w6 ⟨rfl, e6⟩; subst e6) | (at_builtin; refine wpList_pushC rfl _ _ rfl _ _ m _ 92 _ rfl HV _ (by first | rfl | simp) rfl H92 (by omega) ?_; intro a3 c3 W3 G3 K3; have HW3 := hideL (HW.out.other K3.out (by decide)); obtain ⟨v0, v1⟩ := HC.out _ K3.out; clear HV K3 HC HW) | (at_builtin; refine wpList_pushC rfl _ _ rfl _ _ (m + 1) _ xc _ rfl G3 _ (by first | rfl | simp) rfl HQ0 (by omega) ?_; intro a4 c4 W4 G4 K4; have HW4 := hideL (HW3.out.other K4.out (by decide)); clear G3 K4 HW3))
                    rw [← HNX.out] at G4
                    go_roundw
                    case rel => exact ⟨j + 1, m + 1 + 1, a4, c4, by omega, by omega, by go_num, rfl, G4, HW4⟩
                    case measure => simp [intOf] <;> omega
                  | false =>
                    rw [htt] at q1
                    rw [hwd] at C1
                    have hnx : (R.take (j + 1)).flatMap (txE true) = (R.take j).flatMap (txE true) ++ [xc] := by rw [hnx]; unfold txE; simp only [hwd, htt]; rfl
                    have HNX := hideL hnx
                    clear hnx hxj hq HB HS htt hwd
                    go_wp2_with (first | (go_at_call 83; refine (C1.out _).mono ?_; clear C1; rintro e w6 ⟨rfl, e6⟩; subst e6) | (at_builtin; refine wpList_pushC rfl _ _ rfl _ _ m _ xc _ rfl HV _ (by first | rfl | simp) rfl HQ0 (by omega) ?_; intro a4 c4 W4 G4 K4; have HW4 := hideL (HW.out.other K4.out (by decide)); clear HV K4 HW HC))
                    rw [← HNX.out] at G4
                    go_roundw
                    case rel => exact ⟨j + 1, m + 1, a4, c4, by omega, by omega, by go_num, rfl, G4, HW4⟩
                    case measure => simp [intOf] <;> omega
            · obtain rfl : j = d := by omega
              have hjz : ¬ (j : Int) < (j : Int) := by omega
              have hb2 : (convert 96 9 (.slice a m c0)).run Tryd.prog wr.drew = .ok (.string (bq ((R.take j).flatMap (txE true)))) wr.drew := gro_string (HB.out.later (Kept.drew wr)).gro HB.out.len
              rw [List.take_of_length_le (by rw [← HRl.out]; exact Nat.le_refl _)] at hb2
              have HKe := hideL (HK9.out.trans (HB.out.later (Kept.drew wr)).gro.kept (fun _ f => f.elim))
              generalize bq (R.flatMap (txE true)) = sb at *
              clear HB HS HK9
              go_wp2
              go_region
              go_wp2
              go_ret3
              exact HYk.out _ HKe.out
        | false =>
          have HYk : Hid (∀ w', Kept (fun _ => False) w w' → Q (.returned (.tuple #[.int .i64 1, .string (bq (R.flatMap (txE false))), .int .i64 (k : Int)])) w') := HYk
          go_wp2_with (first
            | (go_at_call 84; refine (CK.out _ HGr.out).mono ?_; clear CK; rintro e W9 ⟨rfl, k9⟩; have HK9 := hideL (HK.out.trans k9 (fun _ f => f.elim)); have HS9 := hideL ((HP.out _ (HGr.out.later k9)).later (Kept.alloc W9 (.cells #[] 5))); have HB9 : Hid (Gb W9 (W9.alloc (.cells #[] 5)) (some ⟨W9.heap.size, 0, none⟩) 0 0 ((R.take 0).flatMap (txE false))) := hideL (gb_empty W9); clear k9 HP HGr HK))
          generalize k - i = d at *
          go_loopw [10, 81] (fun v ix wr => ∃ (j m : Nat) (a : Option Addr) (c : Nat), j ≤ d ∧ m ≤ 2 * j ∧ ix = .int .i64 j ∧ v = .slice a m c ∧ Hid (Gb W9 wr a c m ((R.take j).flatMap (txE false))) ∧ Hid (SgO wr b (i * 4) R)) (fun _ ix _ => d - (intOf ix).toNat)
          case atStart => exact ⟨0, 0, _, _, by omega, by omega, rfl, rfl, HB9, HS9⟩
          case round =>
            obtain ⟨j, m, a, c0, hj, hmj, rfl, rfl, HB, HS⟩ := hrel
            clear HB9 HS9
            by_cases hlt : j < d
            · have hjR : j < R.length := by rw [← HRl.out]; exact hlt
              have hjz : (j : Int) < (d : Int) := by omega
              have hxj : R[j]? = some R[j] := List.getElem?_eq_getElem hjR
              have hnx := flat_next (txE false) hxj
              obtain ⟨y0, y1, y2, y3⟩ := HS.out.l j _ hxj
              have C1 := hideL (fun W => rwild_any R[j].c W)
              generalize R[j] = X at hxj hnx y0 y1 y2 y3 C1
              obtain ⟨xc, xl, xp, xz⟩ := X
              dsimp only at y0 y1 y2 y3 C1 hnx
              obtain ⟨qq, hq⟩ : ∃ qq, qq = xc.toNat := ⟨_, rfl⟩
              have hqb : qq < 256 := by rw [hq]; exact xc.toNat_lt
              have HQ0 : Hid ((qq : Int) = (xc.toNat : Int)) := hideL (by rw [hq])
              have H92 : Hid ((92 : Int) = ((92 : UInt8).toNat : Int)) := hideL rfl
              rw [← hq] at y0 C1
              have HV : Hid (Gb W9 (nsg wr qq xp xz xl) a c0 m ((R.take j).flatMap (txE false))) := hideL (HB.out.later (Kept.alloc _ _))
              have HW := hideL (HS.out.later (Kept.alloc wr (.cells #[.int .u8 qq, .bool xl, .int .i64 xp, .int .i64 xz] 85)))
              have HC := hideL (fun (W : World) (h : KT 5 (nsg wr qq xp xz xl) W) => nsg_blk h)
              have q1 : ((qq : Int) == 92) = (xc == 92) := by rw [hq]; exact u8_byL xc 92
              have hnx : (R.take (j + 1)).flatMap (txE false) = (R.take j).flatMap (txE false) ++ [xc] := hnx
              have HNX := hideL hnx
              clear hnx hxj hq HB HS C1
              go_wp2_with (at_builtin; refine wpList_pushC rfl _ _ rfl _ _ m _ xc _ rfl HV _ (by first | rfl | simp) rfl HQ0 (by omega) ?_; intro a4 c4 W4 G4 K4; have HW4 := hideL (HW.out.other K4.out (by decide)); clear HV K4 HW HC)
              rw [← HNX.out] at G4
              go_roundw
              case rel => exact ⟨j + 1, m + 1, a4, c4, by omega, by omega, by go_num, rfl, G4, HW4⟩
              case measure => simp [intOf] <;> omega
            · obtain rfl : j = d := by omega
              have hjz : ¬ (j : Int) < (j : Int) := by omega
              have hb2 : (convert 96 9 (.slice a m c0)).run Tryd.prog wr.drew = .ok (.string (bq ((R.take j).flatMap (txE false)))) wr.drew := gro_string (HB.out.later (Kept.drew wr)).gro HB.out.len
              rw [List.take_of_length_le (by rw [← HRl.out]; exact Nat.le_refl _)] at hb2
              have HKe := hideL (HK9.out.trans (HB.out.later (Kept.drew wr)).gro.kept (fun _ f => f.elim))
              generalize bq (R.flatMap (txE false)) = sb at *
              clear HB HS HK9
              go_wp2
              go_region
              go_wp2
              go_ret3
              exact HYk.out _ HKe.out
      · rw [hkw] at CK
        rw [hkd, htx] at HYk
        have g0 : (0 : Int) ≤ (r : Int) := by omega
        clear HT htx hkd hkw HP HRl
        go_wp2_with (first
          | (go_at_call 84; refine (CK.out _ HGr.out).mono ?_; clear CK; rintro e W9 ⟨rfl, k9⟩; have HK9 := hideL (HK.out.trans k9 (fun _ f => f.elim)); clear k9 HGr HK))
        go_ret3
        exact HYk.out _ HK9.out
    · have hkn : k < n := by have := HN.out; omega
      have hkz : (k : Int) < (n : Int) := by omega
      have HSn := hideL hSn
      have hT2 := stA_next hx hik
      rw [← HT.out] at hT2
      obtain ⟨x0, x1, -, -⟩ := HGr.out.l k x hx
      rw [Nat.zero_add] at x0 x1
      have HP := hideL (fun W h => CP.out k 92 W h)
      rw [spl_at hx] at HP
      have HZ2 := HZ.out
      rcases hh with ⟨d, s, hd, rfl, rfl⟩ | ⟨hd, rfl, rfl⟩ | ⟨ch, s, hd, h92, rfl, rfl⟩
      · have HZn : Hid (Z = (rnL (l.drop (p' + 2))).map (· + (p' + 2 - p))) := hideL (by
          rw [HZ2, hd, rn_esc, mapN_two, ← (drop_next (drop_next hd).2).2, show 2 + (p' - p) = p' + 2 - p by omega])
        have E1 : (!true && d == 92) = false := rfl
        have E2 : (st || isW (sgB ⟨d, true, p', 2⟩)) = st := by cases st <;> rfl
        dsimp only at x0 x1 HP
        rw [E1] at HP
        rw [E2] at hT2
        have HTn := hideL hT2.symm
        have hdb : d.toNat < 256 := d.toNat_lt
        generalize d.toNat = q at x0 hdb
        have C1 := hideL (HP.out wr HGr.out)
        clear HZ HZ2 hd hx hT2 HT hSn E1 E2 CP CB CM CW HP HSp HE HNO
        cases st
        all_goals
          go_wp2_with (go_at_call 81; refine C1.out.mono ?_; clear C1; rintro e w6 ⟨rfl, e6⟩; subst e6)
          go_roundw
          case rel => exact ⟨k + 1, p' + 2, _, by go_num, rfl, by omega, by omega, by omega, HK, HGr, HSn, HZn, HTn⟩
          case measure => simp [intOf] <;> omega
      · have hZn : Z = none := by rw [HZ2, hd, rn_lone]; rfl
        have E1 : (!false && (92 : UInt8) == 92) = true := by decide
        dsimp only at x0 x1 HP
        rw [E1] at HP
        have x0 : wr.cell? ⟨b, k * 4, none⟩ = some (.int .u8 92) := x0
        have C1 : Hid (∀ W, Calls Tryd.prog 54 #[.int .u8 92] W fun e w' => e = .returned (.bool false) ∧ w' = W) := hideL (fun W => CB.out 92 W)
        have C2 : Hid (∀ W, Calls Tryd.prog 82 #[.int .u8 92] W fun e w' => e = .returned (.bool false) ∧ Kept (fun _ => False) W w') := hideL (fun W => CM.out 92 W)
        clear HZ HZ2 hd hx hT2 HT hSn E1 CP CB CM CW HSp HE
        go_wp2_with (first
          | (go_at_call 54; refine (C1.out _).mono ?_; clear C1; rintro e w6 ⟨rfl, e6⟩; subst e6)
          | (go_at_call 82; refine (C2.out _).mono ?_; clear C2; rintro e w7 ⟨rfl, k7⟩; have K7 := hideL k7; have C3 := hideL (HP.out _ (HGr.out.later k7)); clear k7 HP)
          | (go_at_call 81; refine C3.out.mono ?_; clear C3; rintro e w8 ⟨rfl, e8⟩; subst e8))
        go_ret3
        exact HNO.out _ hZn (HK.out.trans K7.out (fun _ f => f.elim)) _
      · have E1 : (!false && ch == 92) = false := by simp [h92]
        have hR := goS_R ch h92
        have C1 := hideL (fun W => CB.out ch W)
        have C2 := hideL (fun W => CM.out ch W)
        have C4 := hideL (fun W => CW.out ch W)
        have EW : isW (sgB ⟨ch, false, p', 1⟩) = wdB ch := rfl
        dsimp only at x0 x1 HP
        rw [E1] at HP
        rw [EW] at hT2
        have hdb : ch.toNat < 256 := ch.toNat_lt
        generalize ch.toNat = q at x0 hdb C1 C2 C4
        cases hbk : bkB ch with
        | true =>
          rw [hbk] at hR C1
          have hz0 : rnL (l.drop p') = some 0 := by rw [hd]; exact rn_end ch s (by rw [← hR]; rfl) h92
          clear hd hx hT2 hSn HSn E1 hR EW h92 hbk C2 C4 HZ2 HP
          have hz : Z = some (p' - p) := by rw [HZ.out, hz0]; show some (0 + (p' - p)) = _; rw [Nat.zero_add]
          have hkc : k ≤ cp := by omega
          have hnc : (k : Int) ≤ (cp : Int) := by omega
          have hic : (i : Int) ≤ (k : Int) := by omega
          have hci : ¬ cp = i := by omega
          have hdb : k - i ≤ 400000000000 := by omega
          obtain ⟨R, T, hR, hT', hRl, hpe, hcase⟩ := run_out l G i p k p' n HN.out HSI.out HSp.out hik (by omega)
          have HYk : Hid (∀ w', Kept (fun _ => False) w w' → Q (.returned (.tuple #[.int .i64 ((kdF T : Nat) : Int), .string (bq (txF T)), .int .i64 (k : Int)])) w') := hideL (fun w' kk => by subst hT'; exact HYE.out _ k w' hz (by rw [hpe]; exact HSp.out) kk)
          have HP : Hid (∀ W, SgB W b G → SgO W b (i * 4) R) := hideL (fun W h => by subst hR; exact h.piece i (k - i))
          have CK := hideL (fun (W : World) (h : SgB W b G) => keyword13_any R b (i * 4) (k - i) (cp - i) W hRl hdb (HP.out W h))
          have HRl := hideL hRl
          clear hR hT' hRl hpe hz hz0 HYE HSI HZ HSp HE HNO CP CB CM CW
          rcases hcase with ⟨-, hkw, htx, hkd⟩ | ⟨r, hr4, hr7, hkw, hkd, htx⟩
          · rw [← HT.out] at htx hkd
            rw [hkw] at CK
            rw [← htx, hkd] at HYk
            clear HT htx hkd hkw
            cases st with
            | true =>
              have HYk : Hid (∀ w', Kept (fun _ => False) w w' → Q (.returned (.tuple #[.int .i64 2, .string (bq (R.flatMap (txE true))), .int .i64 (k : Int)])) w') := HYk
              go_wp2_with (first
                | (go_at_call 54; refine (C1.out _).mono ?_; clear C1; rintro e w6 ⟨rfl, e6⟩; subst e6)
                | (go_at_call 84; refine (CK.out _ HGr.out).mono ?_; clear CK; rintro e W9 ⟨rfl, k9⟩; have HK9 := hideL (HK.out.trans k9 (fun _ f => f.elim)); have HS9 := hideL ((HP.out _ (HGr.out.later k9)).later (Kept.alloc W9 (.cells #[] 5))); have HB9 : Hid (Gb W9 (W9.alloc (.cells #[] 5)) (some ⟨W9.heap.size, 0, none⟩) 0 0 ((R.take 0).flatMap (txE true))) := hideL (gb_empty W9); clear k9 HP HGr HK))
              generalize k - i = d at *
              go_loopw [10, 81] (fun v ix wr => ∃ (j m : Nat) (a : Option Addr) (c : Nat), j ≤ d ∧ m ≤ 2 * j ∧ ix = .int .i64 j ∧ v = .slice a m c ∧ Hid (Gb W9 wr a c m ((R.take j).flatMap (txE true))) ∧ Hid (SgO wr b (i * 4) R)) (fun _ ix _ => d - (intOf ix).toNat)
              case atStart => exact ⟨0, 0, _, _, by omega, by omega, rfl, rfl, HB9, HS9⟩
              case round =>
                obtain ⟨j, m, a, c0, hj, hmj, rfl, rfl, HB, HS⟩ := hrel
                clear HB9 HS9
                by_cases hlt : j < d
                · have hjR : j < R.length := by rw [← HRl.out]; exact hlt
                  have hjz : (j : Int) < (d : Int) := by omega
                  have hxj : R[j]? = some R[j] := List.getElem?_eq_getElem hjR
                  have hnx := flat_next (txE true) hxj
                  obtain ⟨y0, y1, y2, y3⟩ := HS.out.l j _ hxj
                  have C1 := hideL (fun W => rwild_any R[j].c W)
                  generalize R[j] = X at hxj hnx y0 y1 y2 y3 C1
                  obtain ⟨xc, xl, xp, xz⟩ := X
                  dsimp only at y0 y1 y2 y3 C1 hnx
                  obtain ⟨qq, hq⟩ : ∃ qq, qq = xc.toNat := ⟨_, rfl⟩
                  have hqb : qq < 256 := by rw [hq]; exact xc.toNat_lt
                  have HQ0 : Hid ((qq : Int) = (xc.toNat : Int)) := hideL (by rw [hq])
                  have H92 : Hid ((92 : Int) = ((92 : UInt8).toNat : Int)) := hideL rfl
                  rw [← hq] at y0 C1
                  have HV : Hid (Gb W9 (nsg wr qq xp xz xl) a c0 m ((R.take j).flatMap (txE true))) := hideL (HB.out.later (Kept.alloc _ _))
                  have HW := hideL (HS.out.later (Kept.alloc wr (.cells #[.int .u8 qq, .bool xl, .int .i64 xp, .int .i64 xz] 85)))
                  have HC := hideL (fun (W : World) (h : KT 5 (nsg wr qq xp xz xl) W) => nsg_blk h)
                  have q1 : ((qq : Int) == 92) = (xc == 92) := by rw [hq]; exact u8_byL xc 92
                  cases xl with
                  | false =>
                    have hnx : (R.take (j + 1)).flatMap (txE true) = (R.take j).flatMap (txE true) ++ [xc] := hnx
                    have HNX := hideL hnx
                    clear hnx hxj hq HB HS C1
                    go_wp2_with (at_builtin; refine wpList_pushC rfl _ _ rfl _ _ m _ xc _ rfl HV _ (by first | rfl | simp) rfl HQ0 (by omega) ?_; intro a4 c4 W4 G4 K4; have HW4 := hideL (HW.out.other K4.out (by decide)); clear HV K4 HW HC)
                    rw [← HNX.out] at G4
                    go_roundw
                    case rel => exact ⟨j + 1, m + 1, a4, c4, by omega, by omega, by go_num, rfl, G4, HW4⟩
                    case measure => simp [intOf] <;> omega
                  | true =>
                    cases hwd : wdB xc with
                    | true =>
                      cases htt : (xc == 92) with
                      | true =>
                        rw [htt] at q1
                        rw [hwd] at C1
                        have hnx : (R.take (j + 1)).flatMap (txE true) = (R.take j).flatMap (txE true) ++ [92] ++ [xc] := by rw [hnx, List.append_assoc]; unfold txE; simp only [hwd, htt]; rfl
                        have HNX := hideL hnx
                        clear hnx hxj hq HB HS htt hwd
                        go_wp2_with (first | (go_at_call 83; refine (C1.out _).mono ?_; clear C1; rintro e w6 ⟨rfl, e6⟩; subst e6) | (at_builtin; refine wpList_pushC rfl _ _ rfl _ _ m _ 92 _ rfl HV _ (by first | rfl | simp) rfl H92 (by omega) ?_; intro a3 c3 W3 G3 K3; have HW3 := hideL (HW.out.other K3.out (by decide)); obtain ⟨v0, v1⟩ := HC.out _ K3.out; clear HV K3 HC HW) | (at_builtin; refine wpList_pushC rfl _ _ rfl _ _ (m + 1) _ xc _ rfl G3 _ (by first | rfl | simp) rfl HQ0 (by omega) ?_; intro a4 c4 W4 G4 K4; have HW4 := hideL (HW3.out.other K4.out (by decide)); clear G3 K4 HW3))
                        rw [← HNX.out] at G4
                        go_roundw
                        case rel => exact ⟨j + 1, m + 1 + 1, a4, c4, by omega, by omega, by go_num, rfl, G4, HW4⟩
                        case measure => simp [intOf] <;> omega
                      | false =>
                        rw [htt] at q1
                        rw [hwd] at C1
                        have hnx : (R.take (j + 1)).flatMap (txE true) = (R.take j).flatMap (txE true) ++ [92] ++ [xc] := by rw [hnx, List.append_assoc]; unfold txE; simp only [hwd, htt]; rfl
                        have HNX := hideL hnx
                        clear hnx hxj hq HB HS htt hwd
                        go_wp2_with (first | (go_at_call 83; refine (C1.out _).mono ?_; clear C1; rintro e w6 ⟨rfl, e6⟩; subst e6) | (at_builtin; refine wpList_pushC rfl _ _ rfl _ _ m _ 92 _ rfl HV _ (by first | rfl | simp) rfl H92 (by omega) ?_; intro a3 c3 W3 G3 K3; have HW3 := hideL (HW.out.other K3.out (by decide)); obtain ⟨v0, v1⟩ := HC.out _ K3.out; clear HV K3 HC HW) | (at_builtin; refine wpList_pushC rfl _ _ rfl _ _ (m + 1) _ xc _ rfl G3 _ (by first | rfl | simp) rfl HQ0 (by omega) ?_; intro a4 c4 W4 G4 K4; have HW4 := hideL (HW3.out.other K4.out (by decide)); clear G3 K4 HW3))
                        rw [← HNX.out] at G4
                        go_roundw
                        case rel => exact ⟨j + 1, m + 1 + 1, a4, c4, by omega, by omega, by go_num, rfl, G4, HW4⟩
                        case measure => simp [intOf] <;> omega
                    | false =>
                      cases htt : (xc == 92) with
                      | true =>
                        rw [htt] at q1
                        rw [hwd] at C1
                        have hnx : (R.take (j + 1)).flatMap (txE true) = (R.take j).flatMap (txE true) ++ [92] ++ [xc] := by rw [hnx, List.append_assoc]; unfold txE; simp only [hwd, htt]; rfl
                        have HNX := hideL hnx
                        clear hnx hxj hq HB HS htt hwd
                        go_wp2_with (first | (go_at_call 83; refine (C1.out _).mono ?_; clear C1; rintro e w6 ⟨rfl, e6⟩; subst e6) | (at_builtin; refine wpList_pushC rfl _ _ rfl _ _ m _ 92 _ rfl HV _ (by first | rfl | simp) rfl H92 (by omega) ?_; intro a3 c3 W3 G3 K3; have HW3 := hideL (HW.out.other K3.out (by decide)); obtain ⟨v0, v1⟩ := HC.out _ K3.out; clear HV K3 HC HW) | (at_builtin; refine wpList_pushC rfl _ _ rfl _ _ (m + 1) _ xc _ rfl G3 _ (by first | rfl | simp) rfl HQ0 (by omega) ?_; intro a4 c4 W4 G4 K4; have HW4 := hideL (HW3.out.other K4.out (by decide)); clear G3 K4 HW3))
                        rw [← HNX.out] at G4
                        go_roundw
                        case rel => exact ⟨j + 1, m + 1 + 1, a4, c4, by omega, by omega, by go_num, rfl, G4, HW4⟩
                        case measure => simp [intOf] <;> omega
                      | false =>
                        rw [htt] at q1
                        rw [hwd] at C1
                        have hnx : (R.take (j + 1)).flatMap (txE true) = (R.take j).flatMap (txE true) ++ [xc] := by rw [hnx]; unfold txE; simp only [hwd, htt]; rfl
                        have HNX := hideL hnx
                        clear hnx hxj hq HB HS htt hwd
                        go_wp2_with (first | (go_at_call 83; refine (C1.out _).mono ?_; clear C1; rintro e w6 ⟨rfl, e6⟩; subst e6) | (at_builtin; refine wpList_pushC rfl _ _ rfl _ _ m _ xc _ rfl HV _ (by first | rfl | simp) rfl HQ0 (by omega) ?_; intro a4 c4 W4 G4 K4; have HW4 := hideL (HW.out.other K4.out (by decide)); clear HV K4 HW HC))
                        rw [← HNX.out] at G4
                        go_roundw
                        case rel => exact ⟨j + 1, m + 1, a4, c4, by omega, by omega, by go_num, rfl, G4, HW4⟩
                        case measure => simp [intOf] <;> omega
                · obtain rfl : j = d := by omega
                  have hjz : ¬ (j : Int) < (j : Int) := by omega
                  have hb2 : (convert 96 9 (.slice a m c0)).run Tryd.prog wr.drew = .ok (.string (bq ((R.take j).flatMap (txE true)))) wr.drew := gro_string (HB.out.later (Kept.drew wr)).gro HB.out.len
                  rw [List.take_of_length_le (by rw [← HRl.out]; exact Nat.le_refl _)] at hb2
                  have HKe := hideL (HK9.out.trans (HB.out.later (Kept.drew wr)).gro.kept (fun _ f => f.elim))
                  generalize bq (R.flatMap (txE true)) = sb at *
                  clear HB HS HK9
                  go_wp2
                  go_region
                  go_wp2
                  go_ret3
                  exact HYk.out _ HKe.out
            | false =>
              have HYk : Hid (∀ w', Kept (fun _ => False) w w' → Q (.returned (.tuple #[.int .i64 1, .string (bq (R.flatMap (txE false))), .int .i64 (k : Int)])) w') := HYk
              go_wp2_with (first
                | (go_at_call 54; refine (C1.out _).mono ?_; clear C1; rintro e w6 ⟨rfl, e6⟩; subst e6)
                | (go_at_call 84; refine (CK.out _ HGr.out).mono ?_; clear CK; rintro e W9 ⟨rfl, k9⟩; have HK9 := hideL (HK.out.trans k9 (fun _ f => f.elim)); have HS9 := hideL ((HP.out _ (HGr.out.later k9)).later (Kept.alloc W9 (.cells #[] 5))); have HB9 : Hid (Gb W9 (W9.alloc (.cells #[] 5)) (some ⟨W9.heap.size, 0, none⟩) 0 0 ((R.take 0).flatMap (txE false))) := hideL (gb_empty W9); clear k9 HP HGr HK))
              generalize k - i = d at *
              go_loopw [10, 81] (fun v ix wr => ∃ (j m : Nat) (a : Option Addr) (c : Nat), j ≤ d ∧ m ≤ 2 * j ∧ ix = .int .i64 j ∧ v = .slice a m c ∧ Hid (Gb W9 wr a c m ((R.take j).flatMap (txE false))) ∧ Hid (SgO wr b (i * 4) R)) (fun _ ix _ => d - (intOf ix).toNat)
              case atStart => exact ⟨0, 0, _, _, by omega, by omega, rfl, rfl, HB9, HS9⟩
              case round =>
                obtain ⟨j, m, a, c0, hj, hmj, rfl, rfl, HB, HS⟩ := hrel
                clear HB9 HS9
                by_cases hlt : j < d
                · have hjR : j < R.length := by rw [← HRl.out]; exact hlt
                  have hjz : (j : Int) < (d : Int) := by omega
                  have hxj : R[j]? = some R[j] := List.getElem?_eq_getElem hjR
                  have hnx := flat_next (txE false) hxj
                  obtain ⟨y0, y1, y2, y3⟩ := HS.out.l j _ hxj
                  have C1 := hideL (fun W => rwild_any R[j].c W)
                  generalize R[j] = X at hxj hnx y0 y1 y2 y3 C1
                  obtain ⟨xc, xl, xp, xz⟩ := X
                  dsimp only at y0 y1 y2 y3 C1 hnx
                  obtain ⟨qq, hq⟩ : ∃ qq, qq = xc.toNat := ⟨_, rfl⟩
                  have hqb : qq < 256 := by rw [hq]; exact xc.toNat_lt
                  have HQ0 : Hid ((qq : Int) = (xc.toNat : Int)) := hideL (by rw [hq])
                  have H92 : Hid ((92 : Int) = ((92 : UInt8).toNat : Int)) := hideL rfl
                  rw [← hq] at y0 C1
                  have HV : Hid (Gb W9 (nsg wr qq xp xz xl) a c0 m ((R.take j).flatMap (txE false))) := hideL (HB.out.later (Kept.alloc _ _))
                  have HW := hideL (HS.out.later (Kept.alloc wr (.cells #[.int .u8 qq, .bool xl, .int .i64 xp, .int .i64 xz] 85)))
                  have HC := hideL (fun (W : World) (h : KT 5 (nsg wr qq xp xz xl) W) => nsg_blk h)
                  have q1 : ((qq : Int) == 92) = (xc == 92) := by rw [hq]; exact u8_byL xc 92
                  have hnx : (R.take (j + 1)).flatMap (txE false) = (R.take j).flatMap (txE false) ++ [xc] := hnx
                  have HNX := hideL hnx
                  clear hnx hxj hq HB HS C1
                  go_wp2_with (at_builtin; refine wpList_pushC rfl _ _ rfl _ _ m _ xc _ rfl HV _ (by first | rfl | simp) rfl HQ0 (by omega) ?_; intro a4 c4 W4 G4 K4; have HW4 := hideL (HW.out.other K4.out (by decide)); clear HV K4 HW HC)
                  rw [← HNX.out] at G4
                  go_roundw
                  case rel => exact ⟨j + 1, m + 1, a4, c4, by omega, by omega, by go_num, rfl, G4, HW4⟩
                  case measure => simp [intOf] <;> omega
                · obtain rfl : j = d := by omega
                  have hjz : ¬ (j : Int) < (j : Int) := by omega
                  have hb2 : (convert 96 9 (.slice a m c0)).run Tryd.prog wr.drew = .ok (.string (bq ((R.take j).flatMap (txE false)))) wr.drew := gro_string (HB.out.later (Kept.drew wr)).gro HB.out.len
                  rw [List.take_of_length_le (by rw [← HRl.out]; exact Nat.le_refl _)] at hb2
                  have HKe := hideL (HK9.out.trans (HB.out.later (Kept.drew wr)).gro.kept (fun _ f => f.elim))
                  generalize bq (R.flatMap (txE false)) = sb at *
                  clear HB HS HK9
                  go_wp2
                  go_region
                  go_wp2
                  go_ret3
                  exact HYk.out _ HKe.out
          · rw [hkw] at CK
            rw [hkd, htx] at HYk
            have g0 : (0 : Int) ≤ (r : Int) := by omega
            clear HT htx hkd hkw HP HRl
            go_wp2_with (first
              | (go_at_call 54; refine (C1.out _).mono ?_; clear C1; rintro e w6 ⟨rfl, e6⟩; subst e6)
              | (go_at_call 84; refine (CK.out _ HGr.out).mono ?_; clear CK; rintro e W9 ⟨rfl, k9⟩; have HK9 := hideL (HK.out.trans k9 (fun _ f => f.elim)); clear k9 HGr HK))
            go_ret3
            exact HYk.out _ HK9.out
        | false =>
          cases hmk : mkB ch with
          | true =>
            rw [hbk, hmk] at hR
            rw [hbk] at C1
            rw [hmk] at C2
            have hz0 : rnL (l.drop p') = some 0 := by rw [hd]; exact rn_end ch s (by rw [← hR]; rfl) h92
            clear hd hx hT2 hSn HSn E1 hR EW h92 hbk hmk C4 HZ2 HP
            have hz : Z = some (p' - p) := by rw [HZ.out, hz0]; show some (0 + (p' - p)) = _; rw [Nat.zero_add]
            have hkc : k ≤ cp := by omega
            have hnc : (k : Int) ≤ (cp : Int) := by omega
            have hic : (i : Int) ≤ (k : Int) := by omega
            have hci : ¬ cp = i := by omega
            have hdb : k - i ≤ 400000000000 := by omega
            obtain ⟨R, T, hR, hT', hRl, hpe, hcase⟩ := run_out l G i p k p' n HN.out HSI.out HSp.out hik (by omega)
            have HYk : Hid (∀ w', Kept (fun _ => False) w w' → Q (.returned (.tuple #[.int .i64 ((kdF T : Nat) : Int), .string (bq (txF T)), .int .i64 (k : Int)])) w') := hideL (fun w' kk => by subst hT'; exact HYE.out _ k w' hz (by rw [hpe]; exact HSp.out) kk)
            have HP : Hid (∀ W, SgB W b G → SgO W b (i * 4) R) := hideL (fun W h => by subst hR; exact h.piece i (k - i))
            have CK := hideL (fun (W : World) (h : SgB W b G) => keyword13_any R b (i * 4) (k - i) (cp - i) W hRl hdb (HP.out W h))
            have HRl := hideL hRl
            clear hR hT' hRl hpe hz hz0 HYE HSI HZ HSp HE HNO CP CB CM CW
            rcases hcase with ⟨-, hkw, htx, hkd⟩ | ⟨r, hr4, hr7, hkw, hkd, htx⟩
            · rw [← HT.out] at htx hkd
              rw [hkw] at CK
              rw [← htx, hkd] at HYk
              clear HT htx hkd hkw
              cases st with
              | true =>
                have HYk : Hid (∀ w', Kept (fun _ => False) w w' → Q (.returned (.tuple #[.int .i64 2, .string (bq (R.flatMap (txE true))), .int .i64 (k : Int)])) w') := HYk
                go_wp2_with (first
                  | (go_at_call 54; refine (C1.out _).mono ?_; clear C1; rintro e w6 ⟨rfl, e6⟩; subst e6)
                  | (go_at_call 82; refine (C2.out _).mono ?_; clear C2; rintro e w7 ⟨rfl, k7⟩; have HK7 := hideL (HK.out.trans k7 (fun _ f => f.elim)); have HG7 := hideL (HGr.out.later k7); clear k7 HGr)
                  | (go_at_call 84; refine (CK.out _ HG7.out).mono ?_; clear CK; rintro e W9 ⟨rfl, k9⟩; have HK9 := hideL (HK7.out.trans k9 (fun _ f => f.elim)); have HS9 := hideL ((HP.out _ (HG7.out.later k9)).later (Kept.alloc W9 (.cells #[] 5))); have HB9 : Hid (Gb W9 (W9.alloc (.cells #[] 5)) (some ⟨W9.heap.size, 0, none⟩) 0 0 ((R.take 0).flatMap (txE true))) := hideL (gb_empty W9); clear k9 HP HG7 HK))
                generalize k - i = d at *
                go_loopw [10, 81] (fun v ix wr => ∃ (j m : Nat) (a : Option Addr) (c : Nat), j ≤ d ∧ m ≤ 2 * j ∧ ix = .int .i64 j ∧ v = .slice a m c ∧ Hid (Gb W9 wr a c m ((R.take j).flatMap (txE true))) ∧ Hid (SgO wr b (i * 4) R)) (fun _ ix _ => d - (intOf ix).toNat)
                case atStart => exact ⟨0, 0, _, _, by omega, by omega, rfl, rfl, HB9, HS9⟩
                case round =>
                  obtain ⟨j, m, a, c0, hj, hmj, rfl, rfl, HB, HS⟩ := hrel
                  clear HB9 HS9
                  by_cases hlt : j < d
                  · have hjR : j < R.length := by rw [← HRl.out]; exact hlt
                    have hjz : (j : Int) < (d : Int) := by omega
                    have hxj : R[j]? = some R[j] := List.getElem?_eq_getElem hjR
                    have hnx := flat_next (txE true) hxj
                    obtain ⟨y0, y1, y2, y3⟩ := HS.out.l j _ hxj
                    have C1 := hideL (fun W => rwild_any R[j].c W)
                    generalize R[j] = X at hxj hnx y0 y1 y2 y3 C1
                    obtain ⟨xc, xl, xp, xz⟩ := X
                    dsimp only at y0 y1 y2 y3 C1 hnx
                    obtain ⟨qq, hq⟩ : ∃ qq, qq = xc.toNat := ⟨_, rfl⟩
                    have hqb : qq < 256 := by rw [hq]; exact xc.toNat_lt
                    have HQ0 : Hid ((qq : Int) = (xc.toNat : Int)) := hideL (by rw [hq])
                    have H92 : Hid ((92 : Int) = ((92 : UInt8).toNat : Int)) := hideL rfl
                    rw [← hq] at y0 C1
                    have HV : Hid (Gb W9 (nsg wr qq xp xz xl) a c0 m ((R.take j).flatMap (txE true))) := hideL (HB.out.later (Kept.alloc _ _))
                    have HW := hideL (HS.out.later (Kept.alloc wr (.cells #[.int .u8 qq, .bool xl, .int .i64 xp, .int .i64 xz] 85)))
                    have HC := hideL (fun (W : World) (h : KT 5 (nsg wr qq xp xz xl) W) => nsg_blk h)
                    have q1 : ((qq : Int) == 92) = (xc == 92) := by rw [hq]; exact u8_byL xc 92
                    cases xl with
                    | false =>
                      have hnx : (R.take (j + 1)).flatMap (txE true) = (R.take j).flatMap (txE true) ++ [xc] := hnx
                      have HNX := hideL hnx
                      clear hnx hxj hq HB HS C1
                      go_wp2_with (at_builtin; refine wpList_pushC rfl _ _ rfl _ _ m _ xc _ rfl HV _ (by first | rfl | simp) rfl HQ0 (by omega) ?_; intro a4 c4 W4 G4 K4; have HW4 := hideL (HW.out.other K4.out (by decide)); clear HV K4 HW HC)
                      rw [← HNX.out] at G4
                      go_roundw
                      case rel => exact ⟨j + 1, m + 1, a4, c4, by omega, by omega, by go_num, rfl, G4, HW4⟩
                      case measure => simp [intOf] <;> omega
                    | true =>
                      cases hwd : wdB xc with
                      | true =>
                        cases htt : (xc == 92) with
                        | true =>
                          rw [htt] at q1
                          rw [hwd] at C1
                          have hnx : (R.take (j + 1)).flatMap (txE true) = (R.take j).flatMap (txE true) ++ [92] ++ [xc] := by rw [hnx, List.append_assoc]; unfold txE; simp only [hwd, htt]; rfl
                          have HNX := hideL hnx
                          clear hnx hxj hq HB HS htt hwd
                          go_wp2_with (first | (go_at_call 83; refine (C1.out _).mono ?_; clear C1; rintro e w6 ⟨rfl, e6⟩; subst e6) | (at_builtin; refine wpList_pushC rfl _ _ rfl _ _ m _ 92 _ rfl HV _ (by first | rfl | simp) rfl H92 (by omega) ?_; intro a3 c3 W3 G3 K3; have HW3 := hideL (HW.out.other K3.out (by decide)); obtain ⟨v0, v1⟩ := HC.out _ K3.out; clear HV K3 HC HW) | (at_builtin; refine wpList_pushC rfl _ _ rfl _ _ (m + 1) _ xc _ rfl G3 _ (by first | rfl | simp) rfl HQ0 (by omega) ?_; intro a4 c4 W4 G4 K4; have HW4 := hideL (HW3.out.other K4.out (by decide)); clear G3 K4 HW3))
                          rw [← HNX.out] at G4
                          go_roundw
                          case rel => exact ⟨j + 1, m + 1 + 1, a4, c4, by omega, by omega, by go_num, rfl, G4, HW4⟩
                          case measure => simp [intOf] <;> omega
                        | false =>
                          rw [htt] at q1
                          rw [hwd] at C1
                          have hnx : (R.take (j + 1)).flatMap (txE true) = (R.take j).flatMap (txE true) ++ [92] ++ [xc] := by rw [hnx, List.append_assoc]; unfold txE; simp only [hwd, htt]; rfl
                          have HNX := hideL hnx
                          clear hnx hxj hq HB HS htt hwd
                          go_wp2_with (first | (go_at_call 83; refine (C1.out _).mono ?_; clear C1; rintro e w6 ⟨rfl, e6⟩; subst e6) | (at_builtin; refine wpList_pushC rfl _ _ rfl _ _ m _ 92 _ rfl HV _ (by first | rfl | simp) rfl H92 (by omega) ?_; intro a3 c3 W3 G3 K3; have HW3 := hideL (HW.out.other K3.out (by decide)); obtain ⟨v0, v1⟩ := HC.out _ K3.out; clear HV K3 HC HW) | (at_builtin; refine wpList_pushC rfl _ _ rfl _ _ (m + 1) _ xc _ rfl G3 _ (by first | rfl | simp) rfl HQ0 (by omega) ?_; intro a4 c4 W4 G4 K4; have HW4 := hideL (HW3.out.other K4.out (by decide)); clear G3 K4 HW3))
                          rw [← HNX.out] at G4
                          go_roundw
                          case rel => exact ⟨j + 1, m + 1 + 1, a4, c4, by omega, by omega, by go_num, rfl, G4, HW4⟩
                          case measure => simp [intOf] <;> omega
                      | false =>
                        cases htt : (xc == 92) with
                        | true =>
                          rw [htt] at q1
                          rw [hwd] at C1
                          have hnx : (R.take (j + 1)).flatMap (txE true) = (R.take j).flatMap (txE true) ++ [92] ++ [xc] := by rw [hnx, List.append_assoc]; unfold txE; simp only [hwd, htt]; rfl
                          have HNX := hideL hnx
                          clear hnx hxj hq HB HS htt hwd
                          go_wp2_with (first | (go_at_call 83; refine (C1.out _).mono ?_; clear C1; rintro e w6 ⟨rfl, e6⟩; subst e6) | (at_builtin; refine wpList_pushC rfl _ _ rfl _ _ m _ 92 _ rfl HV _ (by first | rfl | simp) rfl H92 (by omega) ?_; intro a3 c3 W3 G3 K3; have HW3 := hideL (HW.out.other K3.out (by decide)); obtain ⟨v0, v1⟩ := HC.out _ K3.out; clear HV K3 HC HW) | (at_builtin; refine wpList_pushC rfl _ _ rfl _ _ (m + 1) _ xc _ rfl G3 _ (by first | rfl | simp) rfl HQ0 (by omega) ?_; intro a4 c4 W4 G4 K4; have HW4 := hideL (HW3.out.other K4.out (by decide)); clear G3 K4 HW3))
                          rw [← HNX.out] at G4
                          go_roundw
                          case rel => exact ⟨j + 1, m + 1 + 1, a4, c4, by omega, by omega, by go_num, rfl, G4, HW4⟩
                          case measure => simp [intOf] <;> omega
                        | false =>
                          rw [htt] at q1
                          rw [hwd] at C1
                          have hnx : (R.take (j + 1)).flatMap (txE true) = (R.take j).flatMap (txE true) ++ [xc] := by rw [hnx]; unfold txE; simp only [hwd, htt]; rfl
                          have HNX := hideL hnx
                          clear hnx hxj hq HB HS htt hwd
                          go_wp2_with (first | (go_at_call 83; refine (C1.out _).mono ?_; clear C1; rintro e w6 ⟨rfl, e6⟩; subst e6) | (at_builtin; refine wpList_pushC rfl _ _ rfl _ _ m _ xc _ rfl HV _ (by first | rfl | simp) rfl HQ0 (by omega) ?_; intro a4 c4 W4 G4 K4; have HW4 := hideL (HW.out.other K4.out (by decide)); clear HV K4 HW HC))
                          rw [← HNX.out] at G4
                          go_roundw
                          case rel => exact ⟨j + 1, m + 1, a4, c4, by omega, by omega, by go_num, rfl, G4, HW4⟩
                          case measure => simp [intOf] <;> omega
                  · obtain rfl : j = d := by omega
                    have hjz : ¬ (j : Int) < (j : Int) := by omega
                    have hb2 : (convert 96 9 (.slice a m c0)).run Tryd.prog wr.drew = .ok (.string (bq ((R.take j).flatMap (txE true)))) wr.drew := gro_string (HB.out.later (Kept.drew wr)).gro HB.out.len
                    rw [List.take_of_length_le (by rw [← HRl.out]; exact Nat.le_refl _)] at hb2
                    have HKe := hideL (HK9.out.trans (HB.out.later (Kept.drew wr)).gro.kept (fun _ f => f.elim))
                    generalize bq (R.flatMap (txE true)) = sb at *
                    clear HB HS HK9
                    go_wp2
                    go_region
                    go_wp2
                    go_ret3
                    exact HYk.out _ HKe.out
              | false =>
                have HYk : Hid (∀ w', Kept (fun _ => False) w w' → Q (.returned (.tuple #[.int .i64 1, .string (bq (R.flatMap (txE false))), .int .i64 (k : Int)])) w') := HYk
                go_wp2_with (first
                  | (go_at_call 54; refine (C1.out _).mono ?_; clear C1; rintro e w6 ⟨rfl, e6⟩; subst e6)
                  | (go_at_call 82; refine (C2.out _).mono ?_; clear C2; rintro e w7 ⟨rfl, k7⟩; have HK7 := hideL (HK.out.trans k7 (fun _ f => f.elim)); have HG7 := hideL (HGr.out.later k7); clear k7 HGr)
                  | (go_at_call 84; refine (CK.out _ HG7.out).mono ?_; clear CK; rintro e W9 ⟨rfl, k9⟩; have HK9 := hideL (HK7.out.trans k9 (fun _ f => f.elim)); have HS9 := hideL ((HP.out _ (HG7.out.later k9)).later (Kept.alloc W9 (.cells #[] 5))); have HB9 : Hid (Gb W9 (W9.alloc (.cells #[] 5)) (some ⟨W9.heap.size, 0, none⟩) 0 0 ((R.take 0).flatMap (txE false))) := hideL (gb_empty W9); clear k9 HP HG7 HK))
                generalize k - i = d at *
                go_loopw [10, 81] (fun v ix wr => ∃ (j m : Nat) (a : Option Addr) (c : Nat), j ≤ d ∧ m ≤ 2 * j ∧ ix = .int .i64 j ∧ v = .slice a m c ∧ Hid (Gb W9 wr a c m ((R.take j).flatMap (txE false))) ∧ Hid (SgO wr b (i * 4) R)) (fun _ ix _ => d - (intOf ix).toNat)
                case atStart => exact ⟨0, 0, _, _, by omega, by omega, rfl, rfl, HB9, HS9⟩
                case round =>
                  obtain ⟨j, m, a, c0, hj, hmj, rfl, rfl, HB, HS⟩ := hrel
                  clear HB9 HS9
                  by_cases hlt : j < d
                  · have hjR : j < R.length := by rw [← HRl.out]; exact hlt
                    have hjz : (j : Int) < (d : Int) := by omega
                    have hxj : R[j]? = some R[j] := List.getElem?_eq_getElem hjR
                    have hnx := flat_next (txE false) hxj
                    obtain ⟨y0, y1, y2, y3⟩ := HS.out.l j _ hxj
                    have C1 := hideL (fun W => rwild_any R[j].c W)
                    generalize R[j] = X at hxj hnx y0 y1 y2 y3 C1
                    obtain ⟨xc, xl, xp, xz⟩ := X
                    dsimp only at y0 y1 y2 y3 C1 hnx
                    obtain ⟨qq, hq⟩ : ∃ qq, qq = xc.toNat := ⟨_, rfl⟩
                    have hqb : qq < 256 := by rw [hq]; exact xc.toNat_lt
                    have HQ0 : Hid ((qq : Int) = (xc.toNat : Int)) := hideL (by rw [hq])
                    have H92 : Hid ((92 : Int) = ((92 : UInt8).toNat : Int)) := hideL rfl
                    rw [← hq] at y0 C1
                    have HV : Hid (Gb W9 (nsg wr qq xp xz xl) a c0 m ((R.take j).flatMap (txE false))) := hideL (HB.out.later (Kept.alloc _ _))
                    have HW := hideL (HS.out.later (Kept.alloc wr (.cells #[.int .u8 qq, .bool xl, .int .i64 xp, .int .i64 xz] 85)))
                    have HC := hideL (fun (W : World) (h : KT 5 (nsg wr qq xp xz xl) W) => nsg_blk h)
                    have q1 : ((qq : Int) == 92) = (xc == 92) := by rw [hq]; exact u8_byL xc 92
                    have hnx : (R.take (j + 1)).flatMap (txE false) = (R.take j).flatMap (txE false) ++ [xc] := hnx
                    have HNX := hideL hnx
                    clear hnx hxj hq HB HS C1
                    go_wp2_with (at_builtin; refine wpList_pushC rfl _ _ rfl _ _ m _ xc _ rfl HV _ (by first | rfl | simp) rfl HQ0 (by omega) ?_; intro a4 c4 W4 G4 K4; have HW4 := hideL (HW.out.other K4.out (by decide)); clear HV K4 HW HC)
                    rw [← HNX.out] at G4
                    go_roundw
                    case rel => exact ⟨j + 1, m + 1, a4, c4, by omega, by omega, by go_num, rfl, G4, HW4⟩
                    case measure => simp [intOf] <;> omega
                  · obtain rfl : j = d := by omega
                    have hjz : ¬ (j : Int) < (j : Int) := by omega
                    have hb2 : (convert 96 9 (.slice a m c0)).run Tryd.prog wr.drew = .ok (.string (bq ((R.take j).flatMap (txE false)))) wr.drew := gro_string (HB.out.later (Kept.drew wr)).gro HB.out.len
                    rw [List.take_of_length_le (by rw [← HRl.out]; exact Nat.le_refl _)] at hb2
                    have HKe := hideL (HK9.out.trans (HB.out.later (Kept.drew wr)).gro.kept (fun _ f => f.elim))
                    generalize bq (R.flatMap (txE false)) = sb at *
                    clear HB HS HK9
                    go_wp2
                    go_region
                    go_wp2
                    go_ret3
                    exact HYk.out _ HKe.out
            · rw [hkw] at CK
              rw [hkd, htx] at HYk
              have g0 : (0 : Int) ≤ (r : Int) := by omega
              clear HT htx hkd hkw HP HRl
              go_wp2_with (first
                | (go_at_call 54; refine (C1.out _).mono ?_; clear C1; rintro e w6 ⟨rfl, e6⟩; subst e6)
                | (go_at_call 82; refine (C2.out _).mono ?_; clear C2; rintro e w7 ⟨rfl, k7⟩; have HK7 := hideL (HK.out.trans k7 (fun _ f => f.elim)); have HG7 := hideL (HGr.out.later k7); clear k7 HGr)
                | (go_at_call 84; refine (CK.out _ HG7.out).mono ?_; clear CK; rintro e W9 ⟨rfl, k9⟩; have HK9 := hideL (HK7.out.trans k9 (fun _ f => f.elim)); clear k9 HG7 HK))
              go_ret3
              exact HYk.out _ HK9.out
          | false =>
            rw [hbk, hmk] at hR
            have HZn : Hid (Z = (rnL (l.drop (p' + 1))).map (· + (p' + 1 - p))) := hideL (by
              rw [HZ2, hd, rn_run ch s hR.symm, mapN_two, ← (drop_next hd).2, show 1 + (p' - p) = p' + 1 - p by omega])
            rw [hbk] at C1
            rw [hmk] at C2
            generalize wdB ch = wb at *
            have HTn := hideL hT2.symm
            clear HZ HZ2 hd hx hT2 HT hSn E1 CP CB CM CW HSp HE hR EW HNO h92 hbk hmk
            cases st <;> cases wb
            all_goals
              go_wp2_with (first
                | (go_at_call 54; refine (C1.out _).mono ?_; clear C1; rintro e w6 ⟨rfl, e6⟩; subst e6)
                | (go_at_call 82; refine (C2.out _).mono ?_; clear C2; rintro e w7 ⟨rfl, k7⟩; have K7 := hideL k7; have C3 := hideL (HP.out _ (HGr.out.later k7)); have HG7 := hideL (HGr.out.later k7); have x07 := k7.cell x0 (fun f => f); have x17 := k7.cell x1 (fun f => f); clear k7 HP)
                | (go_at_call 81; refine C3.out.mono ?_; clear C3; rintro e w8 ⟨rfl, e8⟩; subst e8)
                | (go_at_call 83; refine (C4.out _).mono ?_; clear C4; rintro e w9 ⟨rfl, e9⟩; subst e9))
              go_roundw
              case rel => exact ⟨k + 1, p' + 1, _, by go_num, rfl, by omega, by omega, by omega, hideL (HK.out.trans K7.out (fun _ f => f.elim)), HG7, HSn, HZn, HTn⟩
              case measure => simp [intOf] <;> omega
end Go.Proofs.YtiemiphlfbaojaaDoor
