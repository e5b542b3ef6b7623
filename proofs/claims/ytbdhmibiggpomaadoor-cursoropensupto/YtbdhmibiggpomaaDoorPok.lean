import Derived.Test.YtbdhmibiggpomaaDoorPod
import Derived.Laws.MakeOwn
namespace Go.Proofs.YtbdhmibiggpomaaDoor
open Go.ChangeShapes Go.WideShapes Go.ChangeAt Go.RowKit

/-- The errors that reading meets. -/
structure ErP (w : World) (ad : Nat → Addr) : Prop where
  s0 : w.cell? ⟨1, 0, none⟩ = some (errV (ad 0))
  s1 : w.cell? ⟨2, 0, none⟩ = some (errV (ad 1))
  s2 : w.cell? ⟨3, 0, none⟩ = some (errV (ad 2))
  s3 : w.cell? ⟨4, 0, none⟩ = some (errV (ad 3))
  s4 : w.cell? ⟨5, 0, none⟩ = some (errV (ad 4))
theorem ErP.old {w w' : World} {ad : Nat → Addr} (h : ErP w ad) (k : Old w w') : ErP w' ad :=
  have q : ∀ {g : Nat} {v : Value}, w.cell? ⟨g, 0, none⟩ = some v → w'.cell? ⟨g, 0, none⟩ = some v := fun hc => k.cell hc (fun f => by have := World.block_lt_of_cell? w _ hc; omega)
  ⟨q h.s0, q h.s1, q h.s2, q h.s3, q h.s4⟩
theorem ErP.kept {w w' : World} {ad : Nat → Addr} (h : ErP w ad) (k : Kept (fun _ => False) w w') : ErP w' ad := h.old (k.mono (fun _ f => f.elim))
theorem Old.refl (w : World) : Old w w := (Kept.refl (fun _ => False) w).mono (fun _ f => f.elim)
theorem Old.one {w0 w w' : World} {br : Nat} (h : Old w0 w) (k : Kept (fun i => i = br) w w') (hb : w0.heap.size ≤ br) : Old w0 w' := h.trans k (fun i hi => .inl (by omega))
theorem Old.none {w0 w w' : World} (h : Old w0 w) (k : Kept (fun _ => False) w w') : Old w0 w' := h.trans k (fun _ f => f.elim)
theorem upat_nP {most : Int} {l : List Int} {p : Nat} {ad : Nat → Addr} (w : World) (hB : IsBytes l) (hp : p ≤ l.length) (hl : l.length ≤ 140737488355328) (hm : most ≤ 9223372036854775807) (hE : ErP w ad) (h : upn most l p = none) :
    ∃ b, ∀ a c, BytesAt w a l → ∀ n, Calls Tryd.prog 65 #[.slice a l.length c, .int .i64 p, .int .i64 most] (w.drewN n) fun e w' => e = .returned (.tuple #[.int .i64 0, .int .i64 0, errV b]) ∧ ∃ m, w' = (w.drewN n).drewN m := by
  have hE' : ∀ n, ErP (w.drewN n) ad := fun n => hE.kept (Kept.drewN w n)
  unfold upn at h
  split at h
  · rename_i er hr
    have he : ∃ b, errOf (ad 0) (ad 1) er = errV b := by
      unfold errOf
      split
      · exact ⟨_, rfl⟩
      · exact ⟨_, rfl⟩
    obtain ⟨b, hb⟩ := he
    refine ⟨b, fun a c hba n => ?_⟩
    rw [← hb]
    exact upat_err l a c p er _ _ _ _ hba hB hp (by omega) (hE' n).s0 (hE' n).s1 hr
  · rename_i x k hr
    split at h
    · cases h
    · exact ⟨_, fun a c hba n => upat_lim l a c p x k _ _ _ _ _ hba hB hp (by omega) (hE' n).s0 (hE' n).s1 (hE' n).s2 hr (by omega) hm⟩
theorem upto_nP {most : Int} {l : List Int} {p br : Nat} {v : Value} {ad : Nat → Addr} (w : World) (h : Rd w br v l p) (hm : most ≤ 9223372036854775807) (hE : ErP w ad) (hr : upn most l p = none) :
    ∃ b, Calls Tryd.prog 39 #[.pointer (some ⟨br, 0, none⟩), .int .i64 most] w fun e w' => e = .returned (.tuple #[.int .i64 0, errV b]) ∧ Kept (fun _ => False) w w' := by
  obtain ⟨b, hb⟩ := upat_nP w h.isb h.le h.sm hm hE hr
  exact ⟨b, (rupto_bad br v l p _ _ w h hb).mono (fun e w' ⟨h1, n, h2⟩ => ⟨h1, by rw [h2]; exact Kept.drewN w n⟩)⟩
theorem upn_rduP {most : Int} {l : List Int} {p x q : Nat} (h : upn most l p = some (x, q)) : ∃ k, q = p + k ∧ rdu 0 0 (l.drop p) = .ok (x, k) ∧ (x : Int) ≤ most := by
  unfold upn at h
  split at h
  · cases h
  · rename_i x' k hr
    split at h
    · injection h with h
      injection h with h1 h2
      subst h1
      exact ⟨k, h2.symm, hr, by assumption⟩
    · cases h
theorem upto_sP {most : Int} {l : List Int} {p x q br : Nat} {v : Value} {ad : Nat → Addr} (w : World) (h : Rd w br v l p) (hm : most ≤ 9223372036854775807) (hE : ErP w ad) (hr : upn most l p = some (x, q)) :
    Calls Tryd.prog 39 #[.pointer (some ⟨br, 0, none⟩), .int .i64 most] w fun e w' => e = .returned (.tuple #[.int .i64 x, .nilIface]) ∧ Rd w' br v l q ∧ Kept (fun i => i = br) w w' := by
  obtain ⟨k, rfl, hk, hx⟩ := upn_rduP hr
  exact rupto_ok br v l p x k _ _ _ w h hk hx hm hE.s0 hE.s1
theorem donep_n {l : List Int} {p br : Nat} {v : Value} {ad : Nat → Addr} (w : World) (h : Rd w br v l p) (hE : ErP w ad) (hp : p < l.length) :
    Calls Tryd.prog 71 #[.pointer (some ⟨br, 0, none⟩)] w fun e w' => e = .returned (errV (ad 4)) ∧ ∃ n, w' = w.drewN n := by
  have CL := hideP (left_any br v l p w h)
  have e4 := hE.s4
  have hs := h.sm
  clear h hE
  have h1 : (0 : Int) < ((l.length - p : Nat) : Int) := by omega
  have h2 : decide (0 < l.length - p) = true := decide_eq_true (by omega)
  generalize l.length - p = m at *
  go_enter Tryd.func71, Tryd.ntmps71
  go_wp2_with (go_at_call 40; refine CL.out.mono ?_; clear CL; rintro e W1 ⟨rfl, q, rfl⟩; have e5 : (w.drewN q).cell? ⟨5, 0, none⟩ = some (errV (ad 4)) := e4)
  go_ret
  exact ⟨rfl, q, rfl⟩
theorem donep_s {l : List Int} {p br : Nat} {v : Value} (w : World) (h : Rd w br v l p) (hp : ¬ p < l.length) :
    Calls Tryd.prog 71 #[.pointer (some ⟨br, 0, none⟩)] w fun e w' => e = .returned .nilIface ∧ ∃ n, w' = w.drewN n := by
  have CL := hideP (left_any br v l p w h)
  clear h
  have h0 : l.length - p = 0 := by omega
  rw [h0] at CL
  go_enter Tryd.func71, Tryd.ntmps71
  go_wp2_with (go_at_call 40; refine CL.out.mono ?_; clear CL; rintro e W1 ⟨rfl, q, rfl⟩)
  go_ret
  exact ⟨rfl, q, rfl⟩
set_option maxRecDepth 20000 in
theorem readBehind_s {l : List Int} {p x q br : Nat} {v : Value} {ad : Nat → Addr} (b most : Int) (w : World) (h : Rd w br v l p) (hb : -1 ≤ b) (hb2 : b ≤ 9223372036854775807) (hm0 : 0 ≤ most) (hm : most ≤ 9223372036854775807) (hE : ErP w ad) (hr : upn (most - 1 - b) l p = some (x, q)) :
    Calls Tryd.prog 66 #[.pointer (some ⟨br, 0, none⟩), .int .i64 b, .int .i64 most] w fun e w' => e = .returned (.tuple #[.int .i64 (b + 1 + x), .bool true]) ∧ Rd w' br v l q ∧ Kept (fun i => i = br) w w' := by
  have CU := hideP (upto_sP w h (by omega) hE hr)
  obtain ⟨k, _, _, hx⟩ := upn_rduP hr
  have e1 : IntKind.i64.wrap (b + 1) = b + 1 := by rw [IntKind.wrap_i64]; omega
  have e2 : IntKind.i64.wrap (b + 1 + x) = b + 1 + x := by rw [IntKind.wrap_i64]; omega
  clear h hE hr
  go_enter Tryd.func66, Tryd.ntmps66
  go_wp2_with (go_at_call 39; refine CU.out.mono ?_; clear CU; rintro e W ⟨rfl, hR, hK⟩; have HR := hideP hR; have HK := hideP hK; clear hR hK)
  go_quiet (fail)
  go_wp2
  go_ret2
  exact ⟨rfl, HR.out.drewN _, HK.out.trans (Kept.drewN _ _) (fun _ f => f.elim)⟩
set_option maxRecDepth 20000 in
theorem readBehind_n {l : List Int} {p br : Nat} {v : Value} {ad : Nat → Addr} (b most : Int) (w : World) (h : Rd w br v l p) (hb : -1 ≤ b) (hb2 : b ≤ 9223372036854775807) (hm0 : 0 ≤ most) (hm : most ≤ 9223372036854775807) (hE : ErP w ad) (hr : upn (most - 1 - b) l p = none) :
    Calls Tryd.prog 66 #[.pointer (some ⟨br, 0, none⟩), .int .i64 b, .int .i64 most] w fun e w' => (∃ y, e = .returned (.tuple #[.int .i64 y, .bool false])) ∧ Kept (fun _ => False) w w' := by
  obtain ⟨ad', CU⟩ := upto_nP w h (by omega) hE hr
  unfold errV at CU
  have CU := hideP CU
  clear h hE hr
  go_enter Tryd.func66, Tryd.ntmps66
  go_wp2_with (go_at_call 39; refine CU.out.mono ?_; clear CU; rintro e W ⟨rfl, hK⟩; have HK := hideP hK; clear hK)
  go_quiet (fail)
  go_wp2
  go_ret2
  exact ⟨⟨_, rfl⟩, HK.out.trans (Kept.drewN _ _) (fun _ f => f.elim)⟩
theorem rdr_upn {nn s q : Nat} {l : List Int} (h : upn (9223372036854775807 - (s : Int)) l q = none) : ∃ e, rdr (nn + 1) s (l.drop q) = .error e := by
  unfold upn at h
  split at h
  · rename_i er hr
    exact ⟨er, rdr_err _ _ _ _ hr⟩
  · rename_i x k hr
    split at h
    · cases h
    · exact ⟨2, rdr_lim _ _ _ _ _ hr (by omega)⟩
def finP (p : Nat) : Except Nat (List Int × Nat) → Option (List Int × Nat)
  | .error _ => none
  | .ok (xs, k) => some (xs, p + k)
theorem rps_eq (l : List Int) (m p : Nat) : rps l m p = if l.length - p ≤ m then none else finP p (rdr (m + 1) 0 (l.drop p)) := by
  unfold rps
  split
  · rfl
  · cases rdr (m + 1) 0 (l.drop p) with
    | error e => rfl
    | ok x => obtain ⟨a, b⟩ := x; rfl
theorem ahead_err (acc : List Int) (d e : Nat) : ahead acc d (.error e) = .error e := rfl
/-- What readPositions leaves. -/
def rpPost (br : Nat) (v : Value) (l : List Int) (w : World) (e : Ending) (w' : World) : Option (List Int × Nat) → Prop
  | none => e = .returned (.tuple #[.slice none 0 0, .bool false]) ∧ Kept (fun i => i = br) w w'
  | some (xs, q) => ∃ a c, e = .returned (.tuple #[.slice a xs.length c, .bool true]) ∧ w'.ownsRow w.heap.size 3 1 (.slice a xs.length c) xs.length (is xs) ∧ Rd w' br v l q ∧ Kept (fun i => i = br) w w'
set_option maxRecDepth 20000 in
set_option maxHeartbeats 4000000 in
theorem readPositions_any {l : List Int} {p br : Nat} {v : Value} {ad : Nat → Addr} (m : Nat) (w0 w : World) (h : Rd w br v l p) (hl : l.length ≤ 1099511627776) (hm : m ≤ 9223372036854775807) (hE : ErP w0 ad) (hO : Old w0 w) (hb : w0.heap.size ≤ br) :
    Calls Tryd.prog 70 #[.pointer (some ⟨br, 0, none⟩), .int .i64 m] w fun e w' => rpPost br v l w e w' (rps l m p) := by
  obtain ⟨R, hR⟩ : ∃ R, R = rps l m p := ⟨_, rfl⟩
  rw [← hR]
  have CL := hideP (left_any br v l p w h)
  have hp := h.le
  have HR := hideP hR
  have HH := hideP h
  have HE := hideP hE
  have HO := hideP hO
  have hbr : br < w.heap.size := lt_of_block h.blk
  have HVB : Hid (∀ k, v.ownBlock = some k → k < w.heap.size) := hideP (fun k hk => (h.own.lt k hk).2)
  clear hR h hE hO
  by_cases hlt : l.length - p ≤ m
  · have HR2 : Hid (R = none) := hideP (by rw [HR.out, rps_eq, if_pos hlt])
    have hlt2 : ((l.length - p : Nat) : Int) ≤ (m : Int) := by omega
    generalize l.length - p = z at *
    clear HR
    go_enter Tryd.func70, Tryd.ntmps70
    go_wp2_with (go_at_call 40; refine CL.out.mono ?_; clear CL; rintro e W ⟨rfl, nq, rfl⟩)
    go_ret2
    rw [HR2.out]
    exact ⟨rfl, (Kept.drewN w nq).mono (fun _ f => f.elim)⟩
  · have HR2 : Hid (R = finP p (rdr (m + 1) 0 (l.drop p))) := hideP (by rw [HR.out, rps_eq, if_neg hlt])
    have hlt2 : ¬ ((l.length - p : Nat) : Int) ≤ (m : Int) := by omega
    have hm2 : m + 1 ≤ 1099511627776 := by omega
    obtain ⟨i0, hi, hz0, hz1, hz2⟩ := info_partsP Tryd.infoI
    generalize l.length - p = z at *
    clear HR hlt
    go_enter Tryd.func70, Tryd.ntmps70
    go_wp2_with (first
      | (go_at_call 40; refine CL.out.mono ?_; clear CL; rintro e W ⟨rfl, nq, rfl⟩)
      | (at_make; refine wpList_make_own _ rfl _ _ 40 rfl w.heap.size 3 i0 (.int .i64 0) 1 Tryd.underlying40 hi hz0 hz1 _ _ _ (m + 1) rfl rfl (by omega) (by rw [hz2]; omega) (by unfold maxLen; omega) (Nat.le_refl _) ?_))
    intro w1 ho1 hg1
    have K0 : Kept (fun _ => False) w w1 := ((Kept.drewN w nq).trans (Kept.grown hg1) (fun _ e => by cases e)).mono (fun _ f => f.elim)
    have HO1 := hideP ho1
    have HK1 : Hid (Kept (fun i => i = br) w w1) := hideP (K0.mono (fun _ f => f.elim))
    have HRd1 := hideP (HH.out.kept K0 (fun f => f) (fun _ _ f => f))
    clear ho1 hg1 K0 hlt2 hi hz0 hz1 hz2
    go_wp2
    go_loopw [6, 7, 21] (fun v6 v7 v21 wr => ∃ (acc : List Int) (s q n : Nat) (z : Int) (ua : Option Addr) (uc : Nat), v6 = .slice ua n uc ∧ v7 = .int .i64 z ∧ v21 = .int .i64 n ∧ n ≤ m + 1 ∧ -1 ≤ z ∧ z ≤ 9223372036854775807 ∧ Hid (z = (s : Int) - 1) ∧ Hid (wr.ownsRow w.heap.size 3 1 (.slice ua n uc) n (is acc)) ∧ Hid (Rd wr br v l q) ∧ Hid (p ≤ q ∧ rdr (m + 1) 0 (l.drop p) = ahead acc (q - p) (rdr (m + 1 - n) s (l.drop q))) ∧ Hid (Kept (fun i => i = br) w wr)) (fun _ _ v21 _ => m + 1 - (intOf v21).toNat)
    case atStart =>
      refine ⟨[], 0, p, 0, -1, _, _, rfl, rfl, rfl, by omega, by omega, by omega, hideP (by simp), HO1, HRd1, hideP ⟨Nat.le_refl _, ?_⟩, HK1⟩
      rw [Nat.sub_zero, Nat.sub_self]
      cases rdr (m + 1) 0 (l.drop p) with
      | error e => rfl
      | ok x => obtain ⟨a, b⟩ := x; simp [ahead]
    case round =>
      obtain ⟨acc, s, q, n, z, ua, uc, rfl, rfl, rfl, hn, hz1, hz2, HZ, HOw, HRd, HQ, HK⟩ := hrel
      clear HO1 HK1 HRd1 HH
      have HOr := hideP (HO.out.one HK.out hb)
      have HEr := hideP (HE.out.old HOr.out)
      have hzr := HK.out.size
      by_cases hlt : n < m + 1
      · have hnn : (n : Int) < (m : Int) + 1 := by omega
        obtain ⟨nn, hnn2⟩ : ∃ nn, m + 1 - n = nn + 1 := ⟨m - n, by omega⟩
        have hes : (9223372036854775807 : Int) - 1 - z = 9223372036854775807 - (s : Int) := by have := HZ.out; omega
        cases hu : upn (9223372036854775807 - 1 - z) l q with
        | none =>
          have HRn : Hid (R = none) := hideP (by
            rw [hes] at hu
            obtain ⟨e, he⟩ := rdr_upn (nn := nn) hu
            rw [HR2.out, HQ.out.2, hnn2, he, ahead_err]
            rfl)
          have C := hideP (readBehind_n z 9223372036854775807 wr HRd.out hz1 hz2 (by omega) (by omega) HEr.out hu)
          clear hu hes hnn2 HZ
          go_wp2_with (go_at_call 66; refine C.out.mono ?_; clear C; rintro e W ⟨⟨y, rfl⟩, hK2⟩; have HK2 := hideP (HK.out.trans hK2 (fun _ f => f.elim)); clear hK2)
          go_ret2
          rw [HRn.out]
          exact ⟨rfl, HK2.out⟩
        | some xq =>
          obtain ⟨x, q2⟩ := xq
          have C := hideP (readBehind_s z 9223372036854775807 wr HRd.out hz1 hz2 (by omega) (by omega) HEr.out hu)
          obtain ⟨k2, hk2, hr2, hx2⟩ := upn_rduP hu
          have hle := (upn_back HRd.out.isb hu).1
          obtain ⟨y, hy⟩ : ∃ y, y = z + 1 + (x : Int) := ⟨_, rfl⟩
          rw [← hy] at C
          have HQ2 : Hid (p ≤ q2 ∧ rdr (m + 1) 0 (l.drop p) = ahead (acc ++ [y]) (q2 - p) (rdr (m + 1 - (n + 1)) (s + x + 1) (l.drop q2))) := hideP ⟨by have := HQ.out.1; omega, by
            have h1 := HQ.out.1
            have h3 := HZ.out
            rw [HQ.out.2, hnn2, rdr_step _ _ _ _ _ hr2 (by omega), ahead_step, List.drop_drop, ← hk2, show m + 1 - (n + 1) = nn by omega, show q - p + k2 = q2 - p by omega, show y = ((s + x : Nat) : Int) by omega]⟩
          have HZ2 : Hid (y = ((s + x + 1 : Nat) : Int) - 1) := hideP (by have := HZ.out; omega)
          have hy1 : -1 ≤ y := by omega
          have hy2 : y ≤ 9223372036854775807 := by omega
          clear hu hes hnn2 HZ hk2 hr2 hx2 hle hy HQ HRd
          have GR := HOw
          go_wp2_with (first
            | (go_at_call 66; refine C.out.mono ?_; clear C; rintro e W ⟨rfl, hR2, hK2⟩; have HRd2 := hideP hR2; have HK2 := hideP (HK.out.trans hK2 (fun i hi => .inl hi)); have GW := hideP (hK2.row HOw.out (fun j hj e => by have := (HOw.out.lt j hj).1; omega)); have s2 := HK2.out.size; clear hR2 hK2 HOw GR)
            | (at_builtin; refine wpList_pushD rfl _ _ rfl _ n acc y rfl GW s2 _ (by first | rfl | simp) rfl (by omega) ?_; intro g3 c3 W3 O3 K3 A3; have HRd3 := hideP (HRd2.out.kept K3.out (fun e => by have := (GW.out.lt _ e).1; omega) (fun j hj e => by have := (GW.out.lt _ e).1; have := HVB.out j hj; omega)); have HK3 := hideP (HK2.out.trans K3.out (fun i hi => .inr (GW.out.lt i hi).1)); clear GW K3 A3 HRd2 HK2))
          go_roundw
          case rel => exact ⟨acc ++ [y], s + x + 1, q2, n + 1, y, _, _, rfl, rfl, by go_num, by omega, hy1, hy2, HZ2, O3, HRd3, HQ2, HK3⟩
          case measure => simp [intOf]; omega
      · have hnn : ¬ (n : Int) < (m : Int) + 1 := by omega
        have hle := HOw.out.1
        rw [is_length, Nat.mul_one] at hle
        have HRn : Hid (R = some (acc, q)) := hideP (by
          rw [HR2.out, HQ.out.2, show m + 1 - n = 0 by omega]
          simp only [rdr, ahead, finP, List.append_nil]
          rw [show p + (q - p + 0) = q by have := HQ.out.1; omega])
        have HLe := hideP hle
        clear hle
        go_wp2
        go_ret2
        rw [HRn.out]
        refine ⟨ua, uc, by rw [HLe.out]; rfl, by rw [HLe.out]; exact HOw.out, HRd.out, HK.out⟩
end Go.Proofs.YtbdhmibiggpomaaDoor
