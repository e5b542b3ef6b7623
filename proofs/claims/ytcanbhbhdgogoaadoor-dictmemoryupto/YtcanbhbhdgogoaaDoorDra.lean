import Derived.Test.YtcanbhbhdgogoaaDoorMrg2
import Derived.BigQuiet
namespace Go.Proofs.YtcanbhbhdgogoaaDoor
open Go.ChangeShapes Go.WideShapes Go.ChangeAt Go.RowKit

theorem hideQ {p : Prop} (h : p) : Hid p := h
/-- Giving up. -/
def pan (a : Addr) : Ending := .panicked [{ v := errV a, recovered := false }]
theorem need_ok (w : World) : Calls Tryd.prog 30 #[.bool true] w fun e w' => e = .returned (.tuple #[]) ∧ w' = w := by
  go_enter Tryd.func30, Tryd.ntmps30
  go_wp2
  go_end0
  exact ⟨rfl, rfl⟩
theorem need_no (a : Addr) (w : World) (h : w.cell? ⟨9, 0, none⟩ = some (errV a)) : Calls Tryd.prog 30 #[.bool false] w fun e w' => e = pan a ∧ w' = w := by
  unfold errV at h
  unfold pan errV
  go_enter Tryd.func30, Tryd.ntmps30
  go_wp2
  exact ⟨rfl, rfl, rfl⟩
theorem takenI_ok (x : Int) (w : World) : Calls Tryd.prog 52 #[.int .i64 x, .nilIface] w fun e w' => e = .returned (.int .i64 x) ∧ w' = w := by
  go_enter Tryd.func52, Tryd.ntmps52
  go_wp2_with (go_at_call 30; refine (need_ok _).mono ?_; rintro e W ⟨rfl, rfl⟩)
  go_ret
  exact ⟨rfl, rfl⟩
theorem takenI_no (x : Int) (b a : Addr) (w : World) (h : w.cell? ⟨9, 0, none⟩ = some (errV a)) : Calls Tryd.prog 52 #[.int .i64 x, errV b] w fun e w' => e = pan a ∧ w' = w := by
  have H := hideQ h
  have HP : Hid (pan a = .panicked [{ v := errV a, recovered := false }]) := hideQ rfl
  clear h
  unfold errV
  go_enter Tryd.func52, Tryd.ntmps52
  go_wp2_with (go_at_call 30; refine (need_no a _ H.out).mono ?_; rintro e W ⟨rfl, rfl⟩; rw [HP.out])
  exact ⟨rfl, HP.out.symm, rfl⟩
theorem takenS_ok (x : ByteArray) (w : World) : Calls Tryd.prog 72 #[.string x, .nilIface] w fun e w' => e = .returned (.string x) ∧ w' = w := by
  go_enter Tryd.func72, Tryd.ntmps72
  go_wp2_with (go_at_call 30; refine (need_ok _).mono ?_; rintro e W ⟨rfl, rfl⟩)
  go_ret
  exact ⟨rfl, rfl⟩
theorem takenS_no (x : ByteArray) (b a : Addr) (w : World) (h : w.cell? ⟨9, 0, none⟩ = some (errV a)) : Calls Tryd.prog 72 #[.string x, errV b] w fun e w' => e = pan a ∧ w' = w := by
  have H := hideQ h
  have HP : Hid (pan a = .panicked [{ v := errV a, recovered := false }]) := hideQ rfl
  clear h
  unfold errV
  go_enter Tryd.func72, Tryd.ntmps72
  go_wp2_with (go_at_call 30; refine (need_no a _ H.out).mono ?_; rintro e W ⟨rfl, rfl⟩; rw [HP.out])
  exact ⟨rfl, HP.out.symm, rfl⟩
/-- The errors that reading meets, none of them in the Reader's block. -/
structure ErD (w : World) (br : Nat) (ad : Nat → Addr) : Prop where
  s0 : w.cell? ⟨2, 0, none⟩ = some (errV (ad 0))
  s1 : w.cell? ⟨3, 0, none⟩ = some (errV (ad 1))
  s2 : w.cell? ⟨0, 0, none⟩ = some (errV (ad 2))
  s4 : w.cell? ⟨4, 0, none⟩ = some (errV (ad 4))
  s9 : w.cell? ⟨9, 0, none⟩ = some (errV (ad 9))
  ne : ¬ 2 = br ∧ ¬ 3 = br ∧ ¬ 0 = br ∧ ¬ 4 = br ∧ ¬ 9 = br
theorem ErD.kept {w w' : World} {br : Nat} {ad : Nat → Addr} (h : ErD w br ad) (k : Kept (fun i => i = br) w w') : ErD w' br ad :=
  ⟨k.cell h.s0 h.ne.1, k.cell h.s1 h.ne.2.1, k.cell h.s2 h.ne.2.2.1, k.cell h.s4 h.ne.2.2.2.1, k.cell h.s9 h.ne.2.2.2.2, h.ne⟩
theorem ErD.keptF {w w' : World} {br : Nat} {ad : Nat → Addr} (h : ErD w br ad) (k : Kept (fun _ => False) w w') : ErD w' br ad := h.kept (k.mono (fun _ f => f.elim))
theorem upat_n {most : Nat} {l : List Int} {p : Nat} {br : Nat} {ad : Nat → Addr} (w : World) (hB : IsBytes l) (hp : p ≤ l.length) (hl : l.length ≤ 140737488355328) (hm : most ≤ 4611686018427387904) (hE : ErD w br ad) (h : upn most l p = none) :
    ∃ b, ∀ a c, BytesAt w a l → ∀ n, Calls Tryd.prog 67 #[.slice a l.length c, .int .i64 p, .int .i64 (most : Nat)] (w.drewN n) fun e w' => e = .returned (.tuple #[.int .i64 0, .int .i64 0, errV b]) ∧ ∃ m, w' = (w.drewN n).drewN m := by
  have hE' : ∀ n, ErD (w.drewN n) br ad := fun n => hE.keptF (Kept.drewN w n)
  unfold upn at h
  split at h
  · rename_i er hr
    have he : ∃ b, errOf (ad 0) (ad 1) er = errV b := by
      unfold errOf
      split
      · exact ⟨_, rfl⟩
      · exact ⟨_, rfl⟩
    obtain ⟨b, hb⟩ := he
    refine ⟨b, fun a c hba n => ?_⟩
    rw [← hb]
    exact upat_err l a c p er _ _ _ _ hba hB hp (by omega) (hE' n).s0 (hE' n).s1 hr
  · rename_i x k hr
    split at h
    · cases h
    · exact ⟨_, fun a c hba n => upat_lim l a c p x k _ _ _ _ _ hba hB hp (by omega) (hE' n).s0 (hE' n).s1 (hE' n).s2 hr (by omega) (by omega)⟩
theorem upto_n {most : Nat} {l : List Int} {p br : Nat} {v : Value} {ad : Nat → Addr} (w : World) (h : Rd w br v l p) (hm : most ≤ 4611686018427387904) (hE : ErD w br ad) (hr : upn most l p = none) :
    ∃ b, Calls Tryd.prog 53 #[.pointer (some ⟨br, 0, none⟩), .int .i64 (most : Nat)] w fun e w' => e = .returned (.tuple #[.int .i64 0, errV b]) ∧ Kept (fun _ => False) w w' := by
  obtain ⟨b, hb⟩ := upat_n w h.isb h.le h.sm hm hE hr
  exact ⟨b, (rupto_bad br v l p _ _ w h hb).mono (fun e w' ⟨h1, n, h2⟩ => ⟨h1, by rw [h2]; exact Kept.drewN w n⟩)⟩
theorem upn_rdu {most : Nat} {l : List Int} {p x q : Nat} (h : upn most l p = some (x, q)) : ∃ k, q = p + k ∧ rdu 0 0 (l.drop p) = .ok (x, k) ∧ x ≤ most := by
  unfold upn at h
  split at h
  · cases h
  · rename_i x' k hr
    split at h
    · injection h with h
      injection h with h1 h2
      subst h1
      exact ⟨k, h2.symm, hr, by assumption⟩
    · cases h
theorem upto_s {most : Nat} {l : List Int} {p x q br : Nat} {v : Value} {ad : Nat → Addr} (w : World) (h : Rd w br v l p) (hm : most ≤ 4611686018427387904) (hE : ErD w br ad) (hr : upn most l p = some (x, q)) :
    Calls Tryd.prog 53 #[.pointer (some ⟨br, 0, none⟩), .int .i64 (most : Nat)] w fun e w' => e = .returned (.tuple #[.int .i64 x, .nilIface]) ∧ Rd w' br v l q ∧ Kept (fun i => i = br) w w' := by
  obtain ⟨k, rfl, hk, hx⟩ := upn_rdu hr
  exact rupto_ok br v l p x k _ _ _ w h hk (by omega) (by omega) hE.s0 hE.s1
theorem text_n {most : Nat} {l : List Int} {p br : Nat} {v : Value} {ad : Nat → Addr} (w : World) (h : Rd w br v l p) (hm : most ≤ 4611686018427387904) (hE : ErD w br ad) (hr : txn most l p = none) :
    ∃ b, Calls Tryd.prog 73 #[.pointer (some ⟨br, 0, none⟩), .int .i64 (most : Nat)] w fun e w' => e = .returned (.tuple #[.string ByteArray.empty, errV b]) ∧ Kept (fun _ => False) w w' := by
  have fin : ∀ {b : Addr} {e : Ending} {w' : World}, (e = .returned (.tuple #[.string ByteArray.empty, errV b]) ∧ ∃ n, w' = w.drewN n) → (e = .returned (.tuple #[.string ByteArray.empty, errV b]) ∧ Kept (fun _ => False) w w') := fun ⟨h1, n, h2⟩ => ⟨h1, by rw [h2]; exact Kept.drewN w n⟩
  unfold txn at hr
  split at hr
  · rename_i hu
    obtain ⟨b, hb⟩ := upat_n w h.isb h.le h.sm hm hE hu
    exact ⟨b, (rtext_bad br v l p _ _ w h hb).mono (fun _ _ => fin)⟩
  · rename_i n q hu
    split at hr
    · cases hr
    · obtain ⟨k, rfl, hk, hx⟩ := upn_rdu hu
      exact ⟨_, (rtext_short br v l p n k _ _ _ w h hk (by omega) (by omega) (by omega) hE.s0 hE.s1).mono (fun _ _ => fin)⟩
theorem text_s {most : Nat} {l t : List Int} {p q br : Nat} {v : Value} {ad : Nat → Addr} (w : World) (h : Rd w br v l p) (hm : most ≤ 4611686018427387904) (hE : ErD w br ad) (hr : txn most l p = some (t, q)) :
    Calls Tryd.prog 73 #[.pointer (some ⟨br, 0, none⟩), .int .i64 (most : Nat)] w fun e w' => e = .returned (.tuple #[.string (strOfNums t), .nilIface]) ∧ Rd w' br v l q ∧ Kept (fun i => i = br) w w' := by
  unfold txn at hr
  split at hr
  · cases hr
  · rename_i n q' hu
    split at hr
    · injection hr with hr
      injection hr with h1 h2
      subst h1 h2
      obtain ⟨k, rfl, hk, hx⟩ := upn_rdu hu
      exact rtext_ok br v l p n k _ _ _ w h hk (by omega) (by omega) (by omega) hE.s0 hE.s1
    · cases hr
theorem done_n {l : List Int} {p br : Nat} {v : Value} {ad : Nat → Addr} (w : World) (h : Rd w br v l p) (hE : ErD w br ad) (hp : p < l.length) :
    Calls Tryd.prog 31 #[.pointer (some ⟨br, 0, none⟩)] w fun e w' => e = .returned (errV (ad 4)) ∧ ∃ n, w' = w.drewN n := by
  have CL := hideQ (left_any br v l p w h)
  have e4 := hE.s4
  have hs := h.sm
  clear h hE
  have h1 : (0 : Int) < ((l.length - p : Nat) : Int) := by omega
  have h2 : decide (0 < l.length - p) = true := decide_eq_true (by omega)
  generalize l.length - p = m at *
  go_enter Tryd.func31, Tryd.ntmps31
  go_wp2_with (go_at_call 54; refine CL.out.mono ?_; clear CL; rintro e W1 ⟨rfl, q, rfl⟩; have e5 : (w.drewN q).cell? ⟨4, 0, none⟩ = some (errV (ad 4)) := e4)
  go_ret
  exact ⟨rfl, q, rfl⟩
theorem done_s {l : List Int} {p br : Nat} {v : Value} (w : World) (h : Rd w br v l p) (hp : ¬ p < l.length) :
    Calls Tryd.prog 31 #[.pointer (some ⟨br, 0, none⟩)] w fun e w' => e = .returned .nilIface ∧ ∃ n, w' = w.drewN n := by
  have CL := hideQ (left_any br v l p w h)
  clear h
  have h0 : l.length - p = 0 := by omega
  rw [h0] at CL
  go_enter Tryd.func31, Tryd.ntmps31
  go_wp2_with (go_at_call 54; refine CL.out.mono ?_; clear CL; rintro e W1 ⟨rfl, q, rfl⟩)
  go_ret
  exact ⟨rfl, q, rfl⟩
end Go.Proofs.YtcanbhbhdgogoaaDoor
