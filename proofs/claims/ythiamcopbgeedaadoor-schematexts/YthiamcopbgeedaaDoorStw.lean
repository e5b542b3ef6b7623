import Derived.Test.YthiamcopbgeedaaDoorRpr
import Derived.Test.YthiamcopbgeedaaDoorPtx
import Derived.Test.YthiamcopbgeedaaDoorSmr
import Derived.Test.YthiamcopbgeedaaDoorLvs2
import Derived.Test.YthiamcopbgeedaaDoorNme
namespace Go.Proofs.YthiamcopbgeedaaDoor
open Go.ChangeShapes Go.WideShapes Go.ChangeAt Go.RowKit

/-- What both Texts answer. -/
theorem texts_any (l : List Fd) (a : Option Addr) (c : Nat) (ad : Nat → Addr) (hO : ∀ f ∈ l, f.Ok) (hl : l.length ≤ 4398046511104) :
    ∃ (T : ByteArray) (E : Value) (x : Int), (∀ w, FsAt w a l → Errs13 w ad → Words w → Calls Tryd.prog 5 #[.agg #[.slice a l.length c]] w fun e w' => e = .returned (.tuple #[.string T, E]) ∧ Kept (fun _ => False) w w')
      ∧ (∀ w, FsAt w a l → Calls Tryd.prog 6 #[.agg #[.slice a l.length c]] w fun e w' => e = .returned (.tuple #[.string T, .int .i64 x]) ∧ Kept (fun _ => False) w w')
      ∧ ∀ w, Errs13 w ad → Calls Tryd.prog 7 #[E] w fun e w' => e = .returned (.int .i64 x) ∧ w' = w := by
  cases hG : gschema l with
  | true =>
    refine ⟨bstr (stx l), .nilIface, 0, fun w hF hE hW => text_good l a c _ _ w hF hO hl hE.s10.var hW hG, fun w hF => ?_, fun w _ => num_nil w⟩
    have := rtext_any l a c w hF hO
    rw [hG, chkN_good hG] at this
    simpa using this
  | false =>
    refine ⟨⟨#[]⟩, .iface 85 (.pointer (some (ad 10))), 11, fun w hF hE _ => text_bad l a c _ _ w hF hO hl hE.s10.var hG, fun w hF => ?_, fun w hE => num_schema hE⟩
    have := rtext_any l a c w hF hO
    rw [hG, chkN_bad hG] at this
    simpa using this
theorem fs_nil (w : World) (a : Option Addr) : FsAt w a [] := fun h => absurd rfl h
/-- What both Parses answer. -/
theorem parses_any (t : ByteArray) (ad : Nat → Addr) (ht : t.size ≤ 281474976710656) :
    ∃ (F : List Fd) (E : Value) (x : Int), F.length ≤ 1281 ∧ (∀ w, Errs13 w ad → Words w → Calls Tryd.prog 8 #[.string t] w fun e w' => (∃ a c, e = .returned (.tuple #[.agg #[.slice a F.length c], E]) ∧ FsAt w' a F) ∧ Kept (fun _ => False) w w')
      ∧ (∀ w, Calls Tryd.prog 9 #[.string t] w fun e w' => (∃ a c, e = .returned (.tuple #[.agg #[.slice a F.length c], .int .i64 x]) ∧ FsAt w' a F) ∧ Kept (fun _ => False) w w')
      ∧ ∀ w, Errs13 w ad → Calls Tryd.prog 7 #[E] w fun e w' => e = .returned (.int .i64 x) ∧ w' = w := by
  by_cases hgood : ∃ F, rout 16 t.data.toList = some F ∧ gschema F = true
  · obtain ⟨F, hr, hg⟩ := hgood
    have hs := (parse_iff t.data.toList F).1 ⟨hr, hg⟩
    have hsz : t.size ≤ 1280 := by
      have := stx_short hg
      rw [hs.2, Array.length_toList] at this
      exact this
    have hgs := parse_same hr hg
    refine ⟨F, .nilIface, 0, by have := (gs_len hg).2; omega, fun w hE hW => ?_, fun w => ?_, fun w _ => num_nil w⟩
    · refine (parse_some t F _ _ w ht hW hE.s10.var hr).mono ?_
      rintro e w' (⟨h, -⟩ | ⟨-, v, rfl, hO⟩)
      · rw [hg] at h; cases h
      · obtain ⟨a, c, rfl⟩ := hO.shape
        exact ⟨⟨a, c, rfl, fs_of_own hO.own⟩, hO.kept⟩
    · refine (rparse_short t w hsz).mono ?_
      rintro e w' ⟨hk, hp⟩
      rw [hgs, rpPost, if_pos hs] at hp
      obtain ⟨a, c, he, hF⟩ := hp
      exact ⟨⟨a, c, he, hF⟩, hk⟩
  · refine ⟨[], .iface 85 (.pointer (some (ad 10))), 11, by simp, fun w hE hW => ?_, fun w => ?_, fun w hE => num_schema hE⟩
    · cases hr : rout 16 t.data.toList with
      | none =>
        refine (parse_bad t _ _ w ht hW hE.s10.var hr).mono ?_
        rintro e w' ⟨rfl, hk⟩
        exact ⟨⟨none, 0, rfl, fs_nil _ _⟩, hk⟩
      | some F =>
        refine (parse_some t F _ _ w ht hW hE.s10.var hr).mono ?_
        rintro e w' (⟨-, rfl, hk⟩ | ⟨h, -⟩)
        · exact ⟨⟨none, 0, rfl, fs_nil _ _⟩, hk⟩
        · exact absurd ⟨F, hr, h⟩ hgood
    · by_cases hsz : t.size ≤ 1280
      · refine (rparse_short t w hsz).mono ?_
        rintro e w' ⟨hk, hp⟩
        rw [rpPost, if_neg (fun h => hgood ((parse_guess t.data.toList).2 h))] at hp
        exact ⟨⟨none, 0, hp, fs_nil _ _⟩, hk⟩
      · refine (rparse_long t w (by omega)).mono ?_
        rintro e w' ⟨rfl, hk⟩
        exact ⟨⟨none, 0, rfl, fs_nil _ _⟩, hk⟩
set_option maxRecDepth 20000 in
set_option maxHeartbeats 8000000 in
theorem texts_walk (l : List Fd) (a : Option Addr) (c : Nat) (t : ByteArray) (ad : Nat → Addr) (w : World) (hF : FsAt w a l) (hO : ∀ f ∈ l, f.Ok) (hl : l.length ≤ 4398046511104) (ht : t.size ≤ 281474976710656) (hE : Errs13 w ad) (hW : Words w) :
    Calls Tryd.prog 3 #[.agg #[.slice a l.length c], .string t] w fun e w' => e = .returned (.bool true) ∧ Kept (fun _ => False) w w' := by
  obtain ⟨T, E, x, hT1, hT2, hT3⟩ := texts_any l a c ad hO hl
  obtain ⟨F, E2, x2, hFl, hP1, hP2, hP3⟩ := parses_any t ad ht
  have CL := hideW (fun w (h : Kept (fun _ => False) w w → Errs13 w ad ∧ Words w) => lives_any (ad 10) w (h (Kept.refl _ _)).2 (h (Kept.refl _ _)).1.s10.var)
  have HT1 := hideW hT1
  have HT2 := hideW hT2
  have HT3 := hideW hT3
  have HP1 := hideW hP1
  have HP2 := hideW hP2
  have HP3 := hideW hP3
  have KA := Kept.alloc w (.cells #[.slice a l.length c] 24)
  have HK := hideW KA
  have BX : Hid ((w.alloc (.cells #[.slice a l.length c] 24)).cell? ⟨w.heap.size, 0, none⟩ = some (.slice a l.length c)) := hideW (by simp)
  have HF := hideW hF
  have HE := hideW hE
  have HW := hideW hW
  have hq1 : (T.toList != T.toList) = false := by simp
  have hq2 : (x != x) = false := by simp
  have hq3 : (x2 == x2) = true := by simp
  have HS := hideW (fun (w : World) (a1 a2 : Option Addr) (c1 c2 : Nat) h1 h2 => rsame_any F a1 a2 c1 c2 w h1 h2 (by omega))
  clear hT1 hT2 hT3 hP1 hP2 hP3 KA hF hE hW hO
  generalize l.length = nl at *
  generalize F.length = nF at *
  go_enter Tryd.func3, Tryd.ntmps3
  go_wp2_with (first
    | (go_at_call 4; refine (lives_any (ad 10) _ (HW.out.kept HK.out) (HE.out.kept HK.out).s10.var).mono ?_; rintro e W1 ⟨rfl, K1⟩; have HK1 := hideW (HK.out.trans K1 (fun _ f => f.elim)); have b1 := K1.cell BX.out (fun f => f); clear K1)
    | (go_at_call 5; refine (HT1.out _ (HF.out.kept HK1.out) (HE.out.kept HK1.out) (HW.out.kept HK1.out)).mono ?_; rintro e W2 ⟨rfl, K2⟩; have HK2 := hideW (HK1.out.trans K2 (fun _ f => f.elim)); have b2 := K2.cell b1 (fun f => f); clear K2)
    | (go_at_call 6; refine (HT2.out _ (HF.out.kept HK2.out)).mono ?_; rintro e W3 ⟨rfl, K3⟩; have HK3 := hideW (HK2.out.trans K3 (fun _ f => f.elim)); clear K3)
    | (go_at_call 8; refine (HP1.out _ (HE.out.kept HK3.out) (HW.out.kept HK3.out)).mono ?_; rintro e W4 ⟨⟨a1, c1, rfl, hF1⟩, K4⟩; have HK4 := hideW ((HK3.out.trans K4 (fun _ f => f.elim)).trans (Kept.alloc W4 (.cells #[.slice a1 nF c1] 24)) (fun _ f => f.elim)); have HF1 := hideW (hF1.kept (Kept.alloc W4 (.cells #[.slice a1 nF c1] 24))); have p1 : (W4.alloc (.cells #[.slice a1 nF c1] 24)).cell? ⟨W4.heap.size, 0, none⟩ = some (.slice a1 nF c1) := (by simp); clear K4 hF1)
    | (go_at_call 9; refine (HP2.out _).mono ?_; rintro e W5 ⟨⟨a2, c2, rfl, hF2⟩, K5⟩; have HK5 := hideW ((HK4.out.trans K5 (fun _ f => f.elim)).trans (Kept.alloc W5 (.cells #[.slice a2 nF c2] 24)) (fun _ f => f.elim)); have HF3 := hideW ((HF1.out.kept K5).kept (Kept.alloc W5 (.cells #[.slice a2 nF c2] 24))); have HF4 := hideW (hF2.kept (Kept.alloc W5 (.cells #[.slice a2 nF c2] 24))); have p2 := (Kept.alloc W5 (.cells #[.slice a2 nF c2] 24)).cell (K5.cell p1 (fun f => f)) (fun f => f); clear K5 hF2)
    | (go_at_call 10; refine (HS.out _ a1 a2 c1 c2 HF3.out HF4.out).mono ?_; rintro e W6 ⟨rfl, K6⟩; have HK6 := hideW (HK5.out.trans K6 (fun _ f => f.elim)); clear K6)
    | (go_at_call 7; refine (HP3.out _ (HE.out.kept HK6.out)).mono ?_; rintro e W7 ⟨rfl, rfl⟩)
    | (go_at_call 7; refine (HT3.out _ (HE.out.kept HK3.out)).mono ?_; rintro e W8 ⟨rfl, rfl⟩))
  go_ret
  exact ⟨rfl, HK6.out⟩
end Go.Proofs.YthiamcopbgeedaaDoor
