import Derived.Test.YtbhoplmbiomogaaDoorRdy
import Derived.Test.YtbhoplmbiomogaaDoorReo
import Derived.Test.YtbhoplmbiomogaaDoorSmr
namespace Go.Proofs.YtbhoplmbiomogaaDoor
open Go.ChangeShapes Go.WideShapes Go.ChangeAt Go.RowKit

set_option maxRecDepth 20000 in
set_option maxHeartbeats 1000000 in
theorem num_short {w : World} {ad : Nat → Addr} (h : Errs13 w ad) : Calls Tryd.prog 8 #[.iface 125 (.pointer (some (ad 0)))] w fun e w' => e = .returned (.int .i64 1) ∧ w' = w := by
  have v0 := h.s0.var
  have e0 := errEq w (ad 0)
  clear h
  go_enter Tryd.func8, Tryd.ntmps8
  go_wp2
  go_ret
  exact ⟨rfl, rfl⟩
set_option maxRecDepth 20000 in
set_option maxHeartbeats 1000000 in
theorem num_varint {w : World} {ad : Nat → Addr} (h : Errs13 w ad) : Calls Tryd.prog 8 #[.iface 125 (.pointer (some (ad 1)))] w fun e w' => e = .returned (.int .i64 2) ∧ w' = w := by
  have v0 := h.s0.var
  have v1 := h.s1.var
  have e0 := err_neqF h.s1 h.s0 (by decide)
  have e1 := errEq w (ad 1)
  clear h
  go_enter Tryd.func8, Tryd.ntmps8
  go_wp2
  go_ret
  exact ⟨rfl, rfl⟩
set_option maxRecDepth 20000 in
set_option maxHeartbeats 1000000 in
theorem num_tail {w : World} {ad : Nat → Addr} (h : Errs13 w ad) : Calls Tryd.prog 8 #[.iface 125 (.pointer (some (ad 4)))] w fun e w' => e = .returned (.int .i64 5) ∧ w' = w := by
  have v0 := h.s0.var
  have v1 := h.s1.var
  have v2 := h.s2.var
  have v3 := h.s3.var
  have v4 := h.s4.var
  have e0 := err_neqF h.s4 h.s0 (by decide)
  have e1 := err_neqF h.s4 h.s1 (by decide)
  have e2 := err_neqF h.s4 h.s2 (by decide)
  have e3 := err_neqF h.s4 h.s3 (by decide)
  have e4 := errEq w (ad 4)
  clear h
  go_enter Tryd.func8, Tryd.ntmps8
  go_wp2
  go_ret
  exact ⟨rfl, rfl⟩
theorem num_er {w : World} {ad : Nat → Addr} (h : Errs13 w ad) {er : Nat} (he : er = 0 ∨ er = 1 ∨ er = 2 ∨ er = 4 ∨ er = 10) : Calls Tryd.prog 8 #[errV (ad er)] w fun e w' => e = .returned (.int .i64 ((er + 1 : Nat) : Int)) ∧ w' = w := by
  rcases he with rfl | rfl | rfl | rfl | rfl
  · exact num_short h
  · exact num_varint h
  · exact num_limit h
  · exact num_tail h
  · exact num_schema h
theorem rtx_er {l : List Int} {p er : Nat} (h : rtx l p = .error er) : er = 0 ∨ er = 1 ∨ er = 2 := by
  unfold rtx at h
  split at h
  · rename_i e he
    injection h with h
    subst h
    rcases rup_err he with ⟨_, h⟩ | ⟨h, _⟩ <;> omega
  · split at h
    · cases h
    · injection h with h; omega
theorem rfd_er {l : List Int} : ∀ {n p er : Nat}, rfd l n p = .error er → er = 0 ∨ er = 1 ∨ er = 2
  | 0, p, er, h => by rw [rfd] at h; cases h
  | n + 1, p, er, h => by
    rw [rfd] at h
    cases hT : rtx l p with
    | error e =>
      rw [hT] at h
      simp only at h
      injection h with h
      subst h
      exact rtx_er hT
    | ok tq =>
      obtain ⟨t, q⟩ := tq
      rw [hT] at h
      simp only at h
      split at h
      · cases hR : rfd l n (q + 1) with
        | error e =>
          rw [hR] at h
          simp only at h
          injection h with h
          subst h
          exact rfd_er hR
        | ok x => rw [hR] at h; cases h
      · injection h with h; omega
theorem dec_er {l : List Int} {er : Nat} (h : dec l = .error er) : er = 0 ∨ er = 1 ∨ er = 2 ∨ er = 4 ∨ er = 10 := by
  cases hU : rup 16 l 0 with
  | error e =>
    rw [dec_up hU] at h
    injection h with h
    subst h
    rcases rup_err hU with ⟨_, h⟩ | ⟨h, _⟩ <;> omega
  | ok nk =>
    obtain ⟨n, k⟩ := nk
    cases hR : rfd l n k with
    | error e =>
      rw [dec_fd hU hR] at h
      injection h with h
      subst h
      have := rfd_er hR
      omega
    | ok x =>
      obtain ⟨F, B, r⟩ := x
      rw [dec_ok hU hR] at h
      split at h
      · injection h with h; omega
      · split at h
        · cases h
        · injection h with h; omega
theorem dec_len {l : List Int} {F : List Fd} (h : dec l = .ok F) : F.length ≤ 16 := by
  cases hU : rup 16 l 0 with
  | error e => rw [dec_up hU] at h; cases h
  | ok nk =>
    obtain ⟨n, k⟩ := nk
    cases hR : rfd l n k with
    | error e => rw [dec_fd hU hR] at h; cases h
    | ok x =>
      obtain ⟨F', B, r⟩ := x
      rw [dec_ok hU hR] at h
      split at h
      · cases h
      · split at h
        · injection h with h
          subst h
          rw [(rfd_ok hR).1]
          exact (rup_ok hU).2
        · cases h
/-- What both Encodes answer. -/
theorem encs_any (l : List Fd) (a : Option Addr) (c : Nat) (ad : Nat → Addr) (hO : ∀ f ∈ l, f.Ok) (hl : l.length ≤ 4398046511104) :
    ∃ (B : List Int) (E : Value) (x : Int), (∀ w, FsAt w a l → Errs13 w ad → Calls Tryd.prog 6 #[.agg #[.slice a l.length c]] w fun e w' => (∃ a' c', e = .returned (.tuple #[.slice a' B.length c', E]) ∧ BytesAt w' a' B) ∧ Kept (fun _ => False) w w')
      ∧ (∀ w, FsAt w a l → Calls Tryd.prog 7 #[.agg #[.slice a l.length c]] w fun e w' => (∃ a' c', e = .returned (.tuple #[.slice a' B.length c', .int .i64 x]) ∧ BytesAt w' a' B) ∧ Kept (fun _ => False) w w')
      ∧ ∀ w, Errs13 w ad → Calls Tryd.prog 8 #[E] w fun e w' => e = .returned (.int .i64 x) ∧ w' = w := by
  cases hG : gschema l with
  | true =>
    refine ⟨ebs l, .nilIface, 0, fun w hF hE => ?_, fun w hF => rencS_good l a c w hF hO hG, fun w _ => num_nil w⟩
    refine (encodeS_good l a c _ _ w hF hO hl hE.s10.var hG).mono ?_
    rintro e w' ⟨⟨g, _, he, ho⟩, k⟩
    exact ⟨⟨_, _, he, bytesAt_own ho⟩, k⟩
  | false =>
    refine ⟨[], .iface 125 (.pointer (some (ad 10))), 11, fun w hF hE => ?_, fun w hF => ?_, fun w hE => num_schema hE⟩
    · refine (encodeS_bad l a c _ _ w hF hO hl hE.s10.var hG).mono ?_
      rintro e w' ⟨he, k⟩
      exact ⟨⟨none, 0, he, fun h => absurd rfl h⟩, k⟩
    · refine (rencS_bad l a c w hF hO hG).mono ?_
      rintro e w' ⟨⟨g, c', he⟩, k⟩
      exact ⟨⟨_, _, he, fun h => absurd rfl h⟩, k⟩
/-- What both Decodes answer. -/
theorem decs_any (l : List Int) (a : Option Addr) (c : Nat) (ad : Nat → Addr) (hI : IsBytes l) (hl : l.length ≤ 140737488355328) (hc : l.length ≤ c) :
    ∃ (F : List Fd) (E : Value) (x : Int), F.length ≤ 16 ∧ (∀ w, BytesAt w a l → Errs13 w ad → Calls Tryd.prog 9 #[.slice a l.length c] w fun e w' => (∃ a' c', e = .returned (.tuple #[.agg #[.slice a' F.length c'], E]) ∧ FsAt w' a' F) ∧ Kept (fun _ => False) w w')
      ∧ (∀ w, BytesAt w a l → Calls Tryd.prog 10 #[.slice a l.length c] w fun e w' => (∃ a' c', e = .returned (.tuple #[.agg #[.slice a' F.length c'], .int .i64 x]) ∧ FsAt w' a' F) ∧ Kept (fun _ => False) w w')
      ∧ ∀ w, Errs13 w ad → Calls Tryd.prog 8 #[E] w fun e w' => e = .returned (.int .i64 x) ∧ w' = w := by
  have doc : ∀ w, BytesAt w a l → Calls Tryd.prog 10 #[.slice a l.length c] w fun e w' => rdP (dec l) w' e ∧ Kept (fun _ => False) w w' := fun w hB => by
    cases hU : rup 16 l 0 with
    | error er => exact rdecS_up l a l.length c er w rfl hB hI hl hU
    | ok nk => exact rdecS_ok l a l.length c nk.1 nk.2 w rfl hB hI hl hc hU
  cases hD : dec l with
  | error er =>
    refine ⟨[], errV (ad er), ((er + 1 : Nat) : Int), by simp, fun w hB hE => ?_, fun w hB => ?_, fun w hE => num_er hE (dec_er hD)⟩
    · refine (decode_any l a c ad w hB hI hl hE.er5 hE.s10.var).mono ?_
      rintro e w' ⟨hp, k⟩
      rw [hD] at hp
      exact ⟨⟨none, 0, hp, fun h => absurd rfl h⟩, k⟩
    · refine (doc w hB).mono ?_
      rintro e w' ⟨hp, k⟩
      rw [hD] at hp
      exact ⟨⟨none, 0, hp, fun h => absurd rfl h⟩, k⟩
  | ok F =>
    refine ⟨F, .nilIface, 0, dec_len hD, fun w hB hE => ?_, fun w hB => ?_, fun w _ => num_nil w⟩
    · refine (decode_any l a c ad w hB hI hl hE.er5 hE.s10.var).mono ?_
      rintro e w' ⟨hp, k⟩
      rw [hD] at hp
      obtain ⟨a', c', he, hF, -⟩ := hp
      exact ⟨⟨a', c', he, hF⟩, k⟩
    · refine (doc w hB).mono ?_
      rintro e w' ⟨hp, k⟩
      rw [hD] at hp
      exact ⟨hp, k⟩
set_option maxRecDepth 20000 in
set_option maxHeartbeats 8000000 in
theorem bytes_walk (l : List Fd) (a : Option Addr) (c : Nat) (bl : List Int) (ba : Option Addr) (bc : Nat) (ad : Nat → Addr) (w : World) (hF : FsAt w a l) (hO : ∀ f ∈ l, f.Ok) (hl : l.length ≤ 4398046511104) (hB : BytesAt w ba bl) (hI : IsBytes bl) (hbl : bl.length ≤ 140737488355328) (hbc : bl.length ≤ bc) (hE : Errs13 w ad) (hW : Words w) :
    Calls Tryd.prog 3 #[.agg #[.slice a l.length c], .slice ba bl.length bc] w fun e w' => e = .returned (.bool true) ∧ Kept (fun _ => False) w w' := by
  obtain ⟨B, E, x, hT1, hT2, hT3⟩ := encs_any l a c ad hO hl
  obtain ⟨F, E2, x2, hFl, hP1, hP2, hP3⟩ := decs_any bl ba bc ad hI hbl hbc
  have HT1 := hideW hT1
  have HT2 := hideW hT2
  have HT3 := hideW hT3
  have HP1 := hideW hP1
  have HP2 := hideW hP2
  have HP3 := hideW hP3
  have KA := Kept.alloc w (.cells #[.slice a l.length c] 24)
  have HK := hideW KA
  have BX : Hid ((w.alloc (.cells #[.slice a l.length c] 24)).cell? ⟨w.heap.size, 0, none⟩ = some (.slice a l.length c)) := hideW (by simp)
  have HF := hideW hF
  have HE := hideW hE
  have HW := hideW hW
  have HBb := hideW hB
  have hq2 : (x != x) = false := by simp
  have hq3 : (x2 == x2) = true := by simp
  have HS := hideW (fun (w : World) (a1 a2 : Option Addr) (c1 c2 : Nat) h1 h2 => rsame_any F a1 a2 c1 c2 w h1 h2 (by omega))
  have HCv : Hid (∀ W a' c', BytesAt W a' B → (convert 25 9 (.slice a' B.length c')).run Tryd.prog W = .ok (.string (strOfNums B)) W) := hideW (fun W a' c' h => conv_atB h)
  obtain ⟨T, hT⟩ : ∃ T, T = strOfNums B := ⟨_, rfl⟩
  rw [← hT] at HCv
  have hq1 : (T.toList != T.toList) = false := by simp
  clear hT1 hT2 hT3 hP1 hP2 hP3 KA hF hE hW hO hB hI hT
  generalize l.length = nl at *
  generalize F.length = nF at *
  generalize B.length = nB at *
  generalize bl.length = nb at *
  go_enter Tryd.func3, Tryd.ntmps3
  go_wp2_with (first
    | (go_at_call 5; refine (lives_any (ad 10) _ (HW.out.kept HK.out) (HE.out.kept HK.out).s10.var).mono ?_; rintro e W1 ⟨rfl, K1⟩; have HK1 := hideW (HK.out.trans K1 (fun _ f => f.elim)); have b1 := K1.cell BX.out (fun f => f); clear K1)
    | (go_at_call 6; refine (HT1.out _ (HF.out.kept HK1.out) (HE.out.kept HK1.out)).mono ?_; rintro e W2 ⟨⟨a2, c2, rfl, hB2⟩, K2⟩; have HB2 := hideW hB2; have HK2 := hideW (HK1.out.trans K2 (fun _ f => f.elim)); have b2 := K2.cell b1 (fun f => f); clear K2 hB2)
    | (go_at_call 7; refine (HT2.out _ (HF.out.kept HK2.out)).mono ?_; rintro e W3 ⟨⟨a3, c3, rfl, hB3⟩, K3⟩; have HK3 := hideW (HK2.out.trans K3 (fun _ f => f.elim)); have cv2 := HCv.out W3 a2 c2 (HB2.out.keptD K3); have cv3 := HCv.out W3 a3 c3 hB3; clear K3 hB3)
    | (go_at_call 9; refine (HP1.out _ (HBb.out.keptD HK3.out) (HE.out.kept HK3.out)).mono ?_; rintro e W4 ⟨⟨a1, c1, rfl, hF1⟩, K4⟩; have HK4 := hideW ((HK3.out.trans K4 (fun _ f => f.elim)).trans (Kept.alloc W4 (.cells #[.slice a1 nF c1] 24)) (fun _ f => f.elim)); have HF1 := hideW (hF1.kept (Kept.alloc W4 (.cells #[.slice a1 nF c1] 24))); have p1 : (W4.alloc (.cells #[.slice a1 nF c1] 24)).cell? ⟨W4.heap.size, 0, none⟩ = some (.slice a1 nF c1) := (by simp); clear K4 hF1)
    | (go_at_call 10; refine (HP2.out _ (HBb.out.keptD HK4.out)).mono ?_; rintro e W5 ⟨⟨a5, c5, rfl, hF2⟩, K5⟩; have HK5 := hideW ((HK4.out.trans K5 (fun _ f => f.elim)).trans (Kept.alloc W5 (.cells #[.slice a5 nF c5] 24)) (fun _ f => f.elim)); have HF3 := hideW ((HF1.out.kept K5).kept (Kept.alloc W5 (.cells #[.slice a5 nF c5] 24))); have HF4 := hideW (hF2.kept (Kept.alloc W5 (.cells #[.slice a5 nF c5] 24))); have p2 := (Kept.alloc W5 (.cells #[.slice a5 nF c5] 24)).cell (K5.cell p1 (fun f => f)) (fun f => f); clear K5 hF2)
    | (go_at_call 11; refine (HS.out _ a1 a5 c1 c5 HF3.out HF4.out).mono ?_; rintro e W6 ⟨rfl, K6⟩; have HK6 := hideW (HK5.out.trans K6 (fun _ f => f.elim)); clear K6)
    | (go_at_call 8; refine (HP3.out _ (HE.out.kept HK6.out)).mono ?_; rintro e W7 ⟨rfl, rfl⟩)
    | (go_at_call 8; refine (HT3.out _ (HE.out.kept HK3.out)).mono ?_; rintro e W8 ⟨rfl, rfl⟩))
  go_ret
  exact ⟨rfl, HK6.out⟩
end Go.Proofs.YtbhoplmbiomogaaDoor
