import Derived.Test.YteeimpjjmdpbgaaDoorNpe
import Derived.Test.YteeimpjjmdpbgaaDoorMrg6
namespace Go.Proofs.YteeimpjjmdpbgaaDoor
open Go.ChangeShapes Go.WideShapes Go.ChangeAt Go.RowKit

theorem isb_appP {a b : List Int} (ha : IsBytes a) (hb : IsBytes b) : IsBytes (a ++ b) := fun x hx => by
  rcases List.mem_append.1 hx with h | h
  · exact ha x h
  · exact hb x h
theorem uvb_bytesDP : ∀ n, IsBytes (uvb n) := by
  intro n
  induction n using Nat.strongRecOn with
  | _ n ih =>
    by_cases h : n < 128
    · rw [uvb_small h]
      intro x hx
      simp only [List.mem_cons, List.not_mem_nil, or_false] at hx
      omega
    · rw [uvb_big h]
      intro x hx
      rcases List.mem_cons.1 hx with rfl | hx
      · omega
      · exact ih (n / 128) (by omega) x hx
theorem een_bytesP (b : ByteArray) (e : En) : IsBytes (een b e) := by
  unfold een
  repeat (first | exact uvb_bytesDP _ | exact (fun x hx => sb_bytes _ x (List.mem_of_mem_drop hx)) | refine isb_appP ?_ ?_)
theorem ebl_bytesP : ∀ (b : ByteArray) (l : List En), IsBytes (ebl b l)
  | _, [] => fun x hx => by cases hx
  | b, e :: r => isb_appP (een_bytesP b e) (ebl_bytesP e.k r)
theorem img_bytesP (l : List En) : IsBytes (img l) := by
  unfold img hdL bdL
  refine isb_appP (isb_appP (uvb_bytesDP _) ?_) ?_
  · intro x hx
    obtain ⟨y, hy, hx⟩ := List.mem_flatten.1 hx
    obtain ⟨F, _, rfl⟩ := List.mem_map.1 hy
    exact uvb_bytesDP _ x hx
  · intro x hx
    obtain ⟨y, hy, hx⟩ := List.mem_flatten.1 hx
    obtain ⟨F, _, rfl⟩ := List.mem_map.1 hy
    exact ebl_bytesP _ _ x hx
theorem img_leP {l : List En} (hg : ∀ e ∈ l, Gen e) (hl : l.length ≤ 1048576) : (img l).length ≤ 1000000000 := by
  have h1 := bdL_le (nbk l.length) hg
  have h2 := uvb_le10 l.length (by omega)
  have h3 : nbk l.length ≤ 65536 := by unfold nbk; omega
  unfold img
  rw [List.length_append, List.length_append]
  omega
/-- The document's Build, where it refuses. -/
theorem rbuild_no (k : Int) (E : List En) (a : Option Addr) (n c : Nat) (w : World) (hn : n = E.length) (hE : EsAt w a E) (hl : n ≤ 1073741824) (hk : (k = 3 ∧ E.all genB = false) ∨ (k = 4 ∧ E.all genB = true ∧ ¬ Rises E)) :
    Calls Tryd.prog 5 #[.slice a n c] w fun e w' => e = .returned (.tuple #[.slice none 0 0, .int .i64 k]) ∧ Kept (fun _ => False) w w' := by
  have CC : Hid (Calls Tryd.prog 14 #[.slice a n c] w fun e w' => e = .returned (.int .i64 k) ∧ Kept (fun _ => False) w w') := hideQ (by
    rw [hn]
    refine (rcheck_any E a c w hE (by omega)).mono ?_
    rintro e w' ⟨hck, kk⟩
    rcases hck with ⟨h1, rfl⟩ | ⟨h1, h2, rfl⟩ | ⟨h1, h2, rfl⟩
    · rcases hk with ⟨rfl, _⟩ | ⟨_, h, _⟩
      · exact ⟨rfl, kk⟩
      · rw [h1] at h; cases h
    · rcases hk with ⟨_, h⟩ | ⟨rfl, _, _⟩
      · rw [h1] at h; cases h
      · exact ⟨rfl, kk⟩
    · rcases hk with ⟨_, h⟩ | ⟨_, _, h⟩
      · rw [h1] at h; cases h
      · exact absurd h2 h)
  have q1 : (k != 0) = true := by rcases hk with ⟨rfl, _⟩ | ⟨rfl, _⟩ <;> rfl
  clear hE hn hk
  go_enter Tryd.func5, Tryd.ntmps5
  go_wp2_with (go_at_call 14; refine CC.out.mono ?_; clear CC; rintro e W1 ⟨rfl, k1⟩)
  go_ret2
  exact ⟨rfl, k1⟩
theorem eqD_self (A : List Int) : eqD A A = true := by unfold eqD; simp
theorem bytes_none (W : World) : BytesAt W none [] := fun e => (e rfl).elim
set_option maxRecDepth 20000 in
set_option maxHeartbeats 4000000 in
/-- The law where the list is refused. -/
theorem plays_no (k : Int) (er : Addr) (E : List En) (a aq : Option Addr) (c m cq : Nat) (ad : Nat → Addr) (w : World) (hE : EsAt w a E) (hl : E.length ≤ 1048576) (hx : Errs13 w ad)
    (hk : (k = 3 ∧ E.all genB = false) ∨ (k = 4 ∧ E.all genB = true ∧ ¬ Rises E))
    (hB : ∀ W, Kept (fun _ => False) w W → Calls Tryd.prog 6 #[.slice a E.length c] W fun e w' => e = .returned (.tuple #[.slice none 0 0, .iface 114 (.pointer (some er))]) ∧ Kept (fun _ => False) W w')
    (hN : ∀ W, Kept (fun _ => False) w W → Calls Tryd.prog 7 #[.iface 114 (.pointer (some er))] W fun e w' => e = .returned (.int .i64 k) ∧ w' = W) :
    Calls Tryd.prog 3 #[.slice a E.length c, .slice aq m cq] w fun e w' => e = .returned (.bool true) ∧ Kept (fun _ => False) w w' := by
  have CF := hideQ (fixed_any ad w hx)
  have CR := hideQ (fun W (kk : Kept (fun _ => False) w W) => rbuild_no k E a E.length c W rfl (hE.kept kk) (by omega) hk)
  have CB := hideQ hB
  have CN := hideQ hN
  have CQ := hideQ (fun W => equalD_any [] [] none none 0 0 W (bytes_none W) (bytes_none W))
  rw [eqD_self] at CQ
  have q0 : (k != k) = false := by simp
  have q1 : (k != 0) = true := by rcases hk with ⟨rfl, _⟩ | ⟨rfl, _⟩ <;> rfl
  generalize E.length = n at *
  clear hE hx hk hB hN
  go_enter Tryd.func3, Tryd.ntmps3
  go_wp2_with (first
    | (go_at_call 4; refine CF.out.mono ?_; clear CF; rintro e W1 ⟨rfl, k1⟩; have K1 := hideQ k1; clear k1)
    | (go_at_call 5; refine (CR.out _ K1.out).mono ?_; clear CR; rintro e W2 ⟨rfl, k2⟩; have K2 := hideQ (K1.out.trans k2 (fun _ f => f.elim)); clear K1 k2)
    | (go_at_call 6; refine (CB.out _ K2.out).mono ?_; clear CB; rintro e W3 ⟨rfl, k3⟩; have K3 := hideQ (K2.out.trans k3 (fun _ f => f.elim)); clear K2 k3)
    | (go_at_call 7; refine (CN.out _ K3.out).mono ?_; clear CN; rintro e W4 ⟨rfl, h4⟩; subst h4)
    | (go_at_call 8; refine (CQ.out _).mono ?_; clear CQ; rintro e W5 ⟨rfl, h5⟩; subst h5))
  go_ret
  exact ⟨rfl, K3.out⟩
set_option maxRecDepth 20000 in
set_option maxHeartbeats 4000000 in
/-- The law where the list is built. -/
theorem plays_yes (hCl : ClnOk) (E : List En) (Q : List Aq) (a aq : Option Addr) (c m cq : Nat) (ad : Nat → Addr) (w : World) (hE : EsAt w a E) (hl : E.length ≤ 1048576) (hc : E.length ≤ c) (hQ : AqAt w aq Q) (hm : m = Q.length) (hmb : m ≤ 1048576) (hx : Errs13 w ad) (hg : Good E) :
    Calls Tryd.prog 3 #[.slice a E.length c, .slice aq m cq] w fun e w' => e = .returned (.bool true) ∧ Kept (fun _ => False) w w' := by
  have CF := hideQ (fixed_any ad w hx)
  have hIl := img_leP hg.gen hl
  have hIb := img_bytesP E
  have CR : Hid (∀ W, Kept (fun _ => False) w W → Calls Tryd.prog 5 #[.slice a E.length c] W fun e w' => (∃ va vc, e = .returned (.tuple #[.slice va (img E).length vc, .int .i64 0]) ∧ BytesAt w' va (img E)) ∧ Kept (fun _ => False) W w') := hideQ (fun W kk => by
    refine (rbuild_any E a E.length c W rfl (hE.kept kk) (by omega)).mono ?_
    rintro e w' (⟨-, v, rfl, hv⟩ | ⟨h, -⟩)
    · obtain ⟨va, vc, rfl, hb, -⟩ := bytes_of_own hv.own
      exact ⟨⟨va, vc, rfl, hb⟩, hv.kept⟩
    · exact absurd hg h)
  have CB : Hid (∀ W, Kept (fun _ => False) w W → Calls Tryd.prog 6 #[.slice a E.length c] W fun e w' => (∃ va vc, e = .returned (.tuple #[.slice va (img E).length vc, .nilIface]) ∧ BytesAt w' va (img E)) ∧ Kept (fun _ => False) W w') := hideQ (fun W kk => by
    refine (build_good E a c W (hE.kept kk) (by omega) hc hg).mono ?_
    rintro e w' ⟨⟨g, -, rfl, ho⟩, k2⟩
    obtain ⟨va, vc, e9, hb, -⟩ := bytes_of_own ho
    simp only [Value.slice.injEq] at e9
    obtain ⟨rfl, -, rfl⟩ := e9
    exact ⟨⟨_, _, rfl, hb⟩, k2⟩)
  have CQ := hideQ (fun W a1 a2 c1 c2 (h1 : BytesAt W a1 (img E)) (h2 : BytesAt W a2 (img E)) => equalD_any (img E) (img E) a1 a2 c1 c2 W h1 h2)
  rw [eqD_self] at CQ
  have CO : Hid (∀ W va vc, Kept (fun _ => False) w W → BytesAt W va (img E) → Calls Tryd.prog 9 #[.slice va (img E).length vc] W fun e w' => (∃ bd vd, e = .returned (.tuple #[.pointer (some ⟨bd, 0, none⟩), .nilIface]) ∧ Dct w' W.heap.size bd vd E) ∧ Kept (fun _ => False) W w') := hideQ (fun W va vc kk hb => by
    refine (open_any (img E) va vc ad W hb hIb (by omega) (errsO13 (hx.kept kk))).mono ?_
    rintro e w' ⟨hp, k2⟩
    rw [opn_put hg (by omega)] at hp
    exact ⟨hp, k2⟩)
  have hkk : ∀ e ∈ E, e.k.size ≤ 281474976710656 := fun e he => by have := (hg.gen e he).k2; omega
  have hr : Rises E := chn_rises E _ hg.chn
  have CA : Hid (∀ W ws bd va (kd i : Int) (x : ByteArray), Kept (fun _ => False) w W → Dct W ws bd va E → InZ i → Calls Tryd.prog 10 #[.pointer (some ⟨bd, 0, none⟩), .slice a E.length c, .agg #[.int .i64 kd, .int .i64 i, .string x]] W fun e w' => e = .returned (.bool true) ∧ Kept (fun _ => False) W w') := hideQ (fun W ws bd va kd i x kk hD hi => answer_any hCl kd i x W ws bd va E a c hD (hE.kept kk) hr (by omega) hkk hi.1 hi.2)
  have HQ := hideQ hQ
  have HM := hideQ hm
  have CNn := hideQ (fun W => num_nil W)
  have hil : (img E).length ≤ 1000000000 := hIl
  have hel : E.length ≤ 1048576 := hl
  generalize (img E).length = il at *
  clear hE hx hg hIl hIb hkk hr hQ hm hc hCl hl
  generalize E.length = n at *
  go_enter Tryd.func3, Tryd.ntmps3
  go_wp2_with (first
    | (go_at_call 4; refine CF.out.mono ?_; clear CF; rintro e W1 ⟨rfl, k1⟩; have K1 := hideQ k1; clear k1)
    | (go_at_call 5; refine (CR.out _ K1.out).mono ?_; clear CR; rintro e W2 ⟨⟨va, vc, rfl, hb2⟩, k2⟩; have K2 := hideQ (K1.out.trans k2 (fun _ f => f.elim)); have HB2 := hideQ hb2; clear K1 k2 hb2)
    | (go_at_call 6; refine (CB.out _ K2.out).mono ?_; clear CB; rintro e W3 ⟨⟨ua, uc, rfl, hb3⟩, k3⟩; have K3 := hideQ (K2.out.trans k3 (fun _ f => f.elim)); have HB3 := hideQ hb3; have HB23 := hideQ (HB2.out.keptO k3); clear K2 k3 hb3 HB2)
    | (go_at_call 7; refine (CNn.out _).mono ?_; clear CNn; rintro e W4 ⟨rfl, h4⟩; subst h4)
    | (go_at_call 8; refine (CQ.out _ _ _ _ _ HB3.out HB23.out).mono ?_; clear CQ; rintro e W5 ⟨rfl, h5⟩; subst h5)
    | (go_at_call 9; refine (CO.out _ _ _ K3.out HB23.out).mono ?_; clear CO; rintro e W6 ⟨⟨bd, vd, rfl, hD⟩, k6⟩; have K6 := hideQ (K3.out.trans k6 (fun _ f => f.elim)); have HD6 := hideQ hD; clear K3 k6 hD HB3 HB23))
  go_loopw [52] (fun iv wr => ∃ (k : Nat), k ≤ m ∧ iv = .int .i64 k ∧ Hid (Kept (fun _ => False) W6 wr)) (fun iv _ => m - (intOf iv).toNat)
  case atStart => exact ⟨0, by omega, rfl, hideQ (Kept.refl _ _)⟩
  case round =>
    obtain ⟨k, hk, rfl, HK⟩ := hrel
    by_cases hlt : k < m
    · have hkz : (k : Int) < (m : Int) := by omega
      have hkq : k < Q.length := by rw [← HM.out]; exact hlt
      obtain ⟨b, off, haq, hcell⟩ := HQ.out (by intro e; rw [e] at hkq; simp at hkq)
      subst haq
      obtain ⟨⟨r0, r1, r2⟩, hin⟩ := hcell k hkq
      have KW := K6.out.trans HK.out (fun _ f => f.elim)
      have x0 := KW.cell r0 (fun f => f)
      have x1 := KW.cell r1 (fun f => f)
      have x2 := KW.cell r2 (fun f => f)
      have HKW := hideQ KW
      have HIN := hideQ hin
      generalize Q[k] = y at x0 x1 x2 HIN
      obtain ⟨yk, yi, ys⟩ := y
      dsimp only at x0 x1 x2 HIN
      have KA := Kept.alloc wr (.cells #[.int .i64 yk, .int .i64 yi, .string ys] 38)
      have CA1 := hideQ (CA.out (wr.alloc (.cells #[.int .i64 yk, .int .i64 yi, .string ys] 38)) _ bd vd yk yi ys (HKW.out.trans KA (fun _ f => f.elim)) ((HD6.out.kept HK.out).kept KA) HIN.out)
      have HKA := hideQ (HK.out.trans KA (fun _ f => f.elim))
      clear KW KA hin r0 r1 r2 hcell hkq HK CA
      go_wp2_with (go_at_call 10; refine CA1.out.mono ?_; clear CA1; rintro e W8 ⟨rfl, k8⟩; have HK8 := hideQ (HKA.out.trans k8 (fun _ f => f.elim)); clear k8 HKA)
      go_roundw
      case rel => exact ⟨k + 1, by omega, by go_num, HK8⟩
      case measure => simp [intOf] <;> omega
    · obtain rfl : k = m := by omega
      have hkz : ¬ (k : Int) < (k : Int) := by omega
      have CA1 := hideQ (CA.out wr _ bd vd 6 0 ⟨#[]⟩ (K6.out.trans HK.out (fun _ f => f.elim)) (HD6.out.kept HK.out) ⟨by decide, by decide⟩)
      have HKF := hideQ (K6.out.trans HK.out (fun _ f => f.elim))
      clear CA HK HQ
      go_wp2_with (go_at_call 10; refine CA1.out.mono ?_; clear CA1; rintro e W8 ⟨rfl, k8⟩; have HK8 := hideQ (HKF.out.trans k8 (fun _ f => f.elim)); clear k8 HKF)
      go_ret
      exact ⟨rfl, HK8.out⟩
/-- The law. -/
theorem plays_all (hCl : ClnOk) (E : List En) (Q : List Aq) (a aq : Option Addr) (c cq : Nat) (ad : Nat → Addr) (w : World) (hE : EsAt w a E) (hl : E.length ≤ 1048576) (hc : E.length ≤ c) (hQ : AqAt w aq Q) (hmb : Q.length ≤ 1048576) (hx : Errs13 w ad) :
    Calls Tryd.prog 3 #[.slice a E.length c, .slice aq Q.length cq] w fun e w' => e = .returned (.bool true) ∧ Kept (fun _ => False) w w' := by
  cases hg : E.all genB with
  | false => exact plays_no 3 (ad 2) E a aq c Q.length cq ad w hE hl hx (.inl ⟨rfl, hg⟩) (fun W k => build_lim E a c (ad 2) W (hE.kept k) (by omega) (hx.kept k).s2.var hg) (fun W k => num_limit (hx.kept k))
  | true =>
    by_cases hr : Rises E
    · exact plays_yes hCl E Q a aq c Q.length cq ad w hE hl hc hQ rfl hmb hx (good_of (all_gen.1 hg) hr)
    · exact plays_no 4 (ad 3) E a aq c Q.length cq ad w hE hl hx (.inr ⟨rfl, hg, hr⟩) (fun W k => build_ord E a c (ad 3) W (hE.kept k) (by omega) (hx.kept k).s3.var hg hr) (fun W k => num_order (hx.kept k))
end Go.Proofs.YteeimpjjmdpbgaaDoor
