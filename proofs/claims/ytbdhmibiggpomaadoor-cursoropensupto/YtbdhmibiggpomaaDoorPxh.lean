import Derived.Test.YtbdhmibiggpomaaDoorPxg
import Derived.Test.YtbdhmibiggpomaaDoorPos
import Derived.Test.YtbdhmibiggpomaaDoorPou
namespace Go.Proofs.YtbdhmibiggpomaaDoor
open Go.ChangeShapes Go.WideShapes Go.ChangeAt Go.RowKit

theorem opn_small {l : List Int} {L : List Po} (hI : IsBytes l) (h : opn l = some L) : tot L ≤ l.length ∧ L.length ≤ l.length := by
  obtain ⟨h1, h2, -⟩ := opn_back hI h
  have t1 := tot_bkb (L := L) (b := -1) rfl
  have t2 := len_tot h2
  have h3 := congrArg List.length h1
  unfold img at h3
  rw [List.length_append, List.length_append, List.length_append] at h3
  omega
set_option maxRecDepth 20000 in
set_option maxHeartbeats 8000000 in
/-- The law PostsDecodes. -/
theorem decodes_walk (l : List Int) (a : Option Addr) (c : Nat) (ad : Nat → Addr) (w : World) (hB : BytesAt w a l) (hI : IsBytes l) (hl : l.length ≤ 1048576) (hc : l.length ≤ c) (hE : Errs13 w ad) :
    Calls Tryd.prog 3 #[.slice a l.length c] w fun e w' => e = .returned (.bool true) ∧ Kept (fun _ => False) w w' := by
  have HE := hideP hE
  have CV := hideP (plives_any ad _ hE.toQ)
  have CP : Hid (∀ W, Kept (fun _ => False) w W → Calls Tryd.prog 6 #[.slice a l.length c] W fun e w' => dePost (ad 9) W e w' (opn l)) := hideP (fun W k => pdecode_any l a c ad W (hB.kept k) hI (by omega) hc (hE.kept k).toP (hE.kept k).s9.var)
  have CR : Hid (∀ W, Kept (fun _ => False) w W → Calls Tryd.prog 7 #[.slice a l.length c] W fun e w' => ddP W e w' (opn l)) := hideP (fun W k => ddec_any l a l.length c W rfl (hB.kept k) hI hl)
  have CO : Hid (∀ W, Kept (fun _ => False) w W → Calls Tryd.prog 10 #[.slice a l.length c] W fun e w' => opPost l (ad 9) W e w' (opn l)) := hideP (fun W k => popen_any l a c ad W (hB.kept k) hI (by omega) (hE.kept k).toP (hE.kept k).s9.var)
  have CNc : Hid (∀ W, Kept (fun _ => False) w W → Calls Tryd.prog 9 #[.iface 176 (.pointer (some (ad 9)))] W fun e w' => e = .returned (.int .i64 10) ∧ w' = W) := hideP (fun W k => num_corrupt (hE.kept k))
  have HSm : Hid (∀ L, opn l = some L → tot L ≤ 1048576 ∧ L.length ≤ 1048576) := hideP (fun L h => by have := opn_small hI h; omega)
  obtain ⟨n, hn⟩ : ∃ n, n = l.length := ⟨_, rfl⟩
  rw [← hn] at CP CR CO ⊢
  clear hB hI hl hc hE hn
  cases ho : opn l with
  | none =>
    rw [ho] at CP CR CO
    clear HSm ho
    go_enter Tryd.func3, Tryd.ntmps3
    go_wp2_with (go_at_call 5; refine StpQ.go ?_)
    refine ⟨?_⟩
    refine CV.out.mono ?_
    clear CV
    rintro e W1 ⟨rfl, k1⟩
    have CP1 := hideP (CP.out W1 k1)
    have HK1 := hideP k1
    clear CP k1
    go_wp2_with (go_at_call 6; refine StpQ.go ?_)
    refine ⟨?_⟩
    refine CP1.out.mono ?_
    clear CP1
    rintro e W2 ⟨rfl, k2⟩
    have hk2 := HK1.out.trans k2 (fun _ f => f.elim)
    have CR2 := hideP (CR.out W2 hk2)
    have HK2 := hideP hk2
    rw [show errV (ad 9) = .iface 176 (.pointer (some (ad 9))) from rfl]
    clear CR k2 hk2 HK1
    go_wp2_with (go_at_call 7; refine StpQ.go ?_)
    refine ⟨?_⟩
    refine CR2.out.mono ?_
    clear CR2
    rintro e W3 ⟨rfl, k3⟩
    have hk3 := HK2.out.trans k3 (fun _ f => f.elim)
    have CS := hideP (psame_true [] [] none none 0 0 W3 (fun e => (e rfl).elim) (fun e => (e rfl).elim) rfl (by simp) (by decide))
    simp only [List.length_nil] at CS
    have HK3 := hideP hk3
    clear k3 hk3 HK2
    go_wp2_with (go_at_call 8; refine StpQ.go ?_)
    refine ⟨?_⟩
    refine CS.out.mono ?_
    clear CS
    rintro e W4 ⟨rfl, k4⟩
    have hk4 := HK3.out.trans k4 (fun _ f => f.elim)
    have CN4 := hideP (CNc.out W4 hk4)
    have CO4 := hideP (CO.out W4 hk4)
    have HK4 := hideP hk4
    clear k4 hk4 HK3 CO
    go_wp2_with (first
      | (go_at_call 9; refine CN4.out.mono ?_; clear CN4; rintro e W5 ⟨rfl, h5⟩; obtain rfl := h5.symm)
      | (go_at_call 10; refine StpQ.go ?_))
    refine ⟨?_⟩
    refine CO4.out.mono ?_
    clear CO4
    rintro e W6 ⟨rfl, k6⟩
    have hk6 := HK4.out.trans k6 (fun _ f => f.elim)
    have CN6 := hideP (CNc.out W6 hk6)
    have HK6 := hideP hk6
    rw [show errV (ad 9) = .iface 176 (.pointer (some (ad 9))) from rfl]
    clear k6 hk6 HK4 CNc
    go_wp2_with (go_at_call 9; refine CN6.out.mono ?_; clear CN6; rintro e W7 ⟨rfl, h7⟩; obtain rfl := h7.symm)
    go_ret
    exact ⟨rfl, HK6.out⟩
  | some L =>
    obtain ⟨hs1, hs2⟩ := HSm.out L ho
    rw [ho] at CP CR CO
    clear HSm ho CNc
    go_enter Tryd.func3, Tryd.ntmps3
    go_wp2_with (go_at_call 5; refine StpQ.go ?_)
    refine ⟨?_⟩
    refine CV.out.mono ?_
    clear CV
    rintro e W1 ⟨rfl, k1⟩
    have CP1 := hideP (CP.out W1 k1)
    have HK1 := hideP k1
    clear CP k1
    go_wp2_with (go_at_call 6; refine StpQ.go ?_)
    refine ⟨?_⟩
    refine CP1.out.mono ?_
    clear CP1
    rintro e W2 ⟨PA, pa, pc, hpA, rfl, hPA, -, k2⟩
    have hk2 := HK1.out.trans k2 (fun _ f => f.elim)
    have CR2 := hideP (CR.out W2 hk2)
    have HK2 := hideP hk2
    have HPA := hideP hPA
    have HpA := hideP hpA
    obtain ⟨na, hna⟩ : ∃ na, na = PA.length := ⟨_, rfl⟩
    rw [← hna]
    have HNA := hideP hna
    clear CR k2 hk2 HK1 hPA hpA hna
    go_wp2_with (go_at_call 7; refine StpQ.go ?_)
    refine ⟨?_⟩
    refine CR2.out.mono ?_
    clear CR2
    rintro e W3 ⟨PB, qa, qc, hpB, rfl, hPB, k3⟩
    have hk3 := HK2.out.trans k3 (fun _ f => f.elim)
    have CS := hideP (psame_true PA PB pa qa pc qc W3 (HPA.out.kept k3) hPB (by rw [HpA.out, hpB]) (by rw [← pol_len, HpA.out]; omega) (by rw [HpA.out]; omega))
    rw [← HNA.out] at CS
    obtain ⟨nb, hnb⟩ : ∃ nb, nb = PB.length := ⟨_, rfl⟩
    rw [← hnb] at CS ⊢
    have HK3 := hideP hk3
    clear k3 hk3 HK2 hPB hpB hnb
    go_wp2_with (go_at_call 8; refine StpQ.go ?_)
    refine ⟨?_⟩
    refine CS.out.mono ?_
    clear CS
    rintro e W4 ⟨rfl, k4⟩
    have hk4 := HK3.out.trans k4 (fun _ f => f.elim)
    have CN4 := hideP (num_nil W4)
    have CO4 := hideP (CO.out W4 hk4)
    have HK4 := hideP hk4
    clear k4 hk4 HK3 CO
    go_wp2_with (first
      | (go_at_call 9; refine CN4.out.mono ?_; clear CN4; rintro e W5 ⟨rfl, h5⟩; obtain rfl := h5.symm)
      | (go_at_call 10; refine StpQ.go ?_))
    refine ⟨?_⟩
    refine CO4.out.mono ?_
    clear CO4
    rintro e W6 ⟨bl, g, h, sa, sc, rfl, -, -, -, k6⟩
    have hk6 := HK4.out.trans k6 (fun _ f => f.elim)
    have CN6 := hideP (num_nil W6)
    have HK6 := hideP hk6
    clear k6 hk6 HK4
    go_wp2_with (go_at_call 9; refine CN6.out.mono ?_; clear CN6; rintro e W7 ⟨rfl, h7⟩; obtain rfl := h7.symm)
    go_ret
    exact ⟨rfl, HK6.out⟩
end Go.Proofs.YtbdhmibiggpomaaDoor
