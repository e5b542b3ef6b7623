import Derived.Test.YtjcoajgndehccaaDoorNrg
import Derived.Test.YtjcoajgndehccaaDoorDwb
import Derived.Test.YtjcoajgndehccaaDoorDlf
import Derived.Test.YtjcoajgndehccaaDoorCln
namespace Go.Proofs.YtjcoajgndehccaaDoor
open Go.ChangeShapes Go.WideShapes Go.ChangeAt Go.RowKit

theorem errsO13 {w : World} {ad : Nat → Addr} (h : Errs13 w ad) : ErO w ad := ⟨h.s0.var, h.s1.var, h.s2.var, h.s4.var, h.s9.var⟩
theorem dblocks_any (w : World) (ws bd : Nat) (va : Value) (E : List En) (h : Dct w ws bd va E) (hn : E.length ≤ 1099511627776) : Calls Tryd.prog 30 #[.pointer (some ⟨bd, 0, none⟩)] w fun e w' => e = .returned (.int .i64 (nbk E.length : Nat)) ∧ w' = w := by
  have hc := h.cell
  obtain ⟨a, c, rfl⟩ := h.shape
  have CB := hideQ (blocksOf_any E.length w hn)
  clear h
  generalize E.length = n at *
  generalize nbk n = nb at *
  go_enter Tryd.func30, Tryd.ntmps30
  go_wp2_with (go_at_call 43; refine CB.out.mono ?_; clear CB; rintro e W1 ⟨rfl, rfl⟩)
  go_ret
  exact ⟨rfl, rfl⟩
set_option maxRecDepth 20000 in
set_option maxHeartbeats 4000000 in
/-- The law's answer to how great it is. -/
theorem answer_size (w : World) (ws bd : Nat) (va : Value) (E : List En) (a : Option Addr) (c : Nat) (h : Dct w ws bd va E) (hn : E.length ≤ 1073741824) :
    Calls Tryd.prog 8 #[.pointer (some ⟨bd, 0, none⟩), .slice a E.length c, .agg #[.int .i64 6, .int .i64 0, .string ⟨#[]⟩]] w fun e w' => e = .returned (.bool true) ∧ Kept (fun _ => False) w w' := by
  obtain ⟨nb, hnb⟩ : ∃ nb, nb = nbk E.length := ⟨_, rfl⟩
  have KA := Kept.alloc w (.cells #[.int .i64 6, .int .i64 0, .string ⟨#[]⟩] 35)
  have CL := hideQ (len_any _ ws bd va E (h.kept KA))
  have CB := hideQ (dblocks_any _ ws bd va E (h.kept KA) (by omega))
  rw [← hnb] at CB
  have HK := hideQ KA
  obtain ⟨n, hN⟩ : ∃ n, n = E.length := ⟨_, rfl⟩
  rw [← hN] at hn CL hnb ⊢
  have t0 : IntKind.i64.wrap ((n : Int) + 15) = (n : Int) + 15 := by rw [IntKind.wrap_i64]; omega
  have t1 : ((n : Int) + 15).tdiv 16 = (nb : Int) := by rw [Int.tdiv_eq_ediv_of_nonneg (by omega), hnb, nbk]; omega
  have t2 : ((n : Int) + 15) / 16 = (nb : Int) := by rw [hnb, nbk]; omega
  have t3 : ((n : Int) == (n : Int)) = true := by simp
  have t4 : ((nb : Int) == (nb : Int)) = true := by simp
  clear h hN hnb KA
  go_enter Tryd.func8, Tryd.ntmps8
  go_wp2_with (first
    | (go_at_call 14; refine CL.out.mono ?_; rintro e V1 ⟨rfl, h1⟩; obtain rfl := h1.symm)
    | (go_at_call 30; refine CB.out.mono ?_; rintro e V2 ⟨rfl, h2⟩; obtain rfl := h2.symm))
  go_ret
  exact ⟨by first | rfl | simp, HK.out⟩
set_option maxRecDepth 20000 in
set_option maxHeartbeats 8000000 in
/-- The law DictOpens. -/
theorem dopens_walk (hC : ClnOk) (l : List Int) (a : Option Addr) (c : Nat) (ad : Nat → Addr) (w : World) (hB : BytesAt w a l) (hI : IsBytes l) (hl : l.length ≤ 1048576) (hc : l.length ≤ c) (hE : Errs13 w ad) :
    Calls Tryd.prog 3 #[.slice a l.length c] w fun e w' => e = .returned (.bool true) ∧ Kept (fun _ => False) w w' := by
  have CF := hideQ (fixed_any ad w hE)
  have CR : Hid (∀ V, Kept (fun _ => False) w V → Calls Tryd.prog 5 #[.slice a l.length c] V (roPost (opn l) V)) := hideQ (fun V k => ropen_any l a l.length c V rfl (hB.keptO k) hI (by omega) hc)
  have CO : Hid (∀ V, Kept (fun _ => False) w V → Calls Tryd.prog 6 #[.slice a l.length c] V fun e w' => opPost V.heap.size (ad 9) (opn l) e w' ∧ Kept (fun _ => False) V w') := hideQ (fun V k => open_any l a c ad V (hB.keptO k) hI (by omega) (errsO13 (hE.kept k)))
  have HEE := hideQ hE
  have HBk : Hid (∀ E, opn l = some E → E.length ≤ 1048576 ∧ ∀ e ∈ E, e.k.size ≤ 281474976710656) := hideQ (fun E h => by
    obtain ⟨-, g, h3⟩ := opn_back hI h
    exact ⟨by omega, fun e he => by have := (g.gen e he).k2; omega⟩)
  generalize l.length = n at *
  cases ho : opn l with
  | none =>
    rw [ho] at CR CO
    clear hB hI hE ho HBk
    go_enter Tryd.func3, Tryd.ntmps3
    go_wp2_with (go_at_call 4; refine Stp.go ?_)
    refine ⟨?_⟩
    refine CF.out.mono ?_
    clear CF
    rintro e W1 ⟨rfl, k1⟩
    have CR1 := hideQ (CR.out W1 k1)
    have HK1 := hideQ k1
    clear CR k1
    go_wp2_with (go_at_call 5; refine Stp.go ?_)
    refine ⟨?_⟩
    refine CR1.out.mono ?_
    clear CR1
    rintro e W2 ⟨hr, k2⟩
    rcases hr with ⟨-, rfl⟩ | ⟨E, va, vc, h, -, -⟩
    case inr => cases h
    have hk2 := HK1.out.trans k2 (fun _ f => f.elim)
    have CO2 := hideQ (CO.out W2 hk2)
    have HK2 := hideQ hk2
    clear CO k2 hk2 HK1
    go_wp2_with (go_at_call 6; refine Stp.go ?_)
    refine ⟨?_⟩
    refine CO2.out.mono ?_
    clear CO2
    rintro e W3 ⟨hp, k3⟩
    obtain rfl : e = .returned (.tuple #[.pointer none, errV (ad 9)]) := hp
    rw [show errV (ad 9) = .iface 118 (.pointer (some (ad 9))) from rfl]
    have hk3 := HK2.out.trans k3 (fun _ f => f.elim)
    have CN3 := hideQ (num_corrupt (HEE.out.kept hk3))
    have HK3 := hideQ hk3
    clear k3 hk3 HK2 HEE
    go_wp2_with (go_at_call 7; refine CN3.out.mono ?_; clear CN3; rintro e W5 ⟨rfl, h5⟩; obtain rfl := h5.symm)
    go_ret
    exact ⟨rfl, HK3.out⟩
  | some E0 =>
    obtain ⟨hb1, hb2⟩ := HBk.out E0 ho
    rw [ho] at CR CO
    have HB2 := hideQ hb2
    clear hB hI hE ho HBk HEE hb2
    go_enter Tryd.func3, Tryd.ntmps3
    go_wp2_with (go_at_call 4; refine Stp.go ?_)
    refine ⟨?_⟩
    refine CF.out.mono ?_
    clear CF
    rintro e W1 ⟨rfl, k1⟩
    have CR1 := hideQ (CR.out W1 k1)
    have HK1 := hideQ k1
    clear CR k1
    go_wp2_with (go_at_call 5; refine Stp.go ?_)
    refine ⟨?_⟩
    refine CR1.out.mono ?_
    clear CR1
    rintro e W2 ⟨hr, k2⟩
    rcases hr with ⟨h, -⟩ | ⟨E, va, vc, h, rfl, hEs⟩
    case inl => cases h
    obtain rfl : E0 = E := Option.some.inj h
    have hk2 := HK1.out.trans k2 (fun _ f => f.elim)
    have CO2 := hideQ (CO.out W2 hk2)
    have HK2 := hideQ hk2
    have HEs := hideQ hEs
    clear CO k2 hk2 HK1 hEs h
    go_wp2_with (go_at_call 6; refine Stp.go ?_)
    refine ⟨?_⟩
    refine CO2.out.mono ?_
    clear CO2
    rintro e W3 ⟨hp, k3⟩
    obtain ⟨bd, vd, rfl, hD⟩ := hp
    have hk3 := HK2.out.trans k3 (fun _ f => f.elim)
    have CN3 := hideQ (num_nil W3)
    have CA := hideQ (answer_size W3 W2.heap.size bd vd E0 va vc hD (by omega))
    have CW : Hid (∀ V, Kept (fun _ => False) W3 V → Calls Tryd.prog 9 #[.pointer (some ⟨bd, 0, none⟩), .slice va E0.length vc, .int .i64 0] V fun e w' => e = .returned (.bool true) ∧ Kept (fun _ => False) V w') := hideQ (fun V k => walked_any hC 0 V W2.heap.size bd vd E0 va vc (hD.kept k) ((HEs.out.kept k3).kept k) (by omega) HB2.out (by decide) (by decide))
    have HK3 := hideQ hk3
    generalize E0.length = en at *
    clear k3 hk3 HK2 hD HEs HB2
    go_wp2_with (first
      | (go_at_call 7; refine CN3.out.mono ?_; clear CN3; rintro e W5 ⟨rfl, h5⟩; obtain rfl := h5.symm)
      | (go_at_call 8; refine Stp.go ?_))
    refine ⟨?_⟩
    refine CA.out.mono ?_
    clear CA
    rintro e W6 ⟨rfl, k6⟩
    have CW6 := hideQ (CW.out W6 k6)
    have HK6 := hideQ (HK3.out.trans k6 (fun _ f => f.elim))
    clear CW k6 HK3
    go_wp2_with (go_at_call 9; refine Stp.go ?_)
    refine ⟨?_⟩
    refine CW6.out.mono ?_
    clear CW6
    rintro e W7 ⟨rfl, k7⟩
    have HK7 := hideQ (HK6.out.trans k7 (fun _ f => f.elim))
    clear k7
    go_wp2
    go_ret
    exact ⟨rfl, HK7.out⟩
end Go.Proofs.YtjcoajgndehccaaDoor
