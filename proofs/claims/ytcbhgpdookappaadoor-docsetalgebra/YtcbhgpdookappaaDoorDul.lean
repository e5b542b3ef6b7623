import Derived.Test.YtcbhgpdookappaaDoorDuj
namespace Go.Proofs.YtcbhgpdookappaaDoor.Ds
open Go.ChangeShapes Go.WideShapes Go.ChangeAt Go.RowKit

set_option maxRecDepth 20000 in
set_option maxHeartbeats 16000000 in
/-- DocsetAlgebra, where both sets are made. -/
theorem alg_ok (n : Nat) (hn : n ≤ 1048576) (A B : Nat → Nat) (aA aB : Option Addr) (cA mA cB mB : Nat) (ad : Nat → Addr) (w : World) (hE : Errs14 w ad) (hD : DbAt w)
    (hOa : ∀ W, Kept (fun _ => False) w W → Calls Tryd.prog 18 #[.int .i64 n, .slice aA mA cA] W fun e w' => ∃ p, e = .returned (.tuple #[.pointer (some ⟨p, 0, none⟩), .nilIface]) ∧ SetQ w' n p A ∧ Kept (fun _ => False) W w')
    (hOb : ∀ W, Kept (fun _ => False) w W → Calls Tryd.prog 18 #[.int .i64 n, .slice aB mB cB] W fun e w' => ∃ p, e = .returned (.tuple #[.pointer (some ⟨p, 0, none⟩), .nilIface]) ∧ SetQ w' n p B ∧ Kept (fun _ => False) W w') :
    Calls Tryd.prog 5 #[.int .i64 n, .slice aA mA cA, .slice aB mB cB] w fun e w' => e = .returned (.bool true) ∧ Kept (fun _ => False) w w' := by
  have HFX := hideD (fixed_any ad w hE hD)
  have HD := hideD hD
  have HOA := hideD hOa
  have HOB := hideD hOb
  have HN := hideD hn
  obtain ⟨LA, hLA⟩ : ∃ L, L = encS n A := ⟨_, rfl⟩
  obtain ⟨LB, hLB⟩ : ∃ L, L = encS n B := ⟨_, rfl⟩
  obtain ⟨kS, hkS⟩ : ∃ k, k = cnt A n := ⟨_, rfl⟩
  obtain ⟨kT, hkT⟩ : ∃ k, k = cnt B n := ⟨_, rfl⟩
  obtain ⟨kA, hkA⟩ : ∃ k, k = cnt (joinW andB A B) n := ⟨_, rfl⟩
  obtain ⟨kO, hkO⟩ : ∃ k, k = cnt (joinW orB A B) n := ⟨_, rfl⟩
  obtain ⟨kN, hkN⟩ : ∃ k, k = cnt (notW n A) n := ⟨_, rfl⟩
  have HLA := hideD hLA
  have HLB := hideD hLB
  have HkS := hideD hkS
  have HkT := hideD hkT
  have HkA := hideD hkA
  have HkO := hideD hkO
  have HkN := hideD hkN
  clear hE hD hOa hOb hn hLA hLB hkS hkT hkA hkO hkN
  go_enter Tryd.func5, Tryd.ntmps5
  go_wp2_with fail
  go_at_call 8
  refine HFX.out.mono ?_
  clear HFX
  rintro e W1 ⟨rfl, K⟩
  have HK := hideD K
  clear K
  have CX := hideD (HOA.out _ HK.out)
  go_wp2_with fail
  go_at_call 18
  refine CX.out.mono ?_
  clear CX
  rintro e W2 ⟨qS, rfl, NS, K⟩
  replace HK := hideD (HK.out.trans K (fun _ f => f.elim))
  clear K
  have HS := hideD NS
  clear NS
  have HTA := hideD HS.out.tight
  have CX := hideD (HOB.out _ HK.out)
  go_wp2_with fail
  go_at_call 18
  refine CX.out.mono ?_
  clear CX
  rintro e W3 ⟨qT, rfl, NT, K⟩
  replace HS := hideD (HS.out.kept K)
  replace HK := hideD (HK.out.trans K (fun _ f => f.elim))
  clear K
  have HT := hideD NT
  clear NT
  have HTB := hideD HT.out.tight
  have CX := hideD (encodeQ HS.out (DbAt.keptW HD.out HK.out (fun f => f)))
  rw [← HLA.out] at CX
  go_wp2_with fail
  go_at_call 11
  refine CX.out.mono ?_
  clear CX
  rintro e W4 ⟨ga, rfl, Na, K⟩
  replace HS := hideD (HS.out.kept K)
  replace HT := hideD (HT.out.kept K)
  replace HK := hideD (HK.out.trans K (fun _ f => f.elim))
  clear K
  have Ba := hideD Na
  clear Na
  have CX := hideD (encodeQ HT.out (DbAt.keptW HD.out HK.out (fun f => f)))
  rw [← HLB.out] at CX
  go_wp2_with fail
  go_at_call 11
  refine CX.out.mono ?_
  clear CX
  rintro e W5 ⟨gb, rfl, Nb, K⟩
  replace HS := hideD (HS.out.kept K)
  replace HT := hideD (HT.out.kept K)
  replace Ba := hideD (BytesAt.keptS Ba.out K)
  replace HK := hideD (HK.out.trans K (fun _ f => f.elim))
  clear K
  have Bb := hideD Nb
  clear Nb
  have CX := hideD (notQ HS.out)
  go_wp2_with fail
  go_at_call 26
  refine CX.out.mono ?_
  clear CX
  rintro e W6 ⟨qNS, rfl, NNS, K⟩
  replace HS := hideD (HS.out.kept K)
  replace HT := hideD (HT.out.kept K)
  replace Ba := hideD (BytesAt.keptS Ba.out K)
  replace Bb := hideD (BytesAt.keptS Bb.out K)
  replace HK := hideD (HK.out.trans K (fun _ f => f.elim))
  clear K
  have HNS := hideD NNS
  clear NNS
  have CX := hideD (notQ HT.out)
  go_wp2_with fail
  go_at_call 26
  refine CX.out.mono ?_
  clear CX
  rintro e W7 ⟨qNT, rfl, NNT, K⟩
  replace HS := hideD (HS.out.kept K)
  replace HT := hideD (HT.out.kept K)
  replace Ba := hideD (BytesAt.keptS Ba.out K)
  replace Bb := hideD (BytesAt.keptS Bb.out K)
  replace HNS := hideD (HNS.out.kept K)
  replace HK := hideD (HK.out.trans K (fun _ f => f.elim))
  clear K
  have HNT := hideD NNT
  clear NNT
  have CX := hideD (joinAQ HS.out HT.out)
  go_wp2_with fail
  go_at_call 27
  refine CX.out.mono ?_
  clear CX
  rintro e W8 ⟨qAN, rfl, NAN, K⟩
  replace HS := hideD (HS.out.kept K)
  replace HT := hideD (HT.out.kept K)
  replace Ba := hideD (BytesAt.keptS Ba.out K)
  replace Bb := hideD (BytesAt.keptS Bb.out K)
  replace HNS := hideD (HNS.out.kept K)
  replace HNT := hideD (HNT.out.kept K)
  replace HK := hideD (HK.out.trans K (fun _ f => f.elim))
  clear K
  have HAN := hideD NAN
  clear NAN
  have CX := hideD (joinOQ HS.out HT.out)
  go_wp2_with fail
  go_at_call 27
  refine CX.out.mono ?_
  clear CX
  rintro e W9 ⟨qOR, rfl, NOR, K⟩
  replace HS := hideD (HS.out.kept K)
  replace HT := hideD (HT.out.kept K)
  replace Ba := hideD (BytesAt.keptS Ba.out K)
  replace Bb := hideD (BytesAt.keptS Bb.out K)
  replace HNS := hideD (HNS.out.kept K)
  replace HNT := hideD (HNT.out.kept K)
  replace HAN := hideD (HAN.out.kept K)
  replace HK := hideD (HK.out.trans K (fun _ f => f.elim))
  clear K
  have HOR := hideD NOR
  clear NOR
  have CX := hideD (joinMQ HS.out HT.out)
  go_wp2_with fail
  go_at_call 27
  refine CX.out.mono ?_
  clear CX
  rintro e W10 ⟨qMI, rfl, NMI, K⟩
  replace HS := hideD (HS.out.kept K)
  replace HT := hideD (HT.out.kept K)
  replace Ba := hideD (BytesAt.keptS Ba.out K)
  replace Bb := hideD (BytesAt.keptS Bb.out K)
  replace HNS := hideD (HNS.out.kept K)
  replace HNT := hideD (HNT.out.kept K)
  replace HAN := hideD (HAN.out.kept K)
  replace HOR := hideD (HOR.out.kept K)
  replace HK := hideD (HK.out.trans K (fun _ f => f.elim))
  clear K
  have HMI := hideD NMI
  clear NMI
  have CX := hideD (notQ HNS.out)
  go_wp2_with fail
  go_at_call 26
  refine CX.out.mono ?_
  clear CX
  rintro e W11 ⟨qx1, rfl, Nx1, K⟩
  replace HS := hideD (HS.out.kept K)
  replace HT := hideD (HT.out.kept K)
  replace Ba := hideD (BytesAt.keptS Ba.out K)
  replace Bb := hideD (BytesAt.keptS Bb.out K)
  replace HNS := hideD (HNS.out.kept K)
  replace HNT := hideD (HNT.out.kept K)
  replace HAN := hideD (HAN.out.kept K)
  replace HOR := hideD (HOR.out.kept K)
  replace HMI := hideD (HMI.out.kept K)
  replace HK := hideD (HK.out.trans K (fun _ f => f.elim))
  clear K
  have Hx1 := hideD Nx1
  clear Nx1
  have CX := hideD (alikeQ Hx1.out HS.out (DbAt.keptW HD.out HK.out (fun f => f)) (fun i => by have h1 := HTA.out i; have h2 := HTB.out i; cases hx : mem A i <;> cases hy : mem B i <;> simp_all [mem_notW]))
  go_wp2_with fail
  go_at_call 28
  refine CX.out.mono ?_
  clear CX
  rintro e W12 ⟨rfl, K⟩
  clear Hx1
  replace HS := hideD (HS.out.kept K)
  replace HT := hideD (HT.out.kept K)
  replace Ba := hideD (BytesAt.keptS Ba.out K)
  replace Bb := hideD (BytesAt.keptS Bb.out K)
  replace HNS := hideD (HNS.out.kept K)
  replace HNT := hideD (HNT.out.kept K)
  replace HAN := hideD (HAN.out.kept K)
  replace HOR := hideD (HOR.out.kept K)
  replace HMI := hideD (HMI.out.kept K)
  replace HK := hideD (HK.out.trans K (fun _ f => f.elim))
  clear K
  have CX := hideD (notQ HAN.out)
  go_wp2_with fail
  go_at_call 26
  refine CX.out.mono ?_
  clear CX
  rintro e W13 ⟨qx2, rfl, Nx2, K⟩
  replace HS := hideD (HS.out.kept K)
  replace HT := hideD (HT.out.kept K)
  replace Ba := hideD (BytesAt.keptS Ba.out K)
  replace Bb := hideD (BytesAt.keptS Bb.out K)
  replace HNS := hideD (HNS.out.kept K)
  replace HNT := hideD (HNT.out.kept K)
  replace HAN := hideD (HAN.out.kept K)
  replace HOR := hideD (HOR.out.kept K)
  replace HMI := hideD (HMI.out.kept K)
  replace HK := hideD (HK.out.trans K (fun _ f => f.elim))
  clear K
  have Hx2 := hideD Nx2
  clear Nx2
  have CX := hideD (joinOQ HNS.out HNT.out)
  go_wp2_with fail
  go_at_call 27
  refine CX.out.mono ?_
  clear CX
  rintro e W14 ⟨qx3, rfl, Nx3, K⟩
  replace HS := hideD (HS.out.kept K)
  replace HT := hideD (HT.out.kept K)
  replace Ba := hideD (BytesAt.keptS Ba.out K)
  replace Bb := hideD (BytesAt.keptS Bb.out K)
  replace HNS := hideD (HNS.out.kept K)
  replace HNT := hideD (HNT.out.kept K)
  replace HAN := hideD (HAN.out.kept K)
  replace HOR := hideD (HOR.out.kept K)
  replace HMI := hideD (HMI.out.kept K)
  replace Hx2 := hideD (Hx2.out.kept K)
  replace HK := hideD (HK.out.trans K (fun _ f => f.elim))
  clear K
  have Hx3 := hideD Nx3
  clear Nx3
  have CX := hideD (alikeQ Hx2.out Hx3.out (DbAt.keptW HD.out HK.out (fun f => f)) (fun i => by have h1 := HTA.out i; have h2 := HTB.out i; cases hx : mem A i <;> cases hy : mem B i <;> simp_all [mem_notW, mem_joinA, mem_joinO]))
  go_wp2_with fail
  go_at_call 28
  refine CX.out.mono ?_
  clear CX
  rintro e W15 ⟨rfl, K⟩
  clear Hx2
  clear Hx3
  replace HS := hideD (HS.out.kept K)
  replace HT := hideD (HT.out.kept K)
  replace Ba := hideD (BytesAt.keptS Ba.out K)
  replace Bb := hideD (BytesAt.keptS Bb.out K)
  replace HNS := hideD (HNS.out.kept K)
  replace HNT := hideD (HNT.out.kept K)
  replace HAN := hideD (HAN.out.kept K)
  replace HOR := hideD (HOR.out.kept K)
  replace HMI := hideD (HMI.out.kept K)
  replace HK := hideD (HK.out.trans K (fun _ f => f.elim))
  clear K
  have CX := hideD (notQ HOR.out)
  go_wp2_with fail
  go_at_call 26
  refine CX.out.mono ?_
  clear CX
  rintro e W16 ⟨qx4, rfl, Nx4, K⟩
  replace HS := hideD (HS.out.kept K)
  replace HT := hideD (HT.out.kept K)
  replace Ba := hideD (BytesAt.keptS Ba.out K)
  replace Bb := hideD (BytesAt.keptS Bb.out K)
  replace HNS := hideD (HNS.out.kept K)
  replace HNT := hideD (HNT.out.kept K)
  replace HAN := hideD (HAN.out.kept K)
  replace HOR := hideD (HOR.out.kept K)
  replace HMI := hideD (HMI.out.kept K)
  replace HK := hideD (HK.out.trans K (fun _ f => f.elim))
  clear K
  have Hx4 := hideD Nx4
  clear Nx4
  have CX := hideD (joinAQ HNS.out HNT.out)
  go_wp2_with fail
  go_at_call 27
  refine CX.out.mono ?_
  clear CX
  rintro e W17 ⟨qx5, rfl, Nx5, K⟩
  replace HS := hideD (HS.out.kept K)
  replace HT := hideD (HT.out.kept K)
  replace Ba := hideD (BytesAt.keptS Ba.out K)
  replace Bb := hideD (BytesAt.keptS Bb.out K)
  replace HNS := hideD (HNS.out.kept K)
  replace HNT := hideD (HNT.out.kept K)
  replace HAN := hideD (HAN.out.kept K)
  replace HOR := hideD (HOR.out.kept K)
  replace HMI := hideD (HMI.out.kept K)
  replace Hx4 := hideD (Hx4.out.kept K)
  replace HK := hideD (HK.out.trans K (fun _ f => f.elim))
  clear K
  have Hx5 := hideD Nx5
  clear Nx5
  have CX := hideD (alikeQ Hx4.out Hx5.out (DbAt.keptW HD.out HK.out (fun f => f)) (fun i => by have h1 := HTA.out i; have h2 := HTB.out i; cases hx : mem A i <;> cases hy : mem B i <;> simp_all [mem_notW, mem_joinA, mem_joinO]))
  go_wp2_with fail
  go_at_call 28
  refine CX.out.mono ?_
  clear CX
  rintro e W18 ⟨rfl, K⟩
  clear Hx4
  clear Hx5
  replace HS := hideD (HS.out.kept K)
  replace HT := hideD (HT.out.kept K)
  replace Ba := hideD (BytesAt.keptS Ba.out K)
  replace Bb := hideD (BytesAt.keptS Bb.out K)
  replace HNS := hideD (HNS.out.kept K)
  replace HNT := hideD (HNT.out.kept K)
  replace HAN := hideD (HAN.out.kept K)
  replace HOR := hideD (HOR.out.kept K)
  replace HMI := hideD (HMI.out.kept K)
  replace HK := hideD (HK.out.trans K (fun _ f => f.elim))
  clear K
  have CX := hideD (joinAQ HS.out HNT.out)
  go_wp2_with fail
  go_at_call 27
  refine CX.out.mono ?_
  clear CX
  rintro e W19 ⟨qx6, rfl, Nx6, K⟩
  replace HS := hideD (HS.out.kept K)
  replace HT := hideD (HT.out.kept K)
  replace Ba := hideD (BytesAt.keptS Ba.out K)
  replace Bb := hideD (BytesAt.keptS Bb.out K)
  replace HNS := hideD (HNS.out.kept K)
  replace HNT := hideD (HNT.out.kept K)
  replace HAN := hideD (HAN.out.kept K)
  replace HOR := hideD (HOR.out.kept K)
  replace HMI := hideD (HMI.out.kept K)
  replace HK := hideD (HK.out.trans K (fun _ f => f.elim))
  clear K
  have Hx6 := hideD Nx6
  clear Nx6
  have CX := hideD (alikeQ HMI.out Hx6.out (DbAt.keptW HD.out HK.out (fun f => f)) (fun i => by have h1 := HTA.out i; have h2 := HTB.out i; cases hx : mem A i <;> cases hy : mem B i <;> simp_all [mem_notW, mem_joinA, mem_joinM]))
  go_wp2_with fail
  go_at_call 28
  refine CX.out.mono ?_
  clear CX
  rintro e W20 ⟨rfl, K⟩
  clear Hx6
  replace HS := hideD (HS.out.kept K)
  replace HT := hideD (HT.out.kept K)
  replace Ba := hideD (BytesAt.keptS Ba.out K)
  replace Bb := hideD (BytesAt.keptS Bb.out K)
  replace HNS := hideD (HNS.out.kept K)
  replace HNT := hideD (HNT.out.kept K)
  replace HAN := hideD (HAN.out.kept K)
  replace HOR := hideD (HOR.out.kept K)
  replace HMI := hideD (HMI.out.kept K)
  replace HK := hideD (HK.out.trans K (fun _ f => f.elim))
  clear K
  have CX := hideD (joinAQ HT.out HS.out)
  go_wp2_with fail
  go_at_call 27
  refine CX.out.mono ?_
  clear CX
  rintro e W21 ⟨qy1, rfl, Ny1, K⟩
  replace HS := hideD (HS.out.kept K)
  replace HT := hideD (HT.out.kept K)
  replace Ba := hideD (BytesAt.keptS Ba.out K)
  replace Bb := hideD (BytesAt.keptS Bb.out K)
  replace HNS := hideD (HNS.out.kept K)
  replace HNT := hideD (HNT.out.kept K)
  replace HAN := hideD (HAN.out.kept K)
  replace HOR := hideD (HOR.out.kept K)
  replace HMI := hideD (HMI.out.kept K)
  replace HK := hideD (HK.out.trans K (fun _ f => f.elim))
  clear K
  have Hy1 := hideD Ny1
  clear Ny1
  have CX := hideD (alikeQ Hy1.out HAN.out (DbAt.keptW HD.out HK.out (fun f => f)) (fun i => by have h1 := HTA.out i; have h2 := HTB.out i; cases hx : mem A i <;> cases hy : mem B i <;> simp_all [mem_joinA]))
  go_wp2_with fail
  go_at_call 28
  refine CX.out.mono ?_
  clear CX
  rintro e W22 ⟨rfl, K⟩
  clear Hy1
  replace HS := hideD (HS.out.kept K)
  replace HT := hideD (HT.out.kept K)
  replace Ba := hideD (BytesAt.keptS Ba.out K)
  replace Bb := hideD (BytesAt.keptS Bb.out K)
  replace HNS := hideD (HNS.out.kept K)
  replace HNT := hideD (HNT.out.kept K)
  replace HAN := hideD (HAN.out.kept K)
  replace HOR := hideD (HOR.out.kept K)
  replace HMI := hideD (HMI.out.kept K)
  replace HK := hideD (HK.out.trans K (fun _ f => f.elim))
  clear K
  have CX := hideD (joinOQ HT.out HS.out)
  go_wp2_with fail
  go_at_call 27
  refine CX.out.mono ?_
  clear CX
  rintro e W23 ⟨qy2, rfl, Ny2, K⟩
  replace HS := hideD (HS.out.kept K)
  replace HT := hideD (HT.out.kept K)
  replace Ba := hideD (BytesAt.keptS Ba.out K)
  replace Bb := hideD (BytesAt.keptS Bb.out K)
  replace HNS := hideD (HNS.out.kept K)
  replace HNT := hideD (HNT.out.kept K)
  replace HAN := hideD (HAN.out.kept K)
  replace HOR := hideD (HOR.out.kept K)
  replace HMI := hideD (HMI.out.kept K)
  replace HK := hideD (HK.out.trans K (fun _ f => f.elim))
  clear K
  have Hy2 := hideD Ny2
  clear Ny2
  have CX := hideD (alikeQ Hy2.out HOR.out (DbAt.keptW HD.out HK.out (fun f => f)) (fun i => by have h1 := HTA.out i; have h2 := HTB.out i; cases hx : mem A i <;> cases hy : mem B i <;> simp_all [mem_joinO]))
  go_wp2_with fail
  go_at_call 28
  refine CX.out.mono ?_
  clear CX
  rintro e W24 ⟨rfl, K⟩
  clear Hy2
  replace HS := hideD (HS.out.kept K)
  replace HT := hideD (HT.out.kept K)
  replace Ba := hideD (BytesAt.keptS Ba.out K)
  replace Bb := hideD (BytesAt.keptS Bb.out K)
  replace HNS := hideD (HNS.out.kept K)
  replace HNT := hideD (HNT.out.kept K)
  replace HAN := hideD (HAN.out.kept K)
  replace HOR := hideD (HOR.out.kept K)
  replace HMI := hideD (HMI.out.kept K)
  replace HK := hideD (HK.out.trans K (fun _ f => f.elim))
  clear K
  have CX := hideD (joinOQ HMI.out HAN.out)
  go_wp2_with fail
  go_at_call 27
  refine CX.out.mono ?_
  clear CX
  rintro e W25 ⟨qy3, rfl, Ny3, K⟩
  replace HS := hideD (HS.out.kept K)
  replace HT := hideD (HT.out.kept K)
  replace Ba := hideD (BytesAt.keptS Ba.out K)
  replace Bb := hideD (BytesAt.keptS Bb.out K)
  replace HNS := hideD (HNS.out.kept K)
  replace HNT := hideD (HNT.out.kept K)
  replace HAN := hideD (HAN.out.kept K)
  replace HOR := hideD (HOR.out.kept K)
  replace HMI := hideD (HMI.out.kept K)
  replace HK := hideD (HK.out.trans K (fun _ f => f.elim))
  clear K
  have Hy3 := hideD Ny3
  clear Ny3
  have CX := hideD (alikeQ Hy3.out HS.out (DbAt.keptW HD.out HK.out (fun f => f)) (fun i => by have h1 := HTA.out i; have h2 := HTB.out i; cases hx : mem A i <;> cases hy : mem B i <;> simp_all [mem_joinA, mem_joinO, mem_joinM]))
  go_wp2_with fail
  go_at_call 28
  refine CX.out.mono ?_
  clear CX
  rintro e W26 ⟨rfl, K⟩
  clear Hy3
  replace HS := hideD (HS.out.kept K)
  replace HT := hideD (HT.out.kept K)
  replace Ba := hideD (BytesAt.keptS Ba.out K)
  replace Bb := hideD (BytesAt.keptS Bb.out K)
  replace HNS := hideD (HNS.out.kept K)
  replace HNT := hideD (HNT.out.kept K)
  replace HAN := hideD (HAN.out.kept K)
  replace HOR := hideD (HOR.out.kept K)
  replace HMI := hideD (HMI.out.kept K)
  replace HK := hideD (HK.out.trans K (fun _ f => f.elim))
  clear K
  have CX := hideD (joinAQ HS.out HS.out)
  go_wp2_with fail
  go_at_call 27
  refine CX.out.mono ?_
  clear CX
  rintro e W27 ⟨qy4, rfl, Ny4, K⟩
  replace HS := hideD (HS.out.kept K)
  replace HT := hideD (HT.out.kept K)
  replace Ba := hideD (BytesAt.keptS Ba.out K)
  replace Bb := hideD (BytesAt.keptS Bb.out K)
  replace HNS := hideD (HNS.out.kept K)
  replace HNT := hideD (HNT.out.kept K)
  replace HAN := hideD (HAN.out.kept K)
  replace HOR := hideD (HOR.out.kept K)
  replace HMI := hideD (HMI.out.kept K)
  replace HK := hideD (HK.out.trans K (fun _ f => f.elim))
  clear K
  have Hy4 := hideD Ny4
  clear Ny4
  have CX := hideD (alikeQ Hy4.out HS.out (DbAt.keptW HD.out HK.out (fun f => f)) (fun i => by have h1 := HTA.out i; have h2 := HTB.out i; cases hx : mem A i <;> cases hy : mem B i <;> simp_all [mem_joinA]))
  go_wp2_with fail
  go_at_call 28
  refine CX.out.mono ?_
  clear CX
  rintro e W28 ⟨rfl, K⟩
  clear Hy4
  replace HS := hideD (HS.out.kept K)
  replace HT := hideD (HT.out.kept K)
  replace Ba := hideD (BytesAt.keptS Ba.out K)
  replace Bb := hideD (BytesAt.keptS Bb.out K)
  replace HNS := hideD (HNS.out.kept K)
  replace HNT := hideD (HNT.out.kept K)
  replace HAN := hideD (HAN.out.kept K)
  replace HOR := hideD (HOR.out.kept K)
  replace HMI := hideD (HMI.out.kept K)
  replace HK := hideD (HK.out.trans K (fun _ f => f.elim))
  clear K
  have hb1 : kA ≤ 1048576 := by have := cnt_le (joinW andB A B) n; have := HkA.out; have := HN.out; omega
  have hb2 : kO ≤ 1048576 := by have := cnt_le (joinW orB A B) n; have := HkO.out; have := HN.out; omega
  have hb3 : kS ≤ 1048576 := by have := cnt_le A n; have := HkS.out; have := HN.out; omega
  have hb4 : kT ≤ 1048576 := by have := cnt_le B n; have := HkT.out; have := HN.out; omega
  have hb5 : kN ≤ 1048576 := by have := cnt_le (notW n A) n; have := HkN.out; have := HN.out; omega
  have he1 : (((kA : Int) + kO) != ((kS : Int) + kT)) = false := by
    have h1 := cnt_andor A B n
    rw [← HkA.out, ← HkO.out, ← HkS.out, ← HkT.out] at h1
    rw [bne_eq_false_iff_eq]; omega
  have he2 : (((kN : Int) + kS) != (n : Int)) = false := by
    have h1 := cnt_not n A n (Nat.le_refl _)
    rw [← HkN.out, ← HkS.out] at h1
    rw [bne_eq_false_iff_eq]; omega
  have CX := hideD (countQ HAN.out)
  rw [← HkA.out] at CX
  go_wp2_with fail
  go_at_call 20
  refine CX.out.mono ?_
  clear CX
  rintro e W29 ⟨rfl, K⟩
  replace HS := hideD (HS.out.kept K)
  replace HT := hideD (HT.out.kept K)
  replace Ba := hideD (BytesAt.keptS Ba.out K)
  replace Bb := hideD (BytesAt.keptS Bb.out K)
  replace HNS := hideD (HNS.out.kept K)
  replace HNT := hideD (HNT.out.kept K)
  replace HAN := hideD (HAN.out.kept K)
  replace HOR := hideD (HOR.out.kept K)
  replace HMI := hideD (HMI.out.kept K)
  replace HK := hideD (HK.out.trans K (fun _ f => f.elim))
  clear K
  have CX := hideD (countQ HOR.out)
  rw [← HkO.out] at CX
  go_wp2_with fail
  go_at_call 20
  refine CX.out.mono ?_
  clear CX
  rintro e W30 ⟨rfl, K⟩
  replace HS := hideD (HS.out.kept K)
  replace HT := hideD (HT.out.kept K)
  replace Ba := hideD (BytesAt.keptS Ba.out K)
  replace Bb := hideD (BytesAt.keptS Bb.out K)
  replace HNS := hideD (HNS.out.kept K)
  replace HNT := hideD (HNT.out.kept K)
  replace HAN := hideD (HAN.out.kept K)
  replace HOR := hideD (HOR.out.kept K)
  replace HMI := hideD (HMI.out.kept K)
  replace HK := hideD (HK.out.trans K (fun _ f => f.elim))
  clear K
  have CX := hideD (countQ HS.out)
  rw [← HkS.out] at CX
  go_wp2_with fail
  go_at_call 20
  refine CX.out.mono ?_
  clear CX
  rintro e W31 ⟨rfl, K⟩
  replace HS := hideD (HS.out.kept K)
  replace HT := hideD (HT.out.kept K)
  replace Ba := hideD (BytesAt.keptS Ba.out K)
  replace Bb := hideD (BytesAt.keptS Bb.out K)
  replace HNS := hideD (HNS.out.kept K)
  replace HNT := hideD (HNT.out.kept K)
  replace HAN := hideD (HAN.out.kept K)
  replace HOR := hideD (HOR.out.kept K)
  replace HMI := hideD (HMI.out.kept K)
  replace HK := hideD (HK.out.trans K (fun _ f => f.elim))
  clear K
  have CX := hideD (countQ HT.out)
  rw [← HkT.out] at CX
  go_wp2_with fail
  go_at_call 20
  refine CX.out.mono ?_
  clear CX
  rintro e W32 ⟨rfl, K⟩
  replace HS := hideD (HS.out.kept K)
  replace HT := hideD (HT.out.kept K)
  replace Ba := hideD (BytesAt.keptS Ba.out K)
  replace Bb := hideD (BytesAt.keptS Bb.out K)
  replace HNS := hideD (HNS.out.kept K)
  replace HNT := hideD (HNT.out.kept K)
  replace HAN := hideD (HAN.out.kept K)
  replace HOR := hideD (HOR.out.kept K)
  replace HMI := hideD (HMI.out.kept K)
  replace HK := hideD (HK.out.trans K (fun _ f => f.elim))
  clear K
  have CX := hideD (countQ HNS.out)
  rw [← HkN.out] at CX
  go_wp2_with fail
  go_at_call 20
  refine CX.out.mono ?_
  clear CX
  rintro e W33 ⟨rfl, K⟩
  replace HS := hideD (HS.out.kept K)
  replace HT := hideD (HT.out.kept K)
  replace Ba := hideD (BytesAt.keptS Ba.out K)
  replace Bb := hideD (BytesAt.keptS Bb.out K)
  replace HNS := hideD (HNS.out.kept K)
  replace HNT := hideD (HNT.out.kept K)
  replace HAN := hideD (HAN.out.kept K)
  replace HOR := hideD (HOR.out.kept K)
  replace HMI := hideD (HMI.out.kept K)
  replace HK := hideD (HK.out.trans K (fun _ f => f.elim))
  clear K
  have CX := hideD (countQ HS.out)
  rw [← HkS.out] at CX
  go_wp2_with fail
  go_at_call 20
  refine CX.out.mono ?_
  clear CX
  rintro e W34 ⟨rfl, K⟩
  replace HS := hideD (HS.out.kept K)
  replace HT := hideD (HT.out.kept K)
  replace Ba := hideD (BytesAt.keptS Ba.out K)
  replace Bb := hideD (BytesAt.keptS Bb.out K)
  replace HNS := hideD (HNS.out.kept K)
  replace HNT := hideD (HNT.out.kept K)
  replace HAN := hideD (HAN.out.kept K)
  replace HOR := hideD (HOR.out.kept K)
  replace HMI := hideD (HMI.out.kept K)
  replace HK := hideD (HK.out.trans K (fun _ f => f.elim))
  clear K
  have CX := hideD (joinAQ HS.out HNS.out)
  go_wp2_with fail
  go_at_call 27
  refine CX.out.mono ?_
  clear CX
  rintro e W35 ⟨qz1, rfl, Nz1, K⟩
  replace HS := hideD (HS.out.kept K)
  replace HT := hideD (HT.out.kept K)
  replace Ba := hideD (BytesAt.keptS Ba.out K)
  replace Bb := hideD (BytesAt.keptS Bb.out K)
  replace HNS := hideD (HNS.out.kept K)
  replace HNT := hideD (HNT.out.kept K)
  replace HAN := hideD (HAN.out.kept K)
  replace HOR := hideD (HOR.out.kept K)
  replace HMI := hideD (HMI.out.kept K)
  replace HK := hideD (HK.out.trans K (fun _ f => f.elim))
  clear K
  have Hz1 := hideD Nz1
  clear Nz1
  clear Hz1
  have CX := hideD (joinAQ HS.out HNS.out)
  go_wp2_with fail
  go_at_call 27
  refine CX.out.mono ?_
  clear CX
  rintro e W36 ⟨qz2, rfl, Nz2, K⟩
  replace HS := hideD (HS.out.kept K)
  replace HT := hideD (HT.out.kept K)
  replace Ba := hideD (BytesAt.keptS Ba.out K)
  replace Bb := hideD (BytesAt.keptS Bb.out K)
  replace HNS := hideD (HNS.out.kept K)
  replace HNT := hideD (HNT.out.kept K)
  replace HAN := hideD (HAN.out.kept K)
  replace HOR := hideD (HOR.out.kept K)
  replace HMI := hideD (HMI.out.kept K)
  replace HK := hideD (HK.out.trans K (fun _ f => f.elim))
  clear K
  have Hz2 := hideD Nz2
  clear Nz2
  have CX := hideD (countQ Hz2.out)
  rw [cnt_none] at CX
  go_wp2_with fail
  go_at_call 20
  refine CX.out.mono ?_
  clear CX
  rintro e W37 ⟨he, K⟩
  obtain rfl : e = .returned (.int .i64 0) := he
  clear Hz2
  replace HS := hideD (HS.out.kept K)
  replace HT := hideD (HT.out.kept K)
  replace Ba := hideD (BytesAt.keptS Ba.out K)
  replace Bb := hideD (BytesAt.keptS Bb.out K)
  replace HNS := hideD (HNS.out.kept K)
  replace HNT := hideD (HNT.out.kept K)
  replace HAN := hideD (HAN.out.kept K)
  replace HOR := hideD (HOR.out.kept K)
  replace HMI := hideD (HMI.out.kept K)
  replace HK := hideD (HK.out.trans K (fun _ f => f.elim))
  clear K
  have CX := hideD (encodeQ HS.out (DbAt.keptW HD.out HK.out (fun f => f)))
  rw [← HLA.out] at CX
  go_wp2_with fail
  go_at_call 11
  refine CX.out.mono ?_
  clear CX
  rintro e W38 ⟨gc, rfl, Nc, K⟩
  replace HS := hideD (HS.out.kept K)
  replace HT := hideD (HT.out.kept K)
  replace Ba := hideD (BytesAt.keptS Ba.out K)
  replace Bb := hideD (BytesAt.keptS Bb.out K)
  replace HNS := hideD (HNS.out.kept K)
  replace HNT := hideD (HNT.out.kept K)
  replace HAN := hideD (HAN.out.kept K)
  replace HOR := hideD (HOR.out.kept K)
  replace HMI := hideD (HMI.out.kept K)
  replace HK := hideD (HK.out.trans K (fun _ f => f.elim))
  clear K
  have Bc := hideD Nc
  clear Nc
  have CX := hideD (equalS_any LA LA _ _ LA.length LA.length _ Bc.out Ba.out)
  rw [eqS_self] at CX
  go_wp2_with fail
  go_at_call 10
  refine CX.out.mono ?_
  clear CX
  rintro e W39 ⟨rfl, e1⟩
  subst e1
  have CX := hideD (encodeQ HT.out (DbAt.keptW HD.out HK.out (fun f => f)))
  rw [← HLB.out] at CX
  go_wp2_with fail
  go_at_call 11
  refine CX.out.mono ?_
  clear CX
  rintro e W40 ⟨gd, rfl, Nd, K⟩
  replace HS := hideD (HS.out.kept K)
  replace HT := hideD (HT.out.kept K)
  replace Ba := hideD (BytesAt.keptS Ba.out K)
  replace Bb := hideD (BytesAt.keptS Bb.out K)
  replace HNS := hideD (HNS.out.kept K)
  replace HNT := hideD (HNT.out.kept K)
  replace HAN := hideD (HAN.out.kept K)
  replace HOR := hideD (HOR.out.kept K)
  replace HMI := hideD (HMI.out.kept K)
  replace Bc := hideD (BytesAt.keptS Bc.out K)
  replace HK := hideD (HK.out.trans K (fun _ f => f.elim))
  clear K
  have Bd := hideD Nd
  clear Nd
  have CX := hideD (equalS_any LB LB _ _ LB.length LB.length _ Bd.out Bb.out)
  rw [eqS_self] at CX
  go_wp2_with fail
  go_at_call 10
  refine CX.out.mono ?_
  clear CX
  rintro e W41 ⟨rfl, e1⟩
  subst e1
  go_wp2_with fail
  go_ret
  exact ⟨rfl, HK.out⟩
set_option maxRecDepth 20000 in
set_option maxHeartbeats 4000000 in
/-- DocsetAlgebra, where Of refuses the first. -/
theorem alg_err1 (n : Int) (aA aB : Option Addr) (cA mA cB mB : Nat) (ad : Nat → Addr) (w : World) (hE : Errs14 w ad) (hD : DbAt w)
    (hOa : ∀ W, Kept (fun _ => False) w W → Calls Tryd.prog 18 #[.int .i64 n, .slice aA mA cA] W fun e w' => e = .returned (.tuple #[.pointer none, .iface 112 (.pointer (some (ad 7)))]) ∧ Kept (fun _ => False) W w')
    (hOb : ∀ W, Kept (fun _ => False) w W → Calls Tryd.prog 18 #[.int .i64 n, .slice aB mB cB] W fun e w' => (∃ v1 v2, e = .returned (.tuple #[v1, v2])) ∧ Kept (fun _ => False) W w') :
    Calls Tryd.prog 5 #[.int .i64 n, .slice aA mA cA, .slice aB mB cB] w fun e w' => e = .returned (.bool true) ∧ Kept (fun _ => False) w w' := by
  have HFX := hideD (fixed_any ad w hE hD)
  have HOA := hideD hOa
  have HOB := hideD hOb
  clear hE hD hOa hOb
  go_enter Tryd.func5, Tryd.ntmps5
  go_wp2_with fail
  go_at_call 8
  refine HFX.out.mono ?_
  clear HFX
  rintro e W1 ⟨rfl, K⟩
  have HK := hideD K
  have CX := hideD (HOA.out W1 K)
  clear K
  go_wp2_with fail
  go_at_call 18
  refine CX.out.mono ?_
  clear CX
  rintro e W2 ⟨rfl, K⟩
  replace HK := hideD (HK.out.trans K (fun _ f => f.elim))
  have CX := hideD (HOB.out W2 HK.out)
  clear K
  go_wp2_with fail
  go_at_call 18
  refine CX.out.mono ?_
  clear CX
  rintro e W3 ⟨⟨v1, v2, rfl⟩, K⟩
  replace HK := hideD (HK.out.trans K (fun _ f => f.elim))
  clear K
  go_wp2_with fail
  go_ret
  exact ⟨rfl, HK.out⟩
set_option maxRecDepth 20000 in
set_option maxHeartbeats 4000000 in
/-- DocsetAlgebra, where Of refuses the second alone. -/
theorem alg_err2 (n : Int) (aA aB : Option Addr) (cA mA cB mB : Nat) (ad : Nat → Addr) (w : World) (hE : Errs14 w ad) (hD : DbAt w)
    (hOa : ∀ W, Kept (fun _ => False) w W → Calls Tryd.prog 18 #[.int .i64 n, .slice aA mA cA] W fun e w' => (∃ v1, e = .returned (.tuple #[v1, .nilIface])) ∧ Kept (fun _ => False) W w')
    (hOb : ∀ W, Kept (fun _ => False) w W → Calls Tryd.prog 18 #[.int .i64 n, .slice aB mB cB] W fun e w' => e = .returned (.tuple #[.pointer none, .iface 112 (.pointer (some (ad 7)))]) ∧ Kept (fun _ => False) W w') :
    Calls Tryd.prog 5 #[.int .i64 n, .slice aA mA cA, .slice aB mB cB] w fun e w' => e = .returned (.bool true) ∧ Kept (fun _ => False) w w' := by
  have HFX := hideD (fixed_any ad w hE hD)
  have HOA := hideD hOa
  have HOB := hideD hOb
  clear hE hD hOa hOb
  go_enter Tryd.func5, Tryd.ntmps5
  go_wp2_with fail
  go_at_call 8
  refine HFX.out.mono ?_
  clear HFX
  rintro e W1 ⟨rfl, K⟩
  have HK := hideD K
  have CX := hideD (HOA.out W1 K)
  clear K
  go_wp2_with fail
  go_at_call 18
  refine CX.out.mono ?_
  clear CX
  rintro e W2 ⟨⟨v1, rfl⟩, K⟩
  replace HK := hideD (HK.out.trans K (fun _ f => f.elim))
  have CX := hideD (HOB.out W2 HK.out)
  clear K
  go_wp2_with fail
  go_at_call 18
  refine CX.out.mono ?_
  clear CX
  rintro e W3 ⟨rfl, K⟩
  replace HK := hideD (HK.out.trans K (fun _ f => f.elim))
  clear K
  go_wp2_with fail
  go_ret
  exact ⟨rfl, HK.out⟩
/-- What Of answers, as the law wants it. -/
theorem of_cases (n : Int) (l : List Int) (a : Option Addr) (c : Nat) (ad : Nat → Addr) (w : World) (hE : Errs14 w ad) (hL : IntsAt w a l) (hI : IsInts l) (hl : l.length ≤ 281474976710656) :
    (∃ m : Nat, n = m ∧ m ≤ 1048576 ∧ ∀ W, Kept (fun _ => False) w W → Calls Tryd.prog 18 #[.int .i64 m, .slice a l.length c] W fun e w' => ∃ p, e = .returned (.tuple #[.pointer (some ⟨p, 0, none⟩), .nilIface]) ∧ SetQ w' m p (wsOf l) ∧ Kept (fun _ => False) W w') ∨
    (∀ W, Kept (fun _ => False) w W → Calls Tryd.prog 18 #[.int .i64 n, .slice a l.length c] W fun e w' => e = .returned (.tuple #[.pointer none, .iface 112 (.pointer (some (ad 7)))]) ∧ Kept (fun _ => False) W w') := by
  by_cases hn : 0 ≤ n ∧ n ≤ 1048576
  · obtain ⟨m, rfl⟩ : ∃ m : Nat, n = m := ⟨n.toNat, by omega⟩
    have hm : m ≤ 1048576 := by omega
    by_cases hk : okL m l
    · refine .inl ⟨m, rfl, hm, fun W k => ?_⟩
      refine (of_in m hm a c l.length l rfl W (hE.kept k) (IntsAt.keptS hL k) hI hl).mono ?_
      rintro e w' (⟨-, p, rb, h, hS, h1, h2, hK⟩ | ⟨h, -⟩)
      · exact ⟨p, h, ⟨rb, _, hS⟩, hK⟩
      · exact absurd hk h
    · refine .inr fun W k => ?_
      refine (of_in m hm a c l.length l rfl W (hE.kept k) (IntsAt.keptS hL k) hI hl).mono ?_
      rintro e w' (⟨h, -⟩ | ⟨-, h, hK⟩)
      · exact absurd h hk
      · exact ⟨h, hK⟩
  · exact .inr fun W k => of_out n hn _ W (hE.kept k)
/-- The law DocsetAlgebra. -/
theorem alg_all (n : Int) (l k : List Int) (aA aB : Option Addr) (cA cB : Nat) (ad : Nat → Addr) (w : World) (hE : Errs14 w ad) (hD : DbAt w) (hL : IntsAt w aA l) (hI : IsInts l) (hl : l.length ≤ 281474976710656) (hL2 : IntsAt w aB k) (hI2 : IsInts k) (hk : k.length ≤ 281474976710656) :
    Calls Tryd.prog 5 #[.int .i64 n, .slice aA l.length cA, .slice aB k.length cB] w fun e w' => e = .returned (.bool true) ∧ Kept (fun _ => False) w w' := by
  rcases of_cases n l aA cA ad w hE hL hI hl with ⟨m, rfl, hm, hO⟩ | hO
  · rcases of_cases m k aB cB ad w hE hL2 hI2 hk with ⟨m', e, hm', hO2⟩ | hO2
    · obtain rfl : m = m' := by omega
      exact alg_ok m hm (wsOf l) (wsOf k) aA aB cA l.length cB k.length ad w hE hD hO hO2
    · exact alg_err2 m aA aB cA l.length cB k.length ad w hE hD (fun W q => (hO W q).mono fun e w' ⟨p, h1, _, h2⟩ => ⟨⟨_, h1⟩, h2⟩) hO2
  · refine alg_err1 n aA aB cA l.length cB k.length ad w hE hD hO (fun W q => ?_)
    rcases of_cases n k aB cB ad w hE hL2 hI2 hk with ⟨m', rfl, hm', hO2⟩ | hO2
    · exact (hO2 W q).mono fun e w' ⟨p, h1, _, h2⟩ => ⟨⟨_, _, h1⟩, h2⟩
    · exact (hO2 W q).mono fun e w' ⟨h1, h2⟩ => ⟨⟨_, _, h1⟩, h2⟩
end Go.Proofs.YtcbhgpdookappaaDoor.Ds
