import Derived.Test.YtidgofpmnlddaaaGreatDoorFxa
namespace Go.Proofs.YtidgofpmnlddaaaGreatDoor
open Go.ChangeShapes Go.WideShapes Go.ChangeAt Go.RowKit

/-- Numbers that have just been laid. -/
theorem ints_new (W : World) (l : List Int) : IntsAt (W.alloc (.cells (is l).toArray 3)) (some ⟨W.heap.size, 0, none⟩) l := by
  intro _
  refine ⟨W.heap.size, 0, rfl, fun k hk => ?_⟩
  rw [Nat.zero_add, cell_of_row _ _ _ _ _ _ (heap_alloc_new W _)]
  simp [is, List.getElem?_eq_getElem hk]
def V4 (V : World) : World := (((V.alloc (.cells #[.int .i64 1, .int .i64 5, .int .i64 9] 3)).alloc (.cells #[.int .i64 2, .int .i64 10] 3)).alloc (.cells #[.slice (some ⟨V.heap.size, 0, none⟩) 3 3, .slice (some ⟨V.heap.size + 1, 0, none⟩) 2 2] 24)).alloc (.cells #[.int .i64 0, .int .i64 1] 3)
theorem kept_V4 (V : World) : Kept (fun _ => False) V (V4 V) := (((Kept.alloc V _).trans (Kept.alloc _ _) (fun _ f => f.elim)).trans (Kept.alloc _ _) (fun _ f => f.elim)).trans (Kept.alloc _ _) (fun _ f => f.elim)
theorem phrase2 (V : World) : Calls Tryz.prog 21 #[.slice (some ⟨V.heap.size + 2, 0, none⟩) 2 2, .slice (some ⟨V.heap.size + 3, 0, none⟩) 2 2, .int .i64 0] (V4 V) fun e w' => e = .returned (.int .i64 2) ∧ Kept (fun _ => False) V w' := by
  have k1 := Kept.alloc V (.cells #[.int .i64 1, .int .i64 5, .int .i64 9] 3)
  obtain ⟨V1, hV1⟩ : ∃ V1, V1 = V.alloc (.cells #[.int .i64 1, .int .i64 5, .int .i64 9] 3) := ⟨_, rfl⟩
  have i1 : IntsAt V1 (some ⟨V.heap.size, 0, none⟩) [1, 5, 9] := by rw [hV1]; exact ints_new V [1, 5, 9]
  have z1 : V1.heap.size = V.heap.size + 1 := by rw [hV1]; simp
  obtain ⟨V2, hV2⟩ : ∃ V2, V2 = V1.alloc (.cells #[.int .i64 2, .int .i64 10] 3) := ⟨_, rfl⟩
  have i2 : IntsAt V2 (some ⟨V.heap.size + 1, 0, none⟩) [2, 10] := by rw [hV2, ← z1]; exact ints_new V1 [2, 10]
  have z2 : V2.heap.size = V.heap.size + 2 := by rw [hV2]; simp [z1]
  have k2 : Kept (fun _ => False) V1 V2 := by rw [hV2]; exact Kept.alloc _ _
  obtain ⟨V3, hV3⟩ : ∃ V3, V3 = V2.alloc (.cells #[.slice (some ⟨V.heap.size, 0, none⟩) 3 3, .slice (some ⟨V.heap.size + 1, 0, none⟩) 2 2] 24) := ⟨_, rfl⟩
  have k3 : Kept (fun _ => False) V2 V3 := by rw [hV3]; exact Kept.alloc _ _
  have z3 : V3.heap.size = V.heap.size + 3 := by rw [hV3]; simp [z2]
  have g3 : V3.heap[V.heap.size + 2]? = some (.cells #[.slice (some ⟨V.heap.size, 0, none⟩) 3 3, .slice (some ⟨V.heap.size + 1, 0, none⟩) 2 2] 24 (0, 0)) := by rw [hV3, ← z2]; exact heap_alloc_new V2 _
  obtain ⟨W4, hW4⟩ : ∃ W4, W4 = V3.alloc (.cells #[.int .i64 0, .int .i64 1] 3) := ⟨_, rfl⟩
  have k4 : Kept (fun _ => False) V3 W4 := by rw [hW4]; exact Kept.alloc _ _
  have i4 : IntsAt W4 (some ⟨V.heap.size + 3, 0, none⟩) [0, 1] := by rw [hW4, ← z3]; exact ints_new V3 [0, 1]
  have g4 := k4.heap g3 (fun f => f)
  have e4 : V4 V = W4 := by rw [hW4, hV3, hV2, hV1]; rfl
  have k24 := k3.trans k4 (fun _ f => f.elim)
  have k14 := k2.trans k24 (fun _ f => f.elim)
  have hL : LiAt W4 (some ⟨V.heap.size + 2, 0, none⟩) [⟨some ⟨V.heap.size, 0, none⟩, 3, [1, 5, 9]⟩, ⟨some ⟨V.heap.size + 1, 0, none⟩, 2, [2, 10]⟩] := by
    intro _
    refine ⟨V.heap.size + 2, 0, rfl, fun k hk => ?_⟩
    have : k = 0 ∨ k = 1 := by simp at hk; omega
    rcases this with rfl | rfl
    · exact ⟨by rw [cell_of_row _ _ _ _ _ _ g4]; rfl, i1.kept k14⟩
    · exact ⟨by rw [cell_of_row _ _ _ _ _ _ g4]; rfl, i2.kept k24⟩
  have hk := kept_V4 V
  rw [e4] at hk ⊢
  have h := phraseFreq_some [⟨some ⟨V.heap.size, 0, none⟩, 3, [1, 5, 9]⟩, ⟨some ⟨V.heap.size + 1, 0, none⟩, 2, [2, 10]⟩] [0, 1] (some ⟨V.heap.size + 2, 0, none⟩) (some ⟨V.heap.size + 3, 0, none⟩) 2 2 0 W4 hL i4 rfl (by simp) (by
    intro x hx
    simp at hx
    rcases hx with rfl | rfl <;> (intro y hy; simp at hy; omega)) (by
    intro x hx
    simp at hx
    rcases hx with rfl | rfl <;> simp) (by intro y hy; simp at hy; omega) (by decide) (by
    intro k hk
    have : k = 0 ∨ k = 1 ∨ k = 2 := by simp at hk; omega
    rcases this with rfl | rfl | rfl <;> simp [spk, spw]) (by simp [spk, spw])
  refine h.mono ?_
  rintro e w' ⟨L2, h1, -, -, rfl, k9⟩
  have hs : L2 = [((1 : Int), 0), (1, 1), (5, 0), (9, 0), (9, 1)] := h1.trans sorted5
  rw [hs]
  exact ⟨by rw [show (cbg [((1 : Int), 0), (1, 1), (5, 0), (9, 0), (9, 1)] [(⟨some ⟨V.heap.size, 0, none⟩, 3, [1, 5, 9]⟩ : Il), ⟨some ⟨V.heap.size + 1, 0, none⟩, 2, [2, 10]⟩].length 0) = 2 from cbg5]; rfl, hk.trans k9 (fun _ f => f.elim)⟩
theorem p20_17 : plc (twl 20) 165 = 17 := by decide +kernel
theorem p20_20 : plc (twl 20) 1000 = 20 := by decide +kernel
set_option maxRecDepth 20000 in
set_option maxHeartbeats 8000000 in
theorem fixed_any (ad : Nat → Addr) (W : World) (hE : ErQ W ad) : Calls Tryz.prog 4 #[] W fun e w' => e = .returned (.bool true) ∧ Kept (fun _ => False) W w' := by
  have C1 := hideP (twenty_any W)
  have HE := hideP hE
  have HG : Hid (gdl (-1) (twl 20)) := hideP (twl_good 20 (by decide))
  have HIL : Hid ((img (twl 20)).length ≤ 1073741824) := hideP (by have := img_le HG.out (by rw [twl_len]; decide) (by rw [twl_tot]; decide); omega)
  have CE : Hid (∀ (W1 : World) (FL : List Pg) (a : Option Addr) (c : Nat), pol FL = twl 20 → PsAt W1 a FL → FL.length ≤ c → Calls Tryz.prog 5 #[.slice a FL.length c] W1 fun e w' => ∃ g c', e = .returned (.tuple #[.slice (some ⟨g, 0, none⟩) (img (twl 20)).length c', .int .i64 0]) ∧ BytesAt w' (some ⟨g, 0, none⟩) (img (twl 20)) ∧ Kept (fun _ => False) W1 w') := hideP (fun W1 FL a c hp hP hc => by
    have hI : ∀ p ∈ pol FL, IsInts p.ps := by
      rw [hp]
      intro p hm
      obtain ⟨i, _, rfl⟩ := List.mem_map.1 hm
      intro x hx
      simp at hx
      omega
    have hl : FL.length = 20 := by rw [← pol_len, hp, twl_len]
    refine (dencode_any FL a c W1 hP (fun g hg => hI g.po (List.mem_map_of_mem hg)) (by omega) hc (by rw [hp, twl_tot]; decide)).mono ?_
    rintro e w' (⟨_, g, c', rfl, hG⟩ | ⟨hn, _⟩)
    · rw [hp] at hG ⊢
      exact ⟨g, c', rfl, (gro_bytes hG).1, hG.kept⟩
    · exact absurd ((flts_iff hI).2 (by rw [hp]; exact HG.out)) hn)
  clear hE
  go_enter Tryz.func4, Tryz.ntmps4
  go_wp2_with (go_at_call 16; refine StpQ.go ?_)
  refine ⟨?_⟩
  refine C1.out.mono ?_
  clear C1
  rintro e W1 ⟨FL, a, c, rfl, hp, hP, hc, k1⟩
  have CE1 := hideP (CE.out W1 FL a c hp hP hc)
  have HK1 := hideP k1
  obtain ⟨fl, hfl⟩ : ∃ fl, fl = FL.length := ⟨_, rfl⟩
  rw [← hfl] at CE1 ⊢
  clear CE hp hP hc k1 hfl
  go_wp2_with (go_at_call 5; refine StpQ.go ?_)
  refine ⟨?_⟩
  refine CE1.out.mono ?_
  clear CE1
  rintro e W2 ⟨g, c2, rfl, hB, k2⟩
  have hk2 := HK1.out.trans k2 (fun _ f => f.elim)
  have CO := hideP (copen_good (twl 20) (some ⟨g, 0, none⟩) c2 ad W2 hB HG.out HIL.out (HE.out.kept hk2))
  have HK2 := hideP hk2
  clear k2 hB hk2 HK1
  obtain ⟨il, hil⟩ : ∃ il, il = (img (twl 20)).length := ⟨_, rfl⟩
  rw [← hil] at CO ⊢
  clear hil
  go_wp2_with (go_at_call 7; refine StpQ.go ?_)
  refine ⟨?_⟩
  refine CO.out.mono ?_
  clear CO
  rintro e W3 ⟨cb, bl, W0, rfl, hA, hcb, k0, k3⟩
  have HS0 := hideP hA.toS
  have HE0 := hideP (HE.out.kept (HK2.out.trans k0 (fun _ f => f.elim)))
  have HK3 := hideP (HK2.out.trans k3 (fun _ f => f.elim))
  have HCB : Hid (W.heap.size ≤ cb) := hideP (Nat.le_trans HK2.out.size hcb)
  clear hA k0 k3 HK2 HE hcb
  have CD := hideP (cdocS W3 HS0.out)
  rw [show docU (twl 20) 0 = -1 from rfl] at CD
  have CN := hideP (cnext_in W3 ad HS0.out (Nat.zero_le _) (by decide) (by rw [twl_len]; decide) HG.out HIL.out HE0.out)
  rw [show docU (twl 20) (0 + 1) = 0 by decide +kernel] at CN
  go_wp2_with (first
    | (go_at_call 17; refine CD.out.mono ?_; clear CD; rintro e W4 ⟨rfl, rfl⟩)
    | (go_at_call 9; refine StpQ.go ?_))
  refine ⟨?_⟩
  refine CN.out.mono ?_
  clear CN
  rintro e W5 ⟨rfl, hS1, k5⟩
  have HS1 := hideP hS1
  have HK5 := hideP (HK3.out.young k5 HCB.out)
  have CA := hideP (cadv_in W5 165 ad HS1.out (by rw [twl_len]; decide) (by decide +kernel) (by decide) (by rw [twl_len]; decide) HG.out HIL.out HE0.out)
  rw [p20_17, twl_len, show docU (twl 20) (17 + 1) = 170 by decide +kernel, show 0 + 1 + mvU 20 (0 + 1) 17 = 4 by decide] at CA
  clear hS1 k5 HS0 HK3
  go_wp2_with (go_at_call 18; refine StpQ.go ?_)
  refine ⟨?_⟩
  refine CA.out.mono ?_
  clear CA
  rintro e W6 ⟨rfl, hS2, k6⟩
  have HS2 := hideP hS2
  have HK6 := hideP (HK5.out.young k6 HCB.out)
  have CM := hideP (cmovesS W6 HS2.out)
  have CF := hideP (cfreqS W6 HS2.out)
  rw [show (posU (twl 20) (17 + 1)).length = 1 by decide +kernel] at CF
  have CP := hideP (phrase2 W6)
  unfold V4 at CP
  clear hS2 k6 HS1 HK5
  go_wp2_with (first
    | (go_at_call 19; refine CM.out.mono ?_; clear CM; rintro e W7 ⟨rfl, rfl⟩)
    | (go_at_call 20; refine CF.out.mono ?_; clear CF; rintro e W8 ⟨rfl, rfl⟩)
    | (go_at_call 21; refine StpQ.go ?_))
  refine ⟨?_⟩
  refine CP.out.mono ?_
  clear CP
  rintro e W9 ⟨rfl, k9⟩
  have HS9 := hideP (HS2.out.later k9)
  have HK9 := hideP (HK6.out.trans k9 (fun _ f => f.elim))
  have CA := hideP (cadv_in W9 1000 ad HS9.out (by rw [twl_len]; decide) (by decide +kernel) (by decide) (by rw [twl_len]; decide) HG.out HIL.out HE0.out)
  rw [p20_20, twl_len, show docU (twl 20) (20 + 1) = 2147483647 by decide +kernel] at CA
  clear k9 HS2 HK6
  go_wp2_with (go_at_call 18; refine StpQ.go ?_)
  refine ⟨?_⟩
  refine CA.out.mono ?_
  clear CA
  rintro e W10 ⟨rfl, hS10, k10⟩
  have HK10 := hideP (HK9.out.young k10 HCB.out)
  clear hS10 k10
  go_wp2
  go_ret
  exact ⟨rfl, HK10.out⟩
end Go.Proofs.YtidgofpmnlddaaaGreatDoor
