import Derived.Test.YtbdhmibiggpomaaDoorPoi
namespace Go.Proofs.YtbdhmibiggpomaaDoor
open Go.ChangeShapes Go.WideShapes Go.ChangeAt Go.RowKit

theorem flts_step {L : List Pg} {j : Nat} (h : j < L.length) (z : Int) : flts z (pol (L.drop j)) = if flt z ⟨L[j].d, L[j].ps⟩ = 0 then flts L[j].d (pol (L.drop (j + 1))) else flt z ⟨L[j].d, L[j].ps⟩ := by
  rw [List.drop_eq_getElem_cons h]
  rfl
/-- What Encode answers. -/
def enPost (L : List Pg) (a3 a7 : Addr) (w : World) (e : Ending) (w' : World) : Prop :=
  Kept (fun _ => False) w w' ∧ ((flts (-1) (pol L) = 0 ∧ ∃ g, w.heap.size ≤ g ∧ e = .returned (.tuple #[.slice (some ⟨g, 0, none⟩) (img (pol L)).length (img (pol L)).length, .nilIface]) ∧ w'.ownsRow w.heap.size 5 1 (.slice (some ⟨g, 0, none⟩) (img (pol L)).length (img (pol L)).length) (img (pol L)).length (bs (img (pol L))))
    ∨ (flts (-1) (pol L) = 3 ∧ e = .returned (.tuple #[.slice none 0 0, errV a3])) ∨ (flts (-1) (pol L) = 7 ∧ e = .returned (.tuple #[.slice none 0 0, errV a7])))
set_option maxRecDepth 20000 in
set_option maxHeartbeats 4000000 in
theorem pencode_any (L : List Pg) (a : Option Addr) (c : Nat) (a3 a7 : Addr) (w : World) (hP : PsAt w a L) (hI : ∀ g ∈ L, IsInts g.ps) (hl : L.length ≤ 1073741824) (hc : L.length ≤ c) (ht : tot (pol L) ≤ 1099511627776)
    (g3 : w.cell? ⟨4, 0, none⟩ = some (errV a3)) (g7 : w.cell? ⟨8, 0, none⟩ = some (errV a7)) :
    Calls Tryd.prog 18 #[.slice a L.length c] w fun e w' => enPost L a3 a7 w e w' := by
  have HP := hideP hP
  have HI : Hid (flts (-1) (pol L) = 0 → gdl (-1) (pol L)) := hideP (fun h => (flts_iff (fun p hp => by
    obtain ⟨g, hg, rfl⟩ := List.mem_map.1 hp
    exact hI g hg)).1 h)
  have HT := hideP ht
  have HG3 := hideP g3
  have HG7 := hideP g7
  obtain ⟨nl, hnl⟩ : ∃ nl, nl = L.length := ⟨_, rfl⟩
  rw [← hnl] at hl hc ⊢
  have HNL := hideP hnl
  clear hP hI ht g3 g7 hnl
  go_enter Tryd.func18, Tryd.ntmps18
  go_wp2
  go_loopw [4, 10] (fun v4 v10 wr => ∃ (j : Nat) (z : Int), j ≤ nl ∧ v10 = .int .i64 j ∧ v4 = .int .i64 z ∧ Hid (flts (-1) (pol L) = flts z (pol (L.drop j))) ∧ Hid (Kept (fun _ => False) w wr)) (fun _ v10 _ => nl - (intOf v10).toNat)
  case atStart => exact ⟨0, -1, by omega, rfl, rfl, hideP rfl, hideP (Kept.refl _ _)⟩
  case round =>
    obtain ⟨j, z, hj, rfl, rfl, HF, HK⟩ := hrel
    by_cases hlt : j < nl
    · have hjj : (j : Int) < (nl : Int) := by omega
      have hjl : j < L.length := by rw [← HNL.out]; exact hlt
      obtain ⟨bl, off, rfl, hcc⟩ := (HP.out.kept HK.out) (by intro e; rw [e] at hjl; simp at hjl)
      obtain ⟨x0, x1, x2⟩ := hcc j hjl
      have HS := hideP (flts_step hjl z)
      have q5 : L[j].ps.length ≤ 1099511627776 := Nat.le_trans (tot_mem (pol_at hjl)) HT.out
      have K0 := Kept.alloc wr (.cells #[.int .i64 L[j].d, .slice L[j].a L[j].ps.length L[j].c] 42)
      have K1 := HK.out.trans K0 (fun _ f => f.elim)
      have CF := hideP (faultOf_any L[j].d L[j].a L[j].c L[j].ps z a3 a7 _ (x2.kept K0) q5 (K1.cell HG3.out (fun f => f)) (K1.cell HG7.out (fun f => f)))
      have HK1 := hideP K1
      clear hcc x2 K0 K1
      generalize L[j] = en at *
      obtain ⟨d, pa, pc, ps⟩ := en
      simp only at q5 x0 x1 CF HK1 HS
      obtain ⟨f, hf⟩ : ∃ f, f = flt z ⟨d, ps⟩ := ⟨_, rfl⟩
      rw [← hf] at CF HS
      have hfo := flt_or z ⟨d, ps⟩
      rw [← hf] at hfo
      clear hf
      generalize ps.length = n at *
      have y0 : (wr.alloc (.cells #[.int .i64 d, .slice pa n pc] 42)).cell? ⟨wr.heap.size, 0, none⟩ = some (.int .i64 d) := by simp
      have y1 : (wr.alloc (.cells #[.int .i64 d, .slice pa n pc] 42)).cell? ⟨wr.heap.size, 1, none⟩ = some (.slice pa n pc) := by simp
      have Y0 := hideP y0
      clear y0 y1
      rcases hfo with rfl | rfl | rfl
      · rw [if_pos rfl] at HS
        have HF2 : Hid (flts (-1) (pol L) = flts d (pol (L.drop (j + 1)))) := hideP (by rw [HF.out, HS.out])
        rw [show erN a3 a7 0 = .nilIface from rfl] at CF
        clear HF HS
        go_wp2_with (go_at_call 36; refine CF.out.mono ?_; clear CF; rintro e W ⟨rfl, k2⟩; have y0 := k2.cell Y0.out (fun f => f); have HK2 := hideP (HK1.out.trans k2 (fun _ f => f.elim)); clear k2)
        go_roundw
        case rel => exact ⟨j + 1, d, by omega, by go_num, rfl, HF2, HK2⟩
        case measure => simp [intOf]; omega
      · rw [if_neg (by decide)] at HS
        have HF2 : Hid (flts (-1) (pol L) = 3) := hideP (by rw [HF.out, HS.out])
        rw [show erN a3 a7 3 = .iface 176 (.pointer (some a3)) from rfl] at CF
        clear HF HS
        go_wp2_with (go_at_call 36; refine CF.out.mono ?_; clear CF; rintro e W ⟨rfl, k2⟩; have HK2 := hideP (HK1.out.trans k2 (fun _ f => f.elim)); clear k2)
        go_ret2
        exact ⟨HK2.out, .inr (.inl ⟨HF2.out, rfl⟩)⟩
      · rw [if_neg (by decide)] at HS
        have HF2 : Hid (flts (-1) (pol L) = 7) := hideP (by rw [HF.out, HS.out])
        rw [show erN a3 a7 7 = .iface 176 (.pointer (some a7)) from rfl] at CF
        clear HF HS
        go_wp2_with (go_at_call 36; refine CF.out.mono ?_; clear CF; rintro e W ⟨rfl, k2⟩; have HK2 := hideP (HK1.out.trans k2 (fun _ f => f.elim)); clear k2)
        go_ret2
        exact ⟨HK2.out, .inr (.inr ⟨HF2.out, rfl⟩)⟩
    · have hjj : ¬ (j : Int) < (nl : Int) := by omega
      have hje : L.drop j = [] := List.drop_of_length_le (by have := HNL.out; omega)
      have HF2 : Hid (flts (-1) (pol L) = 0) := hideP (by rw [HF.out, hje]; rfl)
      have CB := hideP (bytesOf_any L a c wr (HP.out.kept HK.out) (HI.out HF2.out) (by rw [← HNL.out]; exact hl) (by rw [← HNL.out]; exact hc) HT.out)
      rw [← HNL.out] at CB
      have hsz := HK.out.size
      clear hje HF
      go_wp2_with (go_at_call 37; refine CB.out.mono ?_; clear CB; rintro e W ⟨⟨g, hg, rfl, ho⟩, k2⟩; have HO := hideP ho; have HK2 := hideP (HK.out.trans k2 (fun _ f => f.elim)); clear k2 ho)
      go_ret2
      exact ⟨HK2.out, .inl ⟨HF2.out, g, by omega, rfl, own_lowerP HO.out hsz⟩⟩
end Go.Proofs.YtbdhmibiggpomaaDoor
