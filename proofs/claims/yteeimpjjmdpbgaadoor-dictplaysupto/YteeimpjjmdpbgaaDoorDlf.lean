import Derived.Test.YteeimpjjmdpbgaaDoorDbe
import Derived.Test.YteeimpjjmdpbgaaDoorDbg
import Derived.Test.YteeimpjjmdpbgaaDoorEqd
import Derived.Test.YteeimpjjmdpbgaaDoorNmd
namespace Go.Proofs.YteeimpjjmdpbgaaDoor
open Go.ChangeShapes Go.WideShapes Go.ChangeAt Go.RowKit

def twoE : List En := [⟨⟨#[97, 98]⟩, 1, 2, 0, 5⟩, ⟨⟨#[97, 98, 100]⟩, 1, 1, 5, 130⟩]
def twoB : List Int := [2, 16, 0, 2, 97, 98, 1, 2, 0, 5, 2, 1, 100, 1, 1, 5, 130, 1]
theorem uvb130 : uvb 130 = [130, 1] := by rw [uvb_big (by decide), uvb_small (by decide)]; rfl
theorem twoE_gen : ∀ e ∈ twoE, Gen e := all_gen.1 (by decide)
theorem klt_eq (a b : ByteArray) : klt a b = Op.bytesLess a.data.toList b.data.toList := by unfold klt; rw [ByteArray.toList_eq, ByteArray.toList_eq]
theorem twoE_good : Good twoE := ⟨twoE_gen, by rw [klt_eq]; decide, by rw [klt_eq]; decide, trivial⟩
theorem two_een1 : een ByteArray.empty ⟨⟨#[97, 98]⟩, 1, 2, 0, 5⟩ = [0, 2, 97, 98, 1, 2, 0, 5] := by
  have h : shr (ByteArray.empty).data.toList (⟨#[97, 98]⟩ : ByteArray).data.toList = 0 := by decide
  unfold een
  simp only
  rw [h, uvb_small (by decide), uvb_small (by decide), uvb_small (by decide), uvb_small (by decide), uvb_small (by decide), uvb_small (by decide)]
  rfl
theorem two_een2 : een ⟨#[97, 98]⟩ ⟨⟨#[97, 98, 100]⟩, 1, 1, 5, 130⟩ = [2, 1, 100, 1, 1, 5, 130, 1] := by
  have h : shr (⟨#[97, 98]⟩ : ByteArray).data.toList (⟨#[97, 98, 100]⟩ : ByteArray).data.toList = 2 := by decide
  have h130 : uvb (130 : Int).toNat = [130, 1] := uvb130
  unfold een
  simp only
  rw [h, h130, uvb_small (by decide), uvb_small (by decide), uvb_small (by decide), uvb_small (by decide)]
  rfl
theorem two_img : img twoE = twoB := by
  have h1 : chs (nbk twoE.length) twoE = [twoE] := rfl
  have h2 : ebl ByteArray.empty twoE = [0, 2, 97, 98, 1, 2, 0, 5] ++ [2, 1, 100, 1, 1, 5, 130, 1] := by
    show een ByteArray.empty _ ++ (een _ _ ++ []) = _
    rw [two_een1, two_een2]
    rfl
  have h3 : hdL [twoE] = [16] := by
    show uvb (ebl ByteArray.empty twoE).length ++ [] = _
    rw [h2, uvb_small (by decide)]
    rfl
  have h4 : bdL [twoE] = [0, 2, 97, 98, 1, 2, 0, 5] ++ [2, 1, 100, 1, 1, 5, 130, 1] := by
    show ebl ByteArray.empty twoE ++ [] = _
    rw [h2]
    rfl
  rw [img, h1, h3, h4, uvb_small (by decide)]
  rfl
theorem two_opn : opn twoB = some twoE := by
  have := opn_put twoE_good (by rw [two_img]; decide)
  rwa [two_img] at this
theorem nil_opn : opn [] = none := by decide
theorem two_find {i : Nat} {b : Bool} (h : Fnd twoE ⟨#[97, 98, 100]⟩ i b) : i = 1 ∧ b = true := by
  obtain ⟨r, ⟨h1, h2, h3⟩, h4⟩ := h
  have h1' : r ≤ 2 := h1
  obtain rfl | rfl | rfl : r = 0 ∨ r = 1 ∨ r = 2 := by omega
  · exfalso
    rcases h3 with h3 | h3
    · exact absurd h3 (by decide)
    · exact absurd h3 (by rw [klt_eq]; decide)
  · rcases h4 with ⟨hb, -, -, hi⟩ | ⟨-, -, hk⟩
    · exact ⟨hi, hb⟩
    · exfalso
      rcases hk with hk | hk
      · exact absurd hk (by decide)
      · exact hk rfl
  · exfalso
    rcases h2 with h2 | h2
    · exact absurd h2 (by decide)
    · exact absurd h2 (by rw [klt_eq]; decide)
theorem twoB_isb : IsBytes twoB := by
  intro x hx
  simp only [twoB, List.mem_cons, List.not_mem_nil, or_false] at hx
  omega
set_option maxRecDepth 20000 in
set_option maxHeartbeats 4000000 in
theorem two_any (w : World) : Calls Tryd.prog 11 #[] w fun e w' => e = .returned (.slice (some ⟨w.heap.size, 0, none⟩) 2 2) ∧ EsAt w' (some ⟨w.heap.size, 0, none⟩) twoE ∧ Kept (fun _ => False) w w' := by
  go_enter Tryd.func11, Tryd.ntmps11
  go_wp2
  go_ret
  refine ⟨rfl, fun _ => ⟨w.heap.size, 0, rfl, fun k hk => ?_⟩, Kept.alloc _ _⟩
  have hk2 : k < 2 := hk
  obtain rfl | rfl : k = 0 ∨ k = 1 := by omega
  · simp [twoE]
  · simp [twoE]
set_option maxRecDepth 20000 in
set_option maxHeartbeats 8000000 in
theorem fixed_any (ad : Nat → Addr) (w : World) (hE : Errs13 w ad) : Calls Tryd.prog 4 #[] w fun e w' => e = .returned (.bool true) ∧ Kept (fun _ => False) w w' := by
  have HE := hideQ hE
  clear hE
  go_enter Tryd.func4, Tryd.ntmps4
  go_wp2_with fail
  go_at_call 11
  refine (two_any _).mono ?_
  rintro e W1 ⟨rfl, hT, K1⟩
  have CB := hideQ (build_good twoE _ 2 W1 hT (by decide) (by decide) twoE_good)
  rw [two_img] at CB
  have HK1 := hideQ K1
  clear hT K1
  go_wp2_with fail
  go_at_call 6
  refine CB.out.mono ?_
  rintro e W2 ⟨⟨g, hg, rfl, ho⟩, K2⟩
  clear CB
  have hB2 : BytesAt W2 (some ⟨g, 0, none⟩) twoB := by
    obtain ⟨a', c', e', h', -⟩ := bytes_of_own ho
    simp only [Value.slice.injEq, true_and] at e'
    exact e'.1 ▸ h'
  have HK2 := hideQ (HK1.out.trans K2 (fun _ f => f.elim))
  have KA := Kept.alloc W2 (.cells (bs twoB).toArray 5)
  have hL : BytesAt (W2.alloc (.cells (bs twoB).toArray 5)) (some ⟨W2.heap.size, 0, none⟩) twoB := fun _ => ⟨W2.heap.size, 0, rfl, fun k hk => by
    rw [Nat.zero_add]
    have h9 : (bs twoB)[k]? = some (.int .u8 (twoB[k]?.getD 0)) := by
      rw [bs, List.getElem?_map, List.getElem?_eq_getElem hk]
      rfl
    simpa using h9⟩
  have CQ := hideQ (equalD_any twoB twoB _ _ 18 18 _ (hB2.keptO KA) hL)
  rw [eqD_dec twoB_isb twoB_isb, decide_eq_true rfl] at CQ
  have HB3 := hideQ (hB2.keptO KA)
  have HK3 := hideQ (HK2.out.trans KA (fun _ f => f.elim))
  clear hB2 hL KA K2 ho HK1 HK2
  go_wp2_with (go_at_call 8; refine Stp.go ?_)
  refine ⟨?_⟩
  refine CQ.out.mono ?_
  rintro e W3 ⟨rfl, hW3⟩
  rw [← hW3] at HB3 HK3
  clear hW3 CQ
  have CO := hideQ (open_any twoB (some ⟨g, 0, none⟩) twoB.length ad W3 HB3.out twoB_isb (by decide) (HE.out.kept HK3.out).toO)
  rw [two_opn] at CO
  go_wp2_with (go_at_call 9; refine Stp.go ?_)
  refine ⟨?_⟩
  refine CO.out.mono ?_
  rintro e W4 ⟨⟨bd, va, rfl, hD⟩, K4⟩
  have HD4 := hideQ hD
  have HK4 := hideQ (HK3.out.trans K4 (fun _ f => f.elim))
  clear hD K4 CO HK3 HB3
  have CF := hideQ (find_any ⟨#[97, 98, 100]⟩ W4 _ bd va twoE HD4.out (by decide))
  go_wp2_with (go_at_call 12; refine Stp.go ?_)
  refine ⟨?_⟩
  refine CF.out.mono ?_
  rintro e W5 ⟨⟨i, b, rfl, hF⟩, K5⟩
  obtain ⟨rfl, rfl⟩ := two_find hF
  have HD5 := hideQ (HD4.out.kept K5)
  have HK5 := hideQ (HK4.out.trans K5 (fun _ f => f.elim))
  clear hF K5 CF HD4 HK4
  have CO := hideQ (open_any [] none 0 ad W5 (fun h => absurd rfl h) (fun x hx => by cases hx) (by decide) (HE.out.kept HK5.out).toO)
  rw [nil_opn] at CO
  go_wp2_with (go_at_call 9; refine Stp.go ?_)
  refine ⟨?_⟩
  refine CO.out.mono ?_
  rintro e W6 ⟨he, K6⟩
  obtain rfl : e = .returned (.tuple #[.pointer none, errV (ad 9)]) := he
  have HD6 := hideQ (HD5.out.kept K6)
  have HK6 := hideQ (HK5.out.trans K6 (fun _ f => f.elim))
  have CN := hideQ (num_corrupt (HE.out.kept HK6.out))
  have CL := hideQ (len_any W6 _ bd va twoE HD6.out)
  clear K6 CO HD5 HK5
  go_wp2_with (first
    | (go_at_call 13; refine CL.out.mono ?_; rintro e W7 ⟨rfl, e7⟩; subst e7)
    | (go_at_call 7; refine CN.out.mono ?_; rintro e W8 ⟨rfl, e8⟩; subst e8))
  go_ret
  exact ⟨rfl, HK6.out⟩
end Go.Proofs.YteeimpjjmdpbgaaDoor
