import Derived.Test.YtakjaablankipaaDoorLbb
import Derived.Test.YtakjaablankipaaDoorLys
namespace Go.Proofs.YtakjaablankipaaDoor
open Go.ChangeShapes Go.WideShapes Go.ChangeAt Go.RowKit

/-! The law's lone. -/
theorem scan_laid (l : List UInt8) (w : World) (ad : Addr) (hC : ClsAt w) (hS : SynAt w ad) (hl : l.length ≤ 400000000000) (L : List Lx) (h : scanF l = (L, none)) :
    Calls Tryd.prog 6 #[.string (bq l)] w fun x w' => (∃ g c, x = .returned (.tuple #[.slice (some ⟨g, 0, none⟩) L.length c, .int .i64 0, .nilIface]) ∧ (∀ k y, L[k]? = some y → LxAt w' g k y)) ∧ Kept (fun _ => False) w w' := by
  have hp := scan_pos l (by rw [h])
  rw [h] at hp
  have hp1 : 0 < L.length := hp.1
  refine (scan_none l w ad hC hS hl (by rw [h])).mono ?_
  rintro x w' ⟨⟨a, c, m, rfl, hT⟩, hk⟩
  rw [h] at hT
  have hT : Tks w w' a c m L := hT
  have hm := hT.len
  subst hm
  obtain ⟨g, rfl, hg⟩ := hT.ats hp1
  refine ⟨⟨g, c, rfl, fun k y hy => ?_⟩, hk⟩
  obtain ⟨hk1, rfl⟩ := List.getElem?_eq_some_iff.1 hy
  exact hg k hk1
set_option maxRecDepth 20000 in
set_option maxHeartbeats 4000000 in
theorem lone_any (q t : List UInt8) (k : Nat) (w : World) (ad : Addr) (hC : ClsAt w) (hS : SynAt w ad) (hq : q.length ≤ 400000000000) (h : scanF q = ([⟨k, t, 0, 0, q.length⟩, endT q.length], none)) :
    Calls Tryd.prog 11 #[.string (bq q), .int .i64 (k : Int), .string (bq t)] w fun e w' => e = .returned (.bool true) ∧ Kept (fun _ => False) w w' := by
  have CS := hideL (scan_laid q w ad hC hS hq _ h)
  have hz : (bq q).size = q.length := bq_size q
  generalize q.length = z at *
  generalize bq q = s at *
  clear hC hS h
  go_enter Tryd.func11, Tryd.ntmps11
  go_wp2_with (first
    | (go_at_call 6; refine CS.out.mono ?_; clear CS; rintro x W5 ⟨⟨g5, c5, rfl, l5⟩, k5⟩; have L5 := hideL l5; have K5 := hideL k5; clear l5 k5)
    | (go_at_call 8; refine Stp13.go ?_))
  refine ⟨?_⟩
  have KB := Kept.alloc W5 (.cells #[.int .i64 (k : Int), .string (bq t), .int .i64 0, .int .i64 0, .int .i64 (z : Int), .int .i64 0, .string ⟨#[]⟩, .int .i64 0, .int .i64 (z : Int), .int .i64 (z : Int)] 41)
  refine (same_true [⟨k, t, 0, 0, z⟩, endT z] 2 g5 W5.heap.size c5 2 _ rfl (by decide) (fun j y h => (L5.out j y h).later KB) (fun j y h => lx2_new W5 ⟨k, t, 0, 0, z⟩ (endT z) j y h)).mono ?_
  rintro x W8 ⟨rfl, k8⟩
  have K8 := hideL (K5.out.trans (KB.trans k8 (fun _ f => f.elim)) (fun _ f => f.elim))
  clear KB k8 L5 K5
  go_wp2_with fail
  go_ret
  exact ⟨rfl, K8.out⟩
end Go.Proofs.YtakjaablankipaaDoor
