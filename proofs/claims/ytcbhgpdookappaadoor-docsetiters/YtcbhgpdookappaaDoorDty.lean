import Derived.Test.YtcbhgpdookappaaDoorDtx
import Derived.Test.YtcbhgpdookappaaDoorDtj
namespace Go.Proofs.YtcbhgpdookappaaDoor.Ds
open Go.ChangeShapes Go.WideShapes Go.ChangeAt Go.RowKit Go.Shelf
attribute [local go_sem] Oper.semAt_some

set_option maxRecDepth 20000 in
set_option maxHeartbeats 4000000 in
/-- DocsetIters, where Of refuses. -/
theorem iters_err (n : Int) (aL aP : Option Addr) (cL mL cP mP : Nat) (stop : Int) (ad : Nat → Addr) (w : World) (hE : Errs14 w ad) (hD : DbAt w)
    (hO : ∀ W, Kept (fun _ => False) w W → Calls Tryd.prog 18 #[.int .i64 n, .slice aL mL cL] W fun e w' => e = .returned (.tuple #[.pointer none, .iface 112 (.pointer (some (ad 7)))]) ∧ Kept (fun _ => False) W w') :
    Calls Tryd.prog 7 #[.int .i64 n, .slice aL mL cL, .slice aP mP cP, .int .i64 stop] w fun e w' => e = .returned (.bool true) ∧ Kept (fun _ => False) w w' := by
  have FX := hideD (fun W (k : Kept (fun _ => False) w W) => fixed_any ad W (hE.kept k) (DbAt.keptW hD k (fun f => f)))
  have OF := hideD hO
  clear hE hD hO
  go_enter Tryd.func7, Tryd.ntmps7
  go_wp2_with fail
  obtain ⟨V, hV⟩ : ∃ V, V = ((w.alloc (.cells #[.slice aP mP cP] 38)).alloc (.cells #[.int .i64 stop] 3)).alloc (.cells #[.bool false] 4) := ⟨_, rfl⟩
  have kV : Kept (fun _ => False) w V := by rw [hV]; exact ((Kept.alloc _ _).trans (Kept.alloc _ _) (fun _ f => f.elim)).trans (Kept.alloc _ _) (fun _ f => f.elim)
  have r0 : V.heap[w.heap.size + 1 + 1]? = some (.cells #[.bool false] 4 (0, 0)) := by
    rw [hV]
    have := heap_alloc_new ((w.alloc (.cells #[.slice aP mP cP] 38)).alloc (.cells #[.int .i64 stop] 3)) (.cells #[.bool false] 4)
    rw [World.size_alloc, World.size_alloc] at this
    exact this
  rw [← hV]
  clear hV
  go_at_call 8
  refine (FX.out V kV).mono ?_
  rintro e W1 ⟨rfl, K1⟩
  have k1 := kV.trans K1 (fun _ f => f.elim)
  have r1 := K1.heap r0 (fun f => f)
  go_wp2_with fail
  go_at_call 18
  refine (OF.out W1 k1).mono ?_
  rintro e W2 ⟨rfl, K2⟩
  have k2 := k1.trans K2 (fun _ f => f.elim)
  have r2 := K2.heap r1 (fun f => f)
  go_upto_region 4 with fail
  obtain ⟨V3, hV3⟩ : ∃ V3, V3 = W2.alloc (.cells #[.pointer none] 24) := ⟨_, rfl⟩
  have k3 : Kept (fun _ => False) W2 V3 := by rw [hV3]; exact Kept.alloc _ _
  have s3 := heap_alloc_new W2 (.cells #[.pointer none] 24)
  rw [← hV3] at s3
  rw [← hV3]
  have r3 := k3.heap r2 (fun f => f)
  have y3 := cell_of_one r3
  have f3 := free_of_one r3
  have ys := cell_of_one s3
  have HK := hideD (k2.trans k3 (fun _ f => f.elim))
  have HR := hideD r3
  have z3 := hideD (cell_of_one (one_setCell (u := .bool true) r3))
  clear K1 K2 k1 k2 r0 r1 r2 r3 hV3 s3 k3 kV
  go_wp2
  have z4 := z3.out
  refine bodyPost_ret (v := .bool true) (by simp [results, Tryd.results7, go_sem, z4]) rfl ⟨rfl, HK.out.trans (Kept.setCell _ _ _) (fun i e => .inr (by have : i = w.heap.size + 1 + 1 := e; omega))⟩
end Go.Proofs.YtcbhgpdookappaaDoor.Ds
