import Derived.Test.YthbfmgbielmaeaaDoorOsl
import Derived.Test.YthbfmgbielmaeaaDoorOpb
import Derived.SizedLaws
namespace Go.Proofs.YthbfmgbielmaeaaDoor
open Go.ChangeShapes Go.WideShapes Go.ChangeAt Go.RowKit

set_option maxRecDepth 100000 in
/-- The cells of a Spoil that came in, by its weights. -/
theorem spoil_sized {H : Type} {enc : TypeId × Value → H} {W : World} {fuel : Nat} {cs : List Value} {x : DataW H × List MemPlace} (hf : DataW.trod enc Tryd.prog W 0 (fun _ => true) true fuel 42 cs = some x) (hsz : ∀ n ∈ DataW.weights Tryd.prog 42 x.1, n ≤ reachBytes) :
    ∃ (tag : Nat) (a : Option Addr) (c : Nat) (l : List Int) (at_ turn : Nat), cs = [.int .u8 tag, .slice a l.length c, .int .u64 at_, .int .u8 turn] ∧ tag < 256 ∧ turn < 256 ∧ at_ < 18446744073709551616 ∧ BytesAt W a l ∧ IsBytes l ∧ (a = none → c = 0) ∧ l.length ≤ 140737488351232 := by
  obtain ⟨xs, k, rfl, hx, hl, hxl, hfs⟩ := DataW.trod_struct Tryd.underlying42 hf
  obtain ⟨c1, c2, c3, c4⟩ := Tryd.cSp
  obtain ⟨x0, x1, x2, x3, rfl⟩ := list4s hxl
  rw [c4] at hl
  obtain ⟨y0, y1, y2, y3, rfl⟩ := list4s hl
  have q0 : DataW.trod enc Tryd.prog W 0 (fun _ => true) true k 5 (([y0, y1, y2, y3].drop 0).take (Tryd.prog.cellsOf 5)) = some x0 := hfs 0 _ rfl
  have q1 : DataW.trod enc Tryd.prog W 0 (fun _ => true) true k 22 (([y0, y1, y2, y3].drop 1).take (Tryd.prog.cellsOf 22)) = some x1 := hfs 1 _ rfl
  have q2 : DataW.trod enc Tryd.prog W 0 (fun _ => true) true k 40 (([y0, y1, y2, y3].drop 2).take (Tryd.prog.cellsOf 40)) = some x2 := hfs 2 _ rfl
  have q3 : DataW.trod enc Tryd.prog W 0 (fun _ => true) true k 5 (([y0, y1, y2, y3].drop 3).take (Tryd.prog.cellsOf 5)) = some x3 := hfs 3 _ rfl
  rw [c1] at q0 q3
  rw [c2] at q1
  rw [c3] at q2
  simp only [List.drop, List.take] at q0 q1 q2 q3
  obtain ⟨t, e0, -, w0⟩ := DataW.trod_int Tryd.underlying5 q0
  obtain ⟨a, c, B, e1, hb1, hb2, hb3, -, hd⟩ := bytes_in q1
  obtain ⟨n, e2, -, w2⟩ := DataW.trod_int Tryd.underlying40 q2
  obtain ⟨u, e3, -, w3⟩ := DataW.trod_int Tryd.underlying5 q3
  have b0 := bounds_u8 w0
  have b2 := bounds_u64 w2
  have b3 := bounds_u8 w3
  obtain ⟨T, rfl⟩ : ∃ A : Nat, t = A := ⟨t.toNat, by omega⟩
  obtain ⟨N, rfl⟩ : ∃ A : Nat, n = A := ⟨n.toNat, by omega⟩
  obtain ⟨U, rfl⟩ : ∃ A : Nat, u = A := ⟨u.toNat, by omega⟩
  simp only [List.cons.injEq, and_true] at e0 e1 e2 e3
  subst e0 e1 e2 e3
  have hB : B.length ≤ 140737488351232 := by
    rcases hd with ⟨_, e⟩ | ⟨es, sp, e1, e2⟩
    · omega
    · have h1 : (es.length + sp.length) * Tryd.prog.bytesOf 5 ∈ DataW.weights Tryd.prog 42 x.1 := by
        rw [hx]
        simp only [List.map, e1, DataW.weights, Tryd.underlying42]
        refine DataW.weights_mem_each (j := 1) (t := 22) (d := .slice es sp) rfl rfl _ ?_
        simp [DataW.weights, Tryd.underlying22]
      have h2 := hsz _ h1
      rw [Tryd.bytesU8] at h2
      simp only [reachBytes] at h2
      omega
  exact ⟨T, a, c, B, N, U, rfl, by omega, by omega, by omega, hb1, hb2, hb3, hB⟩
end Go.Proofs.YthbfmgbielmaeaaDoor
