import Derived.Test.YtiiokafjfapnpaaDoorPwa
import Derived.Test.YtiiokafjfapnpaaDoorMrg5
namespace Go.Proofs.YtiiokafjfapnpaaDoor
open Go.ChangeShapes Go.WideShapes Go.ChangeAt Go.RowKit

theorem Tryd.cOp : Tryd.prog.cellsOf 3 = 1 ∧ Tryd.prog.cellsOf 40 = 2 := by
  refine ⟨?_, ?_⟩ <;> kernel_rfl
set_option maxRecDepth 100000 in
/-- A call that came in. -/
theorem opl_of {H : Type} {enc : TypeId × Value → H} {W : World} {fuel : Nat} {cs : List Value} {x : DataW H × List MemPlace} (hf : DataW.trod enc Tryd.prog W 0 (fun _ => true) true fuel 40 cs = some x) :
    ∃ g : Int × Int, cs = [.int .i64 g.1, .int .i64 g.2] ∧ 1 ≤ Rows.uptoBulk x.1 := by
  obtain ⟨xs, n, rfl, hx, hl, hxl, hfs⟩ := DataW.trod_struct Tryd.underlying40 hf
  obtain ⟨c1, c4⟩ := Tryd.cOp
  obtain ⟨x0, x1, rfl⟩ := list2P hxl
  rw [c4] at hl
  obtain ⟨y0, y1, rfl⟩ := list2P hl
  have q0 : DataW.trod enc Tryd.prog W 0 (fun _ => true) true n 3 (([y0, y1].drop 0).take (Tryd.prog.cellsOf 3)) = some x0 := hfs 0 _ rfl
  have q1 : DataW.trod enc Tryd.prog W 0 (fun _ => true) true n 3 (([y0, y1].drop 1).take (Tryd.prog.cellsOf 3)) = some x1 := hfs 1 _ rfl
  rw [c1] at q0 q1
  simp only [List.drop, List.take] at q0 q1
  obtain ⟨d, e0, -, -⟩ := DataW.trod_int Tryd.underlying3 q0
  obtain ⟨e, e1, -, -⟩ := DataW.trod_int Tryd.underlying3 q1
  simp only [List.cons.injEq, and_true] at e0 e1
  subst e0 e1
  have hB : Rows.uptoBulk x.1 = Rows.uptoBulk x0.1 + (Rows.uptoBulk x1.1 + 0) + 1 := by
    rw [hx]
    simp only [List.map, Rows.uptoBulk, Rows.uptoBulkAll]
  exact ⟨(d, e), rfl, by omega⟩
theorem len_leO {H : Type} : ∀ (ds : List (DataW H)), (∀ i (h' : i < ds.length), 1 ≤ Rows.uptoBulk ds[i]) → ds.length ≤ Rows.uptoBulkAll ds
  | [], _ => Nat.zero_le _
  | d :: ds, hp => by
    have h0 : 1 ≤ Rows.uptoBulk d := hp 0 (by simp)
    have h1 := len_leO ds (fun i hi' => hp (i + 1) (by simp; omega))
    simp only [Rows.uptoBulkAll, List.length_cons]
    omega
/-- A script that came in. -/
theorem script_of {H : Type} {enc : TypeId × Value → H} {W : World} {fuel : Nat} {cs : List Value} {x : DataW H × List MemPlace} (hf : DataW.trod enc Tryd.prog W 0 (fun _ => true) true fuel 33 cs = some x) :
    ∃ (a : Option Addr) (c : Nat) (S : List (Int × Int)), cs = [.slice a S.length c] ∧ OpAt W a S ∧ S.length < Rows.uptoBulk x.1 := by
  rcases DataW.trod_slice Tryd.underlying33 hf with ⟨rfl, rfl⟩ | ⟨a, len, cap, elems, rest, n, _, rfl, rfl, _, hl, hm, hlen, hel, _, _⟩
  · exact ⟨none, 0, [], rfl, fun e => (e rfl).elim, bulk_pos _⟩
  obtain ⟨-, c4⟩ := Tryd.cOp
  rw [c4] at hel
  have hbk : Rows.uptoBulk (DataW.slice (H := H) (elems.map (·.1)) (rest.map (·.1))) = Rows.uptoBulkAll (elems.map (·.1)) + Rows.uptoBulkAll (rest.map (·.1)) + 1 := by simp only [Rows.uptoBulk]
  have each : ∀ i, i < len → ∃ o : Int × Int, (∀ j, j < 2 → W.cell? ((a.add (i * 2)).add j) = [Value.int .i64 o.1, .int .i64 o.2][j]?) ∧ ∀ (h : i < elems.length), 1 ≤ Rows.uptoBulk (elems[i]).1 := by
    intro i hi
    have h := hel i hi
    rw [List.getElem?_eq_getElem (by omega), Option.bind_eq_some_iff] at h
    obtain ⟨cs8, h1, h2⟩ := h
    obtain ⟨_, h3⟩ := (World.cells?_some h1).2
    obtain ⟨g, rfl, k3⟩ := opl_of h2
    exact ⟨g, h3, fun _ => k3⟩
  obtain ⟨S, hS, hp⟩ := choose_listP len each
  refine ⟨some a, cap, S, by rw [hS], fun hne => ?_, ?_⟩
  · have hp0 : 0 < S.length := List.length_pos_iff.2 hne
    obtain ⟨b, off, spot⟩ := a
    have h00 := (hp 0 hp0).1 0 (by omega)
    have hspot : spot = none := by
      have e : [Value.int .i64 (S[0]).1, .int .i64 (S[0]).2][0]? = some (.int .i64 (S[0]).1) := rfl
      rw [e] at h00
      simpa [Addr.add] using World.cell?_spot h00
    subst hspot
    refine ⟨b, off, rfl, fun k hk => ?_⟩
    have t0 := (hp k hk).1 0 (by omega)
    have t1 := (hp k hk).1 1 (by omega)
    rw [Go.WideShapes.add_plain, Go.WideShapes.add_plain] at t0 t1
    exact ⟨t0, t1⟩
  · have h1 := len_leO (elems.map (·.1)) (fun i hi' => by
      rw [List.getElem_map]
      exact (hp i (by rw [List.length_map] at hi'; omega)).2 (by rw [List.length_map] at hi'; exact hi'))
    show S.length < Rows.uptoBulk (DataW.slice (H := H) (elems.map (·.1)) (rest.map (·.1)))
    rw [List.length_map] at h1
    omega
end Go.Proofs.YtiiokafjfapnpaaDoor
