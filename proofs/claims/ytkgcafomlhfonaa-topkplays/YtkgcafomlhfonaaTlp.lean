import Derived.Test.YtkgcafomlhfonaaTlo
import Derived.Test.YtkgcafomlhfonaaTks
namespace Go.Proofs.Ytkgcafomlhfonaa.Tk
open Go.ChangeShapes Go.WideShapes Go.ChangeAt Go.RowKit

theorem list3P {α : Type} {l : List α} (h : l.length = 3) : ∃ a b c, l = [a, b, c] := by
  match l, h with
  | [a, b, c], _ => exact ⟨a, b, c, rfl⟩
theorem list4P {α : Type} {l : List α} (h : l.length = 4) : ∃ a b c d, l = [a, b, c, d] := by
  match l, h with
  | [a, b, c, d], _ => exact ⟨a, b, c, d, rfl⟩
theorem cOp : Try.prog.cellsOf 31 = 4 := by kernel_rfl
theorem byOp : Try.prog.bytesOf 31 = 32 := by kernel_rfl
set_option maxRecDepth 100000 in
theorem op_of {H : Type} {enc : TypeId × Value → H} {W : World} {fuel : Nat} {cs : List Value} {x : DataW H × List MemPlace} (hf : DataW.trod enc Try.prog W 0 (fun _ => true) true fuel 31 cs = some x) :
    ∃ g : Opn, cs = [.int .i64 g.kind, .int .i64 g.which, .int .i64 g.h.1, .int .u64 g.h.2] := by
  obtain ⟨xs, n, rfl, hx, hl, hxl, hfs⟩ := DataW.trod_struct Try.underlying31 hf
  obtain ⟨c1, c2, c4⟩ := cHit
  obtain ⟨x0, x1, x2, rfl⟩ := list3P hxl
  rw [cOp] at hl
  obtain ⟨y0, y1, y2, y3, rfl⟩ := list4P hl
  have q0 : DataW.trod enc Try.prog W 0 (fun _ => true) true n 3 (([y0, y1, y2, y3].drop 0).take (Try.prog.cellsOf 3)) = some x0 := hfs 0 _ rfl
  have q1 : DataW.trod enc Try.prog W 0 (fun _ => true) true n 3 (([y0, y1, y2, y3].drop 1).take (Try.prog.cellsOf 3)) = some x1 := hfs 1 _ rfl
  have q2 : DataW.trod enc Try.prog W 0 (fun _ => true) true n 29 (([y0, y1, y2, y3].drop 2).take (Try.prog.cellsOf 29)) = some x2 := hfs 2 _ rfl
  rw [c1] at q0 q1
  rw [c4] at q2
  simp only [List.drop, List.take] at q0 q1 q2
  obtain ⟨d, e0, -, -⟩ := DataW.trod_int Try.underlying3 q0
  obtain ⟨k, e1, -, -⟩ := DataW.trod_int Try.underlying3 q1
  obtain ⟨g, e2⟩ := hit_of q2
  simp only [List.cons.injEq, and_true] at e0 e1 e2
  obtain ⟨e2, e3⟩ := e2
  subst e0 e1 e2 e3
  exact ⟨⟨d, k, g⟩, rfl⟩
theorem ops_of {H : Type} {enc : TypeId × Value → H} {W : World} {fuel : Nat} {cs : List Value} {x : DataW H × List MemPlace} (hf : DataW.trod enc Try.prog W 0 (fun _ => true) true fuel 22 cs = some x) :
    ∃ (a : Option Addr) (c : Nat) (S : List Opn), cs = [.slice a S.length c] ∧ OpsAt W a S ∧ S.length < Rows.uptoBulk x.1 ∧ (x.1 = .nil ∧ S.length = 0 ∨ ∃ es sp, x.1 = .slice es sp ∧ es.length = S.length) := by
  rcases DataW.trod_slice Try.underlying22 hf with ⟨rfl, rfl⟩ | ⟨a, len, cap, elems, rest, n, _, rfl, rfl, _, hl, hm, hlen, hel, _, _⟩
  · exact ⟨none, 0, [], rfl, fun e => (e rfl).elim, bulk_posT _, .inl ⟨rfl, rfl⟩⟩
  rw [cOp] at hel
  have hbk : Rows.uptoBulk (DataW.slice (H := H) (elems.map (·.1)) (rest.map (·.1))) = Rows.uptoBulkAll (elems.map (·.1)) + Rows.uptoBulkAll (rest.map (·.1)) + 1 := by simp only [Rows.uptoBulk]
  have each : ∀ i, i < len → ∃ o : Opn, (∀ j, j < 4 → W.cell? ((a.add (i * 4)).add j) = [Value.int .i64 o.kind, .int .i64 o.which, .int .i64 o.h.1, .int .u64 o.h.2][j]?) := by
    intro i hi
    have h := hel i hi
    rw [List.getElem?_eq_getElem (by omega), Option.bind_eq_some_iff] at h
    obtain ⟨cs8, h1, h2⟩ := h
    obtain ⟨_, h3⟩ := (World.cells?_some h1).2
    obtain ⟨g, rfl⟩ := op_of h2
    exact ⟨g, h3⟩
  obtain ⟨S, hS, hp⟩ := choose_listT len each
  refine ⟨some a, cap, S, by rw [hS], fun hne => ?_, ?_, .inr ⟨_, _, rfl, by rw [List.length_map, hS]; omega⟩⟩
  · have hp0 : 0 < S.length := List.length_pos_iff.2 hne
    obtain ⟨b, off, spot⟩ := a
    have h00 := (hp 0 hp0) 0 (by omega)
    have hspot : spot = none := by
      have e : [Value.int .i64 (S[0]).kind, .int .i64 (S[0]).which, .int .i64 (S[0]).h.1, .int .u64 (S[0]).h.2][0]? = some (.int .i64 (S[0]).kind) := rfl
      rw [e] at h00
      simpa [Addr.add] using World.cell?_spot h00
    subst hspot
    refine ⟨b, off, rfl, fun k hk => ?_⟩
    have t0 := (hp k hk) 0 (by omega)
    have t1 := (hp k hk) 1 (by omega)
    have t2 := (hp k hk) 2 (by omega)
    have t3 := (hp k hk) 3 (by omega)
    rw [Go.WideShapes.add_plain, Go.WideShapes.add_plain] at t0 t1 t2 t3
    exact ⟨t0, t1, t2, t3⟩
  · have h1 := len_leT (elems.map (·.1))
    show S.length < Rows.uptoBulk (DataW.slice (H := H) (elems.map (·.1)) (rest.map (·.1)))
    rw [List.length_map] at h1
    omega
end Go.Proofs.Ytkgcafomlhfonaa.Tk
