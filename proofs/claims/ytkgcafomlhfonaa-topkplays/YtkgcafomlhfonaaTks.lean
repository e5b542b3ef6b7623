import Derived.Test.YtkgcafomlhfonaaTke
import Derived.Handy
import Derived.OpenShut
namespace Go.Proofs.Ytkgcafomlhfonaa.Tk
open Go.ChangeShapes Go.WideShapes Go.ChangeAt Go.RowKit

/-! Hits that came in. -/
theorem bulk_posT {H : Type} (d : DataW H) : 1 ≤ Rows.uptoBulk d := by
  cases d with
  | lit l => cases l <;> simp [Rows.uptoBulk]
  | _ => simp [Rows.uptoBulk]
theorem list2T {α : Type} {l : List α} (h : l.length = 2) : ∃ a b, l = [a, b] := by
  match l, h with
  | [a, b], _ => exact ⟨a, b, rfl⟩
theorem cHit : Try.prog.cellsOf 3 = 1 ∧ Try.prog.cellsOf 27 = 1 ∧ Try.prog.cellsOf 29 = 2 := by
  refine ⟨?_, ?_, ?_⟩ <;> kernel_rfl
theorem byHit : Try.prog.bytesOf 29 = 16 := by kernel_rfl
theorem choose_listT {α : Type} {P : Nat → α → Prop} : ∀ n, (∀ i, i < n → ∃ a, P i a) → ∃ l : List α, l.length = n ∧ ∀ i (h : i < l.length), P i l[i]
  | 0, _ => ⟨[], rfl, fun i h => by simp at h⟩
  | n + 1, h => by
    obtain ⟨l, hl, hp⟩ := choose_listT n (fun i hi => h i (by omega))
    obtain ⟨a, ha⟩ := h n (by omega)
    refine ⟨l ++ [a], by simp [hl], fun i hi => ?_⟩
    by_cases hn : i < l.length
    · rw [List.getElem_append_left hn]
      exact hp i hn
    · have : i = l.length := by simp at hi; omega
      subst this
      rw [List.getElem_append_right (by omega)]
      simp only [Nat.sub_self, List.getElem_cons_zero, hl]
      exact ha
set_option maxRecDepth 100000 in
theorem hit_of {H : Type} {enc : TypeId × Value → H} {W : World} {fuel : Nat} {cs : List Value} {x : DataW H × List MemPlace} (hf : DataW.trod enc Try.prog W 0 (fun _ => true) true fuel 29 cs = some x) :
    ∃ g : Ht, cs = [.int .i64 g.1, .int .u64 g.2] := by
  obtain ⟨xs, n, rfl, hx, hl, hxl, hfs⟩ := DataW.trod_struct Try.underlying29 hf
  obtain ⟨c1, c2, c4⟩ := cHit
  obtain ⟨x0, x1, rfl⟩ := list2T hxl
  rw [c4] at hl
  obtain ⟨y0, y1, rfl⟩ := list2T hl
  have q0 : DataW.trod enc Try.prog W 0 (fun _ => true) true n 3 (([y0, y1].drop 0).take (Try.prog.cellsOf 3)) = some x0 := hfs 0 _ rfl
  have q1 : DataW.trod enc Try.prog W 0 (fun _ => true) true n 27 (([y0, y1].drop 1).take (Try.prog.cellsOf 27)) = some x1 := hfs 1 _ rfl
  rw [c2] at q1
  rw [c1] at q0
  simp only [List.drop, List.take] at q0 q1
  obtain ⟨d, e0, -, -⟩ := DataW.trod_int Try.underlying3 q0
  obtain ⟨k, e1, -, -⟩ := DataW.trod_int Try.underlying27 q1
  simp only [List.cons.injEq, and_true] at e0 e1
  subst e0 e1
  exact ⟨(d, k), rfl⟩
theorem len_leT {H : Type} : ∀ (ds : List (DataW H)), ds.length ≤ Rows.uptoBulkAll ds
  | [] => Nat.zero_le _
  | d :: ds => by
    have h0 : 1 ≤ Rows.uptoBulk d := bulk_posT d
    have h1 := len_leT ds
    simp only [Rows.uptoBulkAll, List.length_cons]
    omega
theorem hits_of {H : Type} {enc : TypeId × Value → H} {W : World} {fuel : Nat} {cs : List Value} {x : DataW H × List MemPlace} (hf : DataW.trod enc Try.prog W 0 (fun _ => true) true fuel 26 cs = some x) :
    ∃ (a : Option Addr) (c : Nat) (S : List Ht), cs = [.slice a S.length c] ∧ HsAt W a S ∧ S.length < Rows.uptoBulk x.1 ∧ (x.1 = .nil ∧ S.length = 0 ∨ ∃ es sp, x.1 = .slice es sp ∧ es.length = S.length) := by
  rcases DataW.trod_slice Try.underlying26 hf with ⟨rfl, rfl⟩ | ⟨a, len, cap, elems, rest, n, _, rfl, rfl, _, hl, hm, hlen, hel, _, _⟩
  · exact ⟨none, 0, [], rfl, fun e => (e rfl).elim, bulk_posT _, .inl ⟨rfl, rfl⟩⟩
  obtain ⟨-, -, c4⟩ := cHit
  rw [c4] at hel
  have hbk : Rows.uptoBulk (DataW.slice (H := H) (elems.map (·.1)) (rest.map (·.1))) = Rows.uptoBulkAll (elems.map (·.1)) + Rows.uptoBulkAll (rest.map (·.1)) + 1 := by simp only [Rows.uptoBulk]
  have each : ∀ i, i < len → ∃ o : Ht, (∀ j, j < 2 → W.cell? ((a.add (i * 2)).add j) = [Value.int .i64 o.1, .int .u64 o.2][j]?) := by
    intro i hi
    have h := hel i hi
    rw [List.getElem?_eq_getElem (by omega), Option.bind_eq_some_iff] at h
    obtain ⟨cs8, h1, h2⟩ := h
    obtain ⟨_, h3⟩ := (World.cells?_some h1).2
    obtain ⟨g, rfl⟩ := hit_of h2
    exact ⟨g, h3⟩
  obtain ⟨S, hS, hp⟩ := choose_listT len each
  refine ⟨some a, cap, S, by rw [hS], fun hne => ?_, ?_, .inr ⟨_, _, rfl, by rw [List.length_map, hS]; omega⟩⟩
  · have hp0 : 0 < S.length := List.length_pos_iff.2 hne
    obtain ⟨b, off, spot⟩ := a
    have h00 := (hp 0 hp0) 0 (by omega)
    have hspot : spot = none := by
      have e : [Value.int .i64 (S[0]).1, .int .u64 (S[0]).2][0]? = some (.int .i64 (S[0]).1) := rfl
      rw [e] at h00
      simpa [Addr.add] using World.cell?_spot h00
    subst hspot
    refine ⟨b, off, rfl, fun k hk => ?_⟩
    have t0 := (hp k hk) 0 (by omega)
    have t1 := (hp k hk) 1 (by omega)
    rw [Go.WideShapes.add_plain, Go.WideShapes.add_plain] at t0 t1
    exact ⟨t0, t1⟩
  · have h1 := len_leT (elems.map (·.1))
    show S.length < Rows.uptoBulk (DataW.slice (H := H) (elems.map (·.1)) (rest.map (·.1)))
    rw [List.length_map] at h1
    omega
end Go.Proofs.Ytkgcafomlhfonaa.Tk
