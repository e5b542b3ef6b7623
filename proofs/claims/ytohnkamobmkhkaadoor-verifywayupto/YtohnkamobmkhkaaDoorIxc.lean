import Derived.Test.YtohnkamobmkhkaaDoorIza
import Derived.Test.YtohnkamobmkhkaaDoorFrm
import Derived.Handy
import Derived.OpenShut
namespace Go.Proofs.YtohnkamobmkhkaaDoor
open Go.ChangeShapes Go.WideShapes Go.ChangeAt Go.RowKit

theorem bulk_posI {H : Type} (d : DataW H) : 1 ≤ Rows.uptoBulk d := by
  cases d with
  | lit l => cases l <;> simp [Rows.uptoBulk]
  | _ => simp [Rows.uptoBulk]
theorem choose_listI {α : Type} {P : Nat → α → Prop} : ∀ n, (∀ i, i < n → ∃ a, P i a) → ∃ l : List α, l.length = n ∧ ∀ i (h : i < l.length), P i l[i]
  | 0, _ => ⟨[], rfl, fun i h => by simp at h⟩
  | n + 1, h => by
    obtain ⟨l, hl, hp⟩ := choose_listI n (fun i hi => h i (by omega))
    obtain ⟨a, ha⟩ := h n (by omega)
    refine ⟨l ++ [a], by simp [hl], fun i hi => ?_⟩
    by_cases hn : i < l.length
    · rw [List.getElem_append_left hn]
      exact hp i hn
    · have : i = l.length := by simp at hi; omega
      subst this
      rw [List.getElem_append_right (by omega)]
      simp only [Nat.sub_self, List.getElem_cons_zero, hl]
      exact ha
theorem len_leI {H : Type} : ∀ (ds : List (DataW H)), ds.length ≤ Rows.uptoBulkAll ds
  | [] => Nat.zero_le _
  | d :: ds => by
    have h0 : 1 ≤ Rows.uptoBulk d := bulk_posI d
    have h1 := len_leI ds
    simp only [Rows.uptoBulkAll, List.length_cons]
    omega
theorem list3I {α : Type} {l : List α} (h : l.length = 3) : ∃ a b c, l = [a, b, c] := by
  match l, h with
  | [a, b, c], _ => exact ⟨a, b, c, rfl⟩
theorem Tryd.cIn : Tryd.prog.cellsOf 3 = 1 ∧ Tryd.prog.cellsOf 54 = 1 ∧ Tryd.prog.cellsOf 56 = 3 := by
  refine ⟨?_, ?_, ?_⟩ <;> kernel_rfl
set_option maxRecDepth 100000 in
theorem instr_of {H : Type} {enc : TypeId × Value → H} {W : World} {fuel : Nat} {cs : List Value} {x : DataW H × List MemPlace} (hf : DataW.trod enc Tryd.prog W 0 (fun _ => true) true fuel 56 cs = some x) :
    ∃ g : In, g.Ok ∧ cs = [.int .i64 g.op, .int .u64 g.a, .int .u64 g.b] := by
  obtain ⟨xs, n, rfl, hx, hl, hxl, hfs⟩ := DataW.trod_struct Tryd.underlying56 hf
  obtain ⟨c1, c2, c4⟩ := Tryd.cIn
  obtain ⟨x0, x1, x2, rfl⟩ := list3I hxl
  rw [c4] at hl
  obtain ⟨y0, y1, y2, rfl⟩ := list3I hl
  have q0 : DataW.trod enc Tryd.prog W 0 (fun _ => true) true n 3 (([y0, y1, y2].drop 0).take (Tryd.prog.cellsOf 3)) = some x0 := hfs 0 _ rfl
  have q1 : DataW.trod enc Tryd.prog W 0 (fun _ => true) true n 54 (([y0, y1, y2].drop 1).take (Tryd.prog.cellsOf 54)) = some x1 := hfs 1 _ rfl
  have q2 : DataW.trod enc Tryd.prog W 0 (fun _ => true) true n 54 (([y0, y1, y2].drop 2).take (Tryd.prog.cellsOf 54)) = some x2 := hfs 2 _ rfl
  rw [c2] at q1 q2
  rw [c1] at q0
  simp only [List.drop, List.take] at q0 q1 q2
  obtain ⟨d, e0, -, w0⟩ := DataW.trod_int Tryd.underlying3 q0
  obtain ⟨k, e1, -, w1⟩ := DataW.trod_int Tryd.underlying54 q1
  obtain ⟨m, e2, -, w2⟩ := DataW.trod_int Tryd.underlying54 q2
  have b0 := bounds_i64 w0
  have b1 := bounds_u64 w1
  have b2 := bounds_u64 w2
  obtain ⟨k, rfl⟩ : ∃ K : Nat, k = K := ⟨k.toNat, by omega⟩
  obtain ⟨m, rfl⟩ : ∃ K : Nat, m = K := ⟨m.toNat, by omega⟩
  simp only [List.cons.injEq, and_true] at e0 e1 e2
  subst e0 e1 e2
  exact ⟨⟨d, k, m⟩, ⟨by simp only; omega, by simp only; omega, by simp only; omega, by simp only; omega⟩, rfl⟩
theorem instrs_of {H : Type} {enc : TypeId × Value → H} {W : World} {fuel : Nat} {cs : List Value} {x : DataW H × List MemPlace} (hf : DataW.trod enc Tryd.prog W 0 (fun _ => true) true fuel 48 cs = some x) :
    ∃ (a : Option Addr) (c : Nat) (S : List In), cs = [.slice a S.length c] ∧ InsAt W a S ∧ (∀ x ∈ S, x.Ok) ∧ S.length < Rows.uptoBulk x.1 ∧ (S.length = 0 ∨ ∃ es sp, x.1 = .slice es sp ∧ S.length = es.length) ∧ (a = none → c = 0) := by
  rcases DataW.trod_slice Tryd.underlying48 hf with ⟨rfl, rfl⟩ | ⟨a, len, cap, elems, rest, n, _, rfl, rfl, _, hl, hm, hlen, hel, _, _⟩
  · exact ⟨none, 0, [], rfl, fun e => (e rfl).elim, by simp, bulk_posI _, .inl rfl, fun _ => rfl⟩
  obtain ⟨-, -, c4⟩ := Tryd.cIn
  rw [c4] at hel
  have hbk : Rows.uptoBulk (DataW.slice (H := H) (elems.map (·.1)) (rest.map (·.1))) = Rows.uptoBulkAll (elems.map (·.1)) + Rows.uptoBulkAll (rest.map (·.1)) + 1 := by simp only [Rows.uptoBulk]
  have each : ∀ i, i < len → ∃ o : In, o.Ok ∧ (∀ j, j < 3 → W.cell? ((a.add (i * 3)).add j) = [Value.int .i64 o.op, .int .u64 o.a, .int .u64 o.b][j]?) := by
    intro i hi
    have h := hel i hi
    rw [List.getElem?_eq_getElem (by omega), Option.bind_eq_some_iff] at h
    obtain ⟨cs8, h1, h2⟩ := h
    obtain ⟨_, h3⟩ := (World.cells?_some h1).2
    obtain ⟨g, hg, rfl⟩ := instr_of h2
    exact ⟨g, hg, h3⟩
  obtain ⟨S, hS, hp⟩ := choose_listI len each
  refine ⟨some a, cap, S, by rw [hS], fun hne => ?_, ?_, ?_, .inr ⟨_, _, rfl, by rw [List.length_map]; omega⟩, fun h => by cases h⟩
  · have hp0 : 0 < S.length := List.length_pos_iff.2 hne
    obtain ⟨b, off, spot⟩ := a
    have h00 := (hp 0 hp0).2 0 (by omega)
    have hspot : spot = none := by
      have e : [Value.int .i64 (S[0]).op, .int .u64 (S[0]).a, .int .u64 (S[0]).b][0]? = some (.int .i64 (S[0]).op) := rfl
      rw [e] at h00
      simpa [Addr.add] using World.cell?_spot h00
    subst hspot
    refine ⟨b, off, rfl, fun k hk => ?_⟩
    have t0 := (hp k hk).2 0 (by omega)
    have t1 := (hp k hk).2 1 (by omega)
    have t2 := (hp k hk).2 2 (by omega)
    rw [Go.WideShapes.add_plain, Go.WideShapes.add_plain] at t0 t1 t2
    exact ⟨t0, t1, t2⟩
  · intro y hy
    obtain ⟨k, hk, rfl⟩ := List.mem_iff_getElem.1 hy
    exact (hp k hk).1
  · have h1 := len_leI (elems.map (·.1))
    show S.length < Rows.uptoBulk (DataW.slice (H := H) (elems.map (·.1)) (rest.map (·.1)))
    rw [List.length_map] at h1
    omega
end Go.Proofs.YtohnkamobmkhkaaDoor
