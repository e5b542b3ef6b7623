import Derived.Test.YtacmmclamkhpcaaDoorStm
import Derived.Handy
import Derived.OpenShut
namespace Go.Proofs.YtacmmclamkhpcaaDoor
open Go.ChangeShapes Go.WideShapes Go.ChangeAt Go.RowKit

/-! Tokens that came in. -/
theorem bulk_posE {H : Type} (d : DataW H) : 1 ≤ Rows.uptoBulk d := by
  cases d with
  | lit l => cases l <;> simp [Rows.uptoBulk]
  | _ => simp [Rows.uptoBulk]
theorem list3E {α : Type} {l : List α} (h : l.length = 3) : ∃ a b c, l = [a, b, c] := by
  match l, h with
  | [a, b, c], _ => exact ⟨a, b, c, rfl⟩
/-- An edit as it lies. -/
structure EdT where
  k : Int
  a : Int
  c : UInt8
def EdsAt (W : World) (a : Option Addr) (S : List EdT) : Prop := S ≠ [] → ∃ b off, a = some ⟨b, off, none⟩ ∧ ∀ j y, S[j]? = some y → W.cell? ⟨b, off + j * 3 + 0, none⟩ = some (.int .i64 y.k) ∧ W.cell? ⟨b, off + j * 3 + 1, none⟩ = some (.int .i64 y.a) ∧ W.cell? ⟨b, off + j * 3 + 2, none⟩ = some (.int .u8 (y.c.toNat : Int))
theorem Tryd.cEd : Tryd.prog.cellsOf 3 = 1 ∧ Tryd.prog.cellsOf 5 = 1 ∧ Tryd.prog.cellsOf 40 = 3 := by
  refine ⟨?_, ?_, ?_⟩ <;> kernel_rfl
theorem choose_listE {α : Type} {P : Nat → α → Prop} : ∀ n, (∀ i, i < n → ∃ a, P i a) → ∃ l : List α, l.length = n ∧ ∀ i (h : i < l.length), P i l[i]
  | 0, _ => ⟨[], rfl, fun i h => by simp at h⟩
  | n + 1, h => by
    obtain ⟨l, hl, hp⟩ := choose_listE n (fun i hi => h i (by omega))
    obtain ⟨a, ha⟩ := h n (by omega)
    refine ⟨l ++ [a], by simp [hl], fun i hi => ?_⟩
    by_cases hn : i < l.length
    · rw [List.getElem_append_left hn]
      exact hp i hn
    · have : i = l.length := by simp at hi; omega
      subst this
      rw [List.getElem_append_right (by omega)]
      simp only [Nat.sub_self, List.getElem_cons_zero, hl]
      exact ha
theorem u8_of {z : Int} (h : (Lit.int .u8 z).wf = true) : ∃ c : UInt8, z = (c.toNat : Int) := by
  have h2 : IntKind.u8.min ≤ z ∧ z ≤ IntKind.u8.max := by simpa [Lit.wf] using h
  have hr : 0 ≤ z ∧ z ≤ 255 := h2
  refine ⟨UInt8.ofNat z.toNat, ?_⟩
  rw [UInt8.toNat_ofNat']
  omega
set_option maxRecDepth 100000 in
theorem edit_of {H : Type} {enc : TypeId × Value → H} {W : World} {fuel : Nat} {cs : List Value} {x : DataW H × List MemPlace} (hf : DataW.trod enc Tryd.prog W 0 (fun _ => true) true fuel 40 cs = some x) :
    ∃ g : EdT, cs = [.int .i64 g.k, .int .i64 g.a, .int .u8 (g.c.toNat : Int)] := by
  obtain ⟨xs, n, rfl, hx, hl, hxl, hfs⟩ := DataW.trod_struct Tryd.underlying40 hf
  obtain ⟨c1, c2, c4⟩ := Tryd.cEd
  obtain ⟨x0, x1, x2, rfl⟩ := list3E hxl
  rw [c4] at hl
  obtain ⟨y0, y1, y2, rfl⟩ := list3E hl
  have q0 : DataW.trod enc Tryd.prog W 0 (fun _ => true) true n 3 (([y0, y1, y2].drop 0).take (Tryd.prog.cellsOf 3)) = some x0 := hfs 0 _ rfl
  have q1 : DataW.trod enc Tryd.prog W 0 (fun _ => true) true n 3 (([y0, y1, y2].drop 1).take (Tryd.prog.cellsOf 3)) = some x1 := hfs 1 _ rfl
  have q2 : DataW.trod enc Tryd.prog W 0 (fun _ => true) true n 5 (([y0, y1, y2].drop 2).take (Tryd.prog.cellsOf 5)) = some x2 := hfs 2 _ rfl
  rw [c2] at q2
  rw [c1] at q0 q1
  simp only [List.drop, List.take] at q0 q1 q2
  obtain ⟨d, e0, -, -⟩ := DataW.trod_int Tryd.underlying3 q0
  obtain ⟨k, e1, -, -⟩ := DataW.trod_int Tryd.underlying3 q1
  obtain ⟨e, e2, -, hw⟩ := DataW.trod_int Tryd.underlying5 q2
  obtain ⟨c, rfl⟩ := u8_of hw
  simp only [List.cons.injEq, and_true] at e0 e1 e2
  subst e0 e1 e2
  exact ⟨⟨d, k, c⟩, rfl⟩
theorem len_leE {H : Type} : ∀ (ds : List (DataW H)), ds.length ≤ Rows.uptoBulkAll ds
  | [] => Nat.zero_le _
  | d :: ds => by
    have h0 : 1 ≤ Rows.uptoBulk d := bulk_posE d
    have h1 := len_leE ds
    simp only [Rows.uptoBulkAll, List.length_cons]
    omega
theorem edits_of {H : Type} {enc : TypeId × Value → H} {W : World} {fuel : Nat} {cs : List Value} {x : DataW H × List MemPlace} (hf : DataW.trod enc Tryd.prog W 0 (fun _ => true) true fuel 38 cs = some x) :
    ∃ (a : Option Addr) (c : Nat) (S : List EdT), cs = [.slice a S.length c] ∧ EdsAt W a S ∧ S.length < Rows.uptoBulk x.1 ∧ S.length ≤ c := by
  rcases DataW.trod_slice Tryd.underlying38 hf with ⟨rfl, rfl⟩ | ⟨a, len, cap, elems, rest, n, _, rfl, rfl, _, hl, hm, hlen, hel, _, _⟩
  · exact ⟨none, 0, [], rfl, fun e => (e rfl).elim, bulk_posE _, Nat.le_refl _⟩
  obtain ⟨-, -, c4⟩ := Tryd.cEd
  rw [c4] at hel
  have hbk : Rows.uptoBulk (DataW.slice (H := H) (elems.map (·.1)) (rest.map (·.1))) = Rows.uptoBulkAll (elems.map (·.1)) + Rows.uptoBulkAll (rest.map (·.1)) + 1 := by simp only [Rows.uptoBulk]
  have each : ∀ i, i < len → ∃ o : EdT, (∀ j, j < 3 → W.cell? ((a.add (i * 3)).add j) = [Value.int .i64 o.k, .int .i64 o.a, .int .u8 (o.c.toNat : Int)][j]?) := by
    intro i hi
    have h := hel i hi
    rw [List.getElem?_eq_getElem (by omega), Option.bind_eq_some_iff] at h
    obtain ⟨cs8, h1, h2⟩ := h
    obtain ⟨_, h3⟩ := (World.cells?_some h1).2
    obtain ⟨g, rfl⟩ := edit_of h2
    exact ⟨g, h3⟩
  obtain ⟨S, hS, hp⟩ := choose_listE len each
  refine ⟨some a, cap, S, by rw [hS], fun hne => ?_, ?_, by rw [hS]; exact hl⟩
  · have hp0 : 0 < S.length := List.length_pos_iff.2 hne
    obtain ⟨b, off, spot⟩ := a
    have h00 := (hp 0 hp0) 0 (by omega)
    have hspot : spot = none := by
      have e : [Value.int .i64 (S[0]).k, .int .i64 (S[0]).a, .int .u8 ((S[0]).c.toNat : Int)][0]? = some (.int .i64 (S[0]).k) := rfl
      rw [e] at h00
      simpa [Addr.add] using World.cell?_spot h00
    subst hspot
    refine ⟨b, off, rfl, fun k y hy => ?_⟩
    obtain ⟨hk, rfl⟩ := List.getElem?_eq_some_iff.1 hy
    have t0 := (hp k hk) 0 (by omega)
    have t1 := (hp k hk) 1 (by omega)
    have t2 := (hp k hk) 2 (by omega)
    rw [Go.WideShapes.add_plain, Go.WideShapes.add_plain] at t0 t1 t2
    exact ⟨t0, t1, t2⟩
  · have h1 := len_leE (elems.map (·.1))
    show S.length < Rows.uptoBulk (DataW.slice (H := H) (elems.map (·.1)) (rest.map (·.1)))
    rw [List.length_map] at h1
    omega
end Go.Proofs.YtacmmclamkhpcaaDoor
