import Derived.Test.YtedohkcoeebajaaDoorPom
import Derived.Test.YtedohkcoeebajaaDoorBcp
import Derived.Handy
import Derived.OpenShut
namespace Go.Proofs.YtedohkcoeebajaaDoor
open Go.ChangeShapes Go.WideShapes Go.ChangeAt Go.RowKit

theorem Tryd.cP : Tryd.prog.cellsOf 3 = 1 ∧ Tryd.prog.cellsOf 30 = 1 ∧ Tryd.prog.cellsOf 23 = 1 ∧ Tryd.prog.cellsOf 59 = 2 ∧ Tryd.prog.cellsOf 33 = 1 := by
  refine ⟨?_, ?_, ?_, ?_, ?_⟩ <;> kernel_rfl
theorem list2P {α : Type} {l : List α} (h : l.length = 2) : ∃ a b, l = [a, b] := by
  match l, h with
  | [a, b], _ => exact ⟨a, b, rfl⟩
theorem list4P {α : Type} {l : List α} (h : l.length = 4) : ∃ a b c d, l = [a, b, c, d] := by
  match l, h with
  | [a, b, c, d], _ => exact ⟨a, b, c, d, rfl⟩
/-- A slice of ints that came in. -/
theorem ints_inP {H : Type} {enc : TypeId × Value → H} {W : World} {fuel : Nat} {cs : List Value} {x : DataW H × List MemPlace} (hf : DataW.trod enc Tryd.prog W 0 (fun _ => true) true fuel 23 cs = some x) :
    ∃ (a : Option Addr) (c : Nat) (B : List Int), cs = [.slice a B.length c] ∧ IntsAt W a B ∧ IsInts B ∧ B.length < Rows.uptoBulk x.1 := by
  rcases open_ints Tryd.underlying23 Tryd.underlying3 Tryd.cP.1 hf with ⟨rfl, rfl⟩ | ⟨a, l, c, zs, rfl, _, hl, hm, hz, rfl, hcell, hwz⟩
  · exact ⟨none, 0, [], rfl, fun e => (e rfl).elim, fun y hy => (by cases hy), bulk_pos _⟩
  · simp only [if_true] at hz
    have hlen : (zs.take l).length = l := by rw [List.length_take]; omega
    refine ⟨some a, c, zs.take l, by rw [hlen], fun hne => ?_, fun y hy => ?_, ?_⟩
    · have hpos : 0 < zs.length := by
        have := List.length_pos_iff.2 hne
        omega
      obtain ⟨b, off, rfl, hc⟩ := ints_at hcell hpos
      refine ⟨b, off, rfl, fun k hk => ?_⟩
      have := hc k (by omega)
      rw [List.getElem?_take, if_pos (by omega)]
      simpa [List.getD] using this
    · have := bounds_i64 (hwz y (List.mem_of_mem_take hy))
      omega
    · have := bulk_slice (H := H) (lits .i64 (zs.take l)) (lits .i64 (zs.drop l))
      have e : (lits (H := H) .i64 (zs.take l)).length = (zs.take l).length := by simp [lits]
      rw [e] at this
      exact this
set_option maxRecDepth 100000 in
/-- A posting that came in. -/
theorem posting_of {H : Type} {enc : TypeId × Value → H} {W : World} {fuel : Nat} {cs : List Value} {x : DataW H × List MemPlace} (hf : DataW.trod enc Tryd.prog W 0 (fun _ => true) true fuel 59 cs = some x) :
    ∃ g : Pg, cs = pgc g ∧ IntsAt W g.a g.ps ∧ IsInts g.ps ∧ g.ps.length + 1 ≤ Rows.uptoBulk x.1 := by
  obtain ⟨xs, n, rfl, hx, hl, hxl, hfs⟩ := DataW.trod_struct Tryd.underlying59 hf
  obtain ⟨c1, c2, c3, c4, c5⟩ := Tryd.cP
  obtain ⟨x0, x1, rfl⟩ := list2P hxl
  rw [c4] at hl
  obtain ⟨y0, y1, rfl⟩ := list2P hl
  have q0 : DataW.trod enc Tryd.prog W 0 (fun _ => true) true n 3 (([y0, y1].drop 0).take (Tryd.prog.cellsOf 3)) = some x0 := hfs 0 _ rfl
  have q1 : DataW.trod enc Tryd.prog W 0 (fun _ => true) true n 23 (([y0, y1].drop 1).take (Tryd.prog.cellsOf 23)) = some x1 := hfs 1 _ rfl
  rw [c1] at q0
  rw [c3] at q1
  simp only [List.drop, List.take] at q0 q1
  obtain ⟨d, e0, -, -⟩ := DataW.trod_int Tryd.underlying3 q0
  obtain ⟨la, lc, L, e1, hl1, hl2, hl4⟩ := ints_inP q1
  simp only [List.cons.injEq, and_true] at e0 e1
  subst e0 e1
  have hB : Rows.uptoBulk x.1 = Rows.uptoBulk x0.1 + (Rows.uptoBulk x1.1 + 0) + 1 := by
    rw [hx]
    simp only [List.map, Rows.uptoBulk, Rows.uptoBulkAll]
  exact ⟨⟨d, la, lc, L⟩, rfl, hl1, hl2, by simp only; omega⟩
theorem choose_listP {α : Type} {P : Nat → α → Prop} : ∀ n, (∀ i, i < n → ∃ a, P i a) → ∃ l : List α, l.length = n ∧ ∀ i (h : i < l.length), P i l[i]
  | 0, _ => ⟨[], rfl, fun i h => by simp at h⟩
  | n + 1, h => by
    obtain ⟨l, hl, hp⟩ := choose_listP n (fun i hi => h i (by omega))
    obtain ⟨a, ha⟩ := h n (by omega)
    refine ⟨l ++ [a], by simp [hl], fun i hi => ?_⟩
    by_cases hn : i < l.length
    · rw [List.getElem_append_left hn]
      exact hp i hn
    · have : i = l.length := by simp at hi; omega
      subst this
      rw [List.getElem_append_right (by omega)]
      simp only [Nat.sub_self, List.getElem_cons_zero, hl]
      exact ha
theorem tot_leP {H : Type} : ∀ (S : List Pg) (ds : List (DataW H)), S.length = ds.length → (∀ i (h : i < S.length) (h' : i < ds.length), (S[i]).ps.length + 1 ≤ Rows.uptoBulk ds[i]) → tot (pol S) + S.length ≤ Rows.uptoBulkAll ds
  | [], ds, _, _ => Nat.zero_le _
  | o :: r, [], h, _ => by simp at h
  | o :: r, d :: ds, h, hp => by
    have h0 : o.ps.length + 1 ≤ Rows.uptoBulk d := hp 0 (by simp) (by simp)
    have h1 := tot_leP r ds (by simpa using h) (fun i hi hi' => hp (i + 1) (by simp; omega) (by simp; omega))
    have e : pol (o :: r) = o.po :: pol r := rfl
    rw [e]
    simp only [tot, Rows.uptoBulkAll, List.length_cons, Pg.po]
    omega
/-- Postings that came in. -/
theorem postings_of {H : Type} {enc : TypeId × Value → H} {W : World} {fuel : Nat} {cs : List Value} {x : DataW H × List MemPlace} (hf : DataW.trod enc Tryd.prog W 0 (fun _ => true) true fuel 33 cs = some x) :
    ∃ (a : Option Addr) (c : Nat) (S : List Pg), cs = [.slice a S.length c] ∧ PsAt W a S ∧ (∀ g ∈ S, IsInts g.ps) ∧ S.length ≤ c ∧ tot (pol S) + S.length < Rows.uptoBulk x.1 := by
  rcases DataW.trod_slice Tryd.underlying33 hf with ⟨rfl, rfl⟩ | ⟨a, len, cap, elems, rest, n, _, rfl, rfl, _, hl, hm, hlen, hel, _, _⟩
  · exact ⟨none, 0, [], rfl, fun e => (e rfl).elim, fun y hy => (by cases hy), Nat.le_refl _, bulk_pos _⟩
  obtain ⟨-, -, -, c4, -⟩ := Tryd.cP
  rw [c4] at hel
  have hbk : Rows.uptoBulk (DataW.slice (H := H) (elems.map (·.1)) (rest.map (·.1))) = Rows.uptoBulkAll (elems.map (·.1)) + Rows.uptoBulkAll (rest.map (·.1)) + 1 := by simp only [Rows.uptoBulk]
  have each : ∀ i, i < len → ∃ o : Pg, (∀ j, j < 2 → W.cell? ((a.add (i * 2)).add j) = (pgc o)[j]?) ∧ (IntsAt W o.a o.ps ∧ IsInts o.ps) ∧ ∀ (h : i < elems.length), o.ps.length + 1 ≤ Rows.uptoBulk (elems[i]).1 := by
    intro i hi
    have h := hel i hi
    rw [List.getElem?_eq_getElem (by omega), Option.bind_eq_some_iff] at h
    obtain ⟨cs8, h1, h2⟩ := h
    obtain ⟨_, h3⟩ := (World.cells?_some h1).2
    obtain ⟨g, rfl, k1, k2, k3⟩ := posting_of h2
    exact ⟨g, h3, ⟨k1, k2⟩, fun _ => k3⟩
  obtain ⟨S, hS, hp⟩ := choose_listP len each
  refine ⟨some a, cap, S, by rw [hS], fun hne => ?_, fun o ho => ?_, by omega, ?_⟩
  · have hp0 : 0 < S.length := List.length_pos_iff.2 hne
    obtain ⟨b, off, spot⟩ := a
    have h00 := (hp 0 hp0).1 0 (by omega)
    have hspot : spot = none := by
      have e : (pgc S[0])[0]? = some (.int .i64 (S[0]).d) := rfl
      rw [e] at h00
      simpa [Addr.add] using World.cell?_spot h00
    subst hspot
    refine ⟨b, off, rfl, fun k hk => ?_⟩
    have t0 := (hp k hk).1 0 (by omega)
    have t1 := (hp k hk).1 1 (by omega)
    rw [Go.WideShapes.add_plain, Go.WideShapes.add_plain] at t0 t1
    exact ⟨t0, t1, (hp k hk).2.1.1⟩
  · obtain ⟨i, hi, rfl⟩ := List.mem_iff_getElem.1 ho
    exact (hp i hi).2.1.2
  · have h1 := tot_leP S (elems.map (·.1)) (by rw [List.length_map]; omega) (fun i hi hi' => by
      rw [List.getElem_map]
      exact (hp i hi).2.2 (by omega))
    show tot (pol S) + S.length < Rows.uptoBulk (DataW.slice (H := H) (elems.map (·.1)) (rest.map (·.1)))
    omega
end Go.Proofs.YtedohkcoeebajaaDoor
