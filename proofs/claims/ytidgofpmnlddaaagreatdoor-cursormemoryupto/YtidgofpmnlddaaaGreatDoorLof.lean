import Derived.Test.YtidgofpmnlddaaaGreatDoorMrg5
import Derived.Test.YtidgofpmnlddaaaGreatDoorPhy
namespace Go.Proofs.YtidgofpmnlddaaaGreatDoor
open Go.ChangeShapes Go.WideShapes Go.ChangeAt Go.RowKit

/-- A slice of ints that came in, with its room. -/
theorem ints_inC {H : Type} {enc : TypeId × Value → H} {W : World} {fuel : Nat} {cs : List Value} {x : DataW H × List MemPlace} (hf : DataW.trod enc Tryz.prog W 0 (fun _ => true) true fuel 24 cs = some x) :
    ∃ (a : Option Addr) (c : Nat) (B : List Int), cs = [.slice a B.length c] ∧ IntsAt W a B ∧ IsInts B ∧ B.length ≤ c ∧ B.length + 1 ≤ Rows.uptoBulk x.1 := by
  rcases open_ints Tryz.underlying24 Tryz.underlying3 Tryz.cP.1 hf with ⟨rfl, rfl⟩ | ⟨a, l, c, zs, rfl, _, hl, hm, hz, rfl, hcell, hwz⟩
  · exact ⟨none, 0, [], rfl, fun e => (e rfl).elim, fun y hy => (by cases hy), Nat.le_refl _, bulk_pos _⟩
  · simp only [if_true] at hz
    have hlen : (zs.take l).length = l := by rw [List.length_take]; omega
    refine ⟨some a, c, zs.take l, by rw [hlen], fun hne => ?_, fun y hy => ?_, by omega, ?_⟩
    · have hpos : 0 < zs.length := by
        have := List.length_pos_iff.2 hne
        omega
      obtain ⟨b, off, rfl, hc⟩ := ints_at hcell hpos
      refine ⟨b, off, rfl, fun k hk => ?_⟩
      have := hc k (by omega)
      rw [List.getElem?_take, if_pos (by omega)]
      exact this
    · have := bounds_i64 (hwz y (List.mem_of_mem_take hy))
      omega
    · have := bulk_slice (H := H) (lits .i64 (zs.take l)) (lits .i64 (zs.drop l))
      have e : (lits (H := H) .i64 (zs.take l)).length = (zs.take l).length := by simp [lits]
      rw [e] at this
      exact this
theorem ltot_leC {H : Type} : ∀ (S : List Il) (ds : List (DataW H)), S.length = ds.length → (∀ i (h : i < S.length) (h' : i < ds.length), (S[i]).l.length + 1 ≤ Rows.uptoBulk ds[i]) → ltot S + S.length ≤ Rows.uptoBulkAll ds
  | [], ds, _, _ => Nat.zero_le _
  | o :: r, [], h, _ => by simp at h
  | o :: r, d :: ds, h, hp => by
    have h0 : o.l.length + 1 ≤ Rows.uptoBulk d := hp 0 (by simp) (by simp)
    have h1 := ltot_leC r ds (by simpa using h) (fun i hi hi' => hp (i + 1) (by simp; omega) (by simp; omega))
    simp only [ltot, Rows.uptoBulkAll, List.length_cons]
    omega
/-- Lists of numbers that came in. -/
theorem lists_of {H : Type} {enc : TypeId × Value → H} {W : World} {fuel : Nat} {cs : List Value} {x : DataW H × List MemPlace} (hf : DataW.trod enc Tryz.prog W 0 (fun _ => true) true fuel 23 cs = some x) :
    ∃ (a : Option Addr) (c : Nat) (S : List Il), cs = [.slice a S.length c] ∧ LiAt W a S ∧ (∀ g ∈ S, g.l.length ≤ g.c) ∧ (∀ g ∈ S, IsInts g.l) ∧ S.length ≤ c ∧ ltot S + S.length < Rows.uptoBulk x.1 := by
  rcases DataW.trod_slice Tryz.underlying23 hf with ⟨rfl, rfl⟩ | ⟨a, len, cap, elems, rest, n, _, rfl, rfl, _, hl, hm, hlen, hel, _, _⟩
  · exact ⟨none, 0, [], rfl, fun e => (e rfl).elim, fun y hy => (by cases hy), fun y hy => (by cases hy), Nat.le_refl _, bulk_pos _⟩
  obtain ⟨-, -, c4, -, -⟩ := Tryz.cP
  rw [c4] at hel
  have hbk : Rows.uptoBulk (DataW.slice (H := H) (elems.map (·.1)) (rest.map (·.1))) = Rows.uptoBulkAll (elems.map (·.1)) + Rows.uptoBulkAll (rest.map (·.1)) + 1 := by simp only [Rows.uptoBulk]
  have each : ∀ i, i < len → ∃ o : Il, (∀ j, j < 1 → W.cell? ((a.add (i * 1)).add j) = [Value.slice o.a o.l.length o.c][j]?) ∧ (IntsAt W o.a o.l ∧ IsInts o.l ∧ o.l.length ≤ o.c) ∧ ∀ (h : i < elems.length), o.l.length + 1 ≤ Rows.uptoBulk (elems[i]).1 := by
    intro i hi
    have h := hel i hi
    rw [List.getElem?_eq_getElem (by omega), Option.bind_eq_some_iff] at h
    obtain ⟨cs8, h1, h2⟩ := h
    obtain ⟨_, h3⟩ := (World.cells?_some h1).2
    obtain ⟨la, lc, B, rfl, k1, k2, k3, k4⟩ := ints_inC h2
    exact ⟨⟨la, lc, B⟩, h3, ⟨k1, k2, k3⟩, fun _ => k4⟩
  obtain ⟨S, hS, hp⟩ := choose_listP len each
  refine ⟨some a, cap, S, by rw [hS], fun hne => ?_, fun o ho => ?_, fun o ho => ?_, by omega, ?_⟩
  · have hp0 : 0 < S.length := List.length_pos_iff.2 hne
    obtain ⟨b, off, spot⟩ := a
    have h00 := (hp 0 hp0).1 0 (by omega)
    have hspot : spot = none := by
      have e : [Value.slice (S[0]).a (S[0]).l.length (S[0]).c][0]? = some (.slice (S[0]).a (S[0]).l.length (S[0]).c) := rfl
      rw [e] at h00
      simpa [Addr.add] using World.cell?_spot h00
    subst hspot
    refine ⟨b, off, rfl, fun k hk => ?_⟩
    have t0 := (hp k hk).1 0 (by omega)
    rw [Go.WideShapes.add_plain, Go.WideShapes.add_plain, Nat.mul_one] at t0
    exact ⟨t0, (hp k hk).2.1.1⟩
  · obtain ⟨i, hi, rfl⟩ := List.mem_iff_getElem.1 ho
    exact (hp i hi).2.1.2.2
  · obtain ⟨i, hi, rfl⟩ := List.mem_iff_getElem.1 ho
    exact (hp i hi).2.1.2.1
  · have h1 := ltot_leC S (elems.map (·.1)) (by rw [List.length_map]; omega) (fun i hi hi' => by
      rw [List.getElem_map]
      exact (hp i hi).2.2 (by omega))
    show ltot S + S.length < Rows.uptoBulk (DataW.slice (H := H) (elems.map (·.1)) (rest.map (·.1)))
    omega
end Go.Proofs.YtidgofpmnlddaaaGreatDoor
