import Derived.Test.YtidgofpmnlddaaaGreatDoorLof
import Derived.Test.YtidgofpmnlddaaaGreatDoorMin
import Derived.Test.YtidgofpmnlddaaaGreatDoorMiq
namespace Go.Proofs.YtidgofpmnlddaaaGreatDoor
open Go.ChangeShapes Go.WideShapes Go.ChangeAt Go.RowKit

/-- A slice of ints that came in, with its room. -/
theorem ints_inM {H : Type} {enc : TypeId × Value → H} {W : World} {fuel : Nat} {cs : List Value} {x : DataW H × List MemPlace} (hf : DataW.trod enc Tryz.prog W 0 (fun _ => true) true fuel 24 cs = some x) :
    ∃ (a : Option Addr) (c : Nat) (B : List Int), cs = [.slice a B.length c] ∧ IntsAt W a B ∧ IsInts B ∧ (B.length ≤ c ∧ (a = none → c = 0)) ∧ B.length + 1 ≤ Rows.uptoBulk x.1 := by
  rcases open_ints Tryz.underlying24 Tryz.underlying3 Tryz.cP.1 hf with ⟨rfl, rfl⟩ | ⟨a, l, c, zs, rfl, _, hl, hm, hz, rfl, hcell, hwz⟩
  · exact ⟨none, 0, [], rfl, fun e => (e rfl).elim, fun y hy => (by cases hy), ⟨Nat.le_refl _, fun _ => rfl⟩, bulk_pos _⟩
  · simp only [if_true] at hz
    have hlen : (zs.take l).length = l := by rw [List.length_take]; omega
    refine ⟨some a, c, zs.take l, by rw [hlen], fun hne => ?_, fun y hy => ?_, ⟨by omega, fun e => by cases e⟩, ?_⟩
    · have hpos : 0 < zs.length := by
        have := List.length_pos_iff.2 hne
        omega
      obtain ⟨b, off, rfl, hc⟩ := ints_at hcell hpos
      refine ⟨b, off, rfl, fun k hk => ?_⟩
      have := hc k (by omega)
      rw [List.getElem?_take, if_pos (by omega)]
      exact this
    · have := bounds_i64 (hwz y (List.mem_of_mem_take hy))
      omega
    · have := bulk_slice (H := H) (lits .i64 (zs.take l)) (lits .i64 (zs.drop l))
      have e : (lits (H := H) .i64 (zs.take l)).length = (zs.take l).length := by simp [lits]
      rw [e] at this
      exact this
/-- Lists of numbers that came in. -/
theorem lists_ofM {H : Type} {enc : TypeId × Value → H} {W : World} {fuel : Nat} {cs : List Value} {x : DataW H × List MemPlace} (hf : DataW.trod enc Tryz.prog W 0 (fun _ => true) true fuel 23 cs = some x) :
    ∃ (a : Option Addr) (c : Nat) (S : List Il), cs = [.slice a S.length c] ∧ LiAt W a S ∧ (∀ g ∈ S, g.l.length ≤ g.c ∧ (g.a = none → g.c = 0)) ∧ (∀ g ∈ S, IsInts g.l) ∧ S.length ≤ c ∧ ltot S + S.length < Rows.uptoBulk x.1 := by
  rcases DataW.trod_slice Tryz.underlying23 hf with ⟨rfl, rfl⟩ | ⟨a, len, cap, elems, rest, n, _, rfl, rfl, _, hl, hm, hlen, hel, _, _⟩
  · exact ⟨none, 0, [], rfl, fun e => (e rfl).elim, fun y hy => (by cases hy), fun y hy => (by cases hy), Nat.le_refl _, bulk_pos _⟩
  obtain ⟨-, -, c4, -, -⟩ := Tryz.cP
  rw [c4] at hel
  have hbk : Rows.uptoBulk (DataW.slice (H := H) (elems.map (·.1)) (rest.map (·.1))) = Rows.uptoBulkAll (elems.map (·.1)) + Rows.uptoBulkAll (rest.map (·.1)) + 1 := by simp only [Rows.uptoBulk]
  have each : ∀ i, i < len → ∃ o : Il, (∀ j, j < 1 → W.cell? ((a.add (i * 1)).add j) = [Value.slice o.a o.l.length o.c][j]?) ∧ (IntsAt W o.a o.l ∧ IsInts o.l ∧ o.l.length ≤ o.c ∧ (o.a = none → o.c = 0)) ∧ ∀ (h : i < elems.length), o.l.length + 1 ≤ Rows.uptoBulk (elems[i]).1 := by
    intro i hi
    have h := hel i hi
    rw [List.getElem?_eq_getElem (by omega), Option.bind_eq_some_iff] at h
    obtain ⟨cs8, h1, h2⟩ := h
    obtain ⟨_, h3⟩ := (World.cells?_some h1).2
    obtain ⟨la, lc, B, rfl, k1, k2, k3, k4⟩ := ints_inM h2
    exact ⟨⟨la, lc, B⟩, h3, ⟨k1, k2, k3⟩, fun _ => k4⟩
  obtain ⟨S, hS, hp⟩ := choose_listP len each
  refine ⟨some a, cap, S, by rw [hS], fun hne => ?_, fun o ho => ?_, fun o ho => ?_, by omega, ?_⟩
  · have hp0 : 0 < S.length := List.length_pos_iff.2 hne
    obtain ⟨b, off, spot⟩ := a
    have h00 := (hp 0 hp0).1 0 (by omega)
    have hspot : spot = none := by
      have e : [Value.slice (S[0]).a (S[0]).l.length (S[0]).c][0]? = some (.slice (S[0]).a (S[0]).l.length (S[0]).c) := rfl
      rw [e] at h00
      simpa [Addr.add] using World.cell?_spot h00
    subst hspot
    refine ⟨b, off, rfl, fun k hk => ?_⟩
    have t0 := (hp k hk).1 0 (by omega)
    rw [Go.WideShapes.add_plain, Go.WideShapes.add_plain, Nat.mul_one] at t0
    exact ⟨t0, (hp k hk).2.1.1⟩
  · obtain ⟨i, hi, rfl⟩ := List.mem_iff_getElem.1 ho
    exact (hp i hi).2.1.2.2
  · obtain ⟨i, hi, rfl⟩ := List.mem_iff_getElem.1 ho
    exact (hp i hi).2.1.2.1
  · have h1 := ltot_leC S (elems.map (·.1)) (by rw [List.length_map]; omega) (fun i hi hi' => by
      rw [List.getElem_map]
      exact (hp i hi).2.2 (by omega))
    show ltot S + S.length < Rows.uptoBulk (DataW.slice (H := H) (elems.map (·.1)) (rest.map (·.1)))
    omega
/-- The law CursorMemory, whole. -/
theorem memory_all (PL : List Pg) (L : List Il) (O : List Int) (a la oa : Option Addr) (c lc oc : Nat) (ad : Nat → Addr) (w : World) (hP : PsAt w a PL) (hPI : ∀ g ∈ PL, IsInts g.ps) (hPl : PL.length ≤ 1048576) (hPc : PL.length ≤ c) (hPt : tot (pol PL) ≤ 1048576) (hL : LiAt w la L) (hO : IntsAt w oa O) (hll : L.length ≤ 1048576) (hol : O.length ≤ 1048576) (hlx : ∀ x ∈ L, x.l.length ≤ x.c ∧ (x.a = none → x.c = 0)) (hoz : oa = none → oc = 0) (htl : ltot L ≤ 1048576) (hE : Errs13 w ad) :
    Calls Tryz.prog 3 #[.slice a PL.length c, .slice la L.length lc, .slice oa O.length oc] w fun e w' => e = .returned (.bool true) ∧ Kept (fun _ => False) w w' := by
  obtain ⟨mk, hmk⟩ := markI_fun
  exact memory_walk mk hmk PL a la oa c lc oc ad w hP hPI hPl hPc hPt L.length O.length (fun V k => phraseKeeps_any mk hmk L O la oa lc oc V (hL.kept k) (hO.kept k) hll hol hlx hoz htl) hE
end Go.Proofs.YtidgofpmnlddaaaGreatDoor
