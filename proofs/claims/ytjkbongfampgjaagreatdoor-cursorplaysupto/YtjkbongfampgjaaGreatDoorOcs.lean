import Derived.Test.YtjkbongfampgjaaGreatDoorPwa
namespace Go.Proofs.YtjkbongfampgjaaGreatDoor
open Go.ChangeShapes Go.WideShapes Go.ChangeAt Go.RowKit

/-- A call of the script. -/
structure Oc where
  k : Int
  w : Int
  n : Int
def InI (x : Int) : Prop := -9223372036854775808 ≤ x ∧ x ≤ 9223372036854775807
/-- Calls as they lie. -/
def OcAt (W : World) (a : Option Addr) (O : List Oc) : Prop :=
  O ≠ [] → ∃ b off, a = some ⟨b, off, none⟩ ∧ ∀ k (h : k < O.length), (W.cell? ⟨b, off + k * 3, none⟩ = some (.int .i64 O[k].k) ∧ W.cell? ⟨b, off + k * 3 + 1, none⟩ = some (.int .i64 O[k].w) ∧ W.cell? ⟨b, off + k * 3 + 2, none⟩ = some (.int .i64 O[k].n)) ∧ InI O[k].k ∧ InI O[k].w ∧ InI O[k].n
theorem OcAt.kept {w w' : World} {a : Option Addr} {O : List Oc} (h : OcAt w a O) (k : Kept (fun _ => False) w w') : OcAt w' a O := by
  intro hne
  obtain ⟨b, off, e, hc⟩ := h hne
  exact ⟨b, off, e, fun j hj => by
    obtain ⟨⟨r0, r1, r2⟩, r⟩ := hc j hj
    exact ⟨⟨k.cell r0 (fun f => f), k.cell r1 (fun f => f), k.cell r2 (fun f => f)⟩, r⟩⟩
theorem list3O {α : Type} {l : List α} (h : l.length = 3) : ∃ a b c, l = [a, b, c] := by
  match l, h with
  | [a, b, c], _ => exact ⟨a, b, c, rfl⟩
theorem Tryz.cOp : Tryz.prog.cellsOf 3 = 1 ∧ Tryz.prog.cellsOf 38 = 3 := by
  refine ⟨?_, ?_⟩ <;> kernel_rfl
set_option maxRecDepth 100000 in
/-- A call that came in. -/
theorem opl_of {H : Type} {enc : TypeId × Value → H} {W : World} {fuel : Nat} {cs : List Value} {x : DataW H × List MemPlace} (hf : DataW.trod enc Tryz.prog W 0 (fun _ => true) true fuel 38 cs = some x) :
    ∃ g : Oc, cs = [.int .i64 g.k, .int .i64 g.w, .int .i64 g.n] ∧ (-9223372036854775808 ≤ g.k ∧ g.k ≤ 9223372036854775807) ∧ (-9223372036854775808 ≤ g.w ∧ g.w ≤ 9223372036854775807) ∧ (-9223372036854775808 ≤ g.n ∧ g.n ≤ 9223372036854775807) ∧ 1 ≤ Rows.uptoBulk x.1 := by
  obtain ⟨xs, n, rfl, hx, hl, hxl, hfs⟩ := DataW.trod_struct Tryz.underlying38 hf
  obtain ⟨c1, c4⟩ := Tryz.cOp
  obtain ⟨x0, x1, x2, rfl⟩ := list3O hxl
  rw [c4] at hl
  obtain ⟨y0, y1, y2, rfl⟩ := list3O hl
  have q0 : DataW.trod enc Tryz.prog W 0 (fun _ => true) true n 3 (([y0, y1, y2].drop 0).take (Tryz.prog.cellsOf 3)) = some x0 := hfs 0 _ rfl
  have q1 : DataW.trod enc Tryz.prog W 0 (fun _ => true) true n 3 (([y0, y1, y2].drop 1).take (Tryz.prog.cellsOf 3)) = some x1 := hfs 1 _ rfl
  have q2 : DataW.trod enc Tryz.prog W 0 (fun _ => true) true n 3 (([y0, y1, y2].drop 2).take (Tryz.prog.cellsOf 3)) = some x2 := hfs 2 _ rfl
  rw [c1] at q0 q1 q2
  simp only [List.drop, List.take] at q0 q1 q2
  obtain ⟨d, e0, -, w0⟩ := DataW.trod_int Tryz.underlying3 q0
  obtain ⟨e, e1, -, w1⟩ := DataW.trod_int Tryz.underlying3 q1
  obtain ⟨f, e2, -, w2⟩ := DataW.trod_int Tryz.underlying3 q2
  simp only [List.cons.injEq, and_true] at e0 e1 e2
  subst e0 e1 e2
  have hB : Rows.uptoBulk x.1 = Rows.uptoBulk x0.1 + (Rows.uptoBulk x1.1 + (Rows.uptoBulk x2.1 + 0)) + 1 := by
    rw [hx]
    simp only [List.map, Rows.uptoBulk, Rows.uptoBulkAll]
  have b0 := bounds_i64 w0
  have b1 := bounds_i64 w1
  have b2 := bounds_i64 w2
  exact ⟨⟨d, e, f⟩, rfl, by omega, by omega, by omega, by omega⟩
theorem len_leO {H : Type} : ∀ (ds : List (DataW H)), (∀ i (h' : i < ds.length), 1 ≤ Rows.uptoBulk ds[i]) → ds.length ≤ Rows.uptoBulkAll ds
  | [], _ => Nat.zero_le _
  | d :: ds, hp => by
    have h0 : 1 ≤ Rows.uptoBulk d := hp 0 (by simp)
    have h1 := len_leO ds (fun i hi' => hp (i + 1) (by simp; omega))
    simp only [Rows.uptoBulkAll, List.length_cons]
    omega
/-- A script that came in. -/
theorem script_of {H : Type} {enc : TypeId × Value → H} {W : World} {fuel : Nat} {cs : List Value} {x : DataW H × List MemPlace} (hf : DataW.trod enc Tryz.prog W 0 (fun _ => true) true fuel 23 cs = some x) :
    ∃ (a : Option Addr) (c : Nat) (S : List Oc), cs = [.slice a S.length c] ∧ OcAt W a S ∧ S.length < Rows.uptoBulk x.1 := by
  rcases DataW.trod_slice Tryz.underlying23 hf with ⟨rfl, rfl⟩ | ⟨a, len, cap, elems, rest, n, _, rfl, rfl, _, hl, hm, hlen, hel, _, _⟩
  · exact ⟨none, 0, [], rfl, fun e => (e rfl).elim, bulk_pos _⟩
  obtain ⟨-, c4⟩ := Tryz.cOp
  rw [c4] at hel
  have hbk : Rows.uptoBulk (DataW.slice (H := H) (elems.map (·.1)) (rest.map (·.1))) = Rows.uptoBulkAll (elems.map (·.1)) + Rows.uptoBulkAll (rest.map (·.1)) + 1 := by simp only [Rows.uptoBulk]
  have each : ∀ i, i < len → ∃ o : Oc, ((∀ j, j < 3 → W.cell? ((a.add (i * 3)).add j) = [Value.int .i64 o.k, .int .i64 o.w, .int .i64 o.n][j]?) ∧ InI o.k ∧ InI o.w ∧ InI o.n) ∧ ∀ (h : i < elems.length), 1 ≤ Rows.uptoBulk (elems[i]).1 := by
    intro i hi
    have h := hel i hi
    rw [List.getElem?_eq_getElem (by omega), Option.bind_eq_some_iff] at h
    obtain ⟨cs8, h1, h2⟩ := h
    obtain ⟨_, h3⟩ := (World.cells?_some h1).2
    obtain ⟨g, rfl, k0, k1, k2, k3⟩ := opl_of h2
    exact ⟨g, ⟨h3, k0, k1, k2⟩, fun _ => k3⟩
  obtain ⟨S, hS, hp⟩ := choose_listP len each
  refine ⟨some a, cap, S, by rw [hS], fun hne => ?_, ?_⟩
  · have hp0 : 0 < S.length := List.length_pos_iff.2 hne
    obtain ⟨b, off, spot⟩ := a
    have h00 := (hp 0 hp0).1.1 0 (by omega)
    have hspot : spot = none := by
      have e : [Value.int .i64 (S[0]).k, .int .i64 (S[0]).w, .int .i64 (S[0]).n][0]? = some (.int .i64 (S[0]).k) := rfl
      rw [e] at h00
      simpa [Addr.add] using World.cell?_spot h00
    subst hspot
    refine ⟨b, off, rfl, fun k hk => ?_⟩
    have t0 := (hp k hk).1.1 0 (by omega)
    have t1 := (hp k hk).1.1 1 (by omega)
    have t2 := (hp k hk).1.1 2 (by omega)
    rw [Go.WideShapes.add_plain, Go.WideShapes.add_plain] at t0 t1 t2
    exact ⟨⟨t0, t1, t2⟩, (hp k hk).1.2⟩
  · have h1 := len_leO (elems.map (·.1)) (fun i hi' => by
      rw [List.getElem_map]
      exact (hp i (by rw [List.length_map] at hi'; omega)).2 (by rw [List.length_map] at hi'; exact hi'))
    show S.length < Rows.uptoBulk (DataW.slice (H := H) (elems.map (·.1)) (rest.map (·.1)))
    rw [List.length_map] at h1
    omega
end Go.Proofs.YtjkbongfampgjaaGreatDoor
