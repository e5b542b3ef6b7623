import Derived.Test.YtnkmjhcddegkhaaDoorChgg
import Derived.Test.YtnkmjhcddegkhaaDoorRows
namespace Go.Proofs.YtnkmjhcddegkhaaDoor
open Go.ChangeShapes Go.WideShapes Go.ChangeAt Go.RowKit

theorem Tryd.stops_row : (((Go.begin Tryd.prog (fun _ _ => 0) default).world.heap[0]?).bind Obj.row?) = some (Array.replicate 42 (.string ⟨#[]⟩), 48) := by kernel_rfl
theorem Tryd.stops_types : Tryd.prog.cellTypes Tryd.prog.depth 48 = some (List.replicate 42 9) := by kernel_rfl
set_option maxRecDepth 20000 in
/-- The stop words' row holds forty-two texts, whichever they are. -/
theorem stops_open {W : World} (h : W.ShapedOpen Tryd.prog) : ∃ TT, StopsT TT W := by
  obtain ⟨cs, hc, hs, hr⟩ := h.1 0 _ _ (of_decide_eq_true (by kernel_rfl)) Tryd.stops_row
  obtain ⟨ts, ht, -, hcell⟩ := hr (by kernel_rfl)
  rw [Tryd.stops_types] at ht
  obtain rfl := Option.some.inj ht
  have hs2 : cs.size = 42 := by rw [hs]; simp
  have each : ∀ j, j < 42 → ∃ s, W.cell? ⟨0, j, none⟩ = some (.string s) := by
    intro j hj
    obtain ⟨u, hu, hok⟩ := hcell j cs[j] (Array.getElem?_eq_getElem (by omega))
    rw [List.length_replicate, Nat.mod_eq_of_lt hj, List.getElem?_replicate, if_pos hj] at hu
    have : u = 9 := (Option.some.inj hu).symm
    subst this
    unfold Cell.ok at hok
    rw [Tryd.underlying9] at hok
    generalize hv : cs[j] = v at hok
    obtain ⟨s, rfl⟩ : ∃ s, v = .string s := by
      cases v <;> first | exact ⟨_, rfl⟩ | exact hok.elim
    refine ⟨s, ?_⟩
    rw [← hv]
    simp [World.cell?, hc, hs2, hj]
  refine ⟨fun j => if h : j < 42 then Classical.choose (each j h) else ⟨#[]⟩, fun j hj => ?_⟩
  simp only [dif_pos hj]
  exact Classical.choose_spec (each j hj)
/-- A value's texts, by its bulk. -/
theorem valueU_of {H : Type} {enc : TypeId × Value → H} {W : World} {fuel : Nat} {cs : List Value} {x : DataW H × List MemPlace} (hf : DataW.trod enc Tryd.prog W 0 (fun _ => true) true fuel 39 cs = some x) :
    ∃ v : Vl, cs = [.string v.n, .string v.t] ∧ v.t.size ≤ Rows.uptoBulk x.1 := by
  obtain ⟨xs, k, rfl, hx, hl, hxl, hfs⟩ := DataW.trod_struct Tryd.underlying39 hf
  obtain ⟨c1, -, -, -, -, -⟩ := Tryd.cFd
  obtain ⟨x0, x1, rfl⟩ := list2v hxl
  rw [Tryd.cVl] at hl
  obtain ⟨y0, y1, rfl⟩ := list2v hl
  have q0 : DataW.trod enc Tryd.prog W 0 (fun _ => true) true k 9 (([y0, y1].drop 0).take (Tryd.prog.cellsOf 9)) = some x0 := hfs 0 _ rfl
  have q1 : DataW.trod enc Tryd.prog W 0 (fun _ => true) true k 9 (([y0, y1].drop 1).take (Tryd.prog.cellsOf 9)) = some x1 := hfs 1 _ rfl
  rw [c1] at q0 q1
  simp only [List.drop, List.take] at q0 q1
  obtain ⟨n, e0, f0, w0⟩ := DataW.trod_string Tryd.underlying9 q0
  obtain ⟨t, e1, f1, w1⟩ := DataW.trod_string Tryd.underlying9 q1
  simp only [List.cons.injEq, and_true] at e0 e1
  subst e0 e1 f0 f1
  refine ⟨⟨n, t⟩, rfl, ?_⟩
  rw [hx]
  simp only [List.map, Rows.uptoBulk, Rows.uptoBulkAll, Array.length_toList]
  show t.data.size ≤ _
  omega
theorem bulk_part {H : Type} {d : DataW H} {l : List (DataW H)} (h : d ∈ l) : Rows.uptoBulk d ≤ Rows.uptoBulkAll l := by
  induction l with
  | nil => cases h
  | cons x r ih =>
    simp only [Rows.uptoBulkAll]
    cases List.mem_cons.1 h with
    | inl e => subst e; omega
    | inr e => have := ih e; omega
theorem bulk_one {H : Type} (d : DataW H) : 1 ≤ Rows.uptoBulk d := by
  cases d with
  | lit l => cases l <;> simp [Rows.uptoBulk]
  | nil => simp [Rows.uptoBulk]
  | ptr d => simp [Rows.uptoBulk]
  | slice elems spare => simp [Rows.uptoBulk]
  | agg parts => simp [Rows.uptoBulk]
  | iface t d => simp [Rows.uptoBulk]
  | map entries => simp [Rows.uptoBulk]
  | held h => simp [Rows.uptoBulk]
theorem bulk_len {H : Type} (l : List (DataW H)) : l.length ≤ Rows.uptoBulkAll l := by
  induction l with
  | nil => simp [Rows.uptoBulkAll]
  | cons x r ih => have := bulk_one x; simp only [Rows.uptoBulkAll, List.length_cons]; omega
/-- A list of values, by its bulk. -/
theorem valuesU_of {H : Type} {enc : TypeId × Value → H} {W : World} {fuel : Nat} {a : Option Addr} {n c : Nat} {x : DataW H × List MemPlace} (hf : DataW.trod enc Tryd.prog W 0 (fun _ => true) true fuel 36 [.slice a n c] = some x) :
    ∃ xs : List Vl, n = xs.length ∧ VsAt W a xs ∧ (∀ v ∈ xs, v.t.size ≤ Rows.uptoBulk x.1) ∧ xs.length ≤ Rows.uptoBulk x.1 := by
  rcases DataW.trod_slice Tryd.underlying36 hf with ⟨e, rfl⟩ | ⟨a', len, cap, elems, rest, m, _, e, rfl, _, hl, hm, hlen, hel, _, _⟩
  · simp only [List.cons.injEq, Value.slice.injEq, and_true] at e
    obtain ⟨rfl, rfl, rfl⟩ := e
    exact ⟨[], rfl, fun e => (e rfl).elim, (fun y hy => by cases hy), by simp⟩
  simp only [List.cons.injEq, Value.slice.injEq, and_true] at e
  obtain ⟨rfl, rfl, rfl⟩ := e
  rw [Tryd.cVl] at hel
  have each : ∀ i, i < n → ∃ o : Vl, (∀ j, j < 2 → W.cell? ((a'.add (i * 2)).add j) = [Value.string o.n, Value.string o.t][j]?) ∧ o.t.size ≤ Rows.uptoBulkAll (elems.map (·.1)) := by
    intro i hi
    have h := hel i hi
    rw [List.getElem?_eq_getElem (by omega), Option.bind_eq_some_iff] at h
    obtain ⟨cs2, h1, h2⟩ := h
    obtain ⟨_, h3⟩ := cells_eachF h1
    obtain ⟨o, rfl, ho⟩ := valueU_of h2
    exact ⟨o, h3, Nat.le_trans ho (bulk_part (List.mem_map_of_mem (List.getElem_mem _)))⟩
  obtain ⟨S, hS, hp⟩ := choose_listF n each
  refine ⟨S, hS.symm, fun hne => ?_, fun o ho => ?_, ?_⟩
  · have hp0 : 0 < S.length := List.length_pos_iff.2 hne
    obtain ⟨b, off, spot⟩ := a'
    have h00 := (hp 0 hp0).1 0 (by omega)
    have hspot : spot = none := by
      have e : [Value.string (S[0]).n, Value.string (S[0]).t][0]? = some (.string (S[0]).n) := rfl
      rw [e] at h00
      simpa [Addr.add] using World.cell?_spot h00
    subst hspot
    refine ⟨b, off, rfl, fun k hk => ⟨?_, ?_⟩⟩
    · have := (hp k hk).1 0 (by omega)
      rwa [Go.WideShapes.add_plain, Go.WideShapes.add_plain, Nat.add_zero] at this
    · have := (hp k hk).1 1 (by omega)
      rwa [Go.WideShapes.add_plain, Go.WideShapes.add_plain] at this
  · obtain ⟨i, hi, rfl⟩ := List.mem_iff_getElem.1 ho
    have := (hp i hi).2
    simp only [Rows.uptoBulk]
    omega
  · have := bulk_len (elems.map (·.1))
    rw [List.length_map] at this
    simp only [Rows.uptoBulk]
    omega
end Go.Proofs.YtnkmjhcddegkhaaDoor
