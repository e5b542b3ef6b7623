import Derived.Test.YtbhoplmbiomogaaDoorScx
import Derived.SizedLaws
import Derived.DataOpen
namespace Go.Proofs.YtbhoplmbiomogaaDoor
open Go.ChangeShapes Go.WideShapes Go.ChangeAt Go.RowKit

theorem Tryd.cFd : Tryd.prog.cellsOf 9 = 1 ∧ Tryd.prog.cellsOf 3 = 1 ∧ Tryd.prog.cellsOf 4 = 1 ∧ Tryd.prog.cellsOf 46 = 5 ∧ Tryd.prog.cellsOf 22 = 1 ∧ Tryd.prog.cellsOf 24 = 1 := by
  refine ⟨?_, ?_, ?_, ?_, ?_, ?_⟩ <;> kernel_rfl
theorem Tryd.bFd : Tryd.prog.bytesOf 46 = 32 := by kernel_rfl
theorem list1f {α : Type} {l : List α} (h : l.length = 1) : ∃ a, l = [a] := by
  match l, h with
  | [a], _ => exact ⟨a, rfl⟩
theorem list5f {α : Type} {l : List α} (h : l.length = 5) : ∃ a b c d e, l = [a, b, c, d, e] := by
  match l, h with
  | [a, b, c, d, e], _ => exact ⟨a, b, c, d, e, rfl⟩
theorem choose_listF {α : Type} {P : Nat → α → Prop} : ∀ n, (∀ i, i < n → ∃ a, P i a) → ∃ l : List α, l.length = n ∧ ∀ i (h : i < l.length), P i l[i]
  | 0, _ => ⟨[], rfl, fun i h => by simp at h⟩
  | n + 1, h => by
    obtain ⟨l, hl, hp⟩ := choose_listF n (fun i hi => h i (by omega))
    obtain ⟨a, ha⟩ := h n (by omega)
    refine ⟨l ++ [a], by simp [hl], fun i hi => ?_⟩
    by_cases hn : i < l.length
    · rw [List.getElem_append_left hn]
      exact hp i hn
    · have : i = l.length := by simp at hi; omega
      subst this
      rw [List.getElem_append_right (by omega)]
      simp only [Nat.sub_self, List.getElem_cons_zero, hl]
      exact ha
theorem cells_eachF {w : World} {base : Nat} {a : Addr} {n : Nat} {cs : List Value} (h : w.cells? base a n = some cs) : cs.length = n ∧ ∀ j, j < n → w.cell? (a.add j) = cs[j]? := (World.cells?_some h).2
/-- A field that came in. -/
theorem field_of {H : Type} {enc : TypeId × Value → H} {W : World} {fuel : Nat} {cs : List Value} {x : DataW H × List MemPlace} (hf : DataW.trod enc Tryd.prog W 0 (fun _ => true) true fuel 46 cs = some x) :
    ∃ f : Fd, cs = f.cells ∧ f.Ok := by
  obtain ⟨xs, k, rfl, hx, hl, hxl, hfs⟩ := DataW.trod_struct Tryd.underlying46 hf
  obtain ⟨c1, c2, c3, c4, -, -⟩ := Tryd.cFd
  obtain ⟨x0, x1, x2, x3, x4, rfl⟩ := list5f hxl
  rw [c4] at hl
  obtain ⟨y0, y1, y2, y3, y4, rfl⟩ := list5f hl
  have q0 : DataW.trod enc Tryd.prog W 0 (fun _ => true) true k 9 (([y0, y1, y2, y3, y4].drop 0).take (Tryd.prog.cellsOf 9)) = some x0 := hfs 0 _ rfl
  have q1 : DataW.trod enc Tryd.prog W 0 (fun _ => true) true k 3 (([y0, y1, y2, y3, y4].drop 1).take (Tryd.prog.cellsOf 3)) = some x1 := hfs 1 _ rfl
  have q2 : DataW.trod enc Tryd.prog W 0 (fun _ => true) true k 4 (([y0, y1, y2, y3, y4].drop 2).take (Tryd.prog.cellsOf 4)) = some x2 := hfs 2 _ rfl
  have q3 : DataW.trod enc Tryd.prog W 0 (fun _ => true) true k 4 (([y0, y1, y2, y3, y4].drop 3).take (Tryd.prog.cellsOf 4)) = some x3 := hfs 3 _ rfl
  have q4 : DataW.trod enc Tryd.prog W 0 (fun _ => true) true k 4 (([y0, y1, y2, y3, y4].drop 4).take (Tryd.prog.cellsOf 4)) = some x4 := hfs 4 _ rfl
  rw [c1] at q0
  rw [c2] at q1
  rw [c3] at q2 q3 q4
  simp only [List.drop, List.take] at q0 q1 q2 q3 q4
  obtain ⟨n, e0, -, w0⟩ := DataW.trod_string Tryd.underlying9 q0
  obtain ⟨kd, e1, -, w1⟩ := DataW.trod_int Tryd.underlying3 q1
  obtain ⟨fo, e2, -⟩ := DataW.trod_bool Tryd.underlying4 q2
  obtain ⟨st, e3, -⟩ := DataW.trod_bool Tryd.underlying4 q3
  obtain ⟨se, e4, -⟩ := DataW.trod_bool Tryd.underlying4 q4
  have b1 := bounds_i64 w1
  simp only [List.cons.injEq, and_true] at e0 e1 e2 e3 e4
  subst e0 e1 e2 e3 e4
  exact ⟨⟨n, kd, fo, st, se⟩, rfl, ⟨w0, b1.1, b1.2⟩⟩
/-- A list of fields that came in. -/
theorem fields_of {H : Type} {enc : TypeId × Value → H} {W : World} {fuel : Nat} {cs : List Value} {x : DataW H × List MemPlace} (hf : DataW.trod enc Tryd.prog W 0 (fun _ => true) true fuel 22 cs = some x) :
    ∃ (a : Option Addr) (c : Nat) (F : List Fd), cs = [.slice a F.length c] ∧ FsAt W a F ∧ (∀ f ∈ F, f.Ok) ∧ (F = [] ∨ ∃ es sp, x.1 = .slice es sp ∧ F.length = es.length) := by
  rcases DataW.trod_slice Tryd.underlying22 hf with ⟨rfl, rfl⟩ | ⟨a, len, cap, elems, rest, n, _, rfl, rfl, _, hl, hm, hlen, hel, _, _⟩
  · exact ⟨none, 0, [], rfl, fun e => (e rfl).elim, fun y hy => (by cases hy), .inl rfl⟩
  obtain ⟨-, -, -, c4, -, -⟩ := Tryd.cFd
  rw [c4] at hel
  have each : ∀ i, i < len → ∃ o : Fd, (∀ j, j < 5 → W.cell? ((a.add (i * 5)).add j) = o.cells[j]?) ∧ o.Ok := by
    intro i hi
    have h := hel i hi
    rw [List.getElem?_eq_getElem (by omega), Option.bind_eq_some_iff] at h
    obtain ⟨cs2, h1, h2⟩ := h
    obtain ⟨_, h3⟩ := cells_eachF h1
    obtain ⟨o, rfl, ho⟩ := field_of h2
    exact ⟨o, h3, ho⟩
  obtain ⟨S, hS, hp⟩ := choose_listF len each
  refine ⟨some a, cap, S, by rw [hS], fun hne => ?_, fun o ho => ?_, .inr ⟨_, _, rfl, by rw [List.length_map]; omega⟩⟩
  · have hp0 : 0 < S.length := List.length_pos_iff.2 hne
    obtain ⟨b, off, spot⟩ := a
    have h00 := (hp 0 hp0).1 0 (by omega)
    have hspot : spot = none := by
      have e : (S[0]).cells[0]? = some (.string (S[0]).n) := rfl
      rw [e] at h00
      simpa [Addr.add] using World.cell?_spot h00
    subst hspot
    refine ⟨b, off, rfl, fun k hk => ⟨?_, ?_, ?_, ?_, ?_⟩⟩
    · have := (hp k hk).1 0 (by omega)
      rwa [Go.WideShapes.add_plain, Go.WideShapes.add_plain, Nat.add_zero] at this
    · have := (hp k hk).1 1 (by omega)
      rwa [Go.WideShapes.add_plain, Go.WideShapes.add_plain] at this
    · have := (hp k hk).1 2 (by omega)
      rwa [Go.WideShapes.add_plain, Go.WideShapes.add_plain] at this
    · have := (hp k hk).1 3 (by omega)
      rwa [Go.WideShapes.add_plain, Go.WideShapes.add_plain] at this
    · have := (hp k hk).1 4 (by omega)
      rwa [Go.WideShapes.add_plain, Go.WideShapes.add_plain] at this
  · obtain ⟨i, hi, rfl⟩ := List.mem_iff_getElem.1 ho
    exact (hp i hi).2
/-- A schema that came in. -/
theorem schema_of {H : Type} {enc : TypeId × Value → H} {W : World} {fuel : Nat} {cs : List Value} {x : DataW H × List MemPlace} (hf : DataW.trod enc Tryd.prog W 0 (fun _ => true) true fuel 24 cs = some x) :
    ∃ (a : Option Addr) (c : Nat) (F : List Fd), cs = [.slice a F.length c] ∧ FsAt W a F ∧ (∀ f ∈ F, f.Ok) ∧ (F = [] ∨ ∃ es sp, x.1 = .agg [.slice es sp] ∧ F.length = es.length) := by
  obtain ⟨xs, k, rfl, hx, hl, hxl, hfs⟩ := DataW.trod_struct Tryd.underlying24 hf
  obtain ⟨-, -, -, -, c5, c6⟩ := Tryd.cFd
  obtain ⟨x0, rfl⟩ := list1f hxl
  rw [c6] at hl
  obtain ⟨y0, rfl⟩ := list1f hl
  have q0 : DataW.trod enc Tryd.prog W 0 (fun _ => true) true k 22 (([y0].drop 0).take (Tryd.prog.cellsOf 22)) = some x0 := hfs 0 _ rfl
  rw [c5] at q0
  simp only [List.drop, List.take] at q0
  obtain ⟨a, c, F, e, h1, h2, h3⟩ := fields_of q0
  refine ⟨a, c, F, e, h1, h2, ?_⟩
  rcases h3 with h3 | ⟨es, sp, h3, h4⟩
  · exact .inl h3
  · exact .inr ⟨es, sp, by rw [hx]; simp only [List.map, h3], h4⟩
/-- How many fields a schema of the reach has. -/
theorem schema_len {H : Type} {d : DataW H} {F : List Fd} (h : F = [] ∨ ∃ es sp, d = .agg [.slice es sp] ∧ F.length = es.length) (hsz : ∀ n ∈ DataW.weights Tryd.prog 24 d, n ≤ reachBytes) : F.length ≤ 4398046511104 := by
  rcases h with rfl | ⟨es, sp, rfl, h2⟩
  · simp
  · have h1 : (es.length + sp.length) * Tryd.prog.bytesOf 46 ∈ DataW.weights Tryd.prog 24 (DataW.agg (H := H) [.slice es sp]) := by
      simp only [DataW.weights, Tryd.underlying24]
      refine DataW.weights_mem_each (j := 0) (t := 22) (d := .slice es sp) rfl rfl _ ?_
      simp [DataW.weights, Tryd.underlying22]
    have h3 := hsz _ h1
    rw [Tryd.bFd] at h3
    simp only [reachBytes] at h3
    omega
end Go.Proofs.YtbhoplmbiomogaaDoor
