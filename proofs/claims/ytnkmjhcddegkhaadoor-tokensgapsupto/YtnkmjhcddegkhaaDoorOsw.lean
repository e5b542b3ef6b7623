import Derived.Test.YtnkmjhcddegkhaaDoorVls
import Derived.Test.YtnkmjhcddegkhaaDoorOsc
namespace Go.Proofs.YtnkmjhcddegkhaaDoor
open Go.ChangeShapes Go.WideShapes Go.ChangeAt Go.RowKit

theorem Tryd.cVl : Tryd.prog.cellsOf 39 = 2 := by kernel_rfl
theorem Tryd.bVl : Tryd.prog.bytesOf 39 = 32 := by kernel_rfl
theorem list2v {α : Type} {l : List α} (h : l.length = 2) : ∃ a b, l = [a, b] := by
  match l, h with
  | [a, b], _ => exact ⟨a, b, rfl⟩
theorem weightsAll_mem {H : Type} {P : Program} {e : TypeId} : ∀ {l : List (DataW H)} {d : DataW H} {n : Nat}, d ∈ l → n ∈ d.weights P e → n ∈ DataW.weightsAll P e l
  | y :: r, d, n, hd, hn => by
    simp only [DataW.weightsAll, List.mem_append]
    rcases List.mem_cons.1 hd with rfl | hd
    · exact .inl hn
    · exact .inr (weightsAll_mem hd hn)
/-- A value that came in. -/
theorem value_of {H : Type} {enc : TypeId × Value → H} {W : World} {fuel : Nat} {cs : List Value} {x : DataW H × List MemPlace} (hf : DataW.trod enc Tryd.prog W 0 (fun _ => true) true fuel 39 cs = some x) (hsz : ∀ m ∈ DataW.weights Tryd.prog 39 x.1, m ≤ reachBytes) :
    ∃ v : Vl, cs = [.string v.n, .string v.t] ∧ v.Ok := by
  obtain ⟨xs, k, rfl, hx, hl, hxl, hfs⟩ := DataW.trod_struct Tryd.underlying39 hf
  obtain ⟨c1, -, -, -, -, -⟩ := Tryd.cFd
  obtain ⟨x0, x1, rfl⟩ := list2v hxl
  rw [Tryd.cVl] at hl
  obtain ⟨y0, y1, rfl⟩ := list2v hl
  have q0 : DataW.trod enc Tryd.prog W 0 (fun _ => true) true k 9 (([y0, y1].drop 0).take (Tryd.prog.cellsOf 9)) = some x0 := hfs 0 _ rfl
  have q1 : DataW.trod enc Tryd.prog W 0 (fun _ => true) true k 9 (([y0, y1].drop 1).take (Tryd.prog.cellsOf 9)) = some x1 := hfs 1 _ rfl
  rw [c1] at q0 q1
  simp only [List.drop, List.take] at q0 q1
  obtain ⟨n, e0, f0, w0⟩ := DataW.trod_string Tryd.underlying9 q0
  obtain ⟨t, e1, f1, w1⟩ := DataW.trod_string Tryd.underlying9 q1
  simp only [List.cons.injEq, and_true] at e0 e1
  subst e0 e1 f0 f1
  refine ⟨⟨n, t⟩, rfl, w0, ?_⟩
  have h1 : t.data.toList.length ∈ DataW.weights Tryd.prog 39 x.1 := by
    rw [hx]
    simp only [List.map, DataW.weights, Tryd.underlying39]
    refine DataW.weights_mem_each (j := 1) (t := 9) (d := .lit (.string t.data.toList)) rfl rfl _ ?_
    simp [DataW.weights]
  have h2 := hsz _ h1
  rw [Array.length_toList] at h2
  simp only [reachBytes] at h2
  show t.data.size ≤ _
  omega
/-- A list of values that came in. -/
theorem values_of {H : Type} {enc : TypeId × Value → H} {W : World} {fuel : Nat} {a : Option Addr} {n c : Nat} {x : DataW H × List MemPlace} (hf : DataW.trod enc Tryd.prog W 0 (fun _ => true) true fuel 36 [.slice a n c] = some x) (hsz : ∀ m ∈ DataW.weights Tryd.prog 36 x.1, m ≤ reachBytes) :
    ∃ xs : List Vl, n = xs.length ∧ VsAt W a xs ∧ (∀ v ∈ xs, v.Ok) ∧ xs.length ≤ 4398046511104 := by
  rcases DataW.trod_slice Tryd.underlying36 hf with ⟨e, rfl⟩ | ⟨a', len, cap, elems, rest, m, _, e, rfl, _, hl, hm, hlen, hel, _, _⟩
  · simp only [List.cons.injEq, Value.slice.injEq, and_true] at e
    obtain ⟨rfl, rfl, rfl⟩ := e
    exact ⟨[], rfl, fun e => (e rfl).elim, (fun y hy => by cases hy), by simp⟩
  simp only [List.cons.injEq, Value.slice.injEq, and_true] at e
  obtain ⟨rfl, rfl, rfl⟩ := e
  rw [Tryd.cVl] at hel
  simp only [DataW.weights, Tryd.underlying36] at hsz
  have each : ∀ i, i < n → ∃ o : Vl, (∀ j, j < 2 → W.cell? ((a'.add (i * 2)).add j) = [Value.string o.n, Value.string o.t][j]?) ∧ o.Ok := by
    intro i hi
    have h := hel i hi
    rw [List.getElem?_eq_getElem (by omega), Option.bind_eq_some_iff] at h
    obtain ⟨cs2, h1, h2⟩ := h
    obtain ⟨_, h3⟩ := cells_eachF h1
    obtain ⟨o, rfl, ho⟩ := value_of h2 (fun q hq => hsz q (List.mem_cons_of_mem _ (List.mem_append_left _ (weightsAll_mem (List.mem_map_of_mem (List.getElem_mem _)) hq))))
    exact ⟨o, h3, ho⟩
  obtain ⟨S, hS, hp⟩ := choose_listF n each
  refine ⟨S, hS.symm, fun hne => ?_, fun o ho => ?_, ?_⟩
  · have hp0 : 0 < S.length := List.length_pos_iff.2 hne
    obtain ⟨b, off, spot⟩ := a'
    have h00 := (hp 0 hp0).1 0 (by omega)
    have hspot : spot = none := by
      have e : [Value.string (S[0]).n, Value.string (S[0]).t][0]? = some (.string (S[0]).n) := rfl
      rw [e] at h00
      simpa [Addr.add] using World.cell?_spot h00
    subst hspot
    refine ⟨b, off, rfl, fun k hk => ⟨?_, ?_⟩⟩
    · have := (hp k hk).1 0 (by omega)
      rwa [Go.WideShapes.add_plain, Go.WideShapes.add_plain, Nat.add_zero] at this
    · have := (hp k hk).1 1 (by omega)
      rwa [Go.WideShapes.add_plain, Go.WideShapes.add_plain] at this
  · obtain ⟨i, hi, rfl⟩ := List.mem_iff_getElem.1 ho
    exact (hp i hi).2
  · have h3 := hsz _ List.mem_cons_self
    rw [Tryd.bVl, List.length_map, List.length_map] at h3
    simp only [reachBytes] at h3
    omega
end Go.Proofs.YtnkmjhcddegkhaaDoor
