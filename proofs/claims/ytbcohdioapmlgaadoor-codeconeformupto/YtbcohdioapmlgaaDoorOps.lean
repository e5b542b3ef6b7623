import Derived.Test.YtbcohdioapmlgaaDoorOpn
namespace Go.Proofs.YtbcohdioapmlgaaDoor
open Go.ChangeShapes Go.WideShapes Go.ChangeAt Go.RowKit

/-- An Op, as it lies. -/
structure OpD where
  kd : Int
  sec : Bool
  nn : Int
  U : Nat
  ii : Int
  ba : Option Addr
  bc : Nat
  B : List Int
  s : ByteArray
  la : Option Addr
  lc : Nat
  L : List Int
def OpD.cells (o : OpD) : List Value := opRow o.kd o.sec o.nn o.U o.ii o.ba o.B.length o.bc o.s o.la o.L.length o.lc
def OpD.out (o : OpD) : Bool × List Int := opOut o.kd o.nn o.ii o.U o.B o.s o.L
def OpD.size (o : OpD) : Nat := o.B.length + o.s.size + o.L.length + 1
structure OpD.At (w : World) (o : OpD) : Prop where
  op : OpAt w o.ii o.U o.ba o.bc o.B o.s o.la o.L
  n0 : -9223372036854775808 ≤ o.nn
  n1 : o.nn ≤ 9223372036854775807
theorem OpD.cells_length (o : OpD) : o.cells.length = 8 := rfl
def total : List OpD → Nat
  | [] => 0
  | o :: r => o.size + total r
theorem total_append : ∀ a b, total (a ++ b) = total a + total b
  | [], b => by simp [total]
  | o :: r, b => by simp only [List.cons_append, total, total_append r b]; omega
theorem total_count : ∀ l, l.length ≤ total l
  | [] => Nat.le_refl _
  | o :: r => by have := total_count r; simp only [total, OpD.size, List.length_cons]; omega
/-- Where the Ops of a list lie. -/
def OpsAt (w : World) (a : Option Addr) (S : List OpD) : Prop :=
  S ≠ [] → ∃ b off, a = some ⟨b, off, none⟩ ∧ ∀ k (h : k < S.length) j, j < 8 → w.cell? ⟨b, off + (k * 8 + j), none⟩ = (S[k]).cells[j]?
theorem choose_list {α : Type} {P : Nat → α → Prop} : ∀ n, (∀ i, i < n → ∃ a, P i a) → ∃ l : List α, l.length = n ∧ ∀ i (h : i < l.length), P i l[i]
  | 0, _ => ⟨[], rfl, fun i h => by simp at h⟩
  | n + 1, h => by
    obtain ⟨l, hl, hp⟩ := choose_list n (fun i hi => h i (by omega))
    obtain ⟨a, ha⟩ := h n (by omega)
    refine ⟨l ++ [a], by simp [hl], fun i hi => ?_⟩
    by_cases hn : i < l.length
    · rw [List.getElem_append_left hn]
      exact hp i hn
    · have : i = l.length := by simp at hi; omega
      subst this
      rw [List.getElem_append_right (by omega)]
      simp only [Nat.sub_self, List.getElem_cons_zero, hl]
      exact ha
theorem total_le {H : Type} : ∀ (S : List OpD) (ds : List (DataW H)), S.length = ds.length → (∀ i (h : i < S.length) (h' : i < ds.length), (S[i]).size ≤ Rows.uptoBulk ds[i]) → total S ≤ Rows.uptoBulkAll ds
  | [], ds, _, _ => Nat.zero_le _
  | o :: r, [], h, _ => by simp at h
  | o :: r, d :: ds, h, hp => by
    have h0 : o.size ≤ Rows.uptoBulk d := hp 0 (by simp) (by simp)
    have h1 := total_le r ds (by simpa using h) (fun i hi hi' => hp (i + 1) (by simp; omega) (by simp; omega))
    simp only [total, Rows.uptoBulkAll]
    omega
theorem bulkAll_append {H : Type} : ∀ a b : List (DataW H), Rows.uptoBulkAll (a ++ b) = Rows.uptoBulkAll a + Rows.uptoBulkAll b
  | [], b => by simp [Rows.uptoBulkAll]
  | x :: a, b => by simp only [List.cons_append, Rows.uptoBulkAll, bulkAll_append a b]; omega
theorem cells_each {w : World} {base : Nat} {a : Addr} {n : Nat} {cs : List Value} (h : w.cells? base a n = some cs) : cs.length = n ∧ ∀ j, j < n → w.cell? (a.add j) = cs[j]? := (World.cells?_some h).2
/-- A script that came in. -/
theorem ops_of {H : Type} {enc : TypeId × Value → H} {W : World} {fuel : Nat} {cs : List Value} {x : DataW H × List MemPlace} (hf : DataW.trod enc Tryd.prog W 0 (fun _ => true) true fuel 23 cs = some x) (hk : Rows.uptoBulk x.1 ≤ 1073741824) :
    ∃ (a : Option Addr) (c : Nat) (S : List OpD), cs = [.slice a S.length c] ∧ OpsAt W a S ∧ (∀ o ∈ S, o.At W) ∧ total S < Rows.uptoBulk x.1 := by
  rcases DataW.trod_slice Tryd.underlying23 hf with ⟨rfl, rfl⟩ | ⟨a, len, cap, elems, rest, n, _, rfl, rfl, _, hl, hm, hlen, hel, _, _⟩
  · exact ⟨none, 0, [], rfl, fun e => (e rfl).elim, fun y hy => (by cases hy), bulk_pos _⟩
  obtain ⟨-, -, -, -, -, -, -, -, c9⟩ := Tryd.c1
  rw [c9] at hel
  have hbk : Rows.uptoBulk (DataW.slice (H := H) (elems.map (·.1)) (rest.map (·.1))) = Rows.uptoBulkAll (elems.map (·.1)) + Rows.uptoBulkAll (rest.map (·.1)) + 1 := by simp only [Rows.uptoBulk]
  have each : ∀ i, i < len → ∃ o : OpD, (∀ j, j < 8 → W.cell? ((a.add (i * 8)).add j) = o.cells[j]?) ∧ o.At W ∧ ∀ (h : i < elems.length), o.size ≤ Rows.uptoBulk (elems[i]).1 := by
    intro i hi
    have h := hel i hi
    rw [List.getElem?_eq_getElem (by omega), Option.bind_eq_some_iff] at h
    obtain ⟨cs8, h1, h2⟩ := h
    obtain ⟨_, h3⟩ := cells_each h1
    have hle : Rows.uptoBulk (elems[i]'(by omega)).1 ≤ Rows.uptoBulkAll (elems.map (·.1)) := bulk_mem (List.mem_map_of_mem (List.getElem_mem _))
    have hk' : Rows.uptoBulk (DataW.slice (H := H) (elems.map (·.1)) (rest.map (·.1))) ≤ 1073741824 := hk
    obtain ⟨kd, sec, nn, U, ii, ba, bc, B, s, la, lc, L, rfl, ho, hn, hsz⟩ := op_of h2 (by omega)
    exact ⟨⟨kd, sec, nn, U, ii, ba, bc, B, s, la, lc, L⟩, h3, ⟨ho, hn.1, hn.2⟩, fun _ => by simp only [OpD.size]; omega⟩
  obtain ⟨S, hS, hp⟩ := choose_list len each
  refine ⟨some a, cap, S, by rw [hS], fun hne => ?_, fun o ho => ?_, ?_⟩
  · have hp0 : 0 < S.length := List.length_pos_iff.2 hne
    obtain ⟨b, off, spot⟩ := a
    have h00 := (hp 0 hp0).1 0 (by omega)
    have hspot : spot = none := by
      have e : (S[0]).cells[0]? = some (.int .i64 (S[0]).kd) := rfl
      rw [e] at h00
      simpa [Addr.add] using World.cell?_spot h00
    subst hspot
    refine ⟨b, off, rfl, fun k hk j hj => ?_⟩
    have := (hp k hk).1 j hj
    rwa [Go.WideShapes.add_plain, Go.WideShapes.add_plain, Nat.add_assoc] at this
  · obtain ⟨i, hi, rfl⟩ := List.mem_iff_getElem.1 ho
    exact (hp i hi).2.1
  · have h1 := total_le S (elems.map (·.1)) (by rw [List.length_map]; omega) (fun i hi hi' => by
      rw [List.getElem_map]
      exact (hp i hi).2.2 (by omega))
    show total S < Rows.uptoBulk (DataW.slice (H := H) (elems.map (·.1)) (rest.map (·.1)))
    omega
end Go.Proofs.YtbcohdioapmlgaaDoor
