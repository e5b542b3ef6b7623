import Derived.Test.YtidgofpmnlddaaaGreatDoorMrg2
import Derived.Test.YtidgofpmnlddaaaGreatDoorRows
import Derived.Handy
import Derived.OpenShut
import Derived.Test.YtidgofpmnlddaaaGreatDoorMrg4
import Derived.Test.YtidgofpmnlddaaaGreatDoorMrg1
namespace Go.Proofs.YtidgofpmnlddaaaGreatDoor
open Go.ChangeShapes Go.WideShapes Go.ChangeAt Go.RowKit

theorem Tryz.cU8 : Tryz.prog.cellsOf 5 = 1 := by kernel_rfl
theorem Tryz.bytesU8 : Tryz.prog.bytesOf 5 = 1 := by kernel_rfl
/-- Every value counts. -/
theorem bulk_pos {H : Type} (d : DataW H) : 1 ≤ Rows.uptoBulk d := by
  cases d with
  | lit l => cases l <;> simp [Rows.uptoBulk]
  | _ => simp [Rows.uptoBulk]
theorem bulk_count {H : Type} : ∀ l : List (DataW H), l.length ≤ Rows.uptoBulkAll l
  | [] => by simp
  | x :: r => by
    have h1 := bulk_pos x
    have h2 := bulk_count r
    simp only [Rows.uptoBulkAll, List.length_cons]
    omega
theorem bulk_mem {H : Type} {d : DataW H} : ∀ {l : List (DataW H)}, d ∈ l → Rows.uptoBulk d ≤ Rows.uptoBulkAll l
  | x :: r, h => by
    simp only [Rows.uptoBulkAll]
    rcases List.mem_cons.1 h with rfl | h
    · omega
    · have := bulk_mem h
      omega
theorem bulk_slice {H : Type} (es sp : List (DataW H)) : es.length < Rows.uptoBulk (.slice es sp) := by
  have := bulk_count es
  simp only [Rows.uptoBulk]
  omega
theorem bytesAt_lt {W : World} {a : Option Addr} {B : List Int} (h : BytesAt W a B) (hne : B ≠ []) : ∀ ad, a = some ad → ad.block < W.heap.size := by
  obtain ⟨b, off, rfl, hc⟩ := h hne
  rintro ad e
  obtain rfl := Option.some.inj e
  exact World.block_lt_of_cell? W _ (hc 0 (List.length_pos_iff.2 hne))
/-- A slice of bytes that came in. -/
theorem bytes_in {H : Type} {enc : TypeId × Value → H} {W : World} {fuel : Nat} {cs : List Value} {x : DataW H × List MemPlace} (hf : DataW.trod enc Tryz.prog W 0 (fun _ => true) true fuel 26 cs = some x) :
    ∃ (a : Option Addr) (c : Nat) (B : List Int), cs = [.slice a B.length c] ∧ BytesAt W a B ∧ IsBytes B ∧ (a = none → c = 0) ∧ B.length < Rows.uptoBulk x.1 ∧ (x.1 = .nil ∧ B.length = 0 ∨ ∃ es sp, x.1 = .slice es sp ∧ es.length = B.length) := by
  rcases open_ints Tryz.underlying26 Tryz.underlying5 Tryz.cU8 hf with ⟨rfl, rfl⟩ | ⟨a, l, c, zs, rfl, _, hl, hm, hz, rfl, hcell, hwz⟩
  · exact ⟨none, 0, [], rfl, fun e => (e rfl).elim, fun y hy => (by cases hy), fun _ => rfl, bulk_pos _, .inl ⟨rfl, rfl⟩⟩
  · simp only [if_true] at hz
    have hlen : (zs.take l).length = l := by rw [List.length_take]; omega
    refine ⟨some a, c, zs.take l, by rw [hlen], fun hne => ?_, fun y hy => ?_, (fun e => nomatch e), ?_, .inr ⟨_, _, rfl, by simp [lits]⟩⟩
    · have hpos : 0 < zs.length := by
        have := List.length_pos_iff.2 hne
        omega
      obtain ⟨b, off, rfl, hc⟩ := ints_at hcell hpos
      refine ⟨b, off, rfl, fun k hk => ?_⟩
      have := hc k (by omega)
      rw [List.getElem?_take, if_pos (by omega)]
      simpa [List.getD] using this
    · have := bounds_u8 (hwz y (List.mem_of_mem_take hy))
      omega
    · have := bulk_slice (H := H) (lits .u8 (zs.take l)) (lits .u8 (zs.drop l))
      have e : (lits (H := H) .u8 (zs.take l)).length = (zs.take l).length := by simp [lits]
      rw [e] at this
      exact this
/-- The same, without the datum. -/
theorem bytes_of {H : Type} {enc : TypeId × Value → H} {W : World} {fuel : Nat} {cs : List Value} {x : DataW H × List MemPlace} (hf : DataW.trod enc Tryz.prog W 0 (fun _ => true) true fuel 26 cs = some x) :
    ∃ (a : Option Addr) (c : Nat) (B : List Int), cs = [.slice a B.length c] ∧ BytesAt W a B ∧ IsBytes B ∧ (a = none → c = 0) ∧ B.length < Rows.uptoBulk x.1 := by
  obtain ⟨a, c, B, h1, h2, h3, h4, h5, -⟩ := bytes_in hf
  exact ⟨a, c, B, h1, h2, h3, h4, h5⟩
end Go.Proofs.YtidgofpmnlddaaaGreatDoor
namespace Go.Proofs.YtidgofpmnlddaaaGreatDoor
open Go.ChangeShapes Go.WideShapes Go.ChangeAt Go.RowKit

theorem bytes_cap {H : Type} {enc : TypeId × Value → H} {W : World} {fuel : Nat} {a : Option Addr} {n c : Nat} {x : DataW H × List MemPlace} (hf : DataW.trod enc Tryz.prog W 0 (fun _ => true) true fuel 26 [.slice a n c] = some x) : n ≤ c := by
  rcases open_ints Tryz.underlying26 Tryz.underlying5 Tryz.cU8 hf with ⟨e, _⟩ | ⟨a', l, c', zs, e, _, hl, _⟩
  · simp only [List.cons.injEq, Value.slice.injEq, and_true] at e
    omega
  · simp only [List.cons.injEq, Value.slice.injEq, and_true] at e
    omega
end Go.Proofs.YtidgofpmnlddaaaGreatDoor
namespace Go.Proofs.YtidgofpmnlddaaaGreatDoor
open Go.ChangeShapes Go.WideShapes Go.ChangeAt Go.RowKit

theorem Tryz.cP : Tryz.prog.cellsOf 3 = 1 ∧ Tryz.prog.cellsOf 26 = 1 ∧ Tryz.prog.cellsOf 24 = 1 ∧ Tryz.prog.cellsOf 38 = 2 ∧ Tryz.prog.cellsOf 22 = 1 := by
  refine ⟨?_, ?_, ?_, ?_, ?_⟩ <;> kernel_rfl
theorem list2P {α : Type} {l : List α} (h : l.length = 2) : ∃ a b, l = [a, b] := by
  match l, h with
  | [a, b], _ => exact ⟨a, b, rfl⟩
theorem list4P {α : Type} {l : List α} (h : l.length = 4) : ∃ a b c d, l = [a, b, c, d] := by
  match l, h with
  | [a, b, c, d], _ => exact ⟨a, b, c, d, rfl⟩
/-- A slice of ints that came in. -/
theorem ints_inP {H : Type} {enc : TypeId × Value → H} {W : World} {fuel : Nat} {cs : List Value} {x : DataW H × List MemPlace} (hf : DataW.trod enc Tryz.prog W 0 (fun _ => true) true fuel 24 cs = some x) :
    ∃ (a : Option Addr) (c : Nat) (B : List Int), cs = [.slice a B.length c] ∧ IntsAt W a B ∧ IsInts B ∧ B.length < Rows.uptoBulk x.1 := by
  rcases open_ints Tryz.underlying24 Tryz.underlying3 Tryz.cP.1 hf with ⟨rfl, rfl⟩ | ⟨a, l, c, zs, rfl, _, hl, hm, hz, rfl, hcell, hwz⟩
  · exact ⟨none, 0, [], rfl, fun e => (e rfl).elim, fun y hy => (by cases hy), bulk_pos _⟩
  · simp only [if_true] at hz
    have hlen : (zs.take l).length = l := by rw [List.length_take]; omega
    refine ⟨some a, c, zs.take l, by rw [hlen], fun hne => ?_, fun y hy => ?_, ?_⟩
    · have hpos : 0 < zs.length := by
        have := List.length_pos_iff.2 hne
        omega
      obtain ⟨b, off, rfl, hc⟩ := ints_at hcell hpos
      refine ⟨b, off, rfl, fun k hk => ?_⟩
      have := hc k (by omega)
      rw [List.getElem?_take, if_pos (by omega)]
      simpa [List.getD] using this
    · have := bounds_i64 (hwz y (List.mem_of_mem_take hy))
      omega
    · have := bulk_slice (H := H) (lits .i64 (zs.take l)) (lits .i64 (zs.drop l))
      have e : (lits (H := H) .i64 (zs.take l)).length = (zs.take l).length := by simp [lits]
      rw [e] at this
      exact this
set_option maxRecDepth 100000 in
/-- A posting that came in. -/
theorem posting_of {H : Type} {enc : TypeId × Value → H} {W : World} {fuel : Nat} {cs : List Value} {x : DataW H × List MemPlace} (hf : DataW.trod enc Tryz.prog W 0 (fun _ => true) true fuel 38 cs = some x) :
    ∃ g : Pg, cs = pgc g ∧ IntsAt W g.a g.ps ∧ IsInts g.ps ∧ g.ps.length + 1 ≤ Rows.uptoBulk x.1 := by
  obtain ⟨xs, n, rfl, hx, hl, hxl, hfs⟩ := DataW.trod_struct Tryz.underlying38 hf
  obtain ⟨c1, c2, c3, c4, c5⟩ := Tryz.cP
  obtain ⟨x0, x1, rfl⟩ := list2P hxl
  rw [c4] at hl
  obtain ⟨y0, y1, rfl⟩ := list2P hl
  have q0 : DataW.trod enc Tryz.prog W 0 (fun _ => true) true n 3 (([y0, y1].drop 0).take (Tryz.prog.cellsOf 3)) = some x0 := hfs 0 _ rfl
  have q1 : DataW.trod enc Tryz.prog W 0 (fun _ => true) true n 24 (([y0, y1].drop 1).take (Tryz.prog.cellsOf 24)) = some x1 := hfs 1 _ rfl
  rw [c1] at q0
  rw [c3] at q1
  simp only [List.drop, List.take] at q0 q1
  obtain ⟨d, e0, -, -⟩ := DataW.trod_int Tryz.underlying3 q0
  obtain ⟨la, lc, L, e1, hl1, hl2, hl4⟩ := ints_inP q1
  simp only [List.cons.injEq, and_true] at e0 e1
  subst e0 e1
  have hB : Rows.uptoBulk x.1 = Rows.uptoBulk x0.1 + (Rows.uptoBulk x1.1 + 0) + 1 := by
    rw [hx]
    simp only [List.map, Rows.uptoBulk, Rows.uptoBulkAll]
  exact ⟨⟨d, la, lc, L⟩, rfl, hl1, hl2, by simp only; omega⟩
theorem choose_listP {α : Type} {P : Nat → α → Prop} : ∀ n, (∀ i, i < n → ∃ a, P i a) → ∃ l : List α, l.length = n ∧ ∀ i (h : i < l.length), P i l[i]
  | 0, _ => ⟨[], rfl, fun i h => by simp at h⟩
  | n + 1, h => by
    obtain ⟨l, hl, hp⟩ := choose_listP n (fun i hi => h i (by omega))
    obtain ⟨a, ha⟩ := h n (by omega)
    refine ⟨l ++ [a], by simp [hl], fun i hi => ?_⟩
    by_cases hn : i < l.length
    · rw [List.getElem_append_left hn]
      exact hp i hn
    · have : i = l.length := by simp at hi; omega
      subst this
      rw [List.getElem_append_right (by omega)]
      simp only [Nat.sub_self, List.getElem_cons_zero, hl]
      exact ha
theorem tot_leP {H : Type} : ∀ (S : List Pg) (ds : List (DataW H)), S.length = ds.length → (∀ i (h : i < S.length) (h' : i < ds.length), (S[i]).ps.length + 1 ≤ Rows.uptoBulk ds[i]) → tot (pol S) + S.length ≤ Rows.uptoBulkAll ds
  | [], ds, _, _ => Nat.zero_le _
  | o :: r, [], h, _ => by simp at h
  | o :: r, d :: ds, h, hp => by
    have h0 : o.ps.length + 1 ≤ Rows.uptoBulk d := hp 0 (by simp) (by simp)
    have h1 := tot_leP r ds (by simpa using h) (fun i hi hi' => hp (i + 1) (by simp; omega) (by simp; omega))
    have e : pol (o :: r) = o.po :: pol r := rfl
    rw [e]
    simp only [tot, Rows.uptoBulkAll, List.length_cons, Pg.po]
    omega
/-- Postings that came in. -/
theorem postings_of {H : Type} {enc : TypeId × Value → H} {W : World} {fuel : Nat} {cs : List Value} {x : DataW H × List MemPlace} (hf : DataW.trod enc Tryz.prog W 0 (fun _ => true) true fuel 22 cs = some x) :
    ∃ (a : Option Addr) (c : Nat) (S : List Pg), cs = [.slice a S.length c] ∧ PsAt W a S ∧ (∀ g ∈ S, IsInts g.ps) ∧ S.length ≤ c ∧ tot (pol S) + S.length < Rows.uptoBulk x.1 := by
  rcases DataW.trod_slice Tryz.underlying22 hf with ⟨rfl, rfl⟩ | ⟨a, len, cap, elems, rest, n, _, rfl, rfl, _, hl, hm, hlen, hel, _, _⟩
  · exact ⟨none, 0, [], rfl, fun e => (e rfl).elim, fun y hy => (by cases hy), Nat.le_refl _, bulk_pos _⟩
  obtain ⟨-, -, -, c4, -⟩ := Tryz.cP
  rw [c4] at hel
  have hbk : Rows.uptoBulk (DataW.slice (H := H) (elems.map (·.1)) (rest.map (·.1))) = Rows.uptoBulkAll (elems.map (·.1)) + Rows.uptoBulkAll (rest.map (·.1)) + 1 := by simp only [Rows.uptoBulk]
  have each : ∀ i, i < len → ∃ o : Pg, (∀ j, j < 2 → W.cell? ((a.add (i * 2)).add j) = (pgc o)[j]?) ∧ (IntsAt W o.a o.ps ∧ IsInts o.ps) ∧ ∀ (h : i < elems.length), o.ps.length + 1 ≤ Rows.uptoBulk (elems[i]).1 := by
    intro i hi
    have h := hel i hi
    rw [List.getElem?_eq_getElem (by omega), Option.bind_eq_some_iff] at h
    obtain ⟨cs8, h1, h2⟩ := h
    obtain ⟨_, h3⟩ := (World.cells?_some h1).2
    obtain ⟨g, rfl, k1, k2, k3⟩ := posting_of h2
    exact ⟨g, h3, ⟨k1, k2⟩, fun _ => k3⟩
  obtain ⟨S, hS, hp⟩ := choose_listP len each
  refine ⟨some a, cap, S, by rw [hS], fun hne => ?_, fun o ho => ?_, by omega, ?_⟩
  · have hp0 : 0 < S.length := List.length_pos_iff.2 hne
    obtain ⟨b, off, spot⟩ := a
    have h00 := (hp 0 hp0).1 0 (by omega)
    have hspot : spot = none := by
      have e : (pgc S[0])[0]? = some (.int .i64 (S[0]).d) := rfl
      rw [e] at h00
      simpa [Addr.add] using World.cell?_spot h00
    subst hspot
    refine ⟨b, off, rfl, fun k hk => ?_⟩
    have t0 := (hp k hk).1 0 (by omega)
    have t1 := (hp k hk).1 1 (by omega)
    rw [Go.WideShapes.add_plain, Go.WideShapes.add_plain] at t0 t1
    exact ⟨t0, t1, (hp k hk).2.1.1⟩
  · obtain ⟨i, hi, rfl⟩ := List.mem_iff_getElem.1 ho
    exact (hp i hi).2.1.2
  · have h1 := tot_leP S (elems.map (·.1)) (by rw [List.length_map]; omega) (fun i hi hi' => by
      rw [List.getElem_map]
      exact (hp i hi).2.2 (by omega))
    show tot (pol S) + S.length < Rows.uptoBulk (DataW.slice (H := H) (elems.map (·.1)) (rest.map (·.1)))
    omega
end Go.Proofs.YtidgofpmnlddaaaGreatDoor
namespace Go.Proofs.YtidgofpmnlddaaaGreatDoor
open Go.ChangeShapes Go.WideShapes Go.ChangeAt Go.RowKit

/-- Rising, each once. -/
def Rsg (l : List Int) : Prop := l.Pairwise (· < ·)
/-- Rising lists with the same numbers are the same. -/
theorem rsg_eq : ∀ {A B : List Int}, Rsg A → Rsg B → (∀ x, x ∈ A ↔ x ∈ B) → A = B
  | [], [], _, _, _ => rfl
  | [], b :: B, _, _, h => absurd ((h b).2 List.mem_cons_self) (by simp)
  | a :: A, [], _, _, h => absurd ((h a).1 List.mem_cons_self) (by simp)
  | a :: A, b :: B, hA, hB, h => by
    unfold Rsg at hA hB
    rw [List.pairwise_cons] at hA hB
    have e : a = b := by
      have h1 := (h a).1 List.mem_cons_self
      have h2 := (h b).2 List.mem_cons_self
      rcases List.mem_cons.1 h1 with q | q
      · exact q
      · rcases List.mem_cons.1 h2 with r | r
        · exact r.symm
        · have := hA.1 b r
          have := hB.1 a q
          omega
    subst e
    congr 1
    refine rsg_eq hA.2 hB.2 (fun x => ?_)
    have hx := h x
    rw [List.mem_cons, List.mem_cons] at hx
    constructor
    · intro m
      rcases hx.1 (.inr m) with q | q
      · have := hA.1 x m
        omega
      · exact q
    · intro m
      rcases hx.2 (.inr m) with q | q
      · have := hB.1 x m
        omega
      · exact q
theorem Rsg.lt {l : List Int} (h : Rsg l) {i j : Nat} (hij : i < j) (hj : j < l.length) : (l[i]'(by omega)) < l[j] := (List.pairwise_iff_getElem.1 h) i j (by omega) hj hij
theorem rsg_drop {l : List Int} (h : Rsg l) {i : Nat} {y : Int} (hi : i < l.length) (hy : y ∈ l.drop i) : l[i] ≤ y := by
  obtain ⟨k, hk, rfl⟩ := List.mem_iff_getElem.1 hy
  rw [List.length_drop] at hk
  rw [List.getElem_drop]
  rcases Nat.eq_zero_or_pos k with rfl | hp
  · simp
  · exact Int.le_of_lt (h.lt (by omega) (by omega))
/-- Two rising lists are put together: so far. -/
structure Un (A B O : List Int) (i j : Nat) : Prop where
  ia : i ≤ A.length
  jb : j ≤ B.length
  rs : Rsg O
  mem : ∀ x, x ∈ O ↔ x ∈ A.take i ∨ x ∈ B.take j
  la : ∀ o ∈ O, ∀ y ∈ A.drop i, o < y
  lb : ∀ o ∈ O, ∀ y ∈ B.drop j, o < y
theorem un_zero (A B : List Int) : Un A B [] 0 0 := ⟨Nat.zero_le _, Nat.zero_le _, List.Pairwise.nil, fun x => by simp, fun o h => by simp at h, fun o h => by simp at h⟩
theorem un_end {A B O : List Int} {i j : Nat} (h : Un A B O i j) (hi : ¬ i < A.length) (hj : ¬ j < B.length) : ∀ x, x ∈ O ↔ x ∈ A ∨ x ∈ B := by
  intro x
  rw [h.mem, List.take_of_length_le (by omega), List.take_of_length_le (by omega)]
/-- A list behind a step: what is taken of it, and what is left. -/
theorem stp_mem {A : List Int} {i : Nat} {x : Int} {k : Bool} (hk : k = true → ∃ hi : i < A.length, A[i] = x) (y : Int) : (y ∈ A.take (if k then i + 1 else i) ∨ y = x) ↔ (y ∈ A.take i ∨ y = x) := by
  cases k with
  | false => simp
  | true =>
    obtain ⟨hi, e⟩ := hk rfl
    simp only [if_true]
    rw [List.take_succ_eq_append_getElem hi, List.mem_append, List.mem_singleton, e]
    constructor
    · rintro ((h | h) | h)
      · exact .inl h
      · exact .inr h
      · exact .inr h
    · rintro (h | h)
      · exact .inl (.inl h)
      · exact .inr h
theorem stp_left {A : List Int} (hA : Rsg A) {i : Nat} {x : Int} {k : Bool} (hle : ∀ hi : i < A.length, x ≤ A[i]) (hk : k = true ↔ ∃ hi : i < A.length, A[i] = x) : ∀ y ∈ A.drop (if k then i + 1 else i), x < y := by
  intro y hy
  cases k with
  | false =>
    simp only [Bool.false_eq_true, if_false] at hy
    rcases Nat.lt_or_ge i A.length with hi | hi
    · have h1 := rsg_drop hA hi hy
      have h2 := hle hi
      have h3 : A[i] ≠ x := fun e => by
        have := hk.2 ⟨hi, e⟩
        cases this
      omega
    · rw [List.drop_eq_nil_of_le hi] at hy
      cases hy
  | true =>
    obtain ⟨hi, e⟩ := hk.1 rfl
    simp only [if_true] at hy
    rcases Nat.lt_or_ge (i + 1) A.length with h1 | h1
    · have h2 := rsg_drop hA h1 hy
      have h3 := hA.lt (show i < i + 1 by omega) h1
      omega
    · rw [List.drop_eq_nil_of_le h1] at hy
      cases hy
theorem drop_sub {A : List Int} {i : Nat} {k : Bool} {y : Int} (h : y ∈ A.drop (if k then i + 1 else i)) : y ∈ A.drop i := by
  cases k with
  | false => simpa using h
  | true =>
    simp only [if_true] at h
    rw [← List.drop_drop] at h
    exact List.mem_of_mem_drop h
/-- The lesser of the two next ones is put behind. -/
theorem Un.step {A B O : List Int} {i j : Nat} (h : Un A B O i j) (hA : Rsg A) (hB : Rsg B) {x : Int} {ka kb : Bool} (ha : ∀ hi : i < A.length, x ≤ A[i]) (hb : ∀ hj : j < B.length, x ≤ B[j]) (hka : ka = true ↔ ∃ hi : i < A.length, A[i] = x) (hkb : kb = true ↔ ∃ hj : j < B.length, B[j] = x) (hx : ka = true ∨ kb = true) : Un A B (O ++ [x]) (if ka then i + 1 else i) (if kb then j + 1 else j) := by
  have hxo : ∀ o ∈ O, o < x := by
    intro o ho
    rcases hx with q | q
    · obtain ⟨hi, e⟩ := hka.1 q
      have := h.la o ho A[i] (List.mem_iff_getElem.2 ⟨0, by rw [List.length_drop]; omega, by simp⟩)
      omega
    · obtain ⟨hj, e⟩ := hkb.1 q
      have := h.lb o ho B[j] (List.mem_iff_getElem.2 ⟨0, by rw [List.length_drop]; omega, by simp⟩)
      omega
  refine ⟨?_, ?_, ?_, fun y => ?_, fun o ho y hy => ?_, fun o ho y hy => ?_⟩
  · split
    · rename_i q
      obtain ⟨hi, -⟩ := hka.1 q
      omega
    · exact h.ia
  · split
    · rename_i q
      obtain ⟨hj, -⟩ := hkb.1 q
      omega
    · exact h.jb
  · unfold Rsg
    rw [List.pairwise_append]
    exact ⟨h.rs, List.pairwise_singleton _ _, fun a ha' b hb' => by rw [List.mem_singleton] at hb'; subst hb'; exact hxo a ha'⟩
  · have m1 := stp_mem (A := A) (i := i) (k := ka) (fun q => hka.1 q) y
    have m2 := stp_mem (A := B) (i := j) (k := kb) (fun q => hkb.1 q) y
    have m3 := h.mem y
    rw [List.mem_append, List.mem_singleton, m3]
    have hin : y = x → y ∈ A.take (if ka then i + 1 else i) ∨ y ∈ B.take (if kb then j + 1 else j) := by
      intro e
      subst e
      rcases hx with q | q
      · obtain ⟨hi, e⟩ := hka.1 q
        left
        rw [if_pos q, List.take_succ_eq_append_getElem hi, List.mem_append, List.mem_singleton]
        exact .inr e.symm
      · obtain ⟨hj, e⟩ := hkb.1 q
        right
        rw [if_pos q, List.take_succ_eq_append_getElem hj, List.mem_append, List.mem_singleton]
        exact .inr e.symm
    constructor
    · rintro ((q | q) | q)
      · rcases m1.2 (.inl q) with r | r
        · exact .inl r
        · exact hin r
      · rcases m2.2 (.inl q) with r | r
        · exact .inr r
        · exact hin r
      · exact hin q
    · rintro (q | q)
      · rcases m1.1 (.inl q) with r | r
        · exact .inl (.inl r)
        · exact .inr r
      · rcases m2.1 (.inl q) with r | r
        · exact .inl (.inr r)
        · exact .inr r
  · rcases List.mem_append.1 ho with q | q
    · exact h.la o q y (drop_sub hy)
    · rw [List.mem_singleton] at q
      subst q
      exact stp_left hA ha hka y hy
  · rcases List.mem_append.1 ho with q | q
    · exact h.lb o q y (drop_sub hy)
    · rw [List.mem_singleton] at q
      subst q
      exact stp_left hB hb hkb y hy
/-- The end of a binary search. -/
theorem btw_end {l : List Int} (h : Rsg l) {lo hi : Int} {f : Nat} (h1 : ∀ k (hk : k < l.length), k < f → l[k] < lo) (h2 : ∀ k (hk : k < l.length), f ≤ k → lo ≤ l[k]) : (∃ hf : f < l.length, l[f] ≤ hi) ↔ ∃ y ∈ l, lo ≤ y ∧ y ≤ hi := by
  constructor
  · rintro ⟨hf, hle⟩
    exact ⟨l[f], List.getElem_mem hf, h2 f hf (Nat.le_refl _), hle⟩
  · rintro ⟨y, hy, hlo, hhi⟩
    obtain ⟨k, hk, rfl⟩ := List.mem_iff_getElem.1 hy
    have hfk : f ≤ k := by
      rcases Nat.lt_or_ge k f with q | q
      · have := h1 k hk q
        omega
      · exact q
    refine ⟨by omega, ?_⟩
    rcases Nat.lt_or_ge f k with q | q
    · have := h.lt q hk
      omega
    · obtain rfl : f = k := by omega
      exact hhi
theorem btw_low {l : List Int} (h : Rsg l) {lo : Int} {m : Nat} (hm : m < l.length) (hl : l[m] < lo) : ∀ k (hk : k < l.length), k < m + 1 → l[k] < lo := by
  intro k hk hkm
  rcases Nat.lt_or_ge k m with q | q
  · have := h.lt q hm
    omega
  · obtain rfl : k = m := by omega
    exact hl
theorem btw_high {l : List Int} (h : Rsg l) {lo : Int} {m : Nat} (hm : m < l.length) (hl : ¬ l[m] < lo) : ∀ k (hk : k < l.length), m ≤ k → lo ≤ l[k] := by
  intro k hk hkm
  rcases Nat.lt_or_ge m k with q | q
  · have := h.lt q hk
    omega
  · obtain rfl : k = m := by omega
    omega
end Go.Proofs.YtidgofpmnlddaaaGreatDoor
namespace Go.Proofs.YtidgofpmnlddaaaGreatDoor
open Go.ChangeShapes Go.WideShapes Go.ChangeAt Go.RowKit

/-- A list of numbers in a list of lists. -/
structure Il where
  a : Option Addr
  c : Nat
  l : List Int
def LiAt (w : World) (a : Option Addr) (L : List Il) : Prop :=
  L ≠ [] → ∃ b off, a = some ⟨b, off, none⟩ ∧ ∀ k (h : k < L.length), w.cell? ⟨b, off + k, none⟩ = some (.slice L[k].a L[k].l.length L[k].c) ∧ IntsAt w L[k].a L[k].l
def InL (l : List Int) : Prop := ∀ x ∈ l, 0 ≤ x ∧ x ≤ 2147483646
theorem InL.at {l : List Int} (h : InL l) {k : Nat} (hk : k < l.length) : 0 ≤ l[k]?.getD 0 ∧ l[k]?.getD 0 ≤ 2147483646 := by
  rw [List.getElem?_eq_getElem hk]
  exact h _ (List.getElem_mem hk)
set_option maxRecDepth 20000 in
set_option maxHeartbeats 4000000 in
theorem keepLimits_in (l : List Int) (a : Option Addr) (c : Nat) (W : World) (h : IntsAt W a l) (hl : l.length ≤ 1099511627776) (hi : InL l) :
    Calls Tryz.prog 37 #[.slice a l.length c] W fun e w' => e = .returned (.bool true) ∧ w' = W := by
  have HI := hideP hi
  have HA := hideP h
  obtain ⟨n, hn⟩ : ∃ n, n = l.length := ⟨_, rfl⟩
  have HN := hideP hn
  rw [← hn] at hl ⊢
  clear h hi hn
  go_enter Tryz.func37, Tryz.ntmps37
  go_wp2
  go_loopw [7] (fun s7 wr => ∃ k : Nat, k ≤ n ∧ s7 = .int .i64 k ∧ wr = W) (fun s7 _ => n - (intOf s7).toNat)
  case atStart => exact ⟨0, by omega, rfl, rfl⟩
  case round =>
    obtain ⟨k, hk, rfl, rfl⟩ := hrel
    by_cases hlt : k < n
    · have hkl : k < l.length := by rw [← HN.out]; exact hlt
      obtain ⟨b, off, rfl, hc⟩ := HA.out (by intro e; rw [e] at hkl; simp at hkl)
      have y0 := hc k hkl
      obtain ⟨h1, h2⟩ := HI.out.at hkl
      generalize l[k]?.getD 0 = x at *
      have e1 : decide (x < 0) = false := decide_eq_false (by omega)
      have e2 : decide (2147483646 < x) = false := decide_eq_false (by omega)
      have e3 : ¬ x < 0 := by omega
      have e4 : ¬ 2147483646 < x := by omega
      have hkk : (k : Int) < (n : Int) := by omega
      clear hc
      go_wp2
      go_roundw
      case rel => exact ⟨k + 1, by omega, by go_num, trivial⟩
      case measure => simp [intOf]; omega
    · obtain rfl : k = n := by omega
      go_wp2
      go_ret
      exact ⟨rfl, rfl⟩
def spw (o : Int) (w : Nat) (l : List Int) : List (Int × Nat) := l.map (fun p => (p - o, w))
def spk (L : List Il) (O : List Int) : Nat → List (Int × Nat)
  | 0 => []
  | k + 1 => spk L O k ++ spw (O[k]?.getD 0) k (match L[k]? with | some x => x.l | none => [])
theorem spw_take (o : Int) (w : Nat) (l : List Int) (j : Nat) (h : j < l.length) : spw o w (l.take (j + 1)) = spw o w (l.take j) ++ [(l[j]?.getD 0 - o, w)] := by
  unfold spw
  rw [List.take_succ_eq_append_getElem h, List.map_append, List.getElem?_eq_getElem h]
  rfl
theorem spk_word (L : List Il) (O : List Int) : ∀ (k : Nat) (x : Int × Nat), x ∈ spk L O k → x.2 < k
  | 0, _, h => by cases h
  | k + 1, x, h => by
    rw [spk] at h
    rcases List.mem_append.1 h with q | q
    · have := spk_word L O k x q
      omega
    · obtain ⟨p, _, rfl⟩ := List.mem_map.1 q
      exact Nat.lt_succ_self k
theorem spk_at (L : List Il) (O : List Int) (hin : ∀ x ∈ L, InL x.l) (hio : InL O) : ∀ (k : Nat) (x : Int × Nat), x ∈ spk L O k → -2147483648 ≤ x.1 ∧ x.1 ≤ 2147483648
  | 0, _, h => by cases h
  | k + 1, x, h => by
    rw [spk] at h
    rcases List.mem_append.1 h with q | q
    · exact spk_at L O hin hio k x q
    · obtain ⟨p, hp, rfl⟩ := List.mem_map.1 q
      have ho : 0 ≤ O[k]?.getD 0 ∧ O[k]?.getD 0 ≤ 2147483646 := by
        rcases Nat.lt_or_ge k O.length with q | q
        · exact hio.at q
        · rw [List.getElem?_eq_none q]; simp
      have hpp : 0 ≤ p ∧ p ≤ 2147483646 := by
        rcases Nat.lt_or_ge k L.length with q | q
        · rw [List.getElem?_eq_getElem q] at hp
          exact hin _ (List.getElem_mem q) p hp
        · rw [List.getElem?_eq_none q] at hp
          cases hp
      simp only
      omega
/-- A phrase within its limits. -/
def gdp (L : List Il) (O : List Int) (sl : Int) : Prop := L.length = O.length ∧ (0 ≤ sl ∧ sl ≤ 2147483647) ∧ InL O ∧ ∀ x ∈ L, InL x.l
/-- From b on, up to sl further, each word stands. -/
def okw (L : List Il) (O : List Int) (sl b : Int) : Bool := (List.range L.length).all (fun k => (match L[k]? with | some x => x.l | none => []).any (fun y => decide (b ≤ y - O[k]?.getD 0) && decide (y - O[k]?.getD 0 ≤ b + sl)))
theorem spk_mem {L : List Il} {O : List Int} : ∀ {n : Nat} {y : Int × Nat}, y ∈ spk L O n ↔ ∃ k, ∃ hk : k < L.length, k < n ∧ ∃ p ∈ L[k].l, y = (p - O[k]?.getD 0, k)
  | 0, y => by simp [spk]
  | n + 1, y => by
    rw [spk, List.mem_append, spk_mem]
    constructor
    · rintro (⟨k, hk, hn, p, hp, rfl⟩ | h)
      · exact ⟨k, hk, by omega, p, hp, rfl⟩
      · obtain ⟨p, hp, rfl⟩ := List.mem_map.1 h
        rcases Nat.lt_or_ge n L.length with q | q
        · rw [List.getElem?_eq_getElem q] at hp
          exact ⟨n, q, by omega, p, hp, rfl⟩
        · rw [List.getElem?_eq_none q] at hp
          cases hp
    · rintro ⟨k, hk, hn, p, hp, rfl⟩
      rcases Nat.lt_or_ge k n with q | q
      · exact .inl ⟨k, hk, q, p, hp, rfl⟩
      · obtain rfl : k = n := by omega
        right
        rw [List.getElem?_eq_getElem hk]
        exact List.mem_map.2 ⟨p, hp, rfl⟩
theorem okw_iff {L : List Il} {O : List Int} {sl b : Int} : okw L O sl b = true ↔ ∀ k (hk : k < L.length), ∃ y ∈ L[k].l, b ≤ y - O[k]?.getD 0 ∧ y - O[k]?.getD 0 ≤ b + sl := by
  unfold okw
  rw [List.all_eq_true]
  constructor
  · intro h k hk
    have := h k (List.mem_range.2 hk)
    rw [List.getElem?_eq_getElem hk, List.any_eq_true] at this
    obtain ⟨y, hy, hd⟩ := this
    simp only [Bool.and_eq_true, decide_eq_true_eq] at hd
    exact ⟨y, hy, hd⟩
  · intro h k hk
    have hk := List.mem_range.1 hk
    obtain ⟨y, hy, hd⟩ := h k hk
    rw [List.getElem?_eq_getElem hk, List.any_eq_true]
    exact ⟨y, hy, by simp only [Bool.and_eq_true, decide_eq_true_eq]; exact hd⟩
/-- A rising list of all places at which a word begins the phrase. -/
structure Alp (L : List Il) (O : List Int) (A : List Int) : Prop where
  rs : Rsg A
  mem : ∀ b, b ∈ A ↔ ∃ k, ∃ hk : k < L.length, ∃ p ∈ L[k].l, b = p - O[k]?.getD 0
end Go.Proofs.YtidgofpmnlddaaaGreatDoor
namespace Go.Proofs.YtidgofpmnlddaaaGreatDoor
open Go.ChangeShapes Go.WideShapes Go.ChangeAt Go.RowKit

theorem ints_cell {W : World} {a : Option Addr} {l : List Int} (h : IntsAt W a l) {k : Nat} (hk : k < l.length) : ∃ b off, a = some ⟨b, off, none⟩ ∧ W.cell? ⟨b, off + k, none⟩ = some (.int .i64 l[k]) := by
  obtain ⟨b, off, e, hc⟩ := h (by intro e; rw [e] at hk; simp at hk)
  have := hc k hk
  rw [List.getElem?_eq_getElem hk] at this
  exact ⟨b, off, e, this⟩
set_option maxRecDepth 20000 in
set_option maxHeartbeats 4000000 in
/-- Has a rising list a number from lo to hi? -/
theorem rbetw_any (l : List Int) (a : Option Addr) (c : Nat) (lo hi : Int) (W : World) (h : IntsAt W a l) (hr : Rsg l) (hl : l.length ≤ 1099511627776) : Calls Tryz.prog 54 #[.slice a l.length c, .int .i64 lo, .int .i64 hi] W fun e w' => e = .returned (.bool (decide (∃ y ∈ l, lo ≤ y ∧ y ≤ hi))) ∧ w' = W := by
  have HI := hideP h
  have HR := hideP hr
  obtain ⟨n, hn⟩ : ∃ n, n = l.length := ⟨_, rfl⟩
  rw [← hn] at hl ⊢
  have HN := hideP hn
  obtain ⟨B, hB⟩ : ∃ B : Bool, B = decide (∃ y ∈ l, lo ≤ y ∧ y ≤ hi) := ⟨_, rfl⟩
  rw [← hB]
  have HB := hideP hB
  clear h hr hn hB
  go_enter Tryz.func54, Tryz.ntmps54
  go_wp2
  go_loopw [7, 8] (fun s7 s8 wr => ∃ f t : Nat, f ≤ t ∧ t ≤ n ∧ s7 = .int .i64 f ∧ s8 = .int .i64 t ∧ wr = W ∧ Hid (∀ k (hk : k < l.length), k < f → l[k] < lo) ∧ Hid (∀ k (hk : k < l.length), t ≤ k → lo ≤ l[k])) (fun s7 s8 _ => (intOf s8).toNat - (intOf s7).toNat)
  case atStart => exact ⟨0, n, Nat.zero_le _, Nat.le_refl _, rfl, rfl, rfl, hideP (fun k hk h => by omega), hideP (fun k hk h => by have := HN.out; omega)⟩
  case round =>
    obtain ⟨f, t, hft, htn, rfl, rfl, rfl, H1, H2⟩ := hrel
    by_cases hlt : f < t
    · have hll : (f : Int) < (t : Int) := by omega
      obtain ⟨m, hm⟩ : ∃ m, m = (f + t) / 2 := ⟨_, rfl⟩
      have e1 : ((f : Int) + (t : Int)).tdiv 2 = (m : Int) := by rw [Int.tdiv_eq_ediv_of_nonneg (by omega)]; omega
      have e2 : ((f : Int) + (t : Int)) / 2 = (m : Int) := by omega
      have hmt : m < t := by omega
      have hfm : f ≤ m := by omega
      have hml : m < l.length := by rw [← HN.out]; omega
      obtain ⟨b, off, rfl, hc⟩ := ints_cell HI.out hml
      obtain ⟨x, hx⟩ : ∃ x, x = l[m] := ⟨_, rfl⟩
      rw [← hx] at hc
      by_cases hxl : x < lo
      · have H3 := hideP (btw_low HR.out hml (by rw [← hx]; exact hxl))
        clear hm hx
        go_wp2
        go_roundw
        case rel => exact ⟨m + 1, t, by omega, by omega, by go_num, rfl, by first | rfl | trivial, H3, H2⟩
        case measure => simp [intOf]; omega
      · have H3 := hideP (btw_high HR.out hml (by rw [← hx]; exact hxl))
        clear hm hx
        go_wp2
        go_roundw
        case rel => exact ⟨f, m, by omega, by omega, rfl, rfl, by first | rfl | trivial, H1, H3⟩
        case measure => simp [intOf]; omega
    · obtain rfl : f = t := by omega
      have hll : ¬ (f : Int) < (f : Int) := by omega
      have hE := btw_end (hi := hi) HR.out H1.out H2.out
      by_cases hfn : f < n
      · have hfi : (f : Int) < (n : Int) := by omega
        have hfl : f < l.length := by rw [← HN.out]; exact hfn
        obtain ⟨b, off, rfl, hc⟩ := ints_cell HI.out hfl
        obtain ⟨x, hx⟩ : ∃ x, x = l[f] := ⟨_, rfl⟩
        rw [← hx] at hc
        have HBx : Hid (decide (x ≤ hi) = B) := hideP (by
          rw [HB.out, decide_eq_decide, ← hE]
          exact ⟨fun q => ⟨hfl, by rw [← hx]; exact q⟩, fun ⟨_, q⟩ => by rw [hx]; exact q⟩)
        clear hx hE
        by_cases hxh : x ≤ hi
        · have HBt : Hid (B = true) := hideP (by rw [← HBx.out]; exact decide_eq_true hxh)
          go_wp2
          go_ret
          exact ⟨by rw [HBt.out]; rfl, rfl⟩
        · have HBt : Hid (B = false) := hideP (by rw [← HBx.out]; exact decide_eq_false hxh)
          have hxb : decide (x ≤ hi) = false := decide_eq_false hxh
          go_wp2
          go_ret
          exact ⟨by rw [HBt.out]; rfl, rfl⟩
      · have hfi : ¬ (f : Int) < (n : Int) := by omega
        have HBt : Hid (B = false) := hideP (by
          rw [HB.out, decide_eq_false_iff_not, ← hE]
          rintro ⟨q, _⟩
          have := HN.out
          omega)
        clear hE
        go_wp2
        go_ret
        exact ⟨by rw [HBt.out]; rfl, rfl⟩
end Go.Proofs.YtidgofpmnlddaaaGreatDoor
