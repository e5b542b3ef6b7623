import Derived.Test.YtcanbhbhdgogoaaDoorRdA
import Derived.Test.YtcanbhbhdgogoaaDoorRows
import Derived.Handy
import Derived.OpenShut
import Derived.Test.YtcanbhbhdgogoaaDoorDrd
namespace Go.Proofs.YtcanbhbhdgogoaaDoor
open Go.ChangeShapes Go.WideShapes Go.ChangeAt Go.RowKit

theorem Tryd.cU8 : Tryd.prog.cellsOf 5 = 1 := by kernel_rfl
theorem Tryd.bytesU8 : Tryd.prog.bytesOf 5 = 1 := by kernel_rfl
/-- Every value counts. -/
theorem bulk_pos {H : Type} (d : DataW H) : 1 ≤ Rows.uptoBulk d := by
  cases d with
  | lit l => cases l <;> simp [Rows.uptoBulk]
  | _ => simp [Rows.uptoBulk]
theorem bulk_count {H : Type} : ∀ l : List (DataW H), l.length ≤ Rows.uptoBulkAll l
  | [] => by simp
  | x :: r => by
    have h1 := bulk_pos x
    have h2 := bulk_count r
    simp only [Rows.uptoBulkAll, List.length_cons]
    omega
theorem bulk_mem {H : Type} {d : DataW H} : ∀ {l : List (DataW H)}, d ∈ l → Rows.uptoBulk d ≤ Rows.uptoBulkAll l
  | x :: r, h => by
    simp only [Rows.uptoBulkAll]
    rcases List.mem_cons.1 h with rfl | h
    · omega
    · have := bulk_mem h
      omega
theorem bulk_slice {H : Type} (es sp : List (DataW H)) : es.length < Rows.uptoBulk (.slice es sp) := by
  have := bulk_count es
  simp only [Rows.uptoBulk]
  omega
theorem bytesAt_lt {W : World} {a : Option Addr} {B : List Int} (h : BytesAt W a B) (hne : B ≠ []) : ∀ ad, a = some ad → ad.block < W.heap.size := by
  obtain ⟨b, off, rfl, hc⟩ := h hne
  rintro ad e
  obtain rfl := Option.some.inj e
  exact World.block_lt_of_cell? W _ (hc 0 (List.length_pos_iff.2 hne))
/-- A slice of bytes that came in. -/
theorem bytes_in {H : Type} {enc : TypeId × Value → H} {W : World} {fuel : Nat} {cs : List Value} {x : DataW H × List MemPlace} (hf : DataW.trod enc Tryd.prog W 0 (fun _ => true) true fuel 25 cs = some x) :
    ∃ (a : Option Addr) (c : Nat) (B : List Int), cs = [.slice a B.length c] ∧ BytesAt W a B ∧ IsBytes B ∧ (a = none → c = 0) ∧ B.length < Rows.uptoBulk x.1 ∧ (x.1 = .nil ∧ B.length = 0 ∨ ∃ es sp, x.1 = .slice es sp ∧ es.length = B.length) := by
  rcases open_ints Tryd.underlying25 Tryd.underlying5 Tryd.cU8 hf with ⟨rfl, rfl⟩ | ⟨a, l, c, zs, rfl, _, hl, hm, hz, rfl, hcell, hwz⟩
  · exact ⟨none, 0, [], rfl, fun e => (e rfl).elim, fun y hy => (by cases hy), fun _ => rfl, bulk_pos _, .inl ⟨rfl, rfl⟩⟩
  · simp only [if_true] at hz
    have hlen : (zs.take l).length = l := by rw [List.length_take]; omega
    refine ⟨some a, c, zs.take l, by rw [hlen], fun hne => ?_, fun y hy => ?_, (fun e => nomatch e), ?_, .inr ⟨_, _, rfl, by simp [lits]⟩⟩
    · have hpos : 0 < zs.length := by
        have := List.length_pos_iff.2 hne
        omega
      obtain ⟨b, off, rfl, hc⟩ := ints_at hcell hpos
      refine ⟨b, off, rfl, fun k hk => ?_⟩
      have := hc k (by omega)
      rw [List.getElem?_take, if_pos (by omega)]
      simpa [List.getD] using this
    · have := bounds_u8 (hwz y (List.mem_of_mem_take hy))
      omega
    · have := bulk_slice (H := H) (lits .u8 (zs.take l)) (lits .u8 (zs.drop l))
      have e : (lits (H := H) .u8 (zs.take l)).length = (zs.take l).length := by simp [lits]
      rw [e] at this
      exact this
/-- The same, without the datum. -/
theorem bytes_of {H : Type} {enc : TypeId × Value → H} {W : World} {fuel : Nat} {cs : List Value} {x : DataW H × List MemPlace} (hf : DataW.trod enc Tryd.prog W 0 (fun _ => true) true fuel 25 cs = some x) :
    ∃ (a : Option Addr) (c : Nat) (B : List Int), cs = [.slice a B.length c] ∧ BytesAt W a B ∧ IsBytes B ∧ (a = none → c = 0) ∧ B.length < Rows.uptoBulk x.1 := by
  obtain ⟨a, c, B, h1, h2, h3, h4, h5, -⟩ := bytes_in hf
  exact ⟨a, c, B, h1, h2, h3, h4, h5⟩
end Go.Proofs.YtcanbhbhdgogoaaDoor
namespace Go.Proofs.YtcanbhbhdgogoaaDoor
open Go.ChangeShapes Go.WideShapes Go.ChangeAt Go.RowKit

theorem bytes_cap {H : Type} {enc : TypeId × Value → H} {W : World} {fuel : Nat} {a : Option Addr} {n c : Nat} {x : DataW H × List MemPlace} (hf : DataW.trod enc Tryd.prog W 0 (fun _ => true) true fuel 25 [.slice a n c] = some x) : n ≤ c := by
  rcases open_ints Tryd.underlying25 Tryd.underlying5 Tryd.cU8 hf with ⟨e, _⟩ | ⟨a', l, c', zs, e, _, hl, _⟩
  · simp only [List.cons.injEq, Value.slice.injEq, and_true] at e
    omega
  · simp only [List.cons.injEq, Value.slice.injEq, and_true] at e
    omega
end Go.Proofs.YtcanbhbhdgogoaaDoor
namespace Go.Proofs.YtcanbhbhdgogoaaDoor
open Go.ChangeShapes Go.WideShapes Go.ChangeAt Go.RowKit

def InZ (x : Int) : Prop := -9223372036854775808 ≤ x ∧ x ≤ 9223372036854775807
/-- An entry's numbers are ints. -/
def InE (e : En) : Prop := InZ e.d ∧ InZ e.t ∧ InZ e.p ∧ InZ e.s
theorem list5E {α : Type} {l : List α} (h : l.length = 5) : ∃ a b c d e, l = [a, b, c, d, e] := by
  match l, h with
  | [a, b, c, d, e], _ => exact ⟨a, b, c, d, e, rfl⟩
theorem Tryd.cEn : Tryd.prog.cellsOf 3 = 1 ∧ Tryd.prog.cellsOf 9 = 1 ∧ Tryd.prog.cellsOf 31 = 5 := by
  refine ⟨?_, ?_, ?_⟩ <;> kernel_rfl
theorem choose_listE {α : Type} {P : Nat → α → Prop} : ∀ n, (∀ i, i < n → ∃ a, P i a) → ∃ l : List α, l.length = n ∧ ∀ i (h : i < l.length), P i l[i]
  | 0, _ => ⟨[], rfl, fun i h => by simp at h⟩
  | n + 1, h => by
    obtain ⟨l, hl, hp⟩ := choose_listE n (fun i hi => h i (by omega))
    obtain ⟨a, ha⟩ := h n (by omega)
    refine ⟨l ++ [a], by simp [hl], fun i hi => ?_⟩
    by_cases hn : i < l.length
    · rw [List.getElem_append_left hn]
      exact hp i hn
    · have : i = l.length := by simp at hi; omega
      subst this
      rw [List.getElem_append_right (by omega)]
      simp only [Nat.sub_self, List.getElem_cons_zero, hl]
      exact ha
set_option maxRecDepth 100000 in
/-- An entry that came in. -/
theorem enl_of {H : Type} {enc : TypeId × Value → H} {W : World} {fuel : Nat} {cs : List Value} {x : DataW H × List MemPlace} (hf : DataW.trod enc Tryd.prog W 0 (fun _ => true) true fuel 31 cs = some x) :
    ∃ g : En, cs = [.string g.k, .int .i64 g.d, .int .i64 g.t, .int .i64 g.p, .int .i64 g.s] ∧ InE g ∧ 1 ≤ Rows.uptoBulk x.1 := by
  obtain ⟨xs, n, rfl, hx, hl, hxl, hfs⟩ := DataW.trod_struct Tryd.underlying31 hf
  obtain ⟨c1, c2, c4⟩ := Tryd.cEn
  obtain ⟨x0, x1, x2, x3, x4, rfl⟩ := list5E hxl
  rw [c4] at hl
  obtain ⟨y0, y1, y2, y3, y4, rfl⟩ := list5E hl
  have q0 : DataW.trod enc Tryd.prog W 0 (fun _ => true) true n 9 (([y0, y1, y2, y3, y4].drop 0).take (Tryd.prog.cellsOf 9)) = some x0 := hfs 0 _ rfl
  have q1 : DataW.trod enc Tryd.prog W 0 (fun _ => true) true n 3 (([y0, y1, y2, y3, y4].drop 1).take (Tryd.prog.cellsOf 3)) = some x1 := hfs 1 _ rfl
  have q2 : DataW.trod enc Tryd.prog W 0 (fun _ => true) true n 3 (([y0, y1, y2, y3, y4].drop 2).take (Tryd.prog.cellsOf 3)) = some x2 := hfs 2 _ rfl
  have q3 : DataW.trod enc Tryd.prog W 0 (fun _ => true) true n 3 (([y0, y1, y2, y3, y4].drop 3).take (Tryd.prog.cellsOf 3)) = some x3 := hfs 3 _ rfl
  have q4 : DataW.trod enc Tryd.prog W 0 (fun _ => true) true n 3 (([y0, y1, y2, y3, y4].drop 4).take (Tryd.prog.cellsOf 3)) = some x4 := hfs 4 _ rfl
  rw [c2] at q0
  rw [c1] at q1 q2 q3 q4
  simp only [List.drop, List.take] at q0 q1 q2 q3 q4
  obtain ⟨k, e0, -, -⟩ := DataW.trod_string Tryd.underlying9 q0
  obtain ⟨d, e1, -, w1⟩ := DataW.trod_int Tryd.underlying3 q1
  obtain ⟨e, e2, -, w2⟩ := DataW.trod_int Tryd.underlying3 q2
  obtain ⟨f, e3, -, w3⟩ := DataW.trod_int Tryd.underlying3 q3
  obtain ⟨g, e4, -, w4⟩ := DataW.trod_int Tryd.underlying3 q4
  simp only [List.cons.injEq, and_true] at e0 e1 e2 e3 e4
  subst e0 e1 e2 e3 e4
  have b1 := bounds_i64 w1
  have b2 := bounds_i64 w2
  have b3 := bounds_i64 w3
  have b4 := bounds_i64 w4
  have i1 : InZ d := by unfold InZ; omega
  have i2 : InZ e := by unfold InZ; omega
  have i3 : InZ f := by unfold InZ; omega
  have i4 : InZ g := by unfold InZ; omega
  exact ⟨⟨k, d, e, f, g⟩, rfl, ⟨i1, i2, i3, i4⟩, bulk_pos _⟩
theorem len_leE {H : Type} : ∀ (ds : List (DataW H)), ds.length ≤ Rows.uptoBulkAll ds
  | [] => Nat.zero_le _
  | d :: ds => by
    have h0 : 1 ≤ Rows.uptoBulk d := bulk_pos d
    have h1 := len_leE ds
    simp only [Rows.uptoBulkAll, List.length_cons]
    omega
/-- Entries that came in. -/
theorem entries_of {H : Type} {enc : TypeId × Value → H} {W : World} {fuel : Nat} {cs : List Value} {x : DataW H × List MemPlace} (hf : DataW.trod enc Tryd.prog W 0 (fun _ => true) true fuel 22 cs = some x) :
    ∃ (a : Option Addr) (c : Nat) (S : List En), cs = [.slice a S.length c] ∧ EsAt W a S ∧ (∀ e ∈ S, InE e) ∧ S.length < Rows.uptoBulk x.1 := by
  rcases DataW.trod_slice Tryd.underlying22 hf with ⟨rfl, rfl⟩ | ⟨a, len, cap, elems, rest, n, _, rfl, rfl, _, hl, hm, hlen, hel, _, _⟩
  · exact ⟨none, 0, [], rfl, fun e => (e rfl).elim, fun e he => (by cases he), bulk_pos _⟩
  obtain ⟨-, -, c4⟩ := Tryd.cEn
  rw [c4] at hel
  have hbk : Rows.uptoBulk (DataW.slice (H := H) (elems.map (·.1)) (rest.map (·.1))) = Rows.uptoBulkAll (elems.map (·.1)) + Rows.uptoBulkAll (rest.map (·.1)) + 1 := by simp only [Rows.uptoBulk]
  have each : ∀ i, i < len → ∃ o : En, (∀ j, j < 5 → W.cell? ((a.add (i * 5)).add j) = [Value.string o.k, .int .i64 o.d, .int .i64 o.t, .int .i64 o.p, .int .i64 o.s][j]?) ∧ InE o := by
    intro i hi
    have h := hel i hi
    rw [List.getElem?_eq_getElem (by omega), Option.bind_eq_some_iff] at h
    obtain ⟨cs8, h1, h2⟩ := h
    obtain ⟨_, h3⟩ := (World.cells?_some h1).2
    obtain ⟨g, rfl, k0, -⟩ := enl_of h2
    exact ⟨g, h3, k0⟩
  obtain ⟨S, hS, hp⟩ := choose_listE len each
  refine ⟨some a, cap, S, by rw [hS], fun hne => ?_, fun e he => ?_, ?_⟩
  · have hp0 : 0 < S.length := List.length_pos_iff.2 hne
    obtain ⟨b, off, spot⟩ := a
    have h00 := (hp 0 hp0).1 0 (by omega)
    have hspot : spot = none := by
      have e : [Value.string (S[0]).k, .int .i64 (S[0]).d, .int .i64 (S[0]).t, .int .i64 (S[0]).p, .int .i64 (S[0]).s][0]? = some (.string (S[0]).k) := rfl
      rw [e] at h00
      simpa [Addr.add] using World.cell?_spot h00
    subst hspot
    refine ⟨b, off, rfl, fun k hk => ?_⟩
    have t0 := (hp k hk).1 0 (by omega)
    have t1 := (hp k hk).1 1 (by omega)
    have t2 := (hp k hk).1 2 (by omega)
    have t3 := (hp k hk).1 3 (by omega)
    have t4 := (hp k hk).1 4 (by omega)
    rw [Go.WideShapes.add_plain, Go.WideShapes.add_plain] at t0 t1 t2 t3 t4
    exact ⟨t0, t1, t2, t3, t4⟩
  · obtain ⟨i, hi, rfl⟩ := List.getElem_of_mem he
    exact (hp i hi).2
  · have h1 := len_leE (elems.map (·.1))
    show S.length < Rows.uptoBulk (DataW.slice (H := H) (elems.map (·.1)) (rest.map (·.1)))
    rw [List.length_map] at h1
    omega
end Go.Proofs.YtcanbhbhdgogoaaDoor
namespace Go.Proofs.YtcanbhbhdgogoaaDoor
open Go.ChangeShapes Go.WideShapes Go.ChangeAt Go.RowKit

/-- The room of a list of entries that came in. -/
theorem entries_cap {H : Type} {enc : TypeId × Value → H} {W : World} {fuel : Nat} {a : Option Addr} {n c : Nat} {x : DataW H × List MemPlace} (hf : DataW.trod enc Tryd.prog W 0 (fun _ => true) true fuel 22 [.slice a n c] = some x) : n ≤ c := by
  rcases DataW.trod_slice Tryd.underlying22 hf with ⟨h1, -⟩ | ⟨a', len, cap, elems, rest, m, _, h1, -, _, hl, hm, hlen, _, _, _⟩
  · simp only [List.cons.injEq, Value.slice.injEq, and_true] at h1
    omega
  · simp only [List.cons.injEq, Value.slice.injEq, and_true] at h1
    obtain ⟨-, rfl, rfl⟩ := h1
    omega
theorem entries_cap2 {H : Type} {enc : TypeId × Value → H} {W : World} {fuel : Nat} {cs : List Value} {a : Option Addr} {n c : Nat} {x : DataW H × List MemPlace} (hf : DataW.trod enc Tryd.prog W 0 (fun _ => true) true fuel 22 cs = some x) (hcs : cs = [.slice a n c]) : n ≤ c := by
  subst hcs
  exact entries_cap hf
/-- A question. -/
structure Aq where
  k : Int
  i : Int
  s : ByteArray
/-- Questions as they lie. -/
def AqAt (W : World) (a : Option Addr) (O : List Aq) : Prop :=
  O ≠ [] → ∃ b off, a = some ⟨b, off, none⟩ ∧ ∀ k (h : k < O.length), (W.cell? ⟨b, off + k * 3, none⟩ = some (.int .i64 O[k].k) ∧ W.cell? ⟨b, off + k * 3 + 1, none⟩ = some (.int .i64 O[k].i) ∧ W.cell? ⟨b, off + k * 3 + 2, none⟩ = some (.string O[k].s)) ∧ InZ O[k].i
theorem AqAt.kept {w w' : World} {a : Option Addr} {O : List Aq} (h : AqAt w a O) (k : Kept (fun _ => False) w w') : AqAt w' a O := by
  intro hne
  obtain ⟨b, off, e, hc⟩ := h hne
  exact ⟨b, off, e, fun j hj => by
    obtain ⟨⟨r0, r1, r2⟩, r⟩ := hc j hj
    exact ⟨⟨k.cell r0 (fun f => f), k.cell r1 (fun f => f), k.cell r2 (fun f => f)⟩, r⟩⟩
theorem list3A {α : Type} {l : List α} (h : l.length = 3) : ∃ a b c, l = [a, b, c] := by
  match l, h with
  | [a, b, c], _ => exact ⟨a, b, c, rfl⟩
theorem Tryd.cAsk : Tryd.prog.cellsOf 48 = 3 := by kernel_rfl
set_option maxRecDepth 100000 in
/-- A question that came in. -/
theorem ask_of {H : Type} {enc : TypeId × Value → H} {W : World} {fuel : Nat} {cs : List Value} {x : DataW H × List MemPlace} (hf : DataW.trod enc Tryd.prog W 0 (fun _ => true) true fuel 48 cs = some x) :
    ∃ g : Aq, cs = [.int .i64 g.k, .int .i64 g.i, .string g.s] ∧ InZ g.i ∧ 1 ≤ Rows.uptoBulk x.1 := by
  obtain ⟨xs, n, rfl, hx, hl, hxl, hfs⟩ := DataW.trod_struct Tryd.underlying48 hf
  obtain ⟨c1, c2, -⟩ := Tryd.cEn
  obtain ⟨x0, x1, x2, rfl⟩ := list3A hxl
  rw [Tryd.cAsk] at hl
  obtain ⟨y0, y1, y2, rfl⟩ := list3A hl
  have q0 : DataW.trod enc Tryd.prog W 0 (fun _ => true) true n 3 (([y0, y1, y2].drop 0).take (Tryd.prog.cellsOf 3)) = some x0 := hfs 0 _ rfl
  have q1 : DataW.trod enc Tryd.prog W 0 (fun _ => true) true n 3 (([y0, y1, y2].drop 1).take (Tryd.prog.cellsOf 3)) = some x1 := hfs 1 _ rfl
  have q2 : DataW.trod enc Tryd.prog W 0 (fun _ => true) true n 9 (([y0, y1, y2].drop 2).take (Tryd.prog.cellsOf 9)) = some x2 := hfs 2 _ rfl
  rw [c1] at q0 q1
  rw [c2] at q2
  simp only [List.drop, List.take] at q0 q1 q2
  obtain ⟨d, e0, -, w0⟩ := DataW.trod_int Tryd.underlying3 q0
  obtain ⟨e, e1, -, w1⟩ := DataW.trod_int Tryd.underlying3 q1
  obtain ⟨f, e2, -, -⟩ := DataW.trod_string Tryd.underlying9 q2
  simp only [List.cons.injEq, and_true] at e0 e1 e2
  subst e0 e1 e2
  have hB : 1 ≤ Rows.uptoBulk x.1 := by
    rw [hx]
    simp only [List.map, Rows.uptoBulk, Rows.uptoBulkAll]
    omega
  have b1 := bounds_i64 w1
  exact ⟨⟨d, e, f⟩, rfl, (show -9223372036854775808 ≤ e ∧ e ≤ 9223372036854775807 by omega), hB⟩
theorem len_leA {H : Type} : ∀ (ds : List (DataW H)), (∀ i (h' : i < ds.length), 1 ≤ Rows.uptoBulk ds[i]) → ds.length ≤ Rows.uptoBulkAll ds
  | [], _ => Nat.zero_le _
  | d :: ds, hp => by
    have h0 : 1 ≤ Rows.uptoBulk d := hp 0 (by simp)
    have h1 := len_leA ds (fun i hi' => hp (i + 1) (by simp; omega))
    simp only [Rows.uptoBulkAll, List.length_cons]
    omega
end Go.Proofs.YtcanbhbhdgogoaaDoor
