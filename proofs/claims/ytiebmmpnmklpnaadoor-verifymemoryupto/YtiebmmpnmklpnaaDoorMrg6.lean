import Derived.Test.YtiebmmpnmklpnaaDoorIza
import Derived.Test.YtiebmmpnmklpnaaDoorFrm
import Derived.Handy
import Derived.OpenShut
import Derived.Test.YtiebmmpnmklpnaaDoorRdA
import Derived.Test.YtiebmmpnmklpnaaDoorRows
import Derived.Test.YtiebmmpnmklpnaaDoorPgm
import Derived.Test.YtiebmmpnmklpnaaDoorMrg5
import Derived.Test.YtiebmmpnmklpnaaDoorMrg4
import Derived.Lib.LaidTab
import Derived.Deep.Grids
namespace Go.Proofs.YtiebmmpnmklpnaaDoor
open Go.ChangeShapes Go.WideShapes Go.ChangeAt Go.RowKit

theorem bulk_posI {H : Type} (d : DataW H) : 1 ≤ Rows.uptoBulk d := by
  cases d with
  | lit l => cases l <;> simp [Rows.uptoBulk]
  | _ => simp [Rows.uptoBulk]
theorem choose_listI {α : Type} {P : Nat → α → Prop} : ∀ n, (∀ i, i < n → ∃ a, P i a) → ∃ l : List α, l.length = n ∧ ∀ i (h : i < l.length), P i l[i]
  | 0, _ => ⟨[], rfl, fun i h => by simp at h⟩
  | n + 1, h => by
    obtain ⟨l, hl, hp⟩ := choose_listI n (fun i hi => h i (by omega))
    obtain ⟨a, ha⟩ := h n (by omega)
    refine ⟨l ++ [a], by simp [hl], fun i hi => ?_⟩
    by_cases hn : i < l.length
    · rw [List.getElem_append_left hn]
      exact hp i hn
    · have : i = l.length := by simp at hi; omega
      subst this
      rw [List.getElem_append_right (by omega)]
      simp only [Nat.sub_self, List.getElem_cons_zero, hl]
      exact ha
theorem len_leI {H : Type} : ∀ (ds : List (DataW H)), ds.length ≤ Rows.uptoBulkAll ds
  | [] => Nat.zero_le _
  | d :: ds => by
    have h0 : 1 ≤ Rows.uptoBulk d := bulk_posI d
    have h1 := len_leI ds
    simp only [Rows.uptoBulkAll, List.length_cons]
    omega
theorem list3I {α : Type} {l : List α} (h : l.length = 3) : ∃ a b c, l = [a, b, c] := by
  match l, h with
  | [a, b, c], _ => exact ⟨a, b, c, rfl⟩
theorem Tryd.cIn : Tryd.prog.cellsOf 3 = 1 ∧ Tryd.prog.cellsOf 72 = 1 ∧ Tryd.prog.cellsOf 74 = 3 := by
  refine ⟨?_, ?_, ?_⟩ <;> kernel_rfl
set_option maxRecDepth 100000 in
theorem instr_of {H : Type} {enc : TypeId × Value → H} {W : World} {fuel : Nat} {cs : List Value} {x : DataW H × List MemPlace} (hf : DataW.trod enc Tryd.prog W 0 (fun _ => true) true fuel 74 cs = some x) :
    ∃ g : In, g.Ok ∧ cs = [.int .i64 g.op, .int .u64 g.a, .int .u64 g.b] := by
  obtain ⟨xs, n, rfl, hx, hl, hxl, hfs⟩ := DataW.trod_struct Tryd.underlying74 hf
  obtain ⟨c1, c2, c4⟩ := Tryd.cIn
  obtain ⟨x0, x1, x2, rfl⟩ := list3I hxl
  rw [c4] at hl
  obtain ⟨y0, y1, y2, rfl⟩ := list3I hl
  have q0 : DataW.trod enc Tryd.prog W 0 (fun _ => true) true n 3 (([y0, y1, y2].drop 0).take (Tryd.prog.cellsOf 3)) = some x0 := hfs 0 _ rfl
  have q1 : DataW.trod enc Tryd.prog W 0 (fun _ => true) true n 72 (([y0, y1, y2].drop 1).take (Tryd.prog.cellsOf 72)) = some x1 := hfs 1 _ rfl
  have q2 : DataW.trod enc Tryd.prog W 0 (fun _ => true) true n 72 (([y0, y1, y2].drop 2).take (Tryd.prog.cellsOf 72)) = some x2 := hfs 2 _ rfl
  rw [c2] at q1 q2
  rw [c1] at q0
  simp only [List.drop, List.take] at q0 q1 q2
  obtain ⟨d, e0, -, w0⟩ := DataW.trod_int Tryd.underlying3 q0
  obtain ⟨k, e1, -, w1⟩ := DataW.trod_int Tryd.underlying72 q1
  obtain ⟨m, e2, -, w2⟩ := DataW.trod_int Tryd.underlying72 q2
  have b0 := bounds_i64 w0
  have b1 := bounds_u64 w1
  have b2 := bounds_u64 w2
  obtain ⟨k, rfl⟩ : ∃ K : Nat, k = K := ⟨k.toNat, by omega⟩
  obtain ⟨m, rfl⟩ : ∃ K : Nat, m = K := ⟨m.toNat, by omega⟩
  simp only [List.cons.injEq, and_true] at e0 e1 e2
  subst e0 e1 e2
  exact ⟨⟨d, k, m⟩, ⟨by simp only; omega, by simp only; omega, by simp only; omega, by simp only; omega⟩, rfl⟩
theorem instrs_of {H : Type} {enc : TypeId × Value → H} {W : World} {fuel : Nat} {cs : List Value} {x : DataW H × List MemPlace} (hf : DataW.trod enc Tryd.prog W 0 (fun _ => true) true fuel 57 cs = some x) :
    ∃ (a : Option Addr) (c : Nat) (S : List In), cs = [.slice a S.length c] ∧ InsAt W a S ∧ (∀ x ∈ S, x.Ok) ∧ S.length < Rows.uptoBulk x.1 ∧ (S.length = 0 ∨ ∃ es sp, x.1 = .slice es sp ∧ S.length = es.length) ∧ (a = none → c = 0) := by
  rcases DataW.trod_slice Tryd.underlying57 hf with ⟨rfl, rfl⟩ | ⟨a, len, cap, elems, rest, n, _, rfl, rfl, _, hl, hm, hlen, hel, _, _⟩
  · exact ⟨none, 0, [], rfl, fun e => (e rfl).elim, by simp, bulk_posI _, .inl rfl, fun _ => rfl⟩
  obtain ⟨-, -, c4⟩ := Tryd.cIn
  rw [c4] at hel
  have hbk : Rows.uptoBulk (DataW.slice (H := H) (elems.map (·.1)) (rest.map (·.1))) = Rows.uptoBulkAll (elems.map (·.1)) + Rows.uptoBulkAll (rest.map (·.1)) + 1 := by simp only [Rows.uptoBulk]
  have each : ∀ i, i < len → ∃ o : In, o.Ok ∧ (∀ j, j < 3 → W.cell? ((a.add (i * 3)).add j) = [Value.int .i64 o.op, .int .u64 o.a, .int .u64 o.b][j]?) := by
    intro i hi
    have h := hel i hi
    rw [List.getElem?_eq_getElem (by omega), Option.bind_eq_some_iff] at h
    obtain ⟨cs8, h1, h2⟩ := h
    obtain ⟨_, h3⟩ := (World.cells?_some h1).2
    obtain ⟨g, hg, rfl⟩ := instr_of h2
    exact ⟨g, hg, h3⟩
  obtain ⟨S, hS, hp⟩ := choose_listI len each
  refine ⟨some a, cap, S, by rw [hS], fun hne => ?_, ?_, ?_, .inr ⟨_, _, rfl, by rw [List.length_map]; omega⟩, fun h => by cases h⟩
  · have hp0 : 0 < S.length := List.length_pos_iff.2 hne
    obtain ⟨b, off, spot⟩ := a
    have h00 := (hp 0 hp0).2 0 (by omega)
    have hspot : spot = none := by
      have e : [Value.int .i64 (S[0]).op, .int .u64 (S[0]).a, .int .u64 (S[0]).b][0]? = some (.int .i64 (S[0]).op) := rfl
      rw [e] at h00
      simpa [Addr.add] using World.cell?_spot h00
    subst hspot
    refine ⟨b, off, rfl, fun k hk => ?_⟩
    have t0 := (hp k hk).2 0 (by omega)
    have t1 := (hp k hk).2 1 (by omega)
    have t2 := (hp k hk).2 2 (by omega)
    rw [Go.WideShapes.add_plain, Go.WideShapes.add_plain] at t0 t1 t2
    exact ⟨t0, t1, t2⟩
  · intro y hy
    obtain ⟨k, hk, rfl⟩ := List.mem_iff_getElem.1 hy
    exact (hp k hk).1
  · have h1 := len_leI (elems.map (·.1))
    show S.length < Rows.uptoBulk (DataW.slice (H := H) (elems.map (·.1)) (rest.map (·.1)))
    rw [List.length_map] at h1
    omega
end Go.Proofs.YtiebmmpnmklpnaaDoor
namespace Go.Proofs.YtiebmmpnmklpnaaDoor
open Go.ChangeShapes Go.WideShapes Go.ChangeAt Go.RowKit

theorem Tryd.cU8 : Tryd.prog.cellsOf 5 = 1 := by kernel_rfl
theorem Tryd.bytesU8 : Tryd.prog.bytesOf 5 = 1 := by kernel_rfl
/-- Every value counts. -/
theorem bulk_pos {H : Type} (d : DataW H) : 1 ≤ Rows.uptoBulk d := by
  cases d with
  | lit l => cases l <;> simp [Rows.uptoBulk]
  | _ => simp [Rows.uptoBulk]
theorem bulk_count {H : Type} : ∀ l : List (DataW H), l.length ≤ Rows.uptoBulkAll l
  | [] => by simp
  | x :: r => by
    have h1 := bulk_pos x
    have h2 := bulk_count r
    simp only [Rows.uptoBulkAll, List.length_cons]
    omega
theorem bulk_mem {H : Type} {d : DataW H} : ∀ {l : List (DataW H)}, d ∈ l → Rows.uptoBulk d ≤ Rows.uptoBulkAll l
  | x :: r, h => by
    simp only [Rows.uptoBulkAll]
    rcases List.mem_cons.1 h with rfl | h
    · omega
    · have := bulk_mem h
      omega
theorem bulk_slice {H : Type} (es sp : List (DataW H)) : es.length < Rows.uptoBulk (.slice es sp) := by
  have := bulk_count es
  simp only [Rows.uptoBulk]
  omega
theorem bytesAt_lt {W : World} {a : Option Addr} {B : List Int} (h : BytesAt W a B) (hne : B ≠ []) : ∀ ad, a = some ad → ad.block < W.heap.size := by
  obtain ⟨b, off, rfl, hc⟩ := h hne
  rintro ad e
  obtain rfl := Option.some.inj e
  exact World.block_lt_of_cell? W _ (hc 0 (List.length_pos_iff.2 hne))
/-- A slice of bytes that came in. -/
theorem bytes_in {H : Type} {enc : TypeId × Value → H} {W : World} {fuel : Nat} {cs : List Value} {x : DataW H × List MemPlace} (hf : DataW.trod enc Tryd.prog W 0 (fun _ => true) true fuel 25 cs = some x) :
    ∃ (a : Option Addr) (c : Nat) (B : List Int), cs = [.slice a B.length c] ∧ BytesAt W a B ∧ IsBytes B ∧ (a = none → c = 0) ∧ B.length < Rows.uptoBulk x.1 ∧ (x.1 = .nil ∧ B.length = 0 ∨ ∃ es sp, x.1 = .slice es sp ∧ es.length = B.length) := by
  rcases open_ints Tryd.underlying25 Tryd.underlying5 Tryd.cU8 hf with ⟨rfl, rfl⟩ | ⟨a, l, c, zs, rfl, _, hl, hm, hz, rfl, hcell, hwz⟩
  · exact ⟨none, 0, [], rfl, fun e => (e rfl).elim, fun y hy => (by cases hy), fun _ => rfl, bulk_pos _, .inl ⟨rfl, rfl⟩⟩
  · simp only [if_true] at hz
    have hlen : (zs.take l).length = l := by rw [List.length_take]; omega
    refine ⟨some a, c, zs.take l, by rw [hlen], fun hne => ?_, fun y hy => ?_, (fun e => nomatch e), ?_, .inr ⟨_, _, rfl, by simp [lits]⟩⟩
    · have hpos : 0 < zs.length := by
        have := List.length_pos_iff.2 hne
        omega
      obtain ⟨b, off, rfl, hc⟩ := ints_at hcell hpos
      refine ⟨b, off, rfl, fun k hk => ?_⟩
      have := hc k (by omega)
      rw [List.getElem?_take, if_pos (by omega)]
      simpa [List.getD] using this
    · have := bounds_u8 (hwz y (List.mem_of_mem_take hy))
      omega
    · have := bulk_slice (H := H) (lits .u8 (zs.take l)) (lits .u8 (zs.drop l))
      have e : (lits (H := H) .u8 (zs.take l)).length = (zs.take l).length := by simp [lits]
      rw [e] at this
      exact this
/-- The same, without the datum. -/
theorem bytes_of {H : Type} {enc : TypeId × Value → H} {W : World} {fuel : Nat} {cs : List Value} {x : DataW H × List MemPlace} (hf : DataW.trod enc Tryd.prog W 0 (fun _ => true) true fuel 25 cs = some x) :
    ∃ (a : Option Addr) (c : Nat) (B : List Int), cs = [.slice a B.length c] ∧ BytesAt W a B ∧ IsBytes B ∧ (a = none → c = 0) ∧ B.length < Rows.uptoBulk x.1 := by
  obtain ⟨a, c, B, h1, h2, h3, h4, h5, -⟩ := bytes_in hf
  exact ⟨a, c, B, h1, h2, h3, h4, h5⟩
end Go.Proofs.YtiebmmpnmklpnaaDoor
namespace Go.Proofs.YtiebmmpnmklpnaaDoor
open Go.ChangeShapes Go.WideShapes Go.ChangeAt Go.RowKit

/-! A program that came in. -/
theorem Tryd.cPg : Tryd.prog.cellsOf 9 = 1 ∧ Tryd.prog.cellsOf 4 = 1 ∧ Tryd.prog.cellsOf 22 = 1 ∧ Tryd.prog.cellsOf 25 = 1 ∧ Tryd.prog.cellsOf 23 = 1 ∧ Tryd.prog.cellsOf 24 = 1 ∧ Tryd.prog.cellsOf 49 = 2 ∧ Tryd.prog.cellsOf 51 = 3 ∧ Tryd.prog.cellsOf 27 = 6 := by
  refine ⟨?_, ?_, ?_, ?_, ?_, ?_, ?_, ?_, ?_⟩ <;> kernel_rfl
theorem list2I {α : Type} {l : List α} (h : l.length = 2) : ∃ a b, l = [a, b] := by
  match l, h with
  | [a, b], _ => exact ⟨a, b, rfl⟩
theorem list6I {α : Type} {l : List α} (h : l.length = 6) : ∃ a b c d e f, l = [a, b, c, d, e, f] := by
  match l, h with
  | [a, b, c, d, e, f], _ => exact ⟨a, b, c, d, e, f, rfl⟩
/-- A slice of ints that came in. -/
theorem ints_inI {H : Type} {enc : TypeId × Value → H} {W : World} {fuel : Nat} {cs : List Value} {x : DataW H × List MemPlace} (hf : DataW.trod enc Tryd.prog W 0 (fun _ => true) true fuel 22 cs = some x) :
    ∃ (a : Option Addr) (c : Nat) (B : List Int), cs = [.slice a B.length c] ∧ IntsAt W a B ∧ IsInts B ∧ B.length + 1 ≤ Rows.uptoBulk x.1 := by
  rcases open_ints Tryd.underlying22 Tryd.underlying3 Tryd.cIn.1 hf with ⟨rfl, rfl⟩ | ⟨a, l, c, zs, rfl, _, hl, hm, hz, rfl, hcell, hwz⟩
  · exact ⟨none, 0, [], rfl, fun e => (e rfl).elim, fun y hy => (by cases hy), bulk_pos _⟩
  · simp only [if_true] at hz
    have hlen : (zs.take l).length = l := by rw [List.length_take]; omega
    refine ⟨some a, c, zs.take l, by rw [hlen], fun hne => ?_, fun y hy => ?_, ?_⟩
    · have hpos : 0 < zs.length := by
        have := List.length_pos_iff.2 hne
        omega
      obtain ⟨b, off, rfl, hc⟩ := ints_at hcell hpos
      refine ⟨b, off, rfl, fun k hk => ?_⟩
      have := hc k (by omega)
      rw [List.getElem?_take, if_pos (by omega)]
      exact this
    · have := bounds_i64 (hwz y (List.mem_of_mem_take hy))
      omega
    · have := bulk_slice (H := H) (lits .i64 (zs.take l)) (lits .i64 (zs.drop l))
      have e : (lits (H := H) .i64 (zs.take l)).length = (zs.take l).length := by simp [lits]
      rw [e] at this
      exact this
theorem sum_bulk {α H : Type} (f : α → Nat) : ∀ (S : List α) (ds : List (DataW H)), S.length ≤ ds.length → (∀ i (h : i < S.length) (h' : i < ds.length), f S[i] ≤ Rows.uptoBulk ds[i]) → (S.map f).sum ≤ Rows.uptoBulkAll ds
  | [], ds, _, _ => Nat.zero_le _
  | o :: r, [], h, _ => by simp at h
  | o :: r, d :: ds, h, hp => by
    have h0 : f o ≤ Rows.uptoBulk d := hp 0 (by simp) (by simp)
    have h1 := sum_bulk f r ds (by simpa using h) (fun i hi hi' => hp (i + 1) (by simp; omega) (by simp; omega))
    simp only [List.map_cons, List.sum_cons, Rows.uptoBulkAll]
    omega
set_option maxRecDepth 100000 in
theorem leaf_of {H : Type} {enc : TypeId × Value → H} {W : World} {fuel : Nat} {cs : List Value} {x : DataW H × List MemPlace} (hf : DataW.trod enc Tryd.prog W 0 (fun _ => true) true fuel 49 cs = some x) :
    ∃ g : Lf, cs = [.int .i64 g.f, .string g.t] ∧ (-9223372036854775808 ≤ g.f ∧ g.f ≤ 9223372036854775807) ∧ g.t.size + 1 ≤ Rows.uptoBulk x.1 := by
  obtain ⟨xs, n, rfl, hx, hl, hxl, hfs⟩ := DataW.trod_struct Tryd.underlying49 hf
  obtain ⟨c1, -, -, -, -, -, c4, -, -⟩ := Tryd.cPg
  obtain ⟨x0, x1, rfl⟩ := list2I hxl
  rw [c4] at hl
  obtain ⟨y0, y1, rfl⟩ := list2I hl
  have q0 : DataW.trod enc Tryd.prog W 0 (fun _ => true) true n 3 (([y0, y1].drop 0).take (Tryd.prog.cellsOf 3)) = some x0 := hfs 0 _ rfl
  have q1 : DataW.trod enc Tryd.prog W 0 (fun _ => true) true n 9 (([y0, y1].drop 1).take (Tryd.prog.cellsOf 9)) = some x1 := hfs 1 _ rfl
  rw [c1] at q1
  rw [Tryd.cIn.1] at q0
  simp only [List.drop, List.take] at q0 q1
  obtain ⟨d, e0, -, w0⟩ := DataW.trod_int Tryd.underlying3 q0
  obtain ⟨t, e1, f1, -⟩ := DataW.trod_string Tryd.underlying9 q1
  have b0 := bounds_i64 w0
  simp only [List.cons.injEq, and_true] at e0 e1
  subst e0 e1 f1
  refine ⟨⟨d, t⟩, rfl, by simp only; omega, ?_⟩
  rw [hx]
  have h0 := bulk_pos (H := H) x0.1
  simp only [List.map, Rows.uptoBulk, Rows.uptoBulkAll, Array.length_toList]
  show t.data.size + 1 ≤ _
  omega
set_option maxRecDepth 100000 in
theorem near_of {H : Type} {enc : TypeId × Value → H} {W : World} {fuel : Nat} {cs : List Value} {x : DataW H × List MemPlace} (hf : DataW.trod enc Tryd.prog W 0 (fun _ => true) true fuel 51 cs = some x) :
    ∃ (g : Nr) (a1 : Option Addr) (c1 : Nat) (a2 : Option Addr) (c2 : Nat), cs = [.slice a1 g.cs.length c1, .slice a2 g.os.length c2, .int .i64 g.sl] ∧ IntsAt W a1 g.cs ∧ IntsAt W a2 g.os ∧ (IsInts g.cs ∧ IsInts g.os ∧ -9223372036854775808 ≤ g.sl ∧ g.sl ≤ 9223372036854775807) ∧ g.cs.length + g.os.length + 1 ≤ Rows.uptoBulk x.1 := by
  obtain ⟨xs, n, rfl, hx, hl, hxl, hfs⟩ := DataW.trod_struct Tryd.underlying51 hf
  obtain ⟨-, -, c1, -, -, -, -, c4, -⟩ := Tryd.cPg
  obtain ⟨x0, x1, x2, rfl⟩ := list3I hxl
  rw [c4] at hl
  obtain ⟨y0, y1, y2, rfl⟩ := list3I hl
  have q0 : DataW.trod enc Tryd.prog W 0 (fun _ => true) true n 22 (([y0, y1, y2].drop 0).take (Tryd.prog.cellsOf 22)) = some x0 := hfs 0 _ rfl
  have q1 : DataW.trod enc Tryd.prog W 0 (fun _ => true) true n 22 (([y0, y1, y2].drop 1).take (Tryd.prog.cellsOf 22)) = some x1 := hfs 1 _ rfl
  have q2 : DataW.trod enc Tryd.prog W 0 (fun _ => true) true n 3 (([y0, y1, y2].drop 2).take (Tryd.prog.cellsOf 3)) = some x2 := hfs 2 _ rfl
  rw [c1] at q0 q1
  rw [Tryd.cIn.1] at q2
  simp only [List.drop, List.take] at q0 q1 q2
  obtain ⟨a1, k1, B1, e0, i1, n1, b1⟩ := ints_inI q0
  obtain ⟨a2, k2, B2, e1, i2, n2, b2⟩ := ints_inI q1
  obtain ⟨d, e2, -, w2⟩ := DataW.trod_int Tryd.underlying3 q2
  have b0 := bounds_i64 w2
  simp only [List.cons.injEq, and_true] at e0 e1 e2
  subst e0 e1 e2
  refine ⟨⟨B1, B2, d⟩, a1, k1, a2, k2, rfl, i1, i2, ⟨n1, n2, by simp only; omega, by simp only; omega⟩, ?_⟩
  rw [hx]
  simp only [List.map, Rows.uptoBulk, Rows.uptoBulkAll]
  omega
theorem leaves_of {H : Type} {enc : TypeId × Value → H} {W : World} {fuel : Nat} {cs : List Value} {x : DataW H × List MemPlace} (hf : DataW.trod enc Tryd.prog W 0 (fun _ => true) true fuel 23 cs = some x) :
    ∃ (a : Option Addr) (c : Nat) (S : List Lf), cs = [.slice a S.length c] ∧ LfAt W a S ∧ (∀ g ∈ S, -9223372036854775808 ≤ g.f ∧ g.f ≤ 9223372036854775807) ∧ (S.map fun g => g.t.size + 1).sum < Rows.uptoBulk x.1 := by
  rcases DataW.trod_slice Tryd.underlying23 hf with ⟨rfl, rfl⟩ | ⟨a, len, cap, elems, rest, n, _, rfl, rfl, _, hl, hm, hlen, hel, _, _⟩
  · exact ⟨none, 0, [], rfl, fun e => (e rfl).elim, by simp, bulk_pos _⟩
  obtain ⟨-, -, -, -, -, -, c4, -, -⟩ := Tryd.cPg
  rw [c4] at hel
  have each : ∀ i, i < len → ∃ o : Lf, (-9223372036854775808 ≤ o.f ∧ o.f ≤ 9223372036854775807) ∧ (∃ h : i < elems.length, o.t.size + 1 ≤ Rows.uptoBulk elems[i].1) ∧ (∀ j, j < 2 → W.cell? ((a.add (i * 2)).add j) = [Value.int .i64 o.f, .string o.t][j]?) := by
    intro i hi
    have h := hel i hi
    rw [List.getElem?_eq_getElem (by omega), Option.bind_eq_some_iff] at h
    obtain ⟨cs8, h1, h2⟩ := h
    obtain ⟨_, h3⟩ := (World.cells?_some h1).2
    obtain ⟨g, rfl, hg, hb⟩ := leaf_of h2
    exact ⟨g, hg, ⟨by omega, hb⟩, h3⟩
  obtain ⟨S, hS, hp⟩ := choose_listI len each
  refine ⟨some a, cap, S, by rw [hS], fun hne => ?_, ?_, ?_⟩
  · have hp0 : 0 < S.length := List.length_pos_iff.2 hne
    obtain ⟨b, off, spot⟩ := a
    have h00 := (hp 0 hp0).2.2 0 (by omega)
    have hspot : spot = none := by
      have e : [Value.int .i64 (S[0]).f, .string (S[0]).t][0]? = some (.int .i64 (S[0]).f) := rfl
      rw [e] at h00
      simpa [Addr.add] using World.cell?_spot h00
    subst hspot
    refine ⟨b, off, rfl, fun k hk => ?_⟩
    have t0 := (hp k hk).2.2 0 (by omega)
    have t1 := (hp k hk).2.2 1 (by omega)
    rw [Go.WideShapes.add_plain, Go.WideShapes.add_plain] at t0 t1
    exact ⟨t0, t1⟩
  · intro y hy
    obtain ⟨k, hk, rfl⟩ := List.mem_iff_getElem.1 hy
    exact (hp k hk).1
  · have h1 := sum_bulk (fun g : Lf => g.t.size + 1) S (elems.map (·.1)) (by rw [List.length_map]; omega) (fun i hi hi' => by rw [List.getElem_map]; exact (hp i hi).2.1.2)
    simp only [Rows.uptoBulk]
    omega
theorem nears_of {H : Type} {enc : TypeId × Value → H} {W : World} {fuel : Nat} {cs : List Value} {x : DataW H × List MemPlace} (hf : DataW.trod enc Tryd.prog W 0 (fun _ => true) true fuel 24 cs = some x) :
    ∃ (a : Option Addr) (c : Nat) (S : List Nr), cs = [.slice a S.length c] ∧ NrAt W a S ∧ (∀ g ∈ S, IsInts g.cs ∧ IsInts g.os ∧ -9223372036854775808 ≤ g.sl ∧ g.sl ≤ 9223372036854775807) ∧ (S.map fun g => g.cs.length + g.os.length + 1).sum < Rows.uptoBulk x.1 := by
  rcases DataW.trod_slice Tryd.underlying24 hf with ⟨rfl, rfl⟩ | ⟨a, len, cap, elems, rest, n, _, rfl, rfl, _, hl, hm, hlen, hel, _, _⟩
  · exact ⟨none, 0, [], rfl, fun e => (e rfl).elim, by simp, bulk_pos _⟩
  obtain ⟨-, -, -, -, -, -, -, c4, -⟩ := Tryd.cPg
  rw [c4] at hel
  have each : ∀ i, i < len → ∃ o : Nr, (IsInts o.cs ∧ IsInts o.os ∧ -9223372036854775808 ≤ o.sl ∧ o.sl ≤ 9223372036854775807) ∧ (∃ h : i < elems.length, o.cs.length + o.os.length + 1 ≤ Rows.uptoBulk elems[i].1) ∧ (∃ a1 c1 a2 c2, IntsAt W a1 o.cs ∧ IntsAt W a2 o.os ∧ ∀ j, j < 3 → W.cell? ((a.add (i * 3)).add j) = [Value.slice a1 o.cs.length c1, .slice a2 o.os.length c2, .int .i64 o.sl][j]?) := by
    intro i hi
    have h := hel i hi
    rw [List.getElem?_eq_getElem (by omega), Option.bind_eq_some_iff] at h
    obtain ⟨cs8, h1, h2⟩ := h
    obtain ⟨_, h3⟩ := (World.cells?_some h1).2
    obtain ⟨g, a1, c1, a2, c2, rfl, i1, i2, hg, hb⟩ := near_of h2
    exact ⟨g, hg, ⟨by omega, hb⟩, a1, c1, a2, c2, i1, i2, h3⟩
  obtain ⟨S, hS, hp⟩ := choose_listI len each
  refine ⟨some a, cap, S, by rw [hS], fun hne => ?_, ?_, ?_⟩
  · have hp0 : 0 < S.length := List.length_pos_iff.2 hne
    obtain ⟨b, off, spot⟩ := a
    obtain ⟨a1, c1, a2, c2, _, _, h00⟩ := (hp 0 hp0).2.2
    have h00 := h00 0 (by omega)
    have hspot : spot = none := by
      have e : [Value.slice a1 (S[0]).cs.length c1, .slice a2 (S[0]).os.length c2, .int .i64 (S[0]).sl][0]? = some (.slice a1 (S[0]).cs.length c1) := rfl
      rw [e] at h00
      simpa [Addr.add] using World.cell?_spot h00
    subst hspot
    refine ⟨b, off, rfl, fun k hk => ?_⟩
    obtain ⟨a1, c1, a2, c2, i1, i2, t⟩ := (hp k hk).2.2
    have t0 := t 0 (by omega)
    have t1 := t 1 (by omega)
    have t2 := t 2 (by omega)
    rw [Go.WideShapes.add_plain, Go.WideShapes.add_plain] at t0 t1 t2
    exact ⟨a1, c1, a2, c2, t0, t1, t2, i1, i2⟩
  · intro y hy
    obtain ⟨k, hk, rfl⟩ := List.mem_iff_getElem.1 hy
    exact (hp k hk).1
  · have h1 := sum_bulk (fun g : Nr => g.cs.length + g.os.length + 1) S (elems.map (·.1)) (by rw [List.length_map]; omega) (fun i hi hi' => by rw [List.getElem_map]; exact (hp i hi).2.1.2)
    simp only [Rows.uptoBulk]
    omega
set_option maxRecDepth 100000 in
theorem prog_of {H : Type} {enc : TypeId × Value → H} {W : World} {fuel : Nat} {cs : List Value} {x : DataW H × List MemPlace} (hf : DataW.trod enc Tryd.prog W 0 (fun _ => true) true fuel 27 cs = some x) (hb : Rows.uptoBulk x.1 ≤ 1048576) :
    ∃ (p : Pg) (aA aC aN aD aO : Option Addr) (cA cC cN cD cO : Nat), cs = [.slice aA p.av.length cA, .slice aC p.cu.length cC, .slice aN p.nr.length cN, .bool p.al, .slice aD p.dr.length cD, .slice aO p.co.length cO] ∧ PgAt W p aA aC aN aD aO ∧ p.Ok := by
  obtain ⟨xs, n, rfl, hx, hl, hxl, hfs⟩ := DataW.trod_struct Tryd.underlying27 hf
  obtain ⟨-, cB, cI, cU, cL, cN, -, -, c6⟩ := Tryd.cPg
  obtain ⟨x0, x1, x2, x3, x4, x5, rfl⟩ := list6I hxl
  rw [c6] at hl
  obtain ⟨y0, y1, y2, y3, y4, y5, rfl⟩ := list6I hl
  have q0 : DataW.trod enc Tryd.prog W 0 (fun _ => true) true n 22 (([y0, y1, y2, y3, y4, y5].drop 0).take (Tryd.prog.cellsOf 22)) = some x0 := hfs 0 _ rfl
  have q1 : DataW.trod enc Tryd.prog W 0 (fun _ => true) true n 23 (([y0, y1, y2, y3, y4, y5].drop 1).take (Tryd.prog.cellsOf 23)) = some x1 := hfs 1 _ rfl
  have q2 : DataW.trod enc Tryd.prog W 0 (fun _ => true) true n 24 (([y0, y1, y2, y3, y4, y5].drop 2).take (Tryd.prog.cellsOf 24)) = some x2 := hfs 2 _ rfl
  have q3 : DataW.trod enc Tryd.prog W 0 (fun _ => true) true n 4 (([y0, y1, y2, y3, y4, y5].drop 3).take (Tryd.prog.cellsOf 4)) = some x3 := hfs 3 _ rfl
  have q4 : DataW.trod enc Tryd.prog W 0 (fun _ => true) true n 22 (([y0, y1, y2, y3, y4, y5].drop 4).take (Tryd.prog.cellsOf 22)) = some x4 := hfs 4 _ rfl
  have q5 : DataW.trod enc Tryd.prog W 0 (fun _ => true) true n 25 (([y0, y1, y2, y3, y4, y5].drop 5).take (Tryd.prog.cellsOf 25)) = some x5 := hfs 5 _ rfl
  rw [cI] at q0 q4
  rw [cL] at q1
  rw [cN] at q2
  rw [cB] at q3
  rw [cU] at q5
  simp only [List.drop, List.take] at q0 q1 q2 q3 q4 q5
  obtain ⟨aA, cA, A, e0, iA, nA, bA⟩ := ints_inI q0
  obtain ⟨aC, cC, C, e1, iC, nC, bC⟩ := leaves_of q1
  obtain ⟨aN, cN, N, e2, iN, nN, bN⟩ := nears_of q2
  obtain ⟨al, e3, -⟩ := DataW.trod_bool Tryd.underlying4 q3
  obtain ⟨aD, cD, D, e4, iD, nD, bD⟩ := ints_inI q4
  obtain ⟨aO, cO, O, e5, iO, nO, -, bO⟩ := bytes_of q5
  simp only [List.cons.injEq, and_true] at e0 e1 e2 e3 e4 e5
  subst e0 e1 e2 e3 e4 e5
  refine ⟨⟨A, C, N, al, D, O⟩, aA, aC, aN, aD, aO, cA, cC, cN, cD, cO, rfl, ⟨iA, iC, iN, iD, iO⟩, ⟨nA, nD, nC, nN, nO, ?_⟩⟩
  rw [hx] at hb
  simp only [List.map, Rows.uptoBulk, Rows.uptoBulkAll] at hb
  unfold psz
  simp only
  omega
end Go.Proofs.YtiebmmpnmklpnaaDoor
namespace Go.Proofs.YtiebmmpnmklpnaaDoor
open Go.ChangeShapes Go.WideShapes Go.ChangeAt Go.RowKit

theorem Tryd.gTk : Tryd.prog.globalNamed "concord/verify.takes" = some 24 := by kernel_rfl
theorem Tryd.gtTk : (Tryd.prog.globals[24]?).map (·.type) = some 109 := by kernel_rfl
theorem Tryd.cTk1 : Tryd.prog.cellsOf 72 = 1 := by kernel_rfl
theorem Tryd.cTk : Tryd.prog.cellsOf 109 = 17 := by kernel_rfl
theorem tk_data {H : Type} : (Rows.laid_concord_verify_takes : DataW H) = Lib.tabData .u64 (tkL.map fun n : Nat => (n : Int)) := rfl
/-- What the listed table of what is taken gives. -/
theorem takes_at {W : World} {L : List (String × DataW Unit)} (h : laidMet Tryd.prog L W) (hm : ("concord/verify.takes", Rows.laid_concord_verify_takes) ∈ L) : TkT W := by
  obtain ⟨r, h⟩ := laidMet_mem h _ hm
  obtain ⟨ps, ⟨g', t', cs, fuel, p, q, hg', ht', hvar, hd, _, _⟩, _⟩ := h
  obtain rfl := Option.some.inj (Tryd.gTk.symm.trans hg')
  obtain rfl := Option.some.inj (Tryd.gtTk.symm.trans ht')
  rw [tk_data] at hd
  have c0 := Lib.cells_of_tab Tryd.underlying109 Tryd.underlying72 Tryd.cTk1 Tryd.cTk hd
  refine ⟨fun k hk => ?_⟩
  have hv : W.cell? ⟨24, k, none⟩ = cs.toList[k]? := by simpa using World.var?_cell Tryd.gTk hvar k
  rw [hv, c0]
  have q : ∀ j : Fin 17, ((tkL.map fun n : Nat => (n : Int)).map fun z => Value.int .u64 z)[j.val]? = some (.int .u64 ((tkL.getD j.val 0 : Nat) : Int)) := by
    intro j
    match j with
    | ⟨0, _⟩ => rfl
    | ⟨1, _⟩ => rfl
    | ⟨2, _⟩ => rfl
    | ⟨3, _⟩ => rfl
    | ⟨4, _⟩ => rfl
    | ⟨5, _⟩ => rfl
    | ⟨6, _⟩ => rfl
    | ⟨7, _⟩ => rfl
    | ⟨8, _⟩ => rfl
    | ⟨9, _⟩ => rfl
    | ⟨10, _⟩ => rfl
    | ⟨11, _⟩ => rfl
    | ⟨12, _⟩ => rfl
    | ⟨13, _⟩ => rfl
    | ⟨14, _⟩ => rfl
    | ⟨15, _⟩ => rfl
    | ⟨16, _⟩ => rfl
    | ⟨n + 17, h⟩ => omega
  exact q ⟨k, hk⟩
end Go.Proofs.YtiebmmpnmklpnaaDoor
