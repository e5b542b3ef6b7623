import Derived.Test.YtbcohdioapmlgaaDoorLwJ
import Derived.Test.YtbcohdioapmlgaaDoorOpb
import Derived.Test.YtbcohdioapmlgaaDoorRows
import Derived.Handy
import Derived.OpenShut
namespace Go.Proofs.YtbcohdioapmlgaaDoor
open Go.ChangeShapes Go.WideShapes Go.ChangeAt Go.RowKit

theorem Tryd.c1 : Tryd.prog.cellsOf 3 = 1 ∧ Tryd.prog.cellsOf 4 = 1 ∧ Tryd.prog.cellsOf 27 = 1 ∧ Tryd.prog.cellsOf 2 = 1 ∧ Tryd.prog.cellsOf 22 = 1 ∧ Tryd.prog.cellsOf 9 = 1 ∧ Tryd.prog.cellsOf 28 = 1 ∧ Tryd.prog.cellsOf 5 = 1 ∧ Tryd.prog.cellsOf 30 = 8 := by
  refine ⟨?_, ?_, ?_, ?_, ?_, ?_, ?_, ?_, ?_⟩ <;> kernel_rfl
theorem list8 {α : Type} {l : List α} (h : l.length = 8) : ∃ a b c d e f g i, l = [a, b, c, d, e, f, g, i] := by
  match l, h with
  | [a, b, c, d, e, f, g, i], _ => exact ⟨a, b, c, d, e, f, g, i, rfl⟩
theorem intsAt_lt {W : World} {a : Option Addr} {B : List Int} (h : IntsAt W a B) (hne : B ≠ []) : ∀ ad, a = some ad → ad.block < W.heap.size := by
  obtain ⟨b, off, rfl, hc⟩ := h hne
  rintro ad e
  obtain rfl := Option.some.inj e
  exact World.block_lt_of_cell? W _ (hc 0 (List.length_pos_iff.2 hne))
/-- A slice of ints that came in. -/
theorem ints_of {H : Type} {enc : TypeId × Value → H} {W : World} {fuel : Nat} {cs : List Value} {x : DataW H × List MemPlace} (hf : DataW.trod enc Tryd.prog W 0 (fun _ => true) true fuel 28 cs = some x) :
    ∃ (a : Option Addr) (c : Nat) (B : List Int), cs = [.slice a B.length c] ∧ IntsAt W a B ∧ IsInts B ∧ (a = none → c = 0) ∧ B.length < Rows.uptoBulk x.1 := by
  rcases open_ints Tryd.underlying28 Tryd.underlying3 Tryd.c1.1 hf with ⟨rfl, rfl⟩ | ⟨a, l, c, zs, rfl, _, hl, hm, hz, rfl, hcell, hwz⟩
  · exact ⟨none, 0, [], rfl, fun e => (e rfl).elim, fun y hy => (by cases hy), fun _ => rfl, bulk_pos _⟩
  · simp only [if_true] at hz
    have hlen : (zs.take l).length = l := by rw [List.length_take]; omega
    refine ⟨some a, c, zs.take l, by rw [hlen], fun hne => ?_, fun y hy => ?_, (fun e => nomatch e), ?_⟩
    · have hpos : 0 < zs.length := by
        have := List.length_pos_iff.2 hne
        omega
      obtain ⟨b, off, rfl, hc⟩ := ints_at hcell hpos
      refine ⟨b, off, rfl, fun k hk => ?_⟩
      have := hc k (by omega)
      rw [List.getElem?_take, if_pos (by omega)]
      simpa [List.getD] using this
    · have := bounds_i64 (hwz y (List.mem_of_mem_take hy))
      omega
    · have := bulk_slice (H := H) (lits .i64 (zs.take l)) (lits .i64 (zs.drop l))
      have e : (lits (H := H) .i64 (zs.take l)).length = (zs.take l).length := by simp [lits]
      rw [e] at this
      exact this
/-- An Op's eight cells. -/
def opRow (kd : Int) (sec : Bool) (nn : Int) (U : Nat) (ii : Int) (ba : Option Addr) (bl bc : Nat) (s : ByteArray) (la : Option Addr) (ll lc : Nat) : List Value :=
  [.int .i64 kd, .bool sec, .int .i64 nn, .int .u64 U, .int .i64 ii, .slice ba bl bc, .string s, .slice la ll lc]
set_option maxRecDepth 100000 in
/-- The cells of an Op that came in. -/
theorem op_of {H : Type} {enc : TypeId × Value → H} {W : World} {fuel : Nat} {cs : List Value} {x : DataW H × List MemPlace} (hf : DataW.trod enc Tryd.prog W 0 (fun _ => true) true fuel 30 cs = some x) (hk : Rows.uptoBulk x.1 ≤ 1073741824) :
    ∃ (kd : Int) (sec : Bool) (nn : Int) (U : Nat) (ii : Int) (ba : Option Addr) (bc : Nat) (B : List Int) (s : ByteArray) (la : Option Addr) (lc : Nat) (L : List Int),
      cs = opRow kd sec nn U ii ba B.length bc s la L.length lc ∧ OpAt W ii U ba bc B s la L ∧ (-9223372036854775808 ≤ nn ∧ nn ≤ 9223372036854775807) ∧ B.length + s.size + L.length < Rows.uptoBulk x.1 := by
  obtain ⟨xs, n, rfl, hx, hl, hxl, hfs⟩ := DataW.trod_struct Tryd.underlying30 hf
  obtain ⟨c1, c2, c3, c4, c5, c6, c7, c8, c9⟩ := Tryd.c1
  obtain ⟨x0, x1, x2, x3, x4, x5, x6, x7, rfl⟩ := list8 hxl
  rw [c9] at hl
  obtain ⟨y0, y1, y2, y3, y4, y5, y6, y7, rfl⟩ := list8 hl
  have q0 : DataW.trod enc Tryd.prog W 0 (fun _ => true) true n 3 (([y0, y1, y2, y3, y4, y5, y6, y7].drop 0).take (Tryd.prog.cellsOf 3)) = some x0 := hfs 0 _ rfl
  have q1 : DataW.trod enc Tryd.prog W 0 (fun _ => true) true n 4 (([y0, y1, y2, y3, y4, y5, y6, y7].drop 1).take (Tryd.prog.cellsOf 4)) = some x1 := hfs 1 _ rfl
  have q2 : DataW.trod enc Tryd.prog W 0 (fun _ => true) true n 3 (([y0, y1, y2, y3, y4, y5, y6, y7].drop 2).take (Tryd.prog.cellsOf 3)) = some x2 := hfs 2 _ rfl
  have q3 : DataW.trod enc Tryd.prog W 0 (fun _ => true) true n 27 (([y0, y1, y2, y3, y4, y5, y6, y7].drop 3).take (Tryd.prog.cellsOf 27)) = some x3 := hfs 3 _ rfl
  have q4 : DataW.trod enc Tryd.prog W 0 (fun _ => true) true n 2 (([y0, y1, y2, y3, y4, y5, y6, y7].drop 4).take (Tryd.prog.cellsOf 2)) = some x4 := hfs 4 _ rfl
  have q5 : DataW.trod enc Tryd.prog W 0 (fun _ => true) true n 22 (([y0, y1, y2, y3, y4, y5, y6, y7].drop 5).take (Tryd.prog.cellsOf 22)) = some x5 := hfs 5 _ rfl
  have q6 : DataW.trod enc Tryd.prog W 0 (fun _ => true) true n 9 (([y0, y1, y2, y3, y4, y5, y6, y7].drop 6).take (Tryd.prog.cellsOf 9)) = some x6 := hfs 6 _ rfl
  have q7 : DataW.trod enc Tryd.prog W 0 (fun _ => true) true n 28 (([y0, y1, y2, y3, y4, y5, y6, y7].drop 7).take (Tryd.prog.cellsOf 28)) = some x7 := hfs 7 _ rfl
  rw [c1] at q0 q2
  rw [c2] at q1
  rw [c3] at q3
  rw [c4] at q4
  rw [c5] at q5
  rw [c6] at q6
  rw [c7] at q7
  simp only [List.drop, List.take] at q0 q1 q2 q3 q4 q5 q6 q7
  obtain ⟨kd, e0, -, -⟩ := DataW.trod_int Tryd.underlying3 q0
  obtain ⟨sec, e1, -⟩ := DataW.trod_bool Tryd.underlying4 q1
  obtain ⟨nn, e2, -, w2⟩ := DataW.trod_int Tryd.underlying3 q2
  obtain ⟨u, e3, -, w3⟩ := DataW.trod_int Tryd.underlying27 q3
  obtain ⟨ii, e4, -, w4⟩ := DataW.trod_int Tryd.underlying2 q4
  obtain ⟨ba, bc, B, e5, hb1, hb2, hb3, hb4⟩ := bytes_of q5
  obtain ⟨s, e6, f6, -⟩ := DataW.trod_string Tryd.underlying9 q6
  obtain ⟨la, lc, L, e7, hl1, hl2, -, hl4⟩ := ints_of q7
  have b3 := bounds_u64 w3
  have b4 := bounds_i64 w4
  have b2 := bounds_i64 w2
  obtain ⟨U, rfl⟩ : ∃ U : Nat, u = U := ⟨u.toNat, by omega⟩
  simp only [List.cons.injEq, and_true] at e0 e1 e2 e3 e4 e5 e6 e7
  subst e0 e1 e2 e3 e4 e5 e6 e7
  have hB : Rows.uptoBulk x.1 = Rows.uptoBulk x0.1 + (Rows.uptoBulk x1.1 + (Rows.uptoBulk x2.1 + (Rows.uptoBulk x3.1 + (Rows.uptoBulk x4.1 + (Rows.uptoBulk x5.1 + (Rows.uptoBulk x6.1 + (Rows.uptoBulk x7.1 + 0))))))) + 1 := by
    rw [hx]
    simp only [List.map, Rows.uptoBulk, Rows.uptoBulkAll]
  have hS : Rows.uptoBulk x6.1 = s.size + 1 := by
    rw [f6]
    simp [Rows.uptoBulk]
  refine ⟨kd, sec, nn, U, ii, ba, bc, B, s, la, lc, L, rfl, ⟨by omega, by omega, by omega, hb1, hb3, hb2, hl1, hl2, by omega, by omega, by omega⟩, ⟨by omega, by omega⟩, by omega⟩
end Go.Proofs.YtbcohdioapmlgaaDoor
