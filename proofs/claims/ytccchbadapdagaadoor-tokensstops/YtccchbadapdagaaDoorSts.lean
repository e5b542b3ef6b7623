import Derived.Test.YtccchbadapdagaaDoorStq
import Derived.Deep.MidRow
import Derived.Laws.MakeOwn
namespace Go.Proofs.YtccchbadapdagaaDoor
open Go.ChangeShapes Go.WideShapes Go.ChangeAt Go.RowKit

def stV : List Value := stL.map (fun l => .string ⟨l.toArray⟩)
theorem stV_at (j : Nat) (h : j < 42) : stV[j]? = some (.string (stB j)) := by
  unfold stV stB
  rw [List.getElem?_map, List.getElem?_eq_getElem (show j < stL.length from h), Option.map_some, List.getD_eq_getElem?_getD, List.getElem?_eq_getElem (show j < stL.length from h), Option.getD_some]
theorem stV_len : stV.length = 42 := rfl
theorem Tryd.sSt : (Tryd.prog.info? 25).map (·.size) = some 42 := by kernel_rfl
theorem Tryd.infoS : (Tryd.prog.info? 9).map (fun i => (i.zero, i.size, i.bytes)) = some (some (.string ⟨#[]⟩), 1, 16) := by kernel_rfl
theorem st_row {w : World} (h : StopsAt w) : w.rangeAt 0 0 stV := by
  intro j v hj
  have hl : j < 42 := (List.getElem?_eq_some_iff.1 hj).1
  rw [stV_at j hl] at hj
  rw [Nat.zero_add, h j hl, ← hj]
theorem one_str (s : ByteArray) : ∀ u ∈ [Value.string s], u.oneCell' = true := by
  intro u hu
  simp at hu
  subst hu
  rfl
theorem idx_stops (C : Array Value) (k : Nat) (s : ByteArray) (hk : k < 42) (hc : C[k]? = some (.string s)) (w : World) : (Instr.index 25 (.agg C) (.int .i64 k)).run Tryd.prog w = .ok (.string s) w := by
  obtain ⟨i0, hi, hz0, hz1, hz2⟩ := info_parts Tryd.infoS
  have h1 : (0 : Int) ≤ (k : Int) ∧ (k : Int) < 42 := by omega
  simp [Instr.index, run_underlying Tryd.underlying25, asIntOf, h1, sizeOf, typeInfo, hi, hz1, part, hc, go_sem]
  omega
theorem wpList_load_stops {ops : Array Oper} {rest : List Oper} {op : Oper} {a : Act} {w : World} {Q : Exit → Act → World → Prop} (hgd : op.guard = none) (ho : op.op = .load 25 (.global 0)) (hS : Hid (StopsAt w))
    (h : ∀ C : Array Value, C.size = 42 → Hid (∀ k, k < 42 → C[k]? = some (.string (stB k))) → wpList Tryd.prog ops Q rest (a.put op.dst (.agg C)) w) : wpList Tryd.prog ops Q (op :: rest) a w :=
  wpList_load_mid hgd 25 (.global 0) ho 0 0 rfl stV _ (st_row hS.out) Tryd.underlying25 rfl Tryd.sSt
    (h stV.toArray rfl (hideS (fun k hk => by rw [List.getElem?_toArray]; exact stV_at k hk)))
set_option maxRecDepth 20000 in
set_option maxHeartbeats 2000000 in
theorem stops_any (w : World) (hS : StopsAt w) :
    Calls Tryd.prog 4 #[] w fun e w' => ∃ a c, e = .returned (.slice a 42 c) ∧ Gro w w' 9 1 (.slice a 42 c) 42 stV := by
  obtain ⟨i0, hi, hz0, hz1, hz2⟩ := info_parts Tryd.infoS
  obtain ⟨w1, hrun, hown, hgrow⟩ := run_make_own (P := Tryd.prog) (w := w) w.heap.size 22 9 i0 (.string ⟨#[]⟩) 1 Tryd.underlying22 hi hz0 hz1 .i64 .i64 42 (by rw [hz2]; omega) (by unfold maxLen; omega) (Nat.le_refl _)
  have k1 : Kept (fun _ => False) w w1 := (Kept.grown hgrow).mono (fun i h => by cases h)
  have HS1 := hideS (hS.kept k1 (fun f => f))
  have HG : Hid (Gro w w1 9 1 (.slice (some ⟨w.heap.size, 0, none⟩) 0 42) 0 []) := hideS ⟨hown, k1⟩
  have HT : Hid (∀ k, k < 42 → stV.take (k + 1) = stV.take k ++ [.string (stB k)]) := hideS (fun k hk => by
    rw [List.take_succ_eq_append_getElem (show k < stV.length from hk)]
    have := stV_at k hk
    rw [List.getElem?_eq_getElem (show k < stV.length from hk)] at this
    rw [Option.some.inj this])
  clear hown hgrow k1 hS
  have hrun' : (Instr.makeSlice 22 (.int .i64 0) (.int .i64 42)).run Tryd.prog w = .ok (.slice (some ⟨w.heap.size, 0, none⟩) 0 42) w1 := hrun
  clear hrun
  go_enter Tryd.func4, Tryd.ntmps4
  go_wp2_with (refine wpList_load_stops rfl rfl HS1 ?_; intro C hCs HC)
  go_loopw [1, 6] (fun v i wr => ∃ (k : Nat) (a : Option Addr) (c : Nat), k ≤ 42 ∧ i = .int .i64 k ∧ v = .slice a k c ∧ Hid (Gro w wr 9 1 (.slice a k c) k (stV.take k))) (fun _ i _ => 42 - (intOf i).toNat)
  case atStart => exact ⟨0, _, _, by omega, rfl, rfl, HG⟩
  case round =>
    obtain ⟨k, a, c0, hk, rfl, rfl, HR⟩ := hrel
    clear HG hrun' HS1
    by_cases hlt : k < 42
    · have hc := HC.out k hlt
      have ht := HT.out k hlt
      generalize stB k = s at hc ht
      have hix := idx_stops C k s hlt hc wr
      clear HC HT
      go_wp2_with (at_builtin; refine wpList_push rfl _ _ 22 rfl 9 i0 (.string ⟨#[]⟩) 1 16 Tryd.underlying22 hi hz0 hz1 hz2 rfl (by decide) _ k _ [.string s] rfl HR rfl rfl (one_str s) (hideS (by omega)) (hideS (by unfold maxLen; omega)) ?_; intro a' c' W' HR')
      go_roundw
      case rel => exact ⟨k + 1, a', c', by omega, by go_num, rfl, by rw [ht]; exact HR'⟩
      case measure => simp [intOf]; omega
    · obtain rfl : k = 42 := by omega
      go_wp2
      go_ret
      exact ⟨a, c0, rfl, HR.out⟩
set_option maxRecDepth 20000 in
set_option maxHeartbeats 2000000 in
theorem rstops_any (w : World) :
    Calls Tryd.prog 5 #[] w fun e w' => e = .returned (.slice (some ⟨w.heap.size, 0, none⟩) 42 42) ∧ w' = w.alloc (.cells stV.toArray 9) := by
  go_enter Tryd.func5, Tryd.ntmps5
  go_wp2
  go_ret
  exact ⟨rfl, rfl⟩
end Go.Proofs.YtccchbadapdagaaDoor
