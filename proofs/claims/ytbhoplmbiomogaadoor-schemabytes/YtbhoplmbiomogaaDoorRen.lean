import Derived.Test.YtbhoplmbiomogaaDoorDck
import Derived.Test.YtbhoplmbiomogaaDoorRck
namespace Go.Proofs.YtbhoplmbiomogaaDoor
open Go.ChangeShapes Go.WideShapes Go.ChangeAt Go.RowKit

theorem str_bs (s : ByteArray) : Lib.strCells s = bs (sb s) := by
  simp [Lib.strCells, bs, sb, Function.comp]
/-- 'append(b, c)' of a byte as a number. -/
theorem wpList_pushI {w0 W : World} {ops : Array Oper} {rest : List Oper} {o : Oper} {act : Act} {Q : Exit → Act → World → Prop} (hgd : o.guard = none) (s x : Operand)
    (ho : o.op = .call { callee := .builtin .append, args := #[s, x], argTypes := #[25, 25] }) (v : Value) (n m : Nat) (xs ys : List Int) (z : Int) (hs : act.eval s = v) (hG : Hid (Gro w0 W 5 1 v n (bs xs))) (hx : act.eval x = .slice (some ⟨W.heap.size, 0, none⟩) 1 1)
    (hl : Hid (ys = xs ++ [z])) (hm : m = n + 1) (hb : n + 1 ≤ 140737488355328)
    (h : ∀ a' c' W', Hid (Gro w0 W' 5 1 (.slice a' m c') m (bs ys)) → wpList Tryd.prog ops Q rest (act.put o.dst (.slice a' m c')) W') : wpList Tryd.prog ops Q (o :: rest) act (W.alloc (.cells #[.int .u8 z] 5)) := by
  obtain ⟨i0, hi, hz0, hz1, hz2⟩ := info_parts Tryd.infoB
  have e1 := hl.out
  subst e1 hm
  refine wpList_push hgd s x 25 ho 5 i0 (.int .u8 0) 1 1 Tryd.underlying25 hi hz0 hz1 hz2 rfl (by decide) v n (bs xs) [.int .u8 z] hs hG hx rfl (by intro u hu; simp at hu; subst hu; rfl) (hideG (by omega)) (hideG (by unfold maxLen; omega)) ?_
  rw [bs_append] at h
  exact h
set_option maxRecDepth 20000 in
set_option maxHeartbeats 2000000 in
theorem ruv_small (n : Nat) (w : World) (hn : n < 128) :
    Calls Tryd.prog 23 #[.int .u64 n] w fun e w' => ∃ a c, e = .returned (.slice a 1 c) ∧ Gro w w' 5 1 (.slice a 1 c) 1 (bs [(n : Int)]) := by
  have HG : Hid (Gro w (w.alloc (.cells #[] 5)) 5 1 (.slice (some ⟨w.heap.size, 0, none⟩) 0 0) 0 (bs [])) := hideD (gro_empty w w 5 1 (Kept.refl _ _))
  have HL : Hid ([(n : Int)] = [] ++ [(n : Int)]) := hideD rfl
  have h1 : ¬ (128 : Int) ≤ (n : Int) := by omega
  have h2 : decide ((128 : Int) ≤ (n : Int)) = false := decide_eq_false (by omega)
  have h3 : decide (128 ≤ n) = false := decide_eq_false (by omega)
  have h4 : IntKind.u8.wrap (n : Int) = (n : Int) := by rw [IntKind.wrap_u8]; omega
  go_enter Tryd.func23, Tryd.ntmps23
  go_wp2
  go_loopw [0, 3] (fun v out wr => ∃ (a : Option Addr) (c : Nat), v = .int .u64 n ∧ out = .slice a 0 c ∧ Hid (Gro w wr 5 1 (.slice a 0 c) 0 (bs []))) (fun v _ _ => 0)
  case atStart => exact ⟨_, _, rfl, rfl, HG⟩
  case round =>
    obtain ⟨a, c, rfl, rfl, HGr⟩ := hrel
    clear HG
    go_wp2_with (at_builtin; refine wpList_pushI rfl _ _ rfl _ 0 1 [] [(n : Int)] _ rfl HGr rfl HL rfl (by omega) ?_; intro a' c' W' HG')
    go_ret
    exact ⟨a', c', rfl, HG'.out⟩
set_option maxRecDepth 20000 in
set_option maxHeartbeats 2000000 in
theorem rtxt_small (s : ByteArray) (w : World) (hs : s.size ≤ 32) :
    Calls Tryd.prog 24 #[.string s] w fun e w' => ∃ a c, e = .returned (.slice a (1 + s.size) c) ∧ Gro w w' 5 1 (.slice a (1 + s.size) c) (1 + s.size) (bs (uvb s.size ++ sb s)) := by
  obtain ⟨i0, hi, hz0, hz1, hz2⟩ := info_parts Tryd.infoB
  have CU := hideD (ruv_small s.size w (by omega))
  have h4 : IntKind.u64.wrap (s.size : Int) = (s.size : Int) := by rw [IntKind.wrap_u64]; omega
  have HB : Hid (bs (uvb s.size ++ sb s) = bs [(s.size : Int)] ++ Lib.strCells s) := hideD (by rw [str_bs, uvb_small (by omega), bs_append])
  generalize hns : s.size = ns at *
  go_enter Tryd.func24, Tryd.ntmps24
  go_wp2_with (first
    | (go_at_call 23; refine CU.out.mono ?_; clear CU; rintro e W1 ⟨a1, c1, rfl, G1⟩; have HG1 := hideD G1; clear G1)
    | (at_builtin; refine Lib.wpList_append_own_string _ rfl _ _ 25 9 rfl w.heap.size 5 i0 Tryd.underlying25 Tryd.underlying9 hi hz0 hz1 hz2 _ 1 _ rfl HG1.out.own s rfl (by unfold maxLen; omega) (by omega) HG1.out.kept.size ?_; intro v' W' ho hg _; rw [hns] at ho; obtain ⟨a', c', rfl⟩ := own_slice ho; have HG2 : Hid (Gro w W' 5 1 (.slice a' (1 + ns) c') (1 + ns) (bs [(ns : Int)] ++ Lib.strCells s)) := hideD ⟨ho, HG1.out.kept.trans (Kept.grown hg) (fun i hi => .inr (HG1.out.own.lt i hi).1)⟩; clear ho hg))
  go_ret
  refine ⟨a', c', rfl, ?_⟩
  rw [HB.out]
  exact HG2.out
end Go.Proofs.YtbhoplmbiomogaaDoor
