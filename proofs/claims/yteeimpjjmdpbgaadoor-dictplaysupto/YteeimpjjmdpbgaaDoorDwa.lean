import Derived.Test.YteeimpjjmdpbgaaDoorRga
import Derived.Test.YteeimpjjmdpbgaaDoorDbg
import Derived.Shelf.Abstract
import Derived.Shelf.RegionOpen
import Derived.WalkKit
import Derived.OwnWalkIn
import Derived.TacticsInMore
import Derived.LoopNIn
import Derived.LoopIn
namespace Go.Proofs.YteeimpjjmdpbgaaDoor
open Go.ChangeShapes Go.WideShapes Go.ChangeAt Go.RowKit Go.Shelf
attribute [local go_sem] Oper.semAt_some

/-- The entry at a place. -/
def eat (E : List En) (i : Nat) : En := match E[i]? with | some e => e | none => ⟨ByteArray.empty, 0, 0, 0, 0⟩
theorem eat_at {E : List En} {i : Nat} (h : i < E.length) : eat E i = E[i] := by unfold eat; rw [List.getElem?_eq_getElem h]
/-- What the iterator reads. -/
structure WkK (E : List En) (ws bd : Nat) (va : Value) (bf bp f : Nat) (W : World) : Prop where
  dct : Dct W ws bd va E
  fst : W.cell? ⟨bf, 0, none⟩ = some (.int .i64 f)
  ptr : W.cell? ⟨bp, 0, none⟩ = some (.pointer (some ⟨bd, 0, none⟩))
theorem WkK.kept {E : List En} {ws bd : Nat} {va : Value} {bf bp f : Nat} {W W' : World} (h : WkK E ws bd va bf bp f W) (k : Kept (fun _ => False) W W') : WkK E ws bd va bf bp f W' :=
  ⟨h.dct.kept k, k.cell h.fst (fun f => f), k.cell h.ptr (fun f => f)⟩
def WkM (E : List En) (f : Nat) (pre : List Nat) (x : Nat) (_ : Nat) (_ : World) : Prop := x = f + pre.length ∧ x < E.length
def encW (E : List En) (x : Nat) : Array Value := #[.int .i64 x, enV (eat E x)]
set_option maxRecDepth 20000 in
set_option maxHeartbeats 4000000 in
theorem walk_seq (hC : ClnOk) (m : Nat) (hm : 1 ≤ m) (E : List En) (ws bd : Nat) (va : Value) (bf bp f : Nat) (hn : E.length ≤ 1099511627776) (hk : ∀ e ∈ E, e.k.size ≤ 281474976710656) :
    SeqM Fence.wide m Tryd.prog 63 #[.pointer (some ⟨bf, 0, none⟩), .pointer (some ⟨bp, 0, none⟩)] (encW E) (WkK E ws bd va bf bp f) (WkM E f) (fun xs => xs.length = E.length - f) := by
  intro l J Jx W hK hY h0
  obtain ⟨n, hne⟩ : ∃ n, n = E.length := ⟨_, rfl⟩
  have HN := hideQ hne
  have HY := hideQ hY
  have HK := hideQ hK
  have H0 := hideQ h0
  have z0 := (hK [] W h0).fst
  have HKs := hideQ hk
  have HCl := hideQ hC
  rw [← hne] at hn
  clear hne hY hK h0 hk hC
  refine callsIn_of_wp Tryd.func63 rfl trivial ?_ rfl
  simp only [Tryd.ntmps63, List.size_toArray, List.length_cons, List.length_nil, Nat.reduceAdd, Nat.reduceSub, Array.replicate_succ, Array.replicate_zero, List.push_toArray, List.append_toArray, List.nil_append, List.cons_append]
  gi_wp2
  gi_loopw [4] (fun at_ wr => ∃ (p : Nat) (pre : List Nat) (A : World), at_ = .int .i64 p ∧ p = f + pre.length ∧ (pre.length = 0 ∨ p ≤ n) ∧ Hid (J pre A) ∧ Hid (Kept (fun _ => False) A wr)) (fun at_ _ => n - (intOf at_).toNat)
  case atStart => exact ⟨f, [], W, rfl, rfl, .inl rfl, H0.out, Kept.refl _ _⟩
  case round =>
    obtain ⟨p, pre, A, rfl, hp, hpn, HJ, HA⟩ := hrel
    have hkn := (HK.out pre A HJ.out).kept HA.out
    have hc := hkn.dct.cell
    have hq := hkn.ptr
    obtain ⟨a, c, rfl⟩ := hkn.dct.shape
    rw [← HN.out] at hc
    clear z0 H0
    by_cases hlt : p < n
    · have hpp : (p : Int) < (n : Int) := by omega
      have hpE : p < E.length := by rw [← HN.out]; exact hlt
      have CH := hideQ (handed_any HCl.out wr ws bd p _ E hkn.dct hpE (HKs.out _ (List.getElem_mem hpE)))
      have YY : Hid (∀ W4, Kept (fun _ => False) wr W4 → YieldAt Fence.wide (m - 1) Tryd.prog l #[.int .i64 p, enV E[p]] W4 fun e C => (e = .returned (.bool true) ∧ Hid (J (pre ++ [p]) C)) ∨ (e = .returned (.bool false) ∧ Hid (Jx (pre ++ [p]) C))) := hideQ (fun W4 k4 => by
        have r := HY.out pre p A W4 HJ.out (HA.out.trans k4 (fun _ f => f.elim)) ⟨hp, hpE⟩
        unfold encW at r
        rw [eat_at hpE] at r
        exact r)
      have hp2 : p + 1 = f + (pre ++ [p]).length := by rw [List.length_append]; simp; omega
      have HP2 := hideQ hp2
      clear hkn HY HK HJ HA hp hp2 HKs HCl
      generalize E[p] = en at *
      gi_wp2_with (refine ⟨trivial, ?_⟩; gi_at_call 51; refine (callsIn_wide.2 CH.out).mono ?_; clear CH; rintro e W4 ⟨rfl, k4⟩; obtain ⟨fn, tmps, assign, body', hy, hR⟩ := YY.out W4 k4; clear YY k4)
      refine hR.mono ?_
      rintro e W5 (⟨rfl, HJ5⟩ | ⟨rfl, HX5⟩)
      · gi_wp2
        go_roundw
        case rel => exact ⟨p + 1, pre ++ [p], W5, by go_num, HP2.out, .inr (by omega), HJ5, Kept.refl _ _⟩
        case measure => simp [intOf]; omega
      · gi_wp2
        refine bodyPost_ret (results_none rfl _ _ _) rfl ?_
        exact ⟨⟨_, rfl⟩, .inr ⟨_, W5, HX5.out, Kept.refl _ _⟩⟩
    · have hpp : ¬ ((p : Int) < (n : Int)) := by omega
      have d1 : decide ((p : Int) < (n : Int)) = false := decide_eq_false hpp
      have d2 : decide (p < n) = false := decide_eq_false hlt
      have HFin : Hid (pre.length = E.length - f) := hideQ (by rw [← HN.out]; omega)
      clear hkn HY HK HKs HCl hp hpn
      gi_wp2
      refine bodyPost_end (results_none rfl _ _ _) rfl ?_
      exact ⟨⟨_, rfl⟩, .inl ⟨pre, HFin.out, A, HJ.out, HA.out⟩⟩
set_option maxRecDepth 20000 in
set_option maxHeartbeats 2000000 in
theorem walk_any (i : Int) (w : World) (ws bd : Nat) (va : Value) (E : List En) (h : Dct w ws bd va E) (hi1 : -9223372036854775808 ≤ i) (hi2 : i ≤ 9223372036854775807) : Calls Tryd.prog 56 #[.pointer (some ⟨bd, 0, none⟩), .int .i64 i] w fun e w' => (∃ bf bp, e = .returned (.func (.func 63) #[] #[.pointer (some ⟨bf, 0, none⟩), .pointer (some ⟨bp, 0, none⟩)]) ∧ WkK E ws bd va bf bp i.toNat w' ∧ w.heap.size ≤ bf ∧ w.heap.size ≤ bp) ∧ Kept (fun _ => False) w w' := by
  have hmf : ∀ (fn : Fn) (first cap : Array Value) (w : World), (Instr.makeFunc fn first cap).run Tryd.prog w = .ok (.func fn first cap) w := fun _ _ _ _ => rfl
  have HD := hideQ h
  clear h
  go_enter Tryd.func56, Tryd.ntmps56
  go_wp2
  · have K1 := Kept.alloc w (.cells #[.pointer (some ⟨bd, 0, none⟩)] 34)
    have K2 := Kept.alloc (w.alloc (.cells #[.pointer (some ⟨bd, 0, none⟩)] 34)) (.cells #[.int .i64 0] 3)
    go_ret
    refine ⟨⟨w.heap.size + 1, w.heap.size, rfl, ⟨HD.out.kept (K1.trans K2 (fun _ f => f.elim)), ?_, K2.cell (by simp) (fun f => f)⟩, by omega, Nat.le_refl _⟩, K1.trans K2 (fun _ f => f.elim)⟩
    rw [show i.toNat = 0 by omega]
    simp
  · have K1 := Kept.alloc w (.cells #[.pointer (some ⟨bd, 0, none⟩)] 34)
    have K2 := Kept.alloc (w.alloc (.cells #[.pointer (some ⟨bd, 0, none⟩)] 34)) (.cells #[.int .i64 i] 3)
    go_ret
    refine ⟨⟨w.heap.size + 1, w.heap.size, rfl, ⟨HD.out.kept (K1.trans K2 (fun _ f => f.elim)), ?_, K2.cell (by simp) (fun f => f)⟩, by omega, Nat.le_refl _⟩, K1.trans K2 (fun _ f => f.elim)⟩
    rw [show (i.toNat : Int) = i by omega]
    simp
end Go.Proofs.YteeimpjjmdpbgaaDoor
