import Derived.Test.YtnkmjhcddegkhaaDoorGro
import Derived.Deep.QuietTactic
import Derived.BigQuiet
namespace Go.Proofs.YtnkmjhcddegkhaaDoor
open Go.ChangeShapes Go.WideShapes Go.ChangeAt Go.RowKit

/-- The stop words as the memory holds them: any forty-two texts. -/
def StopsT (TT : Nat → ByteArray) (w : World) : Prop := ∀ j, j < 42 → w.cell? ⟨0, j, none⟩ = some (.string (TT j))
theorem StopsT.kept {TT : Nat → ByteArray} {F : Nat → Prop} {w w' : World} (h : StopsT TT w) (k : Kept F w w') (hF : ¬ F 0) : StopsT TT w' := fun j hj => k.cell (h j hj) hF
def stLess (TT : Nat → ByteArray) (j : Nat) (x : ByteArray) : Bool := Op.bytesLess (TT j).toList x.toList
/-- Searching by halves. -/
def hsr (f : Nat → Bool) : Nat → Nat → Nat → Nat
  | 0, lo, _ => lo
  | n + 1, lo, hi => if lo < hi then (if f ((lo + hi) / 2) then hsr f n ((lo + hi) / 2 + 1) hi else hsr f n lo ((lo + hi) / 2)) else lo
theorem hsr_end (f : Nat → Bool) (n lo : Nat) : hsr f n lo lo = lo := by
  cases n with
  | zero => rfl
  | succ n => unfold hsr; rw [if_neg (Nat.lt_irrefl _)]
theorem hsr_up (f : Nat → Bool) (n lo hi m : Nat) (h : lo < hi) (hm : m = (lo + hi) / 2) (hf : f m = true) : hsr f (n + 1) lo hi = hsr f n (m + 1) hi := by
  subst hm
  conv => lhs; unfold hsr
  rw [if_pos h, if_pos hf]
theorem hsr_down (f : Nat → Bool) (n lo hi m : Nat) (h : lo < hi) (hm : m = (lo + hi) / 2) (hf : f m = false) : hsr f (n + 1) lo hi = hsr f n lo m := by
  subst hm
  conv => lhs; unfold hsr
  rw [if_pos h, hf]
  rfl
/-- Where the search ends. -/
def plc (TT : Nat → ByteArray) (x : ByteArray) : Nat := hsr (fun j => stLess TT j x) 42 0 42
/-- What IsStop answers. -/
def isT (TT : Nat → ByteArray) (x : ByteArray) : Bool := decide (plc TT x < 42) && ((TT (plc TT x)).toList == x.toList)
theorem geq_str (t : TypeId) (a b : ByteArray) : binOp .geq t (.string a) (.string b) = pure (.bool !(Op.bytesLess a.toList b.toList)) := by simp [binOp, Op.stringOp]
theorem hideS {p : Prop} (h : p) : Hid p := h
set_option maxRecDepth 20000 in
set_option maxHeartbeats 2000000 in
theorem stop_cl (TT : Nat → ByteArray) (x : ByteArray) (bx i : Nat) (W : World) (hi : i < 42) (hx : W.cell? ⟨bx, 0, none⟩ = some (.string x)) (hS : StopsT TT W) :
    Calls Tryd.prog 19 #[.int .i64 i, .pointer (some ⟨bx, 0, none⟩)] W fun e w' => e = .returned (.bool (!stLess TT i x)) ∧ ∃ q, w' = W.drewN q := by
  have hc := hS i hi
  have hl : Op.bytesLess (TT i).toList x.toList = stLess TT i x := rfl
  generalize TT i = s at hc hl
  generalize stLess TT i x = b at hl ⊢
  have g1 := geq_str 9 s x
  rw [hl] at g1
  have hiz : (i : Int) < 42 := by omega
  clear hS
  go_enter Tryd.func19, Tryd.ntmps19
  go_wp2
  go_region
  all_goals go_wp2
  all_goals go_ret
  all_goals exact ⟨rfl, 1, rfl⟩
set_option maxRecDepth 20000 in
set_option maxHeartbeats 2000000 in
theorem stop_search (TT : Nat → ByteArray) (x : ByteArray) (bx : Nat) (w : World) (hx : w.cell? ⟨bx, 0, none⟩ = some (.string x)) (hS : StopsT TT w) :
    Calls Tryd.prog 18 #[.int .i64 42, .func (.func 19) #[] #[.pointer (some ⟨bx, 0, none⟩)]] w fun e w' => ∃ q : Nat, e = .returned (.int .i64 (plc TT x)) ∧ w' = w.drewN q ∧ plc TT x ≤ 42 := by
  have HC : ∀ q i : Nat, i < 42 → Hid (Calls Tryd.prog 19 (#[.int .i64 i] ++ #[.pointer (some ⟨bx, 0, none⟩)]) (w.drewN q) fun e w' => e = .returned (.bool (!stLess TT i x)) ∧ ∃ q', w' = (w.drewN q).drewN q') := fun q i hi => stop_cl TT x bx i (w.drewN q) hi hx hS
  obtain ⟨R, hR⟩ : ∃ R, R = plc TT x := ⟨_, rfl⟩
  rw [← hR]
  have HR := hideS hR
  clear hx hS hR
  go_enter Tryd.func18, Tryd.ntmps18
  go_wp2
  go_loopw [5, 6] (fun s5 s6 wr => ∃ (lo hi q : Nat), lo ≤ hi ∧ hi ≤ 42 ∧ s5 = .int .i64 lo ∧ s6 = .int .i64 hi ∧ wr = w.drewN q ∧ Hid (∃ n, hi - lo ≤ n ∧ R = hsr (fun j => stLess TT j x) n lo hi)) (fun s5 s6 _ => (intOf s6).toNat - (intOf s5).toNat)
  case atStart => exact ⟨0, 42, 0, by omega, by omega, rfl, rfl, rfl, hideS ⟨42, by omega, HR.out⟩⟩
  case round =>
    obtain ⟨lo, hi, q, hlh, hh, rfl, rfl, rfl, H1⟩ := hrel
    clear HR
    by_cases hlt : lo < hi
    · have hc := HC q ((lo + hi) / 2) (by omega)
      obtain ⟨m, hm⟩ : ∃ m, m = (lo + hi) / 2 := ⟨_, rfl⟩
      rw [← hm] at hc
      have em : ((lo : Int) + (hi : Int)) / 2 = (m : Int) := by omega
      have m1 : lo ≤ m := by omega
      have m2 : m < hi := by omega
      obtain ⟨n, hn, e1⟩ := H1.out
      obtain ⟨n1, rfl⟩ : ∃ n1, n = n1 + 1 := ⟨n - 1, by omega⟩
      have HU := hideS (hsr_up (fun j => stLess TT j x) n1 lo hi m hlt hm)
      have HD := hideS (hsr_down (fun j => stLess TT j x) n1 lo hi m hlt hm)
      have HE := hideS e1
      clear hm HC H1 e1
      cases hb : stLess TT m x with
      | true =>
        rw [hb] at hc
        have HB := hideS hb
        clear hb
        go_wp2_with (go_at_call 19; refine hc.out.mono ?_; rintro e w' ⟨rfl, q', rfl⟩)
        go_roundw
        case rel => exact ⟨m + 1, hi, q + q', by omega, by omega, by go_num, rfl, rfl, hideS ⟨n1, by omega, by rw [HE.out]; exact HU.out HB.out⟩⟩
        case measure => simp [intOf]; omega
      | false =>
        rw [hb] at hc
        have HB := hideS hb
        clear hb
        go_wp2_with (go_at_call 19; refine hc.out.mono ?_; rintro e w' ⟨rfl, q', rfl⟩)
        go_roundw
        case rel => exact ⟨lo, m, q + q', by omega, by omega, rfl, by go_num, rfl, hideS ⟨n1, by omega, by rw [HE.out]; exact HD.out HB.out⟩⟩
        case measure => simp [intOf]; omega
    · obtain rfl : hi = lo := by omega
      obtain ⟨n, _, e1⟩ := H1.out
      rw [hsr_end] at e1
      subst e1
      clear H1 HC
      go_wp2
      go_ret
      exact ⟨q, rfl, rfl, hh⟩
set_option maxRecDepth 20000 in
set_option maxHeartbeats 2000000 in
theorem isStop_any (TT : Nat → ByteArray) (x : ByteArray) (w : World) (hS : StopsT TT w) :
    Calls Tryd.prog 9 #[.string x] w fun e w' => e = .returned (.bool (isT TT x)) ∧ Kept (fun _ => False) w w' := by
  have K0 := hideS (Kept.alloc w (.cells #[.string x] 9))
  have HS1 := hideS (hS.kept K0.out (fun f => f))
  have HC := hideS (stop_search TT x w.heap.size (w.alloc (.cells #[.string x] 9)) (by simp) HS1.out)
  have HB := hideS (show isT TT x = (decide (plc TT x < 42) && ((TT (plc TT x)).toList == x.toList)) from rfl)
  generalize isT TT x = B at HB ⊢
  generalize plc TT x = r at *
  clear hS
  go_enter Tryd.func9, Tryd.ntmps9
  go_wp2_with (go_at_call 18; refine HC.out.mono ?_; clear HC; rintro e w' ⟨q, rfl, rfl, h1⟩)
  by_cases hr : r < 42
  · have hB := HB.out
    rw [decide_eq_true hr, Bool.true_and] at hB
    have hB2 := hB.symm
    have hc := HS1.out r hr
    clear HB hB
    generalize TT r = s at hB2 hc
    have hrz : (r : Int) < 42 := by omega
    have hc1 : ((w.alloc (.cells #[.string x] 9)).drewN q).cell? ⟨0, r, none⟩ = some (.string s) := hc
    have K1 : Hid (Kept (fun _ => False) w ((w.alloc (.cells #[.string x] 9)).drewN q)) := hideS ⟨K0.out.os, K0.out.tape, K0.out.output, K0.out.size, K0.out.block⟩
    have hx1 : ((w.alloc (.cells #[.string x] 9)).drewN q).cell? ⟨w.heap.size, 0, none⟩ = some (.string x) := by show (w.alloc (.cells #[.string x] 9)).cell? ⟨w.heap.size, 0, none⟩ = _; simp
    clear HS1 hc K0
    generalize (w.alloc (.cells #[.string x] 9)).drewN q = W at hc1 hx1 K1 ⊢
    go_region
    all_goals go_wp2
    all_goals go_ret
    all_goals exact ⟨rfl, K1.out.trans (Kept.drew _) (fun _ f => f.elim)⟩
  · obtain rfl : r = 42 := by omega
    have hB := HB.out
    rw [decide_eq_false (Nat.lt_irrefl _), Bool.false_and] at hB
    subst hB
    have K1 : Hid (Kept (fun _ => False) w ((w.alloc (.cells #[.string x] 9)).drewN q)) := hideS ⟨K0.out.os, K0.out.tape, K0.out.output, K0.out.size, K0.out.block⟩
    clear HS1 HB K0
    generalize (w.alloc (.cells #[.string x] 9)).drewN q = W at K1 ⊢
    go_region
    all_goals go_wp2
    all_goals go_ret
    all_goals exact ⟨rfl, K1.out.trans (Kept.drew _) (fun _ f => f.elim)⟩
end Go.Proofs.YtnkmjhcddegkhaaDoor
