import Derived.Test.YtmddcjjmlfpffaaAuj
namespace Go.Proofs.Ytmddcjjmlfpffaa
open Go.ChangeShapes Go.WideShapes Go.ChangeAt Go.RowKit

/-- The fields of a span. -/
def spA (o i : Bool) (t : ByteArray) (O I : Bool) (T : ByteArray) : Array Value := #[.bool o, .bool i, .string t, .bool O, .bool I, .string T]
theorem gro_one (w : World) (y : Int) : Gro w (w.alloc (.cells #[.int .i64 y] 3)) 3 1 (.slice (some ⟨w.heap.size, 0, none⟩) 1 1) 1 (iv [y]) :=
  ⟨⟨rfl, .inr ⟨w.heap.size, 1, #[.int .i64 y], rfl, Nat.le_refl _, heap_alloc_new w _, Nat.le_refl _, by unfold maxLen; omega, rfl, rfl⟩⟩, Kept.alloc _ _⟩
theorem wpList_minA {P : Program} {W : World} {ops : Array Oper} {rest : List Oper} {o : Oper} {act : Act} {Q : Exit → Act → World → Prop} {ts : Array TypeId} (hgd : o.guard = none) (s t : Operand)
    (ho : o.op = .call { callee := .builtin .min, args := #[s, t], argTypes := ts }) (x y m : Int) (hs : act.eval s = .int .i64 x) (ht : act.eval t = .int .i64 y) (hm : m = if y < x then y else x)
    (h : wpList P ops Q rest (act.put o.dst (.int .i64 m)) W) : wpList P ops Q (o :: rest) act W := by
  refine wpList_plain hgd fun K hK => ?_
  have hr : ∀ ty, (Builtin.min_ ts ty #[.int .i64 x, .int .i64 y]).run P W = .ok (.int .i64 m) W := fun ty => by rw [hm]; simp [Builtin.min_, Builtin.min2]
  unfold Oper.wp execOp
  simp only [ho, resolve, invoke, builtin, Sem.run_bind, Sem.run_pure, Result.andThen_ok, List.map_toArray, List.map_cons, List.map_nil, hs, ht, hr]
  exact hK _ _ h
set_option maxRecDepth 20000 in
set_option maxHeartbeats 4000000 in
theorem fstart_any (s : ByteArray) (n : Int) (w : World) (h0 : 0 ≤ n) (h2 : n ≤ 2) : Calls Try.prog 29 #[.agg #[.string s, .int .i64 n]] w fun e w' => StP w w' e := by
  obtain ⟨m, hm⟩ : ∃ m : Int, m = if n < (s.size : Int) then n else (s.size : Int) := ⟨_, rfl⟩
  have hm0 : 0 ≤ m := by rw [hm]; split <;> omega
  have hm2 : m ≤ 2 := by rw [hm]; split <;> omega
  have HM := hideG hm
  obtain ⟨k, rfl⟩ : ∃ k : Nat, m = (k : Int) := ⟨m.toNat, by omega⟩
  have KB := hideG (Kept.alloc w (.cells #[.string s, .int .i64 n] 26))
  have HG0 := hideG ((gro_one (w.alloc (.cells #[.string s, .int .i64 n] 26)) 0).baseA KB.out)
  rw [World.size_alloc] at HG0
  clear hm
  go_enter Try.func29, Try.ntmps29
  go_wp2_with (refine wpList_minA rfl _ _ rfl (s.size : Int) n (k : Int) rfl rfl HM.out ?_)
  go_loopw [3, 13] (fun v iw wr => ∃ (i j : Nat) (a : Option Addr) (c : Nat) (L : List Int), i ≤ k + 1 ∧ j ≤ i + 1 ∧ iw = .int .i64 i ∧ v = .slice a j c ∧ Hid (Gro w wr 3 1 (.slice a j c) j (iv L))) (fun _ iw _ => k + 1 - (intOf iw).toNat)
  case atStart => exact ⟨0, 1, _, _, [0], by omega, by omega, rfl, rfl, HG0⟩
  case round =>
    obtain ⟨i, j, a, c, L, hi, hj, rfl, rfl, HG⟩ := hrel
    clear HG0 HM
    by_cases hlt : i < k + 1
    · have hii : (i : Int) < (k : Int) + 1 := by omega
      go_wp2_with (at_builtin; refine wpList_pushI rfl _ _ rfl _ j L (i : Int) rfl HG _ (by first | rfl | simp) rfl (by omega) ?_; clear HG; intro a1 c1 W1 G1)
      go_roundw
      case rel => exact ⟨i + 1, j + 1, a1, c1, L ++ [(i : Int)], by omega, by omega, by go_num, rfl, G1⟩
      case measure => simp [intOf]; omega
    · have hii : ¬ ((i : Int) < (k : Int) + 1) := by omega
      go_wp2
      go_ret
      exact ⟨⟨_, _, _, rfl⟩, HG.out.kept⟩
def PtP (w w' : World) (e : Ending) : Prop := (∃ b, e = .returned (.pointer (some ⟨b, 0, none⟩))) ∧ Kept (fun _ => False) w w'
theorem meth_fuzzy (v : Value) (w : World) : (method 160 26 v "concord/auto.start").run Try.prog w = .ok (29, v) w := by kernel_rfl
theorem newAuto_fuzzy (s : ByteArray) (n : Int) (w : World) (h0 : 0 ≤ n) (h2 : n ≤ 2) : Calls Try.prog 7 #[.iface 26 (.agg #[.string s, .int .i64 n])] w fun e w' => PtP w w' e := by
  have CS := hideG (fstart_any s n w h0 h2)
  have M0 := meth_fuzzy
  go_enter Try.func7, Try.ntmps7
  go_wp2_with (go_at_call 29; refine CS.out.mono ?_; clear CS; rintro e W ⟨⟨a, n, c, rfl⟩, K1⟩)
  go_ret
  exact ⟨⟨_, rfl⟩, K1.trans (Kept.alloc _ _) (fun _ f => f.elim)⟩
end Go.Proofs.Ytmddcjjmlfpffaa
