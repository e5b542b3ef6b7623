import Derived.Test.YtacmmclamkhpcaaDoorAuj
namespace Go.Proofs.YtacmmclamkhpcaaDoor
open Go.ChangeShapes Go.WideShapes Go.ChangeAt Go.RowKit

/-- The fields of a span. -/
def spA (o i : Bool) (t : ByteArray) (O I : Bool) (T : ByteArray) : Array Value := #[.bool o, .bool i, .string t, .bool O, .bool I, .string T]
set_option maxRecDepth 20000 in
set_option maxHeartbeats 4000000 in
theorem sstart_any (o i O I : Bool) (t T : ByteArray) (w : World) (ht : t.size ≤ 1099511627776) : Calls Tryd.prog 77 #[.agg #[.bool o, .bool i, .string t, .bool O, .bool I, .string T]] w fun e w' => StP w w' e := by
  have KB := Kept.alloc w (.cells #[.bool o, .bool i, .string t, .bool O, .bool I, .string T] 92)
  have hbx := heap_alloc_new w (.cells #[.bool o, .bool i, .string t, .bool O, .bool I, .string T] 92)
  have CE := hideG (isEmpty_any o i O I t T (w.alloc (.cells #[.bool o, .bool i, .string t, .bool O, .bool I, .string T] 92)) ht)
  have HB := hideG KB
  have HX := hideG hbx
  clear KB hbx
  have CS := fun W => hideG (startOf_any o i t W)
  have CT := fun W => hideG (startOf_any O I T W)
  go_enter Tryd.func77, Tryd.ntmps77
  go_wp2_with (go_at_call 74; refine Stp2.go ?_)
  refine ⟨?_⟩
  refine CE.out.mono ?_
  rintro e W ⟨⟨b, rfl⟩, K1⟩
  have K2 := HB.out.trans K1 (fun _ f => f.elim)
  have h1 := K1.heap HX.out (fun f => f)
  have HK2 := hideG K2
  cases b
  · have hS6 : Kept (fun _ => False) W W.drew := Kept.drewA W 1
    have HC : Hid (∀ W', Kept (fun _ => False) W W' → W'.cell? ⟨w.heap.size, 0, none⟩ = some (.bool o) ∧ W'.cell? ⟨w.heap.size, 1, none⟩ = some (.bool i) ∧ W'.cell? ⟨w.heap.size, 2, none⟩ = some (.string t) ∧ W'.cell? ⟨w.heap.size, 3, none⟩ = some (.bool O) ∧ W'.cell? ⟨w.heap.size, 4, none⟩ = some (.bool I) ∧ W'.cell? ⟨w.heap.size, 5, none⟩ = some (.string T)) := hideG (fun W' k => by
      have h2 := k.heap h1 (fun f => f)
      refine ⟨by simp [World.cell?, h2], by simp [World.cell?, h2], by simp [World.cell?, h2], by simp [World.cell?, h2], by simp [World.cell?, h2], by simp [World.cell?, h2]⟩)
    clear K1 K2 h1 CE HX HB
    go_wp2
    refine wp_region_held (S := fun W' => Kept (fun _ => False) W W') (by kernel_rfl) ?_
    change wpAnyH _ _ _ _ _ _ _ _ (World.drew _)
    refine takeHA (i := 0) (d := 5) (v := .pointer (some ⟨w.heap.size, 0, none⟩)) rfl rfl (by kernel_rfl) (by kernel_rfl) (by kernel_rfl) (fun _ _ _ h => h) (Or.inl ⟨by rfl, fun W hW => ?_⟩) hS6 ?_
    · go_simp
    simp only [Act.put, List.setIfInBounds_toArray, List.set_cons_zero, List.set_cons_succ]
    refine takeHA (i := 1) (d := 6) (v := .agg #[.bool o, .bool i, .string t]) rfl rfl (by kernel_rfl) (by kernel_rfl) (by kernel_rfl) (fun _ _ _ h => h) (Or.inl ⟨by rfl, fun W hW => ?_⟩) hS6 ?_
    · (obtain ⟨q0, q1, q2, q3, q4, q5⟩ := HC.out _ hW; go_simp)
    simp only [Act.put, List.setIfInBounds_toArray, List.set_cons_zero, List.set_cons_succ]
    refine takeHA (i := 3) (d := 8) (v := .pointer (some ⟨w.heap.size, 3, none⟩)) rfl rfl (by kernel_rfl) (by kernel_rfl) (by kernel_rfl) (fun _ _ _ h => h) (Or.inl ⟨by rfl, fun W hW => ?_⟩) hS6 ?_
    · go_simp
    simp only [Act.put, List.setIfInBounds_toArray, List.set_cons_zero, List.set_cons_succ]
    refine takeHA (i := 4) (d := 9) (v := .agg #[.bool O, .bool I, .string T]) rfl rfl (by kernel_rfl) (by kernel_rfl) (by kernel_rfl) (fun _ _ _ h => h) (Or.inl ⟨by rfl, fun W hW => ?_⟩) hS6 ?_
    · (obtain ⟨q0, q1, q2, q3, q4, q5⟩ := HC.out _ hW; go_simp)
    simp only [Act.put, List.setIfInBounds_toArray, List.set_cons_zero, List.set_cons_succ]
    refine wpAnyH_all (rs := [2]) (by kernel_rfl) (by simp) ?_
    intro i hi
    obtain rfl : i = 2 := by simpa using hi
    unfold wpOp
    go_simp
    first | refine (CS _).out.mono ?_ | refine Or.inl ((CS _).out.mono ?_)
    rintro e W2 ⟨⟨z1, rfl⟩, k2⟩
    have hk2 := hS6.trans k2 (fun _ f => f.elim)
    refine ⟨hk2, ?_⟩
    refine wpAnyH_all (rs := [5]) (by kernel_rfl) (by simp) ?_
    intro i hi
    obtain rfl : i = 5 := by simpa using hi
    unfold wpOp
    go_simp
    first | refine (CT _).out.mono ?_ | refine Or.inl ((CT _).out.mono ?_)
    rintro e W3 ⟨⟨z2, rfl⟩, k3⟩
    have hk3 := hk2.trans k3 (fun _ f => f.elim)
    refine ⟨hk3, ?_⟩
    refine wpAnyH_all (rs := [6]) (by kernel_rfl) (by simp) ?_
    intro i hi
    obtain rfl : i = 6 := by simpa using hi
    unfold wpOp
    go_simp
    have hk4 := hk3.trans (Kept.alloc W3 (.cells #[.int .i64 z1, .int .i64 z2] 3)) (fun _ f => f.elim)
    first | refine ⟨hk4, ?_⟩ | refine Or.inl ⟨hk4, ?_⟩
    refine takeHA (i := 7) (d := 2) (v := .slice (some ⟨W3.heap.size, 0, none⟩) 2 2) rfl rfl (by kernel_rfl) (by kernel_rfl) (by kernel_rfl) (fun _ _ _ h => h) (Or.inl ⟨by rfl, fun W hW => ?_⟩) hk4 ?_
    · go_simp
    simp only [Act.put, List.setIfInBounds_toArray, List.set_cons_zero, List.set_cons_succ]
    refine wpAnyH_done (by kernel_rfl) ?_ _
    go_wp2
    go_ret
    exact ⟨⟨_, _, _, rfl⟩, HK2.out.trans hk4 (fun _ f => f.elim)⟩
  · clear K1 K2 h1 CE HX HB
    go_wp2
    go_ret
    exact ⟨⟨_, _, _, rfl⟩, HK2.out⟩

theorem gro_one (w : World) (y : Int) : Gro w (w.alloc (.cells #[.int .i64 y] 3)) 3 1 (.slice (some ⟨w.heap.size, 0, none⟩) 1 1) 1 (iv [y]) :=
  ⟨⟨rfl, .inr ⟨w.heap.size, 1, #[.int .i64 y], rfl, Nat.le_refl _, heap_alloc_new w _, Nat.le_refl _, by unfold maxLen; omega, rfl, rfl⟩⟩, Kept.alloc _ _⟩
theorem wpList_minA {P : Program} {W : World} {ops : Array Oper} {rest : List Oper} {o : Oper} {act : Act} {Q : Exit → Act → World → Prop} {ts : Array TypeId} (hgd : o.guard = none) (s t : Operand)
    (ho : o.op = .call { callee := .builtin .min, args := #[s, t], argTypes := ts }) (x y m : Int) (hs : act.eval s = .int .i64 x) (ht : act.eval t = .int .i64 y) (hm : m = if y < x then y else x)
    (h : wpList P ops Q rest (act.put o.dst (.int .i64 m)) W) : wpList P ops Q (o :: rest) act W := by
  refine wpList_plain hgd fun K hK => ?_
  have hr : ∀ ty, (Builtin.min_ ts ty #[.int .i64 x, .int .i64 y]).run P W = .ok (.int .i64 m) W := fun ty => by rw [hm]; simp [Builtin.min_, Builtin.min2]
  unfold Oper.wp execOp
  simp only [ho, resolve, invoke, builtin, Sem.run_bind, Sem.run_pure, Result.andThen_ok, List.map_toArray, List.map_cons, List.map_nil, hs, ht, hr]
  exact hK _ _ h
set_option maxRecDepth 20000 in
set_option maxHeartbeats 4000000 in
theorem fstart_any (s : ByteArray) (n : Int) (w : World) (h0 : 0 ≤ n) (h2 : n ≤ 2) : Calls Tryd.prog 60 #[.agg #[.string s, .int .i64 n]] w fun e w' => StP w w' e := by
  obtain ⟨m, hm⟩ : ∃ m : Int, m = if n < (s.size : Int) then n else (s.size : Int) := ⟨_, rfl⟩
  have hm0 : 0 ≤ m := by rw [hm]; split <;> omega
  have hm2 : m ≤ 2 := by rw [hm]; split <;> omega
  have HM := hideG hm
  obtain ⟨k, rfl⟩ : ∃ k : Nat, m = (k : Int) := ⟨m.toNat, by omega⟩
  have KB := hideG (Kept.alloc w (.cells #[.string s, .int .i64 n] 68))
  have HG0 := hideG ((gro_one (w.alloc (.cells #[.string s, .int .i64 n] 68)) 0).baseA KB.out)
  rw [World.size_alloc] at HG0
  clear hm
  go_enter Tryd.func60, Tryd.ntmps60
  go_wp2_with (refine wpList_minA rfl _ _ rfl (s.size : Int) n (k : Int) rfl rfl HM.out ?_)
  go_loopw [3, 13] (fun v iw wr => ∃ (i j : Nat) (a : Option Addr) (c : Nat) (L : List Int), i ≤ k + 1 ∧ j ≤ i + 1 ∧ iw = .int .i64 i ∧ v = .slice a j c ∧ Hid (Gro w wr 3 1 (.slice a j c) j (iv L))) (fun _ iw _ => k + 1 - (intOf iw).toNat)
  case atStart => exact ⟨0, 1, _, _, [0], by omega, by omega, rfl, rfl, HG0⟩
  case round =>
    obtain ⟨i, j, a, c, L, hi, hj, rfl, rfl, HG⟩ := hrel
    clear HG0 HM
    by_cases hlt : i < k + 1
    · have hii : (i : Int) < (k : Int) + 1 := by omega
      go_wp2_with (at_builtin; refine wpList_pushI rfl _ _ rfl _ j L (i : Int) rfl HG _ (by first | rfl | simp) rfl (by omega) ?_; clear HG; intro a1 c1 W1 G1)
      go_roundw
      case rel => exact ⟨i + 1, j + 1, a1, c1, L ++ [(i : Int)], by omega, by omega, by go_num, rfl, G1⟩
      case measure => simp [intOf]; omega
    · have hii : ¬ ((i : Int) < (k : Int) + 1) := by omega
      go_wp2
      go_ret
      exact ⟨⟨_, _, _, rfl⟩, HG.out.kept⟩
def PtP (w w' : World) (e : Ending) : Prop := (∃ b, e = .returned (.pointer (some ⟨b, 0, none⟩))) ∧ Kept (fun _ => False) w w'
theorem meth_exact (v : Value) (w : World) : (method 220 94 v "concord/auto.start").run Tryd.prog w = .ok (83, v) w := by kernel_rfl
theorem newAuto_exact (s : ByteArray) (w : World) : Calls Tryd.prog 27 #[.iface 94 (.agg #[.string s])] w fun e w' => PtP w w' e := by
  have CS := hideG (xstart_any s w)
  have M0 := meth_exact
  go_enter Tryd.func27, Tryd.ntmps27
  go_wp2_with (go_at_call 83; refine CS.out.mono ?_; clear CS; rintro e W ⟨⟨a, n, c, rfl⟩, K1⟩)
  go_ret
  exact ⟨⟨_, rfl⟩, K1.trans (Kept.alloc _ _) (fun _ f => f.elim)⟩
theorem meth_prefix (v : Value) (w : World) : (method 220 89 v "concord/auto.start").run Tryd.prog w = .ok (72, v) w := by kernel_rfl
theorem newAuto_prefix (s : ByteArray) (w : World) : Calls Tryd.prog 27 #[.iface 89 (.agg #[.string s])] w fun e w' => PtP w w' e := by
  have CS := hideG (pstart_any s w)
  have M0 := meth_prefix
  go_enter Tryd.func27, Tryd.ntmps27
  go_wp2_with (go_at_call 72; refine CS.out.mono ?_; clear CS; rintro e W ⟨⟨a, n, c, rfl⟩, K1⟩)
  go_ret
  exact ⟨⟨_, rfl⟩, K1.trans (Kept.alloc _ _) (fun _ f => f.elim)⟩
theorem meth_fuzzy (v : Value) (w : World) : (method 220 68 v "concord/auto.start").run Tryd.prog w = .ok (60, v) w := by kernel_rfl
theorem newAuto_fuzzy (s : ByteArray) (n : Int) (w : World) (h0 : 0 ≤ n) (h2 : n ≤ 2) : Calls Tryd.prog 27 #[.iface 68 (.agg #[.string s, .int .i64 n])] w fun e w' => PtP w w' e := by
  have CS := hideG (fstart_any s n w h0 h2)
  have M0 := meth_fuzzy
  go_enter Tryd.func27, Tryd.ntmps27
  go_wp2_with (go_at_call 60; refine CS.out.mono ?_; clear CS; rintro e W ⟨⟨a, n, c, rfl⟩, K1⟩)
  go_ret
  exact ⟨⟨_, rfl⟩, K1.trans (Kept.alloc _ _) (fun _ f => f.elim)⟩
theorem meth_span (v : Value) (w : World) : (method 220 92 v "concord/auto.start").run Tryd.prog w = .ok (77, v) w := by kernel_rfl
theorem newAuto_span (o i O I : Bool) (t T : ByteArray) (w : World) (ht : t.size ≤ 1099511627776) : Calls Tryd.prog 27 #[.iface 92 (.agg #[.bool o, .bool i, .string t, .bool O, .bool I, .string T])] w fun e w' => PtP w w' e := by
  have CS := hideG (sstart_any o i O I t T w ht)
  have M0 := meth_span
  go_enter Tryd.func27, Tryd.ntmps27
  go_wp2_with (go_at_call 77; refine CS.out.mono ?_; clear CS; rintro e W ⟨⟨a, n, c, rfl⟩, K1⟩)
  go_ret
  exact ⟨⟨_, rfl⟩, K1.trans (Kept.alloc _ _) (fun _ f => f.elim)⟩
theorem Exact_any (s : ByteArray) (w : World) (hs : s.size ≤ 281474976710656) : Calls Tryd.prog 34 #[.string s] w fun e w' => PtP w w' e := by
  have CC := hideG (clone_any s w hs)
  go_enter Tryd.func34, Tryd.ntmps34
  go_wp2_with (first
    | (go_at_call 28; refine CC.out.mono ?_; clear CC; rintro e W ⟨rfl, K1⟩)
    | (go_at_call 27; refine (newAuto_exact s W).mono ?_; rintro e W2 ⟨⟨b, rfl⟩, K2⟩))
  go_ret
  exact ⟨⟨_, rfl⟩, K1.trans K2 (fun _ f => f.elim)⟩
theorem Prefix_any (s : ByteArray) (w : World) (hs : s.size ≤ 281474976710656) : Calls Tryd.prog 32 #[.string s] w fun e w' => PtP w w' e := by
  have CC := hideG (clone_any s w hs)
  go_enter Tryd.func32, Tryd.ntmps32
  go_wp2_with (first
    | (go_at_call 28; refine CC.out.mono ?_; clear CC; rintro e W ⟨rfl, K1⟩)
    | (go_at_call 27; refine (newAuto_prefix s W).mono ?_; rintro e W2 ⟨⟨b, rfl⟩, K2⟩))
  go_ret
  exact ⟨⟨_, rfl⟩, K1.trans K2 (fun _ f => f.elim)⟩

set_option maxRecDepth 20000 in
theorem Fuzzy_bad (s : ByteArray) (n : Int) (pa : Addr) (w : World) (h : n < 0 ∨ 2 < n) (hP : w.cell? ⟨0, 0, none⟩ = some (.iface 97 (.pointer (some pa)))) : Calls Tryd.prog 15 #[.string s, .int .i64 n] w fun e w' => e = .returned (.tuple #[.pointer none, .iface 97 (.pointer (some pa))]) ∧ Kept (fun _ => False) w w' := by
  rcases h with h | h
  · have d1 : decide (n < 0) = true := decide_eq_true h
    go_enter Tryd.func15, Tryd.ntmps15
    go_wp2_with (go_quiet (fail))
    go_ret2
    exact ⟨rfl, Kept.drewA _ _⟩
  · have d0 : ¬ (n < 0) := by omega
    have d1 : decide (2 < n) = true := decide_eq_true h
    go_enter Tryd.func15, Tryd.ntmps15
    go_wp2_with (go_quiet (fail))
    go_ret2
    exact ⟨rfl, Kept.drewA _ _⟩
theorem Fuzzy_good (s : ByteArray) (n : Int) (w : World) (hs : s.size ≤ 281474976710656) (h0 : 0 ≤ n) (h2 : n ≤ 2) : Calls Tryd.prog 15 #[.string s, .int .i64 n] w fun e w' => (∃ b, e = .returned (.tuple #[.pointer (some ⟨b, 0, none⟩), .nilIface])) ∧ Kept (fun _ => False) w w' := by
  have CC := hideG (clone_any s w hs)
  have d0 : ¬ (n < 0) := by omega
  have d1 : ¬ (2 < n) := by omega
  go_enter Tryd.func15, Tryd.ntmps15
  go_wp2_with (first
    | (go_at_call 28; refine CC.out.mono ?_; clear CC; rintro e W ⟨rfl, K1⟩)
    | (go_at_call 27; refine (newAuto_fuzzy s n W h0 h2).mono ?_; rintro e W2 ⟨⟨b, rfl⟩, K2⟩))
  go_ret2
  exact ⟨⟨_, rfl⟩, K1.trans K2 (fun _ f => f.elim)⟩
end Go.Proofs.YtacmmclamkhpcaaDoor
