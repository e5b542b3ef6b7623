import Derived.Test.YtnjilldachkbpaaCrw
import Derived.Laws.Rows
import Derived.Laws.Tables
import Derived.Deep.WholeRow
import Derived.BigRegion
import Derived.Deep.RegionWith
import Derived.OrdersHeld
import Derived.BigQuiet
namespace Go.Proofs.Ytnjilldachkbpaa
open Go.ChangeShapes Go.WideShapes Go.ChangeAt Go.RowKit

theorem rstep_any (P reg c : Nat) (hP : P < 4294967296) (hr : reg < 4294967296) (hc : c < 256) (w : World) :
    Calls Try.prog 7 #[.int .u32 reg, .int .u8 c, .int .u32 P] w fun e w' => e = .returned (.int .u32 (cxn P 8 (reg ^^^ c) : Nat)) ∧ w' = w := by
  have hx := xor_u32 reg c hr (by omega)
  have hs := xor_lt32 hr (show c < 4294967296 by omega)
  obtain ⟨s, hS⟩ : ∃ s, s = reg ^^^ c := ⟨_, rfl⟩
  rw [← hS] at hs hx ⊢
  clear hS
  go_enter Try.func7, Try.ntmps7
  go_wp2
  go_loop [0, 7] (fun x i => ∃ k : Nat, k ≤ 8 ∧ i = .int .i64 k ∧ x = .int .u32 (cxn P k s : Nat)) (fun _ i => 8 - (intOf i).toNat)
  case atStart => exact ⟨0, Nat.zero_le _, rfl, rfl⟩
  case round =>
    obtain ⟨k, hk, rfl, rfl⟩ := hrel
    have hy := cxn_lt hP k hs
    have hst : cxn P (k + 1) s = cx P (cxn P k s) := by rw [cxn]
    by_cases hlt : k < 8
    · obtain ⟨x, hX⟩ : ∃ x, x = cxn P k s := ⟨_, rfl⟩
      rw [← hX] at hst hy ⊢
      have h1 := and1_u32 x hy
      have h2 : bits .xor .u32 ((x : Int) / 2) (P : Int) = ((x / 2 ^^^ P : Nat) : Int) := xor_u32 (x / 2) P (by omega) hP
      by_cases hb : x % 2 = 1
      · rw [cx, if_pos hb] at hst
        rw [hb] at h1
        have HS := hideC hst
        clear hst hX
        go_wp2
        go_round
        case rel => exact ⟨k + 1, by omega, by go_num, by rw [HS.out, ← h2]⟩
        case measure => simp [intOf]; omega
      · have hb0 : x % 2 = 0 := by omega
        rw [cx, if_neg hb] at hst
        rw [hb0] at h1
        have HS := hideC hst
        clear hst hX h2
        go_wp2
        go_round
        case rel => exact ⟨k + 1, by omega, by go_num, by rw [HS.out]; go_num⟩
        case measure => simp [intOf]; omega
    · obtain rfl : k = 8 := by omega
      clear hlt hk hst hy
      go_wp2
      go_ret
      exact ⟨rfl, rfl⟩
theorem Kept.drewN (w : World) (n : Nat) : Kept (fun _ => False) w (w.drewN n) := ⟨rfl, rfl, rfl, Nat.le_refl _, fun _ _ _ => rfl⟩
/-- The words of a map of registers: what each single bit becomes behind e steps. -/
structure LinArr (C : Array Value) (e : Nat) : Prop where
  size : C.size = 32
  word : ∀ k, k < 32 → C[k]? = some (.int .u32 (cxn pS e (2 ^ k) : Nat))
theorem mod_bit (a k : Nat) : a % 2 ^ (k + 1) = (a % 2 ^ k) ^^^ (if a.testBit k = true then 2 ^ k else 0) := by
  apply Nat.eq_of_testBit_eq
  intro i
  rw [Nat.testBit_xor, Nat.testBit_mod_two_pow, Nat.testBit_mod_two_pow]
  by_cases hb : a.testBit k = true
  · rw [if_pos hb, Nat.testBit_two_pow]
    by_cases h1 : i < k
    · simp [h1, show i < k + 1 by omega, show ¬ k = i by omega]
    · by_cases h2 : i = k
      · subst h2; simp [hb]
      · simp [h1, show ¬ i < k + 1 by omega, show ¬ k = i by omega]
  · rw [if_neg hb]
    have hb' : a.testBit k = false := by simpa using hb
    by_cases h1 : i < k
    · simp [h1, show i < k + 1 by omega]
    · by_cases h2 : i = k
      · subst h2; simp [hb']
      · simp [h1, show ¬ i < k + 1 by omega]
theorem lin_step (e a k : Nat) : cxn pS e (a % 2 ^ (k + 1)) = cxn pS e (a % 2 ^ k) ^^^ (if a.testBit k = true then cxn pS e (2 ^ k) else 0) := by
  rw [mod_bit, cxn_xor]
  by_cases hb : a.testBit k = true
  · rw [if_pos hb, if_pos hb]
  · rw [if_neg hb, if_neg hb, cxn_zero]
theorem bit_div (a k : Nat) : a / 2 ^ k % 2 = if a.testBit k = true then 1 else 0 := by
  rw [Nat.testBit_eq_decide_div_mod_eq]
  have := Nat.mod_two_eq_zero_or_one (a / 2 ^ k)
  by_cases h : a / 2 ^ k % 2 = 1
  · simp [h]
  · simp [h]; omega
set_option maxRecDepth 20000 in
set_option maxHeartbeats 1000000 in
theorem at_any (C : Array Value) (e a : Nat) (w : World) (hC : LinArr C e) (ha : a < 4294967296) :
    Calls Try.prog 8 #[.agg C, .int .u32 a] w fun r w' => r = .returned (.int .u32 (cxn pS e a : Nat)) ∧ Kept (fun _ => False) w w' := by
  have hcell : ∀ k, k < 32 → (w.alloc (.cells C 28)).cell? ⟨w.heap.size, k, none⟩ = some (.int .u32 (cxn pS e (2 ^ k) : Nat)) := fun k hk => (cell_of_row _ _ k _ _ _ (heap_alloc_new w _)).trans (hC.word k hk)
  have hlast : a % 2 ^ 32 = a := Nat.mod_eq_of_lt ha
  have HC := hideC hcell
  clear hcell hC
  go_enter Try.func8, Try.ntmps8
  go_wp2
  go_loop [5, 6] (fun x i => ∃ k : Nat, k ≤ 32 ∧ i = .int .i64 k ∧ x = .int .u32 (cxn pS e (a % 2 ^ k) : Nat)) (fun _ i => 32 - (intOf i).toNat)
  case atStart =>
    refine ⟨0, Nat.zero_le _, rfl, ?_⟩
    rw [Nat.pow_zero, Nat.mod_one, cxn_zero]
    rfl
  case round =>
    obtain ⟨k, hk, rfl, rfl⟩ := hrel
    by_cases hlt : k < 32
    · have h1 := lin_step e a k
      have h2 := bit_div a k
      have hy := cxn_lt pS_lt e (q := 2 ^ k) (Nat.lt_of_lt_of_le (Nat.pow_lt_pow_right (by decide) hlt) (by decide))
      have hx := cxn_lt pS_lt e (q := a % 2 ^ k) (Nat.lt_of_le_of_lt (Nat.mod_le _ _) ha)
      have hc := HC.out k hlt
      obtain ⟨y, hY⟩ : ∃ y, y = cxn pS e (2 ^ k) := ⟨_, rfl⟩
      obtain ⟨x, hX⟩ : ∃ x, x = cxn pS e (a % 2 ^ k) := ⟨_, rfl⟩
      rw [← hX, ← hY] at h1
      rw [← hY] at hy hc
      rw [← hX] at hx ⊢
      have h3 := xor_u32 x y hx hy
      obtain ⟨q, hq⟩ : ∃ q, q = a / 2 ^ k := ⟨_, rfl⟩
      rw [← hq] at h2
      have hq32 : q < 4294967296 := by rw [hq]; exact Nat.lt_of_le_of_lt (Nat.div_le_self _ _) ha
      have h4 := and1_u32 q hq32
      have hqi : (a : Int) / 2 ^ k = (q : Int) := by rw [hq]; push_cast; rfl
      have H1 := hideC h1
      clear HC hX hY hq
      by_cases hb : a.testBit k = true
      · rw [if_pos hb] at h2 H1
        rw [h2] at h4
        go_wp2
        go_round
        case rel => exact ⟨k + 1, by omega, by go_num, by rw [H1.out, ← h3]⟩
        case measure => simp [intOf]; omega
      · rw [if_neg hb] at h2 H1
        rw [h2] at h4
        go_wp2
        go_round
        case rel => exact ⟨k + 1, by omega, by go_num, by rw [H1.out, Nat.xor_zero]⟩
        case measure => simp [intOf]; omega
    · obtain rfl : k = 32 := by omega
      rw [hlast]
      clear HC
      go_wp2
      go_ret
      exact ⟨rfl, Kept.alloc _ _⟩
/-- What lies there while a map is done twice. -/
structure Tw (w W : World) (C T : Array Value) (e k : Nat) : Prop where
  b1 : W.heap[w.heap.size]? = some (.cells C 28 (0, 0))
  b2 : ∃ Z : Array Value, Z.size = 32 ∧ W.heap[w.heap.size + 1]? = some (.cells Z 28 (0, 0))
  b3 : W.heap[w.heap.size + 1 + 1]? = some (.cells T 28 (0, 0))
  size : T.size = 32
  all : T.all (·.oneCell') = true
  done : ∀ j, j < k → T[j]? = some (.int .u32 (cxn pS (2 * e) (2 ^ j) : Nat))
  kept : Kept (fun _ => False) w W
theorem Try.uLin : ∃ n t, Try.prog.underlying 28 = some (.array n t) := ⟨_, _, Try.underlying28⟩
theorem Try.sLin : (Try.prog.info? 28).map (·.size) = some 32 := by kernel_rfl
theorem exec_load_row {ρ : Operand → Value} {o : Oper} {W : World} {g n : Nat} {C : Array Value} {ty t e : TypeId} {x : Operand} (ho : o.op = .load ty x) (hx : ρ x = .pointer (some ⟨g, 0, none⟩)) (hW : W.heap[g]? = some (.cells C t (0, 0))) (hu : Try.prog.underlying ty = some (.array n e)) (hi : (Try.prog.info? ty).map (·.size) = some C.size) : (execOp ρ o).run Try.prog W = .ok (.value (.agg C)) W := by
  have h := run_loadVar_row (P := Try.prog) W g t ty C (0, 0) (.array n e) hW hu rfl hi
  unfold execOp
  simp only [ho, hx, Instr.loadAt, Instr.sureAddr, Sem.run_bind, Sem.run_pure, Result.andThen_ok, h]
theorem lin_all {C : Array Value} {e : Nat} (h : LinArr C e) : C.all (·.oneCell') = true := by
  rw [Array.all_eq_true]
  intro i hi
  have h1 := h.word i (by have := h.size; omega)
  rw [Array.getElem?_eq_getElem hi] at h1
  obtain h1 := Option.some.inj h1
  rw [h1]
  rfl
theorem tw_start (w : World) (C : Array Value) (e : Nat) : Tw w (((w.alloc (.cells C 28)).alloc (.cells (Array.replicate 32 (.int .u32 0)) 28)).alloc (.cells (Array.replicate 32 (.int .u32 0)) 28)) C (Array.replicate 32 (.int .u32 0)) e 0 := by
  obtain ⟨Z, hZ⟩ : ∃ Z : Array Value, Z = Array.replicate 32 (.int .u32 0) := ⟨_, rfl⟩
  have hZs : Z.size = 32 := by rw [hZ]; simp
  have hZa : Z.all (·.oneCell') = true := by rw [hZ]; decide +kernel
  rw [← hZ]
  have e1 : (w.alloc (.cells C 28)).heap.size = w.heap.size + 1 := by simp
  have e2 : ((w.alloc (.cells C 28)).alloc (.cells Z 28)).heap.size = w.heap.size + 1 + 1 := by simp
  have k1 := Kept.alloc w (.cells C 28)
  have k2 := Kept.alloc (w.alloc (.cells C 28)) (.cells Z 28)
  have k3 := Kept.alloc ((w.alloc (.cells C 28)).alloc (.cells Z 28)) (.cells Z 28)
  have h1 := heap_alloc_new w (.cells C 28)
  have h2 := heap_alloc_new (w.alloc (.cells C 28)) (.cells Z 28)
  have h3 := heap_alloc_new ((w.alloc (.cells C 28)).alloc (.cells Z 28)) (.cells Z 28)
  rw [e1] at h2
  rw [e2] at h3
  exact ⟨k3.heap (k2.heap h1 (fun f => f)) (fun f => f), ⟨Z, hZs, k3.heap h2 (fun f => f)⟩, h3, hZs, hZa, fun j hj => by omega, (k1.trans k2 (fun _ f => f.elim)).trans k3 (fun _ f => f.elim)⟩
theorem Tw.same {w W W' : World} {C T : Array Value} {e k : Nat} (h : Tw w W C T e k) (q : Kept (fun _ => False) W W') : Tw w W' C T e k := by
  obtain ⟨Z, z1, z2⟩ := h.b2
  exact ⟨q.heap h.b1 (fun f => f), ⟨Z, z1, q.heap z2 (fun f => f)⟩, q.heap h.b3 (fun f => f), h.size, h.all, h.done, h.kept.trans q (fun _ f => f.elim)⟩
theorem Tw.put {w W : World} {C T : Array Value} {e k : Nat} (h : Tw w W C T e k) (hk : k < 32) : ∃ T', Tw w (W.setCell ⟨w.heap.size + 1 + 1, k, none⟩ (.int .u32 (cxn pS (2 * e) (2 ^ k) : Nat))) C T' e (k + 1) := by
  have hs := heap_setCell_same W (w.heap.size + 1 + 1) k T _ (.int .u32 (cxn pS (2 * e) (2 ^ k) : Nat)) h.b3
  have ks := Kept.setCell W ⟨w.heap.size + 1 + 1, k, none⟩ (.int .u32 (cxn pS (2 * e) (2 ^ k) : Nat))
  obtain ⟨Z, z1, z2⟩ := h.b2
  refine ⟨_, ks.heap h.b1 (by simp only; omega), ⟨Z, z1, ks.heap z2 (by simp only; omega)⟩, hs, ?_, ?_, fun j hj => ?_, h.kept.trans ks (fun i f => .inr (by simp only at f; omega))⟩
  · simp [h.size]
  · rw [Array.all_eq_true]
    intro i hi
    have hT := Array.all_eq_true.1 h.all
    have hi' : i < T.size := by simpa using hi
    by_cases hik : k = i
    · subst hik
      simp [Value.oneCell']
    · have := hT i hi'
      rw [Array.getElem_setIfInBounds_ne hi' hik]
      exact this
  · by_cases hjk : j = k
    · subst hjk
      rw [Array.getElem?_setIfInBounds_self]
      rw [if_pos (by rw [h.size]; exact hk)]
    · rw [Array.getElem?_setIfInBounds_ne (fun e => hjk e.symm)]
      exact h.done j (by omega)
set_option maxRecDepth 20000 in
set_option maxHeartbeats 8000000 in
theorem twice_any (C : Array Value) (e : Nat) (w : World) (hC : LinArr C e) :
    Calls Try.prog 9 #[.agg C] w fun r w' => ∃ C', r = .returned (.agg C') ∧ LinArr C' (2 * e) ∧ Kept (fun _ => False) w w' := by
  have HC := hideC hC
  clear hC
  go_enter Try.func9, Try.ntmps9
  go_wp2
  go_loopw [4] (fun i wr => ∃ (k : Nat) (T : Array Value), k ≤ 32 ∧ i = .int .i64 k ∧ Hid (Tw w wr C T e k)) (fun i _ => 32 - (intOf i).toNat)
  case atStart => exact ⟨0, Array.replicate 32 (.int .u32 0), Nat.zero_le _, rfl, tw_start w C e⟩
  case round =>
    obtain ⟨k, T, hk, rfl, HT⟩ := hrel
    by_cases hlt : k < 32
    · have hy := cxn_lt pS_lt e (q := 2 ^ k) (Nat.lt_of_lt_of_le (Nat.pow_lt_pow_right (by decide) hlt) (by decide))
      have c1 : wr.cell? ⟨w.heap.size, k, none⟩ = some (.int .u32 (cxn pS e (2 ^ k) : Nat)) := (cell_of_row _ _ k _ _ _ HT.out.b1).trans (HC.out.word k hlt)
      have AT : Hid (∀ j, Calls Try.prog 8 #[.agg C, .int .u32 (cxn pS e (2 ^ k) : Nat)] (wr.drewN j) fun r W' => r = .returned (.int .u32 (cxn pS (2 * e) (2 ^ k) : Nat)) ∧ (∃ v, W'.cell? ⟨w.heap.size + 1 + 1, k, none⟩ = some v) ∧ W'.frozen? ⟨w.heap.size + 1 + 1, k, none⟩ = false ∧ Hid (Tw w W' C T e k)) := by
        intro j
        refine (at_any C e _ (wr.drewN j) HC.out hy).mono ?_
        rintro r W' ⟨rfl, q⟩
        have hT := (HT.out.same (Kept.drewN wr j)).same q
        refine ⟨?_, ⟨T[k]'(by rw [hT.size]; exact hlt), ?_⟩, ?_, hT⟩
        · rw [← cxn_add, show e + e = 2 * e by omega]
        · rw [cell_of_row _ _ k _ _ _ hT.b3]
          exact Array.getElem?_eq_getElem _
        · simp [World.frozen?, hT.b3]
      have PT : Hid (∀ W', Hid (Tw w W' C T e k) → ∃ T', Hid (Tw w (W'.setCell ⟨w.heap.size + 1 + 1, k, none⟩ (.int .u32 (cxn pS (2 * e) (2 ^ k) : Nat))) C T' e (k + 1))) := fun W' h => h.out.put hlt
      generalize cxn pS (2 * e) (2 ^ k) = z at AT PT
      generalize cxn pS e (2 ^ k) = y at AT c1 hy
      have i1 : (k : Int) < 32 := by omega
      have i2 : (0 : Int) ≤ (k : Int) := by omega
      have hsz : (Try.prog.info? 28).map (·.size) = some C.size := by rw [HC.out.size]; exact Try.sLin
      have hS : wr.drew.heap[w.heap.size]? = some (.cells C 28 (0, 0)) := (Kept.drewN wr 1).heap HT.out.b1 (fun f => f)
      have hSc : ∀ W : World, W.heap[w.heap.size]? = some (.cells C 28 (0, 0)) → W.cell? ⟨w.heap.size, k, none⟩ = some (.int .u32 (y : Nat)) := by
        intro W hW
        have := cell_of_row _ _ k _ _ _ hW
        rw [this, ← cell_of_row _ _ k _ _ _ HT.out.b1]
        exact c1
      clear HC
      go_wp2
      refine wp_region_held (S := fun W => W.heap[w.heap.size]? = some (.cells C 28 (0, 0))) (by kernel_rfl) ?_
      change wpAnyH _ _ _ _ _ _ _ _ (World.drew _)
      refine wpAnyH_take (i := 1) (v := .agg C) rfl (by kernel_rfl) (by kernel_rfl) (by kernel_rfl) (fun _ _ _ h => h) (Or.inl ⟨by rfl, fun W hW => ?_⟩) hS ?_
      · exact exec_load_row rfl rfl hW Try.underlying28 hsz
      refine wpAnyH_take (i := 0) (v := .int .i64 k) rfl (by kernel_rfl) (by kernel_rfl) (by kernel_rfl) (fun _ _ _ h => h) (Or.inl ⟨by rfl, fun W hW => ?_⟩) hS ?_
      · go_simp
      refine wpAnyH_take (i := 2) (v := .int .i64 k) rfl (by kernel_rfl) (by kernel_rfl) (by kernel_rfl) (fun _ _ _ h => h) (Or.inl ⟨by rfl, fun W hW => ?_⟩) hS ?_
      · go_simp
      refine wpAnyH_take (i := 3) (v := .pointer (some ⟨w.heap.size, k, none⟩)) rfl (by kernel_rfl) (by kernel_rfl) (by kernel_rfl) (fun _ _ _ h => h) (Or.inl ⟨by rfl, fun W hW => ?_⟩) hS ?_
      · go_simp
      refine wpAnyH_take (i := 4) (v := .int .u32 (y : Nat)) rfl (by kernel_rfl) (by kernel_rfl) (by kernel_rfl) (fun _ _ _ h => h) (Or.inl ⟨by rfl, fun W hW => ?_⟩) hS ?_
      · have hc := hSc W hW
        go_simp
      refine wpAnyH_all (rs := [5]) (by kernel_rfl) (by simp) ?_
      intro i hi
      obtain rfl : i = 5 := by simpa using hi
      have AT1 := hideC (AT.out 1)
      unfold wpOp
      go_simp
      first | refine AT1.out.mono ?_ | refine Or.inl (AT1.out.mono ?_)
      clear AT1
      rintro r W5 ⟨rfl, ⟨v5, x5⟩, y5, K5⟩
      refine ⟨K5.out.b1, ?_⟩
      obtain ⟨T', HT'⟩ := PT.out W5 K5
      refine wpAnyH_take (i := 6) (v := .pointer (some ⟨w.heap.size + 1 + 1, k, none⟩)) rfl (by kernel_rfl) (by kernel_rfl) (by kernel_rfl) (fun _ _ _ h => h) (Or.inl ⟨by rfl, fun W hW => ?_⟩) K5.out.b1 ?_
      · go_simp
      refine wpAnyH_all (rs := [7]) (by kernel_rfl) (by simp) ?_
      intro i hi
      obtain rfl : i = 7 := by simpa using hi
      unfold wpOp
      go_simp
      refine Or.inl ⟨HT'.out.b1, ?_⟩
      refine wpAnyH_done (by kernel_rfl) ?_ _
      go_wp2
      go_roundw
      case rel => exact ⟨k + 1, T', by omega, by go_num, HT'⟩
      case measure => simp [intOf]; omega
    · obtain rfl : k = 32 := by omega
      clear HC
      obtain ⟨Z, z1, z2⟩ := HT.out.b2
      have hb3 := HT.out.b3
      have hfin : Hid (∀ W', W' = wr.setRow (w.heap.size + 1) T → W'.heap[w.heap.size + 1]? = some (.cells T 28 (0, 0)) ∧ LinArr T (2 * e) ∧ Kept (fun _ => False) w W') := by
        rintro W' rfl
        refine ⟨?_, ⟨HT.out.size, HT.out.done⟩, ?_⟩
        · simp [World.setRow, Array.getElem?_modify, z2]
        · refine HT.out.kept.trans ⟨rfl, rfl, rfl, by simp [World.setRow], fun i hi hF => ?_⟩ (G := fun i => i = w.heap.size + 1) (fun i e => .inr (by omega))
          simp only [World.setRow]
          rw [Array.getElem?_modify, if_neg (fun e => hF e.symm)]
      have hsz : (Try.prog.info? 28).map (·.size) = some T.size := by rw [HT.out.size]; exact Try.sLin
      have hzs : Z.size = T.size := by rw [HT.out.size, z1]
      have hTa := HT.out.all
      go_wp2_with (first
        | (refine wpList_load_row rfl 28 _ rfl (w.heap.size + 1 + 1) rfl 28 T (0, 0) _ hb3 Try.underlying28 rfl hsz ?_)
        | (refine wpList_store_row rfl 28 _ _ rfl (w.heap.size + 1) T rfl rfl 28 Z z2 hsz hzs hTa ?_))
      obtain ⟨f1, f2, f3⟩ := hfin.out _ rfl
      refine bodyPost_ret (results_cell_row rfl _ _ (w.heap.size + 1) 28 T (0, 0) _ rfl f1 Try.underlying28 rfl hsz) rfl ?_
      exact ⟨T, rfl, f2, f3⟩
/-- The map at its block, in a world that keeps the first one. -/
structure Jw (w W : World) (T : Array Value) : Prop where
  b : W.heap[w.heap.size]? = some (.cells T 28 (0, 0))
  kept : Kept (fun _ => False) w W
theorem Jw.same {w W W' : World} {T : Array Value} (h : Jw w W T) (q : Kept (fun _ => False) W W') : Jw w W' T := ⟨q.heap h.b (fun f => f), h.kept.trans q (fun _ f => f.elim)⟩
theorem Jw.row {w W : World} {T : Array Value} (h : Jw w W T) (C : Array Value) : Jw w (W.setRow w.heap.size C) C := by
  refine ⟨by simp [World.setRow, Array.getElem?_modify, h.b], ?_⟩
  refine h.kept.trans ⟨rfl, rfl, rfl, by simp [World.setRow], fun i hi hF => ?_⟩ (G := fun i => i = w.heap.size) (fun i e => .inr (by omega))
  simp only [World.setRow]
  rw [Array.getElem?_modify, if_neg (fun e => hF e.symm)]
/-- The first k words are laid. -/
structure Jf (w W : World) (T : Array Value) (k : Nat) : Prop where
  j : Jw w W T
  size : T.size = 32
  done : ∀ i, i < k → T[i]? = some (.int .u32 (cxn pS 8 (2 ^ i) : Nat))
theorem Jf.put {w W : World} {T : Array Value} {k : Nat} (h : Jf w W T k) (hk : k < 32) : ∃ T', Jf w (W.setCell ⟨w.heap.size, k, none⟩ (.int .u32 (cxn pS 8 (2 ^ k) : Nat))) T' (k + 1) := by
  have hs := heap_setCell_same W w.heap.size k T _ (.int .u32 (cxn pS 8 (2 ^ k) : Nat)) h.j.b
  have ks := Kept.setCell W ⟨w.heap.size, k, none⟩ (.int .u32 (cxn pS 8 (2 ^ k) : Nat))
  refine ⟨_, ⟨hs, h.j.kept.trans ks (fun i f => .inr (by simp only at f; omega))⟩, by simp [h.size], fun i hi => ?_⟩
  by_cases hik : i = k
  · subst hik
    rw [Array.getElem?_setIfInBounds_self]
    rw [if_pos (by rw [h.size]; exact hk)]
  · rw [Array.getElem?_setIfInBounds_ne (fun e => hik e.symm)]
    exact h.done i (by omega)
theorem jf_start (w : World) : Jf w (w.alloc (.cells (Array.replicate 32 (.int .u32 0)) 28)) (Array.replicate 32 (.int .u32 0)) 0 :=
  ⟨⟨heap_alloc_new w _, Kept.alloc w _⟩, by simp, fun i hi => by omega⟩
set_option maxRecDepth 20000 in
set_option maxHeartbeats 8000000 in
theorem rjoin_any (a b : Nat) (n : Int) (ha : a < 4294967296) (hb : b < 4294967296) (hn : n ≤ 9223372036854775807) (w : World) :
    Calls Try.prog 5 #[.int .u32 a, .int .u32 b, .int .i64 n] w fun e w' => e = .returned (.int .u32 (joined a b n : Nat)) ∧ Kept (fun _ => False) w w' := by
  obtain ⟨N, hN⟩ : ∃ N, N = n.toNat := ⟨_, rfl⟩
  have hJ : joined a b n = cxn pS (8 * N) a ^^^ b := by unfold joined zeros; rw [hN]
  rw [hJ]
  have HN := hideC hN
  clear hJ hN
  go_enter Try.func5, Try.ntmps5
  go_wp2
  go_loopw [8] (fun i wr => ∃ (k : Nat) (T : Array Value), k ≤ 32 ∧ i = .int .i64 k ∧ Hid (Jf w wr T k)) (fun i _ => 32 - (intOf i).toNat)
  case atStart => exact ⟨0, Array.replicate 32 (.int .u32 0), Nat.zero_le _, rfl, jf_start w⟩
  case round =>
    obtain ⟨k, T, hk, rfl, HT⟩ := hrel
    by_cases hlt : k < 32
    · have h2k : 2 ^ k < 4294967296 := Nat.lt_of_lt_of_le (Nat.pow_lt_pow_right (by decide) hlt) (by decide)
      have ST : Hid (Calls Try.prog 7 #[.int .u32 (2 ^ k : Nat), .int .u8 0, .int .u32 3988292384] wr fun e w' => e = .returned (.int .u32 (cxn pS 8 (2 ^ k) : Nat)) ∧ w' = wr) := by
        have r := rstep_any pS (2 ^ k) 0 pS_lt h2k (by decide) wr
        rw [Nat.xor_zero] at r
        exact r
      obtain ⟨T', HT'⟩ := HT.out.put hlt
      have HT' := hideC HT'
      have c1 : wr.cell? ⟨w.heap.size, k, none⟩ = some (T[k]'(by rw [HT.out.size]; exact hlt)) := (cell_of_row _ _ k _ _ _ HT.out.j.b).trans (Array.getElem?_eq_getElem _)
      have f1 : wr.frozen? ⟨w.heap.size, k, none⟩ = false := by simp [World.frozen?, HT.out.j.b]
      generalize T[k]'(by rw [HT.out.size]; exact hlt) = t0 at c1
      generalize cxn pS 8 (2 ^ k) = z at ST HT'
      obtain ⟨p, hp⟩ : ∃ p, p = 2 ^ k := ⟨_, rfl⟩
      rw [← hp] at ST h2k
      have hpI : (2 : Int) ^ k = (p : Int) := by rw [hp]; push_cast; rfl
      have hpw : IntKind.u32.wrap (p : Int) = (p : Int) := by rw [IntKind.wrap_u32]; omega
      have i1 : (k : Int) < 32 := by omega
      have i2 : (0 : Int) ≤ (k : Int) := by omega
      clear HT hp
      go_wp2_with (go_at_call 7; refine ST.out.mono ?_; rintro e W5 ⟨rfl, e5⟩; subst e5)
      go_roundw
      case rel => exact ⟨k + 1, T', by omega, by go_num, HT'⟩
      case measure => simp [intOf]; omega
    · obtain rfl : k = 32 := by omega
      have hL0 : LinArr T 8 := ⟨HT.out.size, HT.out.done⟩
      have hJ0 := HT.out.j
      clear HT hlt hk
      have z32 : ((32 : Nat) : Int) = 32 := rfl
      rw [z32]
      go_wp2
      go_loopw [0, 2] (fun av nv wr => ∃ (ai e : Nat) (ni : Int) (C : Array Value), ai < 4294967296 ∧ ni ≤ 9223372036854775807 ∧ av = .int .u32 ai ∧ nv = .int .i64 ni ∧ Hid (LinArr C e) ∧ Hid (Jw w wr C) ∧ Hid (cxn pS (e * ni.toNat) ai = cxn pS (8 * N) a)) (fun _ nv _ => (intOf nv).toNat)
      case atStart => exact ⟨a, 8, n, T, ha, hn, rfl, rfl, hL0, hJ0, by show cxn pS (8 * n.toNat) a = _; rw [HN.out]⟩
      case round =>
        obtain ⟨ai, e, ni, C, hai, hni, rfl, rfl, HL, HJ, HR⟩ := hrel
        clear hL0 hJ0
        by_cases hpos : 0 < ni
        · obtain ⟨m, rfl⟩ : ∃ m : Nat, ni = m := ⟨ni.toNat, by omega⟩
          have hsz : (Try.prog.info? 28).map (·.size) = some C.size := by rw [HL.out.size]; exact Try.sLin
          have hb0 := HJ.out.b
          have AT : Hid (Calls Try.prog 8 #[.agg C, .int .u32 ai] wr fun r W' => r = .returned (.int .u32 (cxn pS e ai : Nat)) ∧ W'.heap[w.heap.size]? = some (.cells C 28 (0, 0)) ∧ Hid (Jw w W' C)) := by
            refine (at_any C e ai wr HL.out hai).mono ?_
            rintro r W' ⟨rfl, q⟩
            have h := HJ.out.same q
            exact ⟨rfl, h.b, h⟩
          have TW : Hid (∀ W, Hid (Jw w W C) → Calls Try.prog 9 #[.agg C] W fun r W' => ∃ C', r = .returned (.agg C') ∧ ((Try.prog.info? 28).map (·.size) = some C'.size ∧ C.size = C'.size ∧ C'.all (·.oneCell') = true ∧ W'.heap[w.heap.size]? = some (.cells C 28 (0, 0))) ∧ Hid (LinArr C' (2 * e) ∧ Jw w W' C)) := by
            intro W q
            refine (twice_any C e W HL.out).mono ?_
            rintro r W' ⟨C', rfl, h1, h2⟩
            have h := q.out.same h2
            exact ⟨C', rfl, ⟨by rw [h1.size]; exact Try.sLin, by rw [HL.out.size, h1.size], lin_all h1, h.b⟩, h1, h⟩
          have hz := cxn_lt pS_lt e hai
          by_cases hodd : m % 2 = 1
          · have HR2 : Hid (cxn pS (2 * e * (m / 2)) (cxn pS e ai) = cxn pS (8 * N) a) := by
              show cxn pS (2 * e * (m / 2)) (cxn pS e ai) = _
              rw [← HR.out, ← cxn_add]
              congr 1
              show 2 * e * (m / 2) + e = e * ((m : Int)).toNat
              rw [Int.toNat_natCast]
              have h1 : m = 2 * (m / 2) + 1 := by omega
              conv => rhs; rw [h1]
              rw [Nat.mul_add, Nat.mul_one, Nat.mul_comm 2 e, Nat.mul_assoc]
            generalize cxn pS e ai = z at AT HR2 hz
            have o1 : (m : Int) % 2 = 1 := by omega
            clear HR HL
            go_wp2_with (first
              | (refine wpList_load_row rfl 28 _ rfl w.heap.size rfl 28 C (0, 0) _ hb0 Try.underlying28 rfl hsz ?_)
              | (go_at_call 8; refine AT.out.mono ?_; clear AT hb0; rintro e5 W5 ⟨rfl, hb0, K5⟩)
              | (go_at_call 9; refine (TW.out _ K5).mono ?_; rintro e6 W6 ⟨C6, rfl, ⟨s1, s2, s3, s4⟩, K6⟩)
              | (refine wpList_store_row rfl 28 _ _ rfl w.heap.size C6 rfl rfl 28 C s4 s1 s2 s3 ?_))
            go_roundw
            case rel => exact ⟨z, 2 * e, ((m / 2 : Nat) : Int), C6, hz, by omega, rfl, by go_num, K6.out.1, K6.out.2.row C6, by show cxn pS (2 * e * ((m / 2 : Nat) : Int).toNat) z = _; rw [Int.toNat_natCast]; exact HR2.out⟩
            case measure => simp [intOf]; omega
          · have HR2 : Hid (cxn pS (2 * e * (m / 2)) ai = cxn pS (8 * N) a) := by
              show cxn pS (2 * e * (m / 2)) ai = _
              rw [← HR.out]
              congr 1
              show 2 * e * (m / 2) = e * ((m : Int)).toNat
              rw [Int.toNat_natCast]
              have h1 : m = 2 * (m / 2) := by omega
              conv => rhs; rw [h1]
              rw [Nat.mul_comm 2 e, Nat.mul_assoc]
            have o1 : (m : Int) % 2 = 0 := by omega
            have TW2 := hideC (TW.out wr HJ)
            clear HR HL AT TW
            go_wp2_with (first
              | (refine wpList_load_row rfl 28 _ rfl w.heap.size rfl 28 C (0, 0) _ hb0 Try.underlying28 rfl hsz ?_)
              | (go_at_call 9; refine TW2.out.mono ?_; clear TW2; rintro e6 W6 ⟨C6, rfl, ⟨s1, s2, s3, s4⟩, K6⟩)
              | (refine wpList_store_row rfl 28 _ _ rfl w.heap.size C6 rfl rfl 28 C s4 s1 s2 s3 ?_))
            go_roundw
            case rel => exact ⟨ai, 2 * e, ((m / 2 : Nat) : Int), C6, hai, by omega, rfl, by go_num, K6.out.1, K6.out.2.row C6, by show cxn pS (2 * e * ((m / 2 : Nat) : Int).toNat) ai = _; rw [Int.toNat_natCast]; exact HR2.out⟩
            case measure => simp [intOf]; omega
        · have hfin : Hid (ai = cxn pS (8 * N) a) := by
            have h := HR.out
            rw [show ni.toNat = 0 by omega, Nat.mul_zero] at h
            exact h
          have hx := xor_u32 ai b hai hb
          have KJ := hideC HJ.out.kept
          have HX := hideC hx
          clear HR HL HJ hx
          go_wp2
          go_ret
          refine ⟨?_, KJ.out⟩
          rw [← hfin.out, ← HX.out]
          rfl
set_option maxHeartbeats 1000000 in
theorem joins_walk (a b : Nat) (n : Int) (ha : a < 4294967296) (hb : b < 4294967296) (hn : n ≤ 9223372036854775807) (w : World) :
    Calls Try.prog 3 #[.int .u32 a, .int .u32 b, .int .i64 n] w fun e w' => e = .returned (.bool true) ∧ Kept (fun _ => False) w w' := by
  have J0 : Hid (Calls Try.prog 4 #[.int .u32 7, .int .u32 9, .int .i64 0] w fun e w' => e = .returned (.int .u32 14) ∧ w' = w) := by
    have r := join_any 7 9 0 (by decide) (by decide) (by decide) w
    have e : joined 7 9 0 = 14 := by decide
    rw [e] at r
    exact r
  have J1 : Hid (Calls Try.prog 4 #[.int .u32 7, .int .u32 9, .int .i64 (-3)] w fun e w' => e = .returned (.int .u32 14) ∧ w' = w) := by
    have r := join_any 7 9 (-3) (by decide) (by decide) (by decide) w
    have e : joined 7 9 (-3) = 14 := by decide
    rw [e] at r
    exact r
  have J2 := hideC (join_any a b n ha hb hn w)
  have R2 := hideC (rjoin_any a b n ha hb hn w)
  generalize joined a b n = z at J2 R2
  clear ha hb hn
  go_enter Try.func3, Try.ntmps3
  go_wp2_with (first
    | (go_at_call 4; refine J0.out.mono ?_; clear J0; rintro e w1 ⟨rfl, e1⟩; subst e1)
    | (go_at_call 4; refine J1.out.mono ?_; clear J1; rintro e w1 ⟨rfl, e1⟩; subst e1)
    | (go_at_call 4; refine J2.out.mono ?_; clear J2; rintro e w1 ⟨rfl, e1⟩; subst e1)
    | (go_at_call 5; refine R2.out.mono ?_; clear R2; rintro e w2 ⟨rfl, K2⟩))
  go_ret
  exact ⟨by first | rfl | simp, K2⟩
end Go.Proofs.Ytnjilldachkbpaa
