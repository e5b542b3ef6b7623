import Derived.Test.YtjmmdklgkcbihaaDoorHnd
import Derived.Deep.AppendLies
namespace Go.Proofs.YtjmmdklgkcbihaaDoor
open Go.ChangeShapes Go.WideShapes Go.ChangeAt Go.RowKit

theorem takeYH {P : Program} {ops : Array Oper} {Q : Exit → Act → World → Prop} {md : Region.Mode} {S : World → Prop} {i d : Nat} {oi : Oper} {v : Value} {fuel : Nat} {listed : Array Bool} {a : Act} {w : World} (hi : ops[i]? = some oi) (hd : oi.dst = some d)
    (hs : Region.noSelect ops = true) (hf : Region.free md ops listed i = true) (hr : (Region.ready md ops listed).contains i = true)
    (hQ : ∀ c a w, Q (.panic c) (a.put (some d) v) w → Q (.panic c) a w) (hy : YieldsIf P ops S oi v a) (hS : S w)
    (h : wpAnyH P md ops Q S fuel (listed.setIfInBounds i true) (a.put (some d) v) w) : wpAnyH P md ops Q S (fuel + 1) listed a w := by
  rw [← hd] at hQ h
  exact wpAnyH_take hi hs hf hr hQ hy hS h
theorem wpOp_inH {P : Program} {ops : Array Oper} {Q : Exit → Act → World → Prop} {i : Nat} {o : Oper} {K : Act → World → Prop} {a : Act} {w : World} (hi : ops[i]? = some o) (hgd : o.guard = none) (h : o.wp P a w K Q) : wpOp P ops Q i K a w := by
  have hw : Region.wanted o (yielded ops a.tmps) = true := by simp [Region.wanted, hgd]
  unfold wpOp
  rw [hi]
  simp only
  rw [if_pos hw]
  exact .inl h
/-- 'append(s, x...)' to an owned row of bytes, x empty or not. -/
theorem wpList_catH {base : Nat} {W : World} {ops : Array Oper} {rest : List Oper} {o : Oper} {act : Act} {Q : Exit → Act → World → Prop} (hgd : o.guard = none) (s x : Operand)
    (ho : o.op = .call { callee := .builtin .append, args := #[s, x], argTypes := #[26, 26] }) (v : Value) (n : Nat) (xs ys : List Int) (hs : act.eval s = v) (hG : Hid (W.ownsRow base 5 1 v n (bs xs))) (ad : Option Addr) (m c : Nat) (hx : act.eval x = .slice ad m c)
    (hl : Hid (m = ys.length)) (hc : Hid (BytesAt W ad ys)) (h0 : Hid (ad = none → c = 0)) (hb : n + m ≤ 70368744177664) (hb0 : Hid (base ≤ W.heap.size))
    (h : ∀ a' c' W', Hid (W'.ownsRow base 5 1 (.slice a' (n + m) c') (n + m) (bs (xs ++ ys))) → Hid (Kept (fun k => v.ownBlock = some k) W W') → wpList Tryd.prog ops Q rest (act.put o.dst (.slice a' (n + m) c')) W') : wpList Tryd.prog ops Q (o :: rest) act W := by
  obtain ⟨i0, hi, hz0, hz1, hz2⟩ := info_parts Tryd.infoB
  cases ad with
  | none =>
    have e0 : ys = [] := by
      cases ys with
      | nil => rfl
      | cons y r => obtain ⟨b, off, e, _⟩ := hc.out (by simp); cases e
    subst e0
    have hm : m = 0 := hl.out
    subst hm
    obtain rfl := h0.out rfl
    obtain ⟨a', c', rfl⟩ := row_shapeH hG.out
    refine wpList_append_own_none hgd s x 26 ho base 5 i0 1 Tryd.underlying26 hi _ n (bs xs) hs hG.out hx ?_
    have := h a' c' W (hideH (by rw [List.append_nil]; exact hG.out)) (hideH (Kept.refl _ _))
    exact this
  | some p =>
    have hcl : ∀ j u, (bs ys)[j]? = some u → W.cell? (p.add j) = some u := by
      intro j u hu
      have hne : ys ≠ [] := by rintro rfl; simp [bs] at hu
      obtain ⟨b, off, e, hcc⟩ := hc.out hne
      cases e
      exact BytesAt.cells hcc j u hu
    refine wpList_append_own W hgd s x 26 ho base 5 i0 (.int .u8 0) 1 1 Tryd.underlying26 hi hz0 hz1 hz2 rfl (by decide) v n (bs xs) hs hG.out p m c (bs ys) hx (by rw [bs_length, hl.out, Nat.mul_one]) hcl (bs_one ys) (by unfold maxLen; omega) (by omega) hb0.out ?_
    intro v' w1 ho1 hg1 _
    rw [← bs_append] at ho1
    obtain ⟨a', c', rfl⟩ := row_shapeH ho1
    exact h a' c' w1 (hideH ho1) (hideH (Kept.grown hg1))
/-- The marks behind a list that is handed in. -/
def hrm (k : Nat) : List Int := (List.range k).map (fun (i : Nat) => (201 + 7 * (i : Int)) % 256)
theorem hrm_length (k : Nat) : (hrm k).length = k := by simp [hrm]
theorem hrm_succ (k : Nat) : hrm (k + 1) = hrm k ++ [(201 + 7 * (k : Int)) % 256] := by simp [hrm, List.range_succ]
/-- A list that is handed in. -/
structure Hd (W : World) (hb f cf q cq n : Nat) (l : List Int) : Prop where
  obj : W.heap[hb]? = some (.cells #[.slice (some ⟨f, 0, none⟩) (n + 80) cf, .slice (some ⟨q, 0, none⟩) (n + 80) cq, .int .i64 n] 82 (0, 0))
  full : Lib W (.slice (some ⟨f, 0, none⟩) (n + 80) cf) l
  want : Lib W (.slice (some ⟨q, 0, none⟩) (n + 80) cq) l
  len : l.length = n + 80
  ne1 : hb ≠ f
  ne2 : hb ≠ q
  ne3 : f ≠ q
theorem Hd.kept {F : Nat → Prop} {W W' : World} {hb f cf q cq n : Nat} {l : List Int} (h : Hd W hb f cf q cq n l) (k : Kept F W W') (h1 : ¬ F hb) (h2 : ¬ F f) (h3 : ¬ F q) : Hd W' hb f cf q cq n l :=
  ⟨k.heap h.obj h1, h.full.kept k (fun i e => by have e2 : f = i := Option.some.inj e; rw [← e2]; exact h2), h.want.kept k (fun i e => by have e2 : q = i := Option.some.inj e; rw [← e2]; exact h3), h.len, h.ne1, h.ne2, h.ne3⟩
theorem Hd.later {W W' : World} {hb f cf q cq n : Nat} {l : List Int} (h : Hd W hb f cf q cq n l) (k : Kept (fun _ => False) W W') : Hd W' hb f cf q cq n l := h.kept k (fun f => f) (fun f => f) (fun f => f)
theorem Hd.cells {W : World} {hb f cf q cq n : Nat} {l : List Int} (h : Hd W hb f cf q cq n l) : W.cell? ⟨hb, 0, none⟩ = some (.slice (some ⟨f, 0, none⟩) (n + 80) cf) ∧ W.cell? ⟨hb, 1, none⟩ = some (.slice (some ⟨q, 0, none⟩) (n + 80) cq) ∧ W.cell? ⟨hb, 2, none⟩ = some (.int .i64 n) := by
  refine ⟨?_, ?_, ?_⟩ <;> rw [cell_of_row _ _ _ _ _ _ h.obj] <;> rfl
theorem Hd.cap {W : World} {hb f cf q cq n : Nat} {l : List Int} (h : Hd W hb f cf q cq n l) : n + 80 ≤ cf ∧ n + 80 ≤ cq := by
  constructor
  · rcases h.full with ⟨e, _⟩ | ⟨b, c, cur, e, _, h1, _⟩
    · cases e
    · simp only [Value.slice.injEq] at e
      omega
  · rcases h.want with ⟨e, _⟩ | ⟨b, c, cur, e, _, h1, _⟩
    · cases e
    · simp only [Value.slice.injEq] at e
      omega
set_option maxRecDepth 20000 in
set_option maxHeartbeats 4000000 in
theorem give_any (hb f cf q cq n : Nat) (l : List Int) (w : World) (h : Hd w hb f cf q cq n l) :
    Calls Tryd.prog 15 #[.pointer (some ⟨hb, 0, none⟩)] w fun e w' => e = .returned (.slice (some ⟨f, 0, none⟩) n cf) ∧ Kept (fun _ => False) w w' := by
  have HC : Hid (∀ W, Kept (fun _ => False) w W → W.cell? ⟨hb, 0, none⟩ = some (.slice (some ⟨f, 0, none⟩) (n + 80) cf) ∧ W.cell? ⟨hb, 2, none⟩ = some (.int .i64 n)) := hideH (fun W k => ⟨k.cell h.cells.1 (fun f => f), k.cell h.cells.2.2 (fun f => f)⟩)
  have j1 : (n : Int) ≤ (cf : Int) := by have := h.cap; omega
  have j2 : n ≤ cf := by have := h.cap; omega
  have hS : Kept (fun _ => False) w w.drew := Kept.drew w
  clear h
  go_enter Tryd.func15, Tryd.ntmps15
  go_wp2_with fail
  refine wp_region_held (S := fun W' => Kept (fun _ => False) w W') (by kernel_rfl) ?_
  change wpAnyH _ _ _ _ _ _ _ _ (World.drew _)
  refine takeYH (i := 0) (d := 3) (v := .pointer (some ⟨hb, 0, none⟩)) rfl rfl (by kernel_rfl) (by kernel_rfl) (by kernel_rfl) (fun _ _ _ h => h) (Or.inl ⟨by rfl, fun W hW => ?_⟩) hS ?_
  · (go_simp)
  simp only [Act.put, List.setIfInBounds_toArray, List.set_cons_zero, List.set_cons_succ]
  refine takeYH (i := 1) (d := 4) (v := .pointer (some ⟨hb, 0, none⟩)) rfl rfl (by kernel_rfl) (by kernel_rfl) (by kernel_rfl) (fun _ _ _ h => h) (Or.inl ⟨by rfl, fun W hW => ?_⟩) hS ?_
  · (go_simp)
  simp only [Act.put, List.setIfInBounds_toArray, List.set_cons_zero, List.set_cons_succ]
  refine takeYH (i := 2) (d := 5) (v := .pointer (some ⟨hb, 0, none⟩)) rfl rfl (by kernel_rfl) (by kernel_rfl) (by kernel_rfl) (fun _ _ _ h => h) (Or.inl ⟨by rfl, fun W hW => ?_⟩) hS ?_
  · (go_simp)
  simp only [Act.put, List.setIfInBounds_toArray, List.set_cons_zero, List.set_cons_succ]
  refine takeYH (i := 3) (d := 6) (v := .slice (some ⟨f, 0, none⟩) (n + 80) cf) rfl rfl (by kernel_rfl) (by kernel_rfl) (by kernel_rfl) (fun _ _ _ h => h) (Or.inl ⟨by rfl, fun W hW => ?_⟩) hS ?_
  · ((obtain ⟨q0, q1⟩ := HC.out _ hW; go_simp))
  simp only [Act.put, List.setIfInBounds_toArray, List.set_cons_zero, List.set_cons_succ]
  refine takeYH (i := 4) (d := 7) (v := .pointer (some ⟨hb, 0, none⟩)) rfl rfl (by kernel_rfl) (by kernel_rfl) (by kernel_rfl) (fun _ _ _ h => h) (Or.inl ⟨by rfl, fun W hW => ?_⟩) hS ?_
  · (go_simp)
  simp only [Act.put, List.setIfInBounds_toArray, List.set_cons_zero, List.set_cons_succ]
  refine takeYH (i := 5) (d := 8) (v := .pointer (some ⟨hb, 0, none⟩)) rfl rfl (by kernel_rfl) (by kernel_rfl) (by kernel_rfl) (fun _ _ _ h => h) (Or.inl ⟨by rfl, fun W hW => ?_⟩) hS ?_
  · (go_simp)
  simp only [Act.put, List.setIfInBounds_toArray, List.set_cons_zero, List.set_cons_succ]
  refine takeYH (i := 6) (d := 9) (v := .pointer (some ⟨hb, 2, none⟩)) rfl rfl (by kernel_rfl) (by kernel_rfl) (by kernel_rfl) (fun _ _ _ h => h) (Or.inl ⟨by rfl, fun W hW => ?_⟩) hS ?_
  · (go_simp)
  simp only [Act.put, List.setIfInBounds_toArray, List.set_cons_zero, List.set_cons_succ]
  refine takeYH (i := 7) (d := 10) (v := .int .i64 n) rfl rfl (by kernel_rfl) (by kernel_rfl) (by kernel_rfl) (fun _ _ _ h => h) (Or.inl ⟨by rfl, fun W hW => ?_⟩) hS ?_
  · ((obtain ⟨q0, q1⟩ := HC.out _ hW; go_simp))
  simp only [Act.put, List.setIfInBounds_toArray, List.set_cons_zero, List.set_cons_succ]
  refine takeYH (i := 8) (d := 11) (v := .slice (some ⟨f, 0, none⟩) n cf) rfl rfl (by kernel_rfl) (by kernel_rfl) (by kernel_rfl) (fun _ _ _ h => h) (Or.inl ⟨by rfl, fun W hW => ?_⟩) hS ?_
  · (go_simp)
  simp only [Act.put, List.setIfInBounds_toArray, List.set_cons_zero, List.set_cons_succ]
  refine takeYH (i := 9) (d := 2) (v := .slice (some ⟨f, 0, none⟩) n cf) rfl rfl (by kernel_rfl) (by kernel_rfl) (by kernel_rfl) (fun _ _ _ h => h) (Or.inl ⟨by rfl, fun W hW => ?_⟩) hS ?_
  · (go_simp)
  simp only [Act.put, List.setIfInBounds_toArray, List.set_cons_zero, List.set_cons_succ]
  refine wpAnyH_done (by kernel_rfl) ?_ _
  go_wp2
  go_ret
  exact ⟨rfl, hS⟩
theorem conv_atH {W : World} {v : Value} {l : List Int} (h : Lib W v l) : (convert 26 9 v).run Tryd.prog W = .ok (.string (strOfNums l)) W := by
  obtain ⟨a, c, rfl, hb⟩ := h.bytes
  by_cases hne : l = []
  · subst hne
    cases a with
    | none => exact run_convert_bytes_nil W 26 5 Tryd.underlying26 Tryd.underlying5 0 c 9 Tryd.underlying9
    | some ad =>
      have hl : (loadCells ad 0).run Tryd.prog W = .ok (([] : List Int).map (Value.int .u8)).toArray W := by
        have := run_loadCells_list (P := Tryd.prog) W ad [] (fun j v hj => by simp at hj)
        simpa using this
      show (convert 26 9 (.slice (some ad) 0 c)).run Tryd.prog W = _
      rw [run_convert_bytes_string W 26 9 5 _ 0 c Tryd.underlying26 Tryd.underlying5 Tryd.underlying9, run_bytesToString W _ 0 c [] hl]
      rfl
  · obtain ⟨b, off, rfl, hc⟩ := hb hne
    refine run_convert_bytes_arg W 26 5 Tryd.underlying26 Tryd.underlying5 b off l.length c l rfl (fun i hi => ?_) 9 Tryd.underlying9
    simpa [List.getD] using hc i hi
set_option maxRecDepth 20000 in
set_option maxHeartbeats 4000000 in
theorem sameH_any (hb f cf q cq n : Nat) (l : List Int) (w : World) (h : Hd w hb f cf q cq n l) :
    Calls Tryd.prog 16 #[.pointer (some ⟨hb, 0, none⟩)] w fun e w' => e = .returned (.bool true) ∧ Kept (fun _ => False) w w' := by
  have HC : Hid (∀ W, Kept (fun _ => False) w W → W.cell? ⟨hb, 0, none⟩ = some (.slice (some ⟨f, 0, none⟩) (n + 80) cf) ∧ W.cell? ⟨hb, 1, none⟩ = some (.slice (some ⟨q, 0, none⟩) (n + 80) cq)) := hideH (fun W k => ⟨k.cell h.cells.1 (fun f => f), k.cell h.cells.2.1 (fun f => f)⟩)
  obtain ⟨st, hst⟩ : ∃ st, st = strOfNums l := ⟨_, rfl⟩
  have HV : Hid (∀ W, Kept (fun _ => False) w W → (convert 26 9 (.slice (some ⟨f, 0, none⟩) (n + 80) cf)).run Tryd.prog W = .ok (.string st) W ∧ (convert 26 9 (.slice (some ⟨q, 0, none⟩) (n + 80) cq)).run Tryd.prog W = .ok (.string st) W) := hideH (fun W k => by rw [hst]; exact ⟨conv_atH (h.full.later k), conv_atH (h.want.later k)⟩)
  have hS : Kept (fun _ => False) w w.drew := Kept.drew w
  clear h hst
  go_enter Tryd.func16, Tryd.ntmps16
  go_wp2_with fail
  refine wp_region_held (S := fun W' => Kept (fun _ => False) w W') (by kernel_rfl) ?_
  change wpAnyH _ _ _ _ _ _ _ _ (World.drew _)
  refine takeYH (i := 0) (d := 3) (v := .pointer (some ⟨hb, 0, none⟩)) rfl rfl (by kernel_rfl) (by kernel_rfl) (by kernel_rfl) (fun _ _ _ h => h) (Or.inl ⟨by rfl, fun W hW => ?_⟩) hS ?_
  · (go_simp)
  simp only [Act.put, List.setIfInBounds_toArray, List.set_cons_zero, List.set_cons_succ]
  refine takeYH (i := 1) (d := 4) (v := .pointer (some ⟨hb, 0, none⟩)) rfl rfl (by kernel_rfl) (by kernel_rfl) (by kernel_rfl) (fun _ _ _ h => h) (Or.inl ⟨by rfl, fun W hW => ?_⟩) hS ?_
  · (go_simp)
  simp only [Act.put, List.setIfInBounds_toArray, List.set_cons_zero, List.set_cons_succ]
  refine takeYH (i := 2) (d := 5) (v := .pointer (some ⟨hb, 0, none⟩)) rfl rfl (by kernel_rfl) (by kernel_rfl) (by kernel_rfl) (fun _ _ _ h => h) (Or.inl ⟨by rfl, fun W hW => ?_⟩) hS ?_
  · (go_simp)
  simp only [Act.put, List.setIfInBounds_toArray, List.set_cons_zero, List.set_cons_succ]
  refine takeYH (i := 3) (d := 6) (v := .slice (some ⟨f, 0, none⟩) (n + 80) cf) rfl rfl (by kernel_rfl) (by kernel_rfl) (by kernel_rfl) (fun _ _ _ h => h) (Or.inl ⟨by rfl, fun W hW => ?_⟩) hS ?_
  · ((obtain ⟨q0, q1⟩ := HC.out _ hW; go_simp))
  simp only [Act.put, List.setIfInBounds_toArray, List.set_cons_zero, List.set_cons_succ]
  refine takeYH (i := 4) (d := 7) (v := .string st) rfl rfl (by kernel_rfl) (by kernel_rfl) (by kernel_rfl) (fun _ _ _ h => h) (Or.inl ⟨by rfl, fun W hW => ?_⟩) hS ?_
  · ((obtain ⟨q0, q1⟩ := HV.out _ hW; go_simp))
  simp only [Act.put, List.setIfInBounds_toArray, List.set_cons_zero, List.set_cons_succ]
  refine takeYH (i := 5) (d := 8) (v := .pointer (some ⟨hb, 0, none⟩)) rfl rfl (by kernel_rfl) (by kernel_rfl) (by kernel_rfl) (fun _ _ _ h => h) (Or.inl ⟨by rfl, fun W hW => ?_⟩) hS ?_
  · (go_simp)
  simp only [Act.put, List.setIfInBounds_toArray, List.set_cons_zero, List.set_cons_succ]
  refine takeYH (i := 6) (d := 9) (v := .pointer (some ⟨hb, 0, none⟩)) rfl rfl (by kernel_rfl) (by kernel_rfl) (by kernel_rfl) (fun _ _ _ h => h) (Or.inl ⟨by rfl, fun W hW => ?_⟩) hS ?_
  · (go_simp)
  simp only [Act.put, List.setIfInBounds_toArray, List.set_cons_zero, List.set_cons_succ]
  refine takeYH (i := 7) (d := 10) (v := .pointer (some ⟨hb, 1, none⟩)) rfl rfl (by kernel_rfl) (by kernel_rfl) (by kernel_rfl) (fun _ _ _ h => h) (Or.inl ⟨by rfl, fun W hW => ?_⟩) hS ?_
  · (go_simp)
  simp only [Act.put, List.setIfInBounds_toArray, List.set_cons_zero, List.set_cons_succ]
  refine takeYH (i := 8) (d := 11) (v := .slice (some ⟨q, 0, none⟩) (n + 80) cq) rfl rfl (by kernel_rfl) (by kernel_rfl) (by kernel_rfl) (fun _ _ _ h => h) (Or.inl ⟨by rfl, fun W hW => ?_⟩) hS ?_
  · ((obtain ⟨q0, q1⟩ := HC.out _ hW; go_simp))
  simp only [Act.put, List.setIfInBounds_toArray, List.set_cons_zero, List.set_cons_succ]
  refine takeYH (i := 9) (d := 12) (v := .string st) rfl rfl (by kernel_rfl) (by kernel_rfl) (by kernel_rfl) (fun _ _ _ h => h) (Or.inl ⟨by rfl, fun W hW => ?_⟩) hS ?_
  · ((obtain ⟨q0, q1⟩ := HV.out _ hW; go_simp))
  simp only [Act.put, List.setIfInBounds_toArray, List.set_cons_zero, List.set_cons_succ]
  refine takeYH (i := 10) (d := 13) (v := .bool true) rfl rfl (by kernel_rfl) (by kernel_rfl) (by kernel_rfl) (fun _ _ _ h => h) (Or.inl ⟨by rfl, fun W hW => ?_⟩) hS ?_
  · (go_simp)
  simp only [Act.put, List.setIfInBounds_toArray, List.set_cons_zero, List.set_cons_succ]
  refine takeYH (i := 11) (d := 2) (v := .bool true) rfl rfl (by kernel_rfl) (by kernel_rfl) (by kernel_rfl) (fun _ _ _ h => h) (Or.inl ⟨by rfl, fun W hW => ?_⟩) hS ?_
  · (go_simp)
  simp only [Act.put, List.setIfInBounds_toArray, List.set_cons_zero, List.set_cons_succ]
  refine wpAnyH_done (by kernel_rfl) ?_ _
  go_wp2
  go_ret
  exact ⟨rfl, hS⟩
def spx (j : Nat) (x : Int) : Int := bits .xor .u8 x (IntKind.u8.wrap (90 + (j : Int)))
def spl : Nat → List Int → List Int
  | 0, l => l
  | i + 1, l => (spl i l).set i (spx i ((spl i l)[i]?.getD 0))
theorem spl_length : ∀ (i : Nat) (l : List Int), (spl i l).length = l.length
  | 0, _ => rfl
  | i + 1, l => by rw [spl, List.length_set, spl_length i l]
theorem spl_take : ∀ (i n : Nat) (l m : List Int), n = l.length → i ≤ n → (spl i (l ++ m)).take n = spl i l
  | 0, n, l, m, hn, _ => by rw [spl, spl, hn, List.take_left' rfl]
  | i + 1, n, l, m, hn, hi => by
    have ih := spl_take i n l m hn (by omega)
    have hg : (spl i (l ++ m))[i]? = (spl i l)[i]? := by
      rw [← ih, List.getElem?_take, if_pos (by omega)]
    rw [spl, spl, hg, List.take_set, ih]
set_option maxRecDepth 20000 in
set_option maxHeartbeats 4000000 in
theorem spoil_any (hb f cf q cq n : Nat) (l : List Int) (w : World) (h : Hd w hb f cf q cq n l) (hn : n ≤ 35184372088832) :
    Calls Tryd.prog 17 #[.pointer (some ⟨hb, 0, none⟩)] w fun e w' => e = .returned (.tuple #[]) ∧ Hd w' hb f cf q cq n (spl n l) ∧ Kept (fun k => k = f ∨ k = q) w w' := by
  have HH := hideH h
  clear h
  go_enter Tryd.func17, Tryd.ntmps17
  go_wp2
  go_loopw [2] (fun s2 wr => ∃ i : Nat, i ≤ n ∧ s2 = .int .i64 i ∧ Hid (Hd wr hb f cf q cq n (spl i l)) ∧ Hid (Kept (fun k => k = f ∨ k = q) w wr)) (fun s2 _ => n - (intOf s2).toNat)
  case atStart => exact ⟨0, by omega, rfl, HH, hideH (Kept.refl _ _)⟩
  case round =>
  obtain ⟨i, hi, rfl, HR, HK⟩ := hrel
  obtain ⟨c0, c1, c2⟩ := HR.out.cells
  by_cases hlt : i < n
  · have hil : i < (spl i l).length := by rw [HR.out.len]; omega
    have hil2 : i < (spl (i + 1) l).length := by rw [spl_length, ← spl_length i l]; exact hil
    obtain ⟨b1, d1, e1, y1, y2⟩ := HR.out.full.cells hil
    simp only [Value.slice.injEq, Option.some.injEq, Addr.mk.injEq, and_true] at e1
    obtain ⟨eb, -, -⟩ := e1
    subst eb
    have ks := (Kept.setCell wr ⟨f, i, none⟩ (.int .u8 (spx i ((spl i l)[i]?.getD 0)))).trans (Kept.drew _) (fun _ f => f.elim)
    have hset1 : Lib (wr.setCell ⟨f, i, none⟩ (.int .u8 (spx i ((spl i l)[i]?.getD 0)))).drew (.slice (some ⟨f, 0, none⟩) (n + 80) cf) (spl (i + 1) l) := (HR.out.full.set (b := f) rfl hil _).later (Kept.drew _)
    have hw1 := HR.out.want.kept ks (fun k e f2 => by have e2 : q = k := Option.some.inj e; have e3 : k = f := f2; exact HR.out.ne3 (by omega))
    have hd1 := (Kept.drew wr).heap HR.out.obj (fun f => f)
    have ho1 := ks.heap HR.out.obj (fun e => HR.out.ne1 e)
    obtain ⟨V1, hV1⟩ : ∃ V1, V1 = (wr.setCell ⟨f, i, none⟩ (.int .u8 (spx i ((spl i l)[i]?.getD 0)))).drew := ⟨_, rfl⟩
    rw [← hV1] at hset1 hw1 ho1 ks
    obtain ⟨b2, d2, e2, z1, z2⟩ := hset1.cells hil2
    simp only [Value.slice.injEq, Option.some.injEq, Addr.mk.injEq, and_true] at e2
    obtain ⟨eb, -, -⟩ := e2
    subst eb
    have hg1 : (spl (i + 1) l)[i]?.getD 0 = spx i ((spl i l)[i]?.getD 0) := by rw [spl, List.getElem?_set_self hil]; rfl
    rw [hg1] at z1
    obtain ⟨b3, d3, e3, w1, w2⟩ := hw1.cells hil
    simp only [Value.slice.injEq, Option.some.injEq, Addr.mk.injEq, and_true] at e3
    obtain ⟨eb, -, -⟩ := e3
    subst eb
    have ks2 := (Kept.setCell V1 ⟨q, i, none⟩ (.int .u8 (spx i ((spl i l)[i]?.getD 0)))).trans (Kept.drew _) (fun _ f => f.elim)
    have hfin : Hd (V1.setCell ⟨q, i, none⟩ (.int .u8 (spx i ((spl i l)[i]?.getD 0)))).drew hb f cf q cq n (spl (i + 1) l) := ⟨ks2.heap ho1 (fun e => HR.out.ne2 e), hset1.kept ks2 (fun k e f2 => by have e2 : f = k := Option.some.inj e; have e3 : k = q := f2; exact HR.out.ne3 (by omega)), (hw1.set (b := q) rfl hil _).later (Kept.drew _), by rw [spl_length, ← spl_length i l]; exact HR.out.len, HR.out.ne1, HR.out.ne2, HR.out.ne3⟩
    have hkf : Kept (fun k => k = f ∨ k = q) w (V1.setCell ⟨q, i, none⟩ (.int .u8 (spx i ((spl i l)[i]?.getD 0)))).drew := (HK.out.trans ks (fun k e => .inl (.inl e))).trans ks2 (fun k e => .inl (.inr e))
    have HF := hideH hfin
    have HKF := hideH hkf
    have HSC : Hid (∀ W : World, W.heap[hb]? = some (.cells #[.slice (some ⟨f, 0, none⟩) (n + 80) cf, .slice (some ⟨q, 0, none⟩) (n + 80) cq, .int .i64 n] 82 (0, 0)) → W.cell? ⟨hb, 0, none⟩ = some (.slice (some ⟨f, 0, none⟩) (n + 80) cf) ∧ W.cell? ⟨hb, 1, none⟩ = some (.slice (some ⟨q, 0, none⟩) (n + 80) cq)) := hideH (fun W h => by constructor <;> rw [cell_of_row _ _ _ _ _ _ h] <;> rfl)
    have hS1 : wr.drew.heap[hb]? = some (.cells #[.slice (some ⟨f, 0, none⟩) (n + 80) cf, .slice (some ⟨q, 0, none⟩) (n + 80) cq, .int .i64 n] 82 (0, 0)) := hd1
    have hS3 : V1.drew.heap[hb]? = some (.cells #[.slice (some ⟨f, 0, none⟩) (n + 80) cf, .slice (some ⟨q, 0, none⟩) (n + 80) cq, .int .i64 n] 82 (0, 0)) := ho1
    have hS4 : (V1.setCell ⟨q, i, none⟩ (.int .u8 (spx i ((spl i l)[i]?.getD 0)))).drew.heap[hb]? = some (.cells #[.slice (some ⟨f, 0, none⟩) (n + 80) cf, .slice (some ⟨q, 0, none⟩) (n + 80) cq, .int .i64 n] 82 (0, 0)) := hfin.obj
    have hcap := HR.out.cap
    generalize (spl i l)[i]?.getD 0 = y at *
    have HSx : Hid (spx i y = bits .xor .u8 y (IntKind.u8.wrap (90 + (i : Int)))) := hideH rfl
    generalize spx i y = y' at *
    have i1 : (i : Int) < (n : Int) := by omega
    have i2 : (i : Int) < (n : Int) + 80 := by omega
    have i3 : i < n + 80 := by omega
    have i4 : IntKind.i64.wrap (90 + (i : Int)) = 90 + (i : Int) := by rw [IntKind.wrap_i64]; omega
    have y1d : wr.drew.cell? ⟨f, i, none⟩ = some (.int .u8 y) := y1
    have z1d : V1.drew.cell? ⟨f, i, none⟩ = some (.int .u8 y') := z1
    have w1d : V1.drew.cell? ⟨q, i, none⟩ = some (.int .u8 y) := w1
    have HV1 := hideH hV1
    clear hset1 hw1 hd1 ks ks2 hfin hkf hg1 hil hil2 HR HK hV1 HH hcap
    go_wp2_with fail
    refine wp_region_held (S := fun W' => W'.heap[hb]? = some (.cells #[.slice (some ⟨f, 0, none⟩) (n + 80) cf, .slice (some ⟨q, 0, none⟩) (n + 80) cq, .int .i64 n] 82 (0, 0))) (by kernel_rfl) ?_
    change wpAnyH _ _ _ _ _ _ _ _ (World.drew _)
    refine takeYH (i := 0) (d := 11) (v := .pointer (some ⟨hb, 0, none⟩)) rfl rfl (by kernel_rfl) (by kernel_rfl) (by kernel_rfl) (fun _ _ _ h => h) (Or.inl ⟨by rfl, fun W hW => ?_⟩) hS1 ?_
    · (go_simp)
    simp only [Act.put, List.setIfInBounds_toArray, List.set_cons_zero, List.set_cons_succ]
    refine takeYH (i := 1) (d := 12) (v := .pointer (some ⟨hb, 0, none⟩)) rfl rfl (by kernel_rfl) (by kernel_rfl) (by kernel_rfl) (fun _ _ _ h => h) (Or.inl ⟨by rfl, fun W hW => ?_⟩) hS1 ?_
    · (go_simp)
    simp only [Act.put, List.setIfInBounds_toArray, List.set_cons_zero, List.set_cons_succ]
    refine takeYH (i := 2) (d := 13) (v := .pointer (some ⟨hb, 0, none⟩)) rfl rfl (by kernel_rfl) (by kernel_rfl) (by kernel_rfl) (fun _ _ _ h => h) (Or.inl ⟨by rfl, fun W hW => ?_⟩) hS1 ?_
    · (go_simp)
    simp only [Act.put, List.setIfInBounds_toArray, List.set_cons_zero, List.set_cons_succ]
    refine takeYH (i := 3) (d := 14) (v := .slice (some ⟨f, 0, none⟩) (n + 80) cf) rfl rfl (by kernel_rfl) (by kernel_rfl) (by kernel_rfl) (fun _ _ _ h => h) (Or.inl ⟨by rfl, fun W hW => ?_⟩) hS1 ?_
    · ((obtain ⟨q0, q1⟩ := HSC.out _ hW; go_simp))
    simp only [Act.put, List.setIfInBounds_toArray, List.set_cons_zero, List.set_cons_succ]
    refine takeYH (i := 4) (d := 15) (v := .int .i64 i) rfl rfl (by kernel_rfl) (by kernel_rfl) (by kernel_rfl) (fun _ _ _ h => h) (Or.inl ⟨by rfl, fun W hW => ?_⟩) hS1 ?_
    · (go_simp)
    simp only [Act.put, List.setIfInBounds_toArray, List.set_cons_zero, List.set_cons_succ]
    refine takeYH (i := 5) (d := 16) (v := .pointer (some ⟨hb, 0, none⟩)) rfl rfl (by kernel_rfl) (by kernel_rfl) (by kernel_rfl) (fun _ _ _ h => h) (Or.inl ⟨by rfl, fun W hW => ?_⟩) hS1 ?_
    · (go_simp)
    simp only [Act.put, List.setIfInBounds_toArray, List.set_cons_zero, List.set_cons_succ]
    refine takeYH (i := 6) (d := 17) (v := .pointer (some ⟨hb, 0, none⟩)) rfl rfl (by kernel_rfl) (by kernel_rfl) (by kernel_rfl) (fun _ _ _ h => h) (Or.inl ⟨by rfl, fun W hW => ?_⟩) hS1 ?_
    · (go_simp)
    simp only [Act.put, List.setIfInBounds_toArray, List.set_cons_zero, List.set_cons_succ]
    refine takeYH (i := 7) (d := 18) (v := .pointer (some ⟨hb, 0, none⟩)) rfl rfl (by kernel_rfl) (by kernel_rfl) (by kernel_rfl) (fun _ _ _ h => h) (Or.inl ⟨by rfl, fun W hW => ?_⟩) hS1 ?_
    · (go_simp)
    simp only [Act.put, List.setIfInBounds_toArray, List.set_cons_zero, List.set_cons_succ]
    refine takeYH (i := 8) (d := 19) (v := .slice (some ⟨f, 0, none⟩) (n + 80) cf) rfl rfl (by kernel_rfl) (by kernel_rfl) (by kernel_rfl) (fun _ _ _ h => h) (Or.inl ⟨by rfl, fun W hW => ?_⟩) hS1 ?_
    · ((obtain ⟨q0, q1⟩ := HSC.out _ hW; go_simp))
    simp only [Act.put, List.setIfInBounds_toArray, List.set_cons_zero, List.set_cons_succ]
    refine takeYH (i := 9) (d := 20) (v := .int .i64 i) rfl rfl (by kernel_rfl) (by kernel_rfl) (by kernel_rfl) (fun _ _ _ h => h) (Or.inl ⟨by rfl, fun W hW => ?_⟩) hS1 ?_
    · (go_simp)
    simp only [Act.put, List.setIfInBounds_toArray, List.set_cons_zero, List.set_cons_succ]
    refine takeYH (i := 10) (d := 21) (v := .pointer (some ⟨f, i, none⟩)) rfl rfl (by kernel_rfl) (by kernel_rfl) (by kernel_rfl) (fun _ _ _ h => h) (Or.inl ⟨by rfl, fun W hW => ?_⟩) hS1 ?_
    · (go_simp)
    simp only [Act.put, List.setIfInBounds_toArray, List.set_cons_zero, List.set_cons_succ]
    refine takeYH (i := 12) (d := 23) (v := .int .i64 i) rfl rfl (by kernel_rfl) (by kernel_rfl) (by kernel_rfl) (fun _ _ _ h => h) (Or.inl ⟨by rfl, fun W hW => ?_⟩) hS1 ?_
    · (go_simp)
    simp only [Act.put, List.setIfInBounds_toArray, List.set_cons_zero, List.set_cons_succ]
    refine takeYH (i := 13) (d := 24) (v := .int .i64 (90 + (i : Int))) rfl rfl (by kernel_rfl) (by kernel_rfl) (by kernel_rfl) (fun _ _ _ h => h) (Or.inl ⟨by rfl, fun W hW => ?_⟩) hS1 ?_
    · (go_simp)
    simp only [Act.put, List.setIfInBounds_toArray, List.set_cons_zero, List.set_cons_succ]
    refine takeYH (i := 14) (d := 25) (v := .int .u8 (IntKind.u8.wrap (90 + (i : Int)))) rfl rfl (by kernel_rfl) (by kernel_rfl) (by kernel_rfl) (fun _ _ _ h => h) (Or.inl ⟨by rfl, fun W hW => ?_⟩) hS1 ?_
    · (go_simp)
    simp only [Act.put, List.setIfInBounds_toArray, List.set_cons_zero, List.set_cons_succ]
    refine wpAnyH_all (rs := [11]) (by kernel_rfl) (by simp) ?_
    intro i' hi'
    obtain rfl : i' = 11 := by simpa using hi'
    unfold wpOp
    go_simp
    first | refine Or.inl ⟨hS1, ?_⟩ | refine ⟨hS1, ?_⟩ | (change wpAnyH _ _ _ _ _ _ _ _ _) | refine Or.inl ?_
    refine takeYH (i := 15) (d := 26) (v := .int .u8 y') rfl rfl (by kernel_rfl) (by kernel_rfl) (by kernel_rfl) (fun _ _ _ h => h) (Or.inl ⟨by rfl, fun W hW => ?_⟩) hS1 ?_
    · ((rw [HSx.out]; go_simp))
    simp only [Act.put, List.setIfInBounds_toArray, List.set_cons_zero, List.set_cons_succ]
    refine takeYH (i := 16) (d := 27) (v := .pointer (some ⟨f, i, none⟩)) rfl rfl (by kernel_rfl) (by kernel_rfl) (by kernel_rfl) (fun _ _ _ h => h) (Or.inl ⟨by rfl, fun W hW => ?_⟩) hS1 ?_
    · (go_simp)
    simp only [Act.put, List.setIfInBounds_toArray, List.set_cons_zero, List.set_cons_succ]
    refine wpAnyH_all (rs := [17]) (by kernel_rfl) (by simp) ?_
    intro i' hi'
    obtain rfl : i' = 17 := by simpa using hi'
    unfold wpOp
    go_simp
    rw [← HV1.out]
    first | refine Or.inl ⟨ho1, ?_⟩ | refine ⟨ho1, ?_⟩ | (change wpAnyH _ _ _ _ _ _ _ _ _) | refine Or.inl ?_
    refine wpAnyH_done (by kernel_rfl) ?_ _
    go_wp2_with fail
    refine wp_region_held (S := fun W' => W'.heap[hb]? = some (.cells #[.slice (some ⟨f, 0, none⟩) (n + 80) cf, .slice (some ⟨q, 0, none⟩) (n + 80) cq, .int .i64 n] 82 (0, 0))) (by kernel_rfl) ?_
    change wpAnyH _ _ _ _ _ _ _ _ (World.drew _)
    refine takeYH (i := 0) (d := 28) (v := .pointer (some ⟨hb, 0, none⟩)) rfl rfl (by kernel_rfl) (by kernel_rfl) (by kernel_rfl) (fun _ _ _ h => h) (Or.inl ⟨by rfl, fun W hW => ?_⟩) hS3 ?_
    · (go_simp)
    simp only [Act.put, List.setIfInBounds_toArray, List.set_cons_zero, List.set_cons_succ]
    refine takeYH (i := 1) (d := 29) (v := .pointer (some ⟨hb, 0, none⟩)) rfl rfl (by kernel_rfl) (by kernel_rfl) (by kernel_rfl) (fun _ _ _ h => h) (Or.inl ⟨by rfl, fun W hW => ?_⟩) hS3 ?_
    · (go_simp)
    simp only [Act.put, List.setIfInBounds_toArray, List.set_cons_zero, List.set_cons_succ]
    refine takeYH (i := 2) (d := 30) (v := .pointer (some ⟨hb, 1, none⟩)) rfl rfl (by kernel_rfl) (by kernel_rfl) (by kernel_rfl) (fun _ _ _ h => h) (Or.inl ⟨by rfl, fun W hW => ?_⟩) hS3 ?_
    · (go_simp)
    simp only [Act.put, List.setIfInBounds_toArray, List.set_cons_zero, List.set_cons_succ]
    refine takeYH (i := 3) (d := 31) (v := .slice (some ⟨q, 0, none⟩) (n + 80) cq) rfl rfl (by kernel_rfl) (by kernel_rfl) (by kernel_rfl) (fun _ _ _ h => h) (Or.inl ⟨by rfl, fun W hW => ?_⟩) hS3 ?_
    · ((obtain ⟨q0, q1⟩ := HSC.out _ hW; go_simp))
    simp only [Act.put, List.setIfInBounds_toArray, List.set_cons_zero, List.set_cons_succ]
    refine takeYH (i := 4) (d := 32) (v := .int .i64 i) rfl rfl (by kernel_rfl) (by kernel_rfl) (by kernel_rfl) (fun _ _ _ h => h) (Or.inl ⟨by rfl, fun W hW => ?_⟩) hS3 ?_
    · (go_simp)
    simp only [Act.put, List.setIfInBounds_toArray, List.set_cons_zero, List.set_cons_succ]
    refine takeYH (i := 5) (d := 33) (v := .pointer (some ⟨hb, 0, none⟩)) rfl rfl (by kernel_rfl) (by kernel_rfl) (by kernel_rfl) (fun _ _ _ h => h) (Or.inl ⟨by rfl, fun W hW => ?_⟩) hS3 ?_
    · (go_simp)
    simp only [Act.put, List.setIfInBounds_toArray, List.set_cons_zero, List.set_cons_succ]
    refine takeYH (i := 6) (d := 34) (v := .pointer (some ⟨hb, 0, none⟩)) rfl rfl (by kernel_rfl) (by kernel_rfl) (by kernel_rfl) (fun _ _ _ h => h) (Or.inl ⟨by rfl, fun W hW => ?_⟩) hS3 ?_
    · (go_simp)
    simp only [Act.put, List.setIfInBounds_toArray, List.set_cons_zero, List.set_cons_succ]
    refine takeYH (i := 7) (d := 35) (v := .pointer (some ⟨hb, 0, none⟩)) rfl rfl (by kernel_rfl) (by kernel_rfl) (by kernel_rfl) (fun _ _ _ h => h) (Or.inl ⟨by rfl, fun W hW => ?_⟩) hS3 ?_
    · (go_simp)
    simp only [Act.put, List.setIfInBounds_toArray, List.set_cons_zero, List.set_cons_succ]
    refine takeYH (i := 8) (d := 36) (v := .slice (some ⟨f, 0, none⟩) (n + 80) cf) rfl rfl (by kernel_rfl) (by kernel_rfl) (by kernel_rfl) (fun _ _ _ h => h) (Or.inl ⟨by rfl, fun W hW => ?_⟩) hS3 ?_
    · ((obtain ⟨q0, q1⟩ := HSC.out _ hW; go_simp))
    simp only [Act.put, List.setIfInBounds_toArray, List.set_cons_zero, List.set_cons_succ]
    refine takeYH (i := 9) (d := 37) (v := .int .i64 i) rfl rfl (by kernel_rfl) (by kernel_rfl) (by kernel_rfl) (fun _ _ _ h => h) (Or.inl ⟨by rfl, fun W hW => ?_⟩) hS3 ?_
    · (go_simp)
    simp only [Act.put, List.setIfInBounds_toArray, List.set_cons_zero, List.set_cons_succ]
    refine takeYH (i := 10) (d := 38) (v := .pointer (some ⟨f, i, none⟩)) rfl rfl (by kernel_rfl) (by kernel_rfl) (by kernel_rfl) (fun _ _ _ h => h) (Or.inl ⟨by rfl, fun W hW => ?_⟩) hS3 ?_
    · (go_simp)
    simp only [Act.put, List.setIfInBounds_toArray, List.set_cons_zero, List.set_cons_succ]
    refine wpAnyH_all (rs := [11]) (by kernel_rfl) (by simp) ?_
    intro i' hi'
    obtain rfl : i' = 11 := by simpa using hi'
    unfold wpOp
    go_simp
    first | refine Or.inl ⟨hS3, ?_⟩ | refine ⟨hS3, ?_⟩ | (change wpAnyH _ _ _ _ _ _ _ _ _) | refine Or.inl ?_
    refine takeYH (i := 12) (d := 40) (v := .pointer (some ⟨q, i, none⟩)) rfl rfl (by kernel_rfl) (by kernel_rfl) (by kernel_rfl) (fun _ _ _ h => h) (Or.inl ⟨by rfl, fun W hW => ?_⟩) hS3 ?_
    · (go_simp)
    simp only [Act.put, List.setIfInBounds_toArray, List.set_cons_zero, List.set_cons_succ]
    refine wpAnyH_all (rs := [13]) (by kernel_rfl) (by simp) ?_
    intro i' hi'
    obtain rfl : i' = 13 := by simpa using hi'
    unfold wpOp
    go_simp
    first | refine Or.inl ⟨hS4, ?_⟩ | refine ⟨hS4, ?_⟩ | (change wpAnyH _ _ _ _ _ _ _ _ _) | refine Or.inl ?_
    refine wpAnyH_done (by kernel_rfl) ?_ _
    go_wp2
    go_roundw
    case rel => exact ⟨i + 1, by omega, by go_num, HF, HKF⟩
    case measure => simp [intOf]; omega
  · obtain rfl : i = n := by omega
    have i1 : ¬ (i : Int) < (i : Int) := by omega
    clear c1 HH
    go_wp2
    go_end0
    exact ⟨rfl, HR.out, HK.out⟩
end Go.Proofs.YtjmmdklgkcbihaaDoor
