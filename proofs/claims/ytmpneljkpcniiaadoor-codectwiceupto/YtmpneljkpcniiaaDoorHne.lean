import Derived.Test.YtmpneljkpcniiaaDoorHnd
import Derived.Deep.AppendLies
namespace Go.Proofs.YtmpneljkpcniiaaDoor
open Go.ChangeShapes Go.WideShapes Go.ChangeAt Go.RowKit

theorem takeYH {P : Program} {ops : Array Oper} {Q : Exit → Act → World → Prop} {md : Region.Mode} {S : World → Prop} {i d : Nat} {oi : Oper} {v : Value} {fuel : Nat} {listed : Array Bool} {a : Act} {w : World} (hi : ops[i]? = some oi) (hd : oi.dst = some d)
    (hs : Region.noSelect ops = true) (hf : Region.free md ops listed i = true) (hr : (Region.ready md ops listed).contains i = true)
    (hQ : ∀ c a w, Q (.panic c) (a.put (some d) v) w → Q (.panic c) a w) (hy : YieldsIf P ops S oi v a) (hS : S w)
    (h : wpAnyH P md ops Q S fuel (listed.setIfInBounds i true) (a.put (some d) v) w) : wpAnyH P md ops Q S (fuel + 1) listed a w := by
  rw [← hd] at hQ h
  exact wpAnyH_take hi hs hf hr hQ hy hS h
theorem wpOp_inH {P : Program} {ops : Array Oper} {Q : Exit → Act → World → Prop} {i : Nat} {o : Oper} {K : Act → World → Prop} {a : Act} {w : World} (hi : ops[i]? = some o) (hgd : o.guard = none) (h : o.wp P a w K Q) : wpOp P ops Q i K a w := by
  have hw : Region.wanted o (yielded ops a.tmps) = true := by simp [Region.wanted, hgd]
  unfold wpOp
  rw [hi]
  simp only
  rw [if_pos hw]
  exact .inl h
/-- 'append(s, x...)' to an owned row of bytes, x empty or not. -/
theorem wpList_catH {base : Nat} {W : World} {ops : Array Oper} {rest : List Oper} {o : Oper} {act : Act} {Q : Exit → Act → World → Prop} (hgd : o.guard = none) (s x : Operand)
    (ho : o.op = .call { callee := .builtin .append, args := #[s, x], argTypes := #[23, 23] }) (v : Value) (n : Nat) (xs ys : List Int) (hs : act.eval s = v) (hG : Hid (W.ownsRow base 5 1 v n (bs xs))) (ad : Option Addr) (m c : Nat) (hx : act.eval x = .slice ad m c)
    (hl : Hid (m = ys.length)) (hc : Hid (BytesAt W ad ys)) (h0 : Hid (ad = none → c = 0)) (hb : n + m ≤ 70368744177664) (hb0 : Hid (base ≤ W.heap.size))
    (h : ∀ a' c' W', Hid (W'.ownsRow base 5 1 (.slice a' (n + m) c') (n + m) (bs (xs ++ ys))) → Hid (Kept (fun k => v.ownBlock = some k) W W') → wpList Tryd.prog ops Q rest (act.put o.dst (.slice a' (n + m) c')) W') : wpList Tryd.prog ops Q (o :: rest) act W := by
  obtain ⟨i0, hi, hz0, hz1, hz2⟩ := info_parts Tryd.infoB
  cases ad with
  | none =>
    have e0 : ys = [] := by
      cases ys with
      | nil => rfl
      | cons y r => obtain ⟨b, off, e, _⟩ := hc.out (by simp); cases e
    subst e0
    have hm : m = 0 := hl.out
    subst hm
    obtain rfl := h0.out rfl
    obtain ⟨a', c', rfl⟩ := row_shapeH hG.out
    refine wpList_append_own_none hgd s x 23 ho base 5 i0 1 Tryd.underlying23 hi _ n (bs xs) hs hG.out hx ?_
    have := h a' c' W (hideH (by rw [List.append_nil]; exact hG.out)) (hideH (Kept.refl _ _))
    exact this
  | some p =>
    have hcl : ∀ j u, (bs ys)[j]? = some u → W.cell? (p.add j) = some u := by
      intro j u hu
      have hne : ys ≠ [] := by rintro rfl; simp [bs] at hu
      obtain ⟨b, off, e, hcc⟩ := hc.out hne
      cases e
      exact BytesAt.cells hcc j u hu
    refine wpList_append_own W hgd s x 23 ho base 5 i0 (.int .u8 0) 1 1 Tryd.underlying23 hi hz0 hz1 hz2 rfl (by decide) v n (bs xs) hs hG.out p m c (bs ys) hx (by rw [bs_length, hl.out, Nat.mul_one]) hcl (bs_one ys) (by unfold maxLen; omega) (by omega) hb0.out ?_
    intro v' w1 ho1 hg1 _
    rw [← bs_append] at ho1
    obtain ⟨a', c', rfl⟩ := row_shapeH ho1
    exact h a' c' w1 (hideH ho1) (hideH (Kept.grown hg1))
/-- The marks behind a list that is handed in. -/
def hrm (k : Nat) : List Int := (List.range k).map (fun (i : Nat) => (201 + 7 * (i : Int)) % 256)
theorem hrm_length (k : Nat) : (hrm k).length = k := by simp [hrm]
theorem hrm_succ (k : Nat) : hrm (k + 1) = hrm k ++ [(201 + 7 * (k : Int)) % 256] := by simp [hrm, List.range_succ]
theorem conv_atH {W : World} {v : Value} {l : List Int} (h : Lib W v l) : (convert 23 9 v).run Tryd.prog W = .ok (.string (strOfNums l)) W := by
  obtain ⟨a, c, rfl, hb⟩ := h.bytes
  by_cases hne : l = []
  · subst hne
    cases a with
    | none => exact run_convert_bytes_nil W 23 5 Tryd.underlying23 Tryd.underlying5 0 c 9 Tryd.underlying9
    | some ad =>
      have hl : (loadCells ad 0).run Tryd.prog W = .ok (([] : List Int).map (Value.int .u8)).toArray W := by
        have := run_loadCells_list (P := Tryd.prog) W ad [] (fun j v hj => by simp at hj)
        simpa using this
      show (convert 23 9 (.slice (some ad) 0 c)).run Tryd.prog W = _
      rw [run_convert_bytes_string W 23 9 5 _ 0 c Tryd.underlying23 Tryd.underlying5 Tryd.underlying9, run_bytesToString W _ 0 c [] hl]
      rfl
  · obtain ⟨b, off, rfl, hc⟩ := hb hne
    refine run_convert_bytes_arg W 23 5 Tryd.underlying23 Tryd.underlying5 b off l.length c l rfl (fun i hi => ?_) 9 Tryd.underlying9
    simpa [List.getD] using hc i hi
def spx (j : Nat) (x : Int) : Int := bits .xor .u8 x (IntKind.u8.wrap (90 + (j : Int)))
def spl : Nat → List Int → List Int
  | 0, l => l
  | i + 1, l => (spl i l).set i (spx i ((spl i l)[i]?.getD 0))
theorem spl_length : ∀ (i : Nat) (l : List Int), (spl i l).length = l.length
  | 0, _ => rfl
  | i + 1, l => by rw [spl, List.length_set, spl_length i l]
theorem spl_take : ∀ (i n : Nat) (l m : List Int), n = l.length → i ≤ n → (spl i (l ++ m)).take n = spl i l
  | 0, n, l, m, hn, _ => by rw [spl, spl, hn, List.take_left' rfl]
  | i + 1, n, l, m, hn, hi => by
    have ih := spl_take i n l m hn (by omega)
    have hg : (spl i (l ++ m))[i]? = (spl i l)[i]? := by
      rw [← ih, List.getElem?_take, if_pos (by omega)]
    rw [spl, spl, hg, List.take_set, ih]
end Go.Proofs.YtmpneljkpcniiaaDoor
