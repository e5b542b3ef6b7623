import Derived.Test.YtmpneljkpcniiaaDoorHnm
namespace Go.Proofs.YtmpneljkpcniiaaDoor
open Go.ChangeShapes Go.WideShapes Go.ChangeAt Go.RowKit

/-- 'append(s, x...)' to an owned row of numbers, x empty or not. -/
theorem wpList_catHI {base : Nat} {W : World} {ops : Array Oper} {rest : List Oper} {o : Oper} {act : Act} {Q : Exit → Act → World → Prop} (hgd : o.guard = none) (s x : Operand)
    (ho : o.op = .call { callee := .builtin .append, args := #[s, x], argTypes := #[22, 22] }) (v : Value) (n : Nat) (xs ys : List Int) (hs : act.eval s = v) (hG : Hid (W.ownsRow base 3 1 v n (isH xs))) (ad : Option Addr) (m c : Nat) (hx : act.eval x = .slice ad m c)
    (hl : Hid (m = ys.length)) (hc : Hid (IntsAt W ad ys)) (h0 : Hid (ad = none → c = 0)) (hb : n + m ≤ 8796093022208) (hb0 : Hid (base ≤ W.heap.size))
    (h : ∀ a' c' W', Hid (W'.ownsRow base 3 1 (.slice a' (n + m) c') (n + m) (isH (xs ++ ys))) → Hid (Kept (fun k => v.ownBlock = some k) W W') → wpList Tryd.prog ops Q rest (act.put o.dst (.slice a' (n + m) c')) W') : wpList Tryd.prog ops Q (o :: rest) act W := by
  obtain ⟨i0, hi, hz0, hz1, hz2⟩ := info_parts Tryd.infoIH
  cases ad with
  | none =>
    have e0 : ys = [] := by
      cases ys with
      | nil => rfl
      | cons y r => obtain ⟨b, off, e, _⟩ := hc.out (by simp); cases e
    subst e0
    have hm : m = 0 := hl.out
    subst hm
    obtain rfl := h0.out rfl
    obtain ⟨a', c', rfl⟩ := row_shapeH hG.out
    refine wpList_append_own_none hgd s x 22 ho base 3 i0 1 Tryd.underlying22 hi _ n (isH xs) hs hG.out hx ?_
    have := h a' c' W (hideH (by rw [List.append_nil]; exact hG.out)) (hideH (Kept.refl _ _))
    exact this
  | some p =>
    have hcl : ∀ j u, (isH ys)[j]? = some u → W.cell? (p.add j) = some u := by
      intro j u hu
      have hne : ys ≠ [] := by rintro rfl; simp [isH] at hu
      obtain ⟨b, off, e, hcc⟩ := hc.out hne
      cases e
      unfold isH at hu
      rw [List.getElem?_map] at hu
      rcases Nat.lt_or_ge j ys.length with q | q
      · rw [List.getElem?_eq_getElem q] at hu
        simp only [Option.map_some, Option.some.injEq] at hu
        have h9 := hcc j q
        rw [List.getElem?_eq_getElem q] at h9
        rw [Go.WideShapes.add_plain, h9, ← hu]
        rfl
      · rw [List.getElem?_eq_none q] at hu
        cases hu
    refine wpList_append_own W hgd s x 22 ho base 3 i0 (.int .i64 0) 1 8 Tryd.underlying22 hi hz0 hz1 hz2 rfl (by decide) v n (isH xs) hs hG.out p m c (isH ys) hx (by rw [isH_length, hl.out, Nat.mul_one]) hcl (isH_one ys) (by unfold maxLen; omega) (by omega) hb0.out ?_
    intro v' w1 ho1 hg1 _
    rw [← isH_append] at ho1
    obtain ⟨a', c', rfl⟩ := row_shapeH ho1
    exact h a' c' w1 (hideH ho1) (hideH (Kept.grown hg1))
theorem risb_le10 : ∀ (l : List Int) (s : Nat), (∀ x ∈ l, x ≤ 9223372036854775807) → (risb l s).length ≤ 10 * l.length
  | [], _, _ => Nat.zero_le _
  | x :: r, s, h => by
    have hx := h x List.mem_cons_self
    have h1 : (uvb (x.toNat - s)).length ≤ 10 := by rw [uvb_length]; exact (ulen_le _ (by omega)).2
    have h2 := risb_le10 r (x.toNat + 1) (fun y hy => h y (List.mem_cons_of_mem _ hy))
    rw [risb, List.length_append, List.length_cons]
    omega
theorem rising_le {s : List Int} (h : Rsn s) (hn : s.length ≤ 1099511627776) : (rising s).length ≤ 10 * (s.length + 1) := by
  have h1 : (uvb s.length).length ≤ 10 := by rw [uvb_length]; exact (ulen_le _ (by omega)).2
  have h2 := risb_le10 s 0 (fun x hx => (h.ii x hx).2)
  unfold rising
  rw [List.length_append]
  omega
theorem rsn_more {s : List Int} (h : Rsn s) {x : Int} (hx : 1 ≤ x) (hx2 : x ≤ 9223372036854775807) : IsInts (s ++ [x]) ∧ ∀ y ∈ s ++ [x], 0 ≤ y := by
  refine ⟨fun y hy => ?_, fun y hy => ?_⟩
  · rcases List.mem_append.1 hy with q | q
    · exact h.ii y q
    · simp only [List.mem_singleton] at q
      omega
  · rcases List.mem_append.1 hy with q | q
    · exact h.nn y q
    · simp only [List.mem_singleton] at q
      omega
theorem packed_le {q : List Int} (hI : IsInts q) (h0 : ∀ y ∈ q, 0 ≤ y) (hn : q.length ≤ 1099511627776) : (packed q).length ≤ 11 + (q.length * 63 + 7) / 8 := by
  have h1 := (ulen_le q.length (by omega)).2
  have h2 := orl_bits q h0 hI
  rw [packed_length]
  split
  · omega
  · have h3 : q.length * bitLen (orl q) ≤ q.length * 63 := Nat.mul_le_mul_left _ h2
    omega
theorem twd_le {s : List Int} (h : Rsn s) {x : Int} (hx : 1 ≤ x) (hx2 : x ≤ 9223372036854775807) {R : List Int} (hn : s.length ≤ 1048576) (hm : R.length ≤ 1048576) : (twd s x R).length ≤ 33554432 := by
  have h1 := rising_le h (by omega)
  have h2 := packed_le (rsn_more h hx hx2).1 (rsn_more h hx hx2).2 (by rw [List.length_append, List.length_singleton]; omega)
  rw [List.length_append, List.length_singleton] at h2
  unfold twd
  rw [List.length_append, List.length_append]
  omega
theorem LibI.ints {W : World} {a : Option Addr} {n c : Nat} {l : List Int} (h : LibI W (.slice a n c) l) : IntsAt W a l ∧ n = l.length ∧ (a = none → c = 0) ∧ n ≤ c := by
  obtain ⟨a', c', e, hz, hle⟩ := h.shape
  simp only [Value.slice.injEq] at e
  obtain ⟨rfl, rfl, rfl⟩ := e
  refine ⟨fun hne => ?_, rfl, fun e => (hz e).2, hle⟩
  have h0 : 0 < l.length := List.length_pos_iff.2 hne
  obtain ⟨b, c', e, -⟩ := h.cells h0
  simp only [Value.slice.injEq] at e
  obtain ⟨rfl, -, -⟩ := e
  refine ⟨b, 0, rfl, fun k hk => ?_⟩
  obtain ⟨b', c2, e2, hc, -⟩ := h.cells hk
  simp only [Value.slice.injEq, Option.some.injEq, Addr.mk.injEq, and_true] at e2
  obtain ⟨e3, -, -⟩ := e2
  subst e3
  rw [Nat.zero_add]
  exact hc
theorem Lib.bytesE {W : World} {a : Option Addr} {n c : Nat} {l : List Int} (h : Lib W (.slice a n c) l) : BytesAt W a l ∧ n = l.length ∧ (a = none → c = 0) := by
  obtain ⟨a', c', e, hz, hle⟩ := h.shape
  simp only [Value.slice.injEq] at e
  obtain ⟨rfl, rfl, rfl⟩ := e
  obtain ⟨a2, c2, e2, hb⟩ := h.bytes
  simp only [Value.slice.injEq] at e2
  obtain ⟨rfl, -, -⟩ := e2
  exact ⟨hb, rfl, fun e => (hz e).2⟩
theorem Sp.setL {W : World} {o : Nat → Nat} {bw : Nat} {vw : Value} {xw : List Int} {bx : Nat} {vx : Value} {xx : List Int} {vl : Value} {l : List Int} {vb : Value} {b : List Int} (h : Sp W o bw vw xw bx vx xx vl l vb b) {k j : Nat} (hk : vl.ownBlock = some k) (hj : j < l.length) (x : Int) : Sp (W.setCell ⟨k, j, none⟩ (.int .i64 x)) o bw vw xw bx vx xx vl (l.set j x) vb b := by
  have ks := Kept.setCell W ⟨k, j, none⟩ (.int .i64 x)
  have h2 := h.ol k hk
  refine ⟨h.w.kept ks (fun i hi f => ?_), h.x.kept ks (fun i hi f => ?_), h.l.set hk hj x, h.b.kept ks (fun i hi f => ?_), h.ow, h.ox, h.ol, h.ob⟩
  · have e : i = k := f
    have := h.ow i hi
    rw [e] at this
    omega
  · have e : i = k := f
    have := h.ox i hi
    rw [e] at this
    omega
  · have e : i = k := f
    have := h.ob i hi
    rw [e] at this
    omega
theorem Sp.setB {W : World} {o : Nat → Nat} {bw : Nat} {vw : Value} {xw : List Int} {bx : Nat} {vx : Value} {xx : List Int} {vl : Value} {l : List Int} {vb : Value} {b : List Int} (h : Sp W o bw vw xw bx vx xx vl l vb b) {k j : Nat} (hk : vb.ownBlock = some k) (hj : j < b.length) (x : Int) : Sp (W.setCell ⟨k, j, none⟩ (.int .u8 x)) o bw vw xw bx vx xx vl l vb (b.set j x) := by
  have ks := Kept.setCell W ⟨k, j, none⟩ (.int .u8 x)
  have h2 := h.ob k hk
  refine ⟨h.w.kept ks (fun i hi f => ?_), h.x.kept ks (fun i hi f => ?_), h.l.kept ks (fun i hi f => ?_), h.b.set hk hj x, h.ow, h.ox, h.ol, h.ob⟩
  · have e : i = k := f
    have := h.ow i hi
    rw [e] at this
    omega
  · have e : i = k := f
    have := h.ox i hi
    rw [e] at this
    omega
  · have e : i = k := f
    have := h.ol i hi
    rw [e] at this
    omega
def xq : Nat → List Int → List Int
  | 0, b => b
  | i + 1, b => (xq i b).set i (bits .xor .u8 ((xq i b)[i]?.getD 0) 51)
theorem xq_length : ∀ (i : Nat) (b : List Int), (xq i b).length = b.length
  | 0, _ => rfl
  | i + 1, b => by rw [xq, List.length_set, xq_length i b]
set_option maxRecDepth 20000 in
set_option maxHeartbeats 16000000 in
/-- samePlace answers true. -/
theorem same_place (s R : List Int) (sa ra : Option Addr) (n m sc rc : Nat) (w : World) (hn : n = s.length) (hm : m = R.length) (hS : IntsAt w sa s) (hsz : sa = none → sc = 0) (hR : BytesAt w ra R) (hz : ra = none → rc = 0) (hs : Rsn s) (hnb : n ≤ 1048576) (hmb : m ≤ 1048576) :
    Calls Tryd.prog 18 #[.slice sa n sc, .slice ra m rc] w fun e w' => e = .returned (.bool true) ∧ Kept (fun _ => False) w w' := by
  have HNs := hideH hn
  have HMr := hideH hm
  have HRs := hideH hs
  have ka := Kept.alloc w (.cells #[] 3)
  have HO0 : Hid ((w.alloc (.cells #[] 3)).ownsRow w.heap.size 3 1 (.slice (some ⟨w.heap.size, 0, none⟩) 0 0) 0 (isH [])) := hideH ⟨rfl, .inr ⟨w.heap.size, 0, #[], rfl, Nat.le_refl _, heap_alloc_new w _, Nat.le_refl _, Nat.zero_le _, rfl, rfl⟩⟩
  have HI0 : Hid (IntsAt (w.alloc (.cells #[] 3)) sa s) := hideH (fun hne => by
    obtain ⟨b, off, e, hc⟩ := hS hne
    exact ⟨b, off, e, fun j hj => ka.cell (hc j hj) (fun f => f)⟩)
  have HSZ := hideH hsz
  have HZR := hideH hz
  have HBR := hideH hR
  have HKA := hideH ka
  have hs0 : w.heap.size ≤ (w.alloc (.cells #[] 3)).heap.size := ka.size
  clear hn hm hs hS hsz hR hz ka
  go_enter Tryd.func18, Tryd.ntmps18
  go_wp2_with (at_builtin; refine StpH.go ?_)
  refine ⟨?_⟩
  refine wpList_catHI (base := w.heap.size) rfl _ _ rfl (.slice (some ⟨w.heap.size, 0, none⟩) 0 0) 0 [] s rfl HO0 sa n sc rfl HNs HI0 HSZ (by omega) (hideH hs0) ?_
  intro a1 c1 V1 O1 K1
  rw [Nat.zero_add, List.nil_append] at O1
  rw [Nat.zero_add]
  have k1 : Kept (fun _ => False) w V1 := HKA.out.trans K1.out (fun i e => .inr (by have e2 : w.heap.size = i := Option.some.inj e; omega))
  have kb := Kept.alloc V1 (.cells #[] 5)
  have HOb : Hid ((V1.alloc (.cells #[] 5)).ownsRow V1.heap.size 5 1 (.slice (some ⟨V1.heap.size, 0, none⟩) 0 0) 0 (bs [])) := hideH ⟨rfl, .inr ⟨V1.heap.size, 0, #[], rfl, Nat.le_refl _, heap_alloc_new V1 _, Nat.le_refl _, Nat.zero_le _, rfl, rfl⟩⟩
  have HBb : Hid (BytesAt (V1.alloc (.cells #[] 5)) ra R) := hideH (fun hne => by
    obtain ⟨b, off, e, hc⟩ := HBR.out hne
    exact ⟨b, off, e, fun j hj => kb.cell (k1.cell (hc j hj) (fun f => f)) (fun f => f)⟩)
  have hsb : V1.heap.size ≤ (V1.alloc (.cells #[] 5)).heap.size := kb.size
  have HW0 : Hid (w.heap.size ≤ V1.heap.size) := hideH k1.size
  have HK1 := hideH k1
  have HKB := hideH kb
  have HRl := hideH O1.out
  clear O1 K1 k1 kb HO0 HI0 HSZ HKA hs0
  go_wp2_with (at_builtin; refine StpH.go ?_)
  refine ⟨?_⟩
  refine wpList_catH (base := V1.heap.size) rfl _ _ rfl (.slice (some ⟨V1.heap.size, 0, none⟩) 0 0) 0 [] R rfl HOb ra m rc rfl HMr HBb HZR (by omega) (hideH hsb) ?_
  intro a2 c2 V2 O2 K2
  rw [Nat.zero_add, List.nil_append] at O2
  rw [Nat.zero_add]
  have k2 : Kept (fun _ => False) V1 V2 := HKB.out.trans K2.out (fun i e => .inr (by have e2 : V1.heap.size = i := Option.some.inj e; omega))
  have HRl2 := hideH (k2.row HRl.out (fun _ _ f => f))
  have HRb2 := hideH O2.out
  have HK2 := hideH (HK1.out.trans k2 (fun _ f => f.elim))
  have hll : ∀ k, (Value.slice a1 n c1).ownBlock = some k → w.heap.size ≤ k ∧ k < V1.heap.size := fun k e => ⟨(HRl.out.lt k e).1, (HRl.out.lt k e).2⟩
  have HLL := hideH hll
  clear O2 K2 HOb HBb HZR HBR hsb HRl HKB hll HK1
  go_wp2_with (go_at_call 5; refine StpH.go ?_)
  refine ⟨?_⟩
  refine (new_any V2).mono ?_
  rintro e W1 ⟨rfl, hw1, k3⟩
  have HW1 := hideH hw1
  have HK3 := hideH k3
  clear hw1 k3
  go_wp2_with (go_at_call 5; refine StpH.go ?_)
  refine ⟨?_⟩
  refine (new_any W1).mono ?_
  rintro e W2 ⟨rfl, hx2, k4⟩
  have hww := HW1.out.kept k4 (fun _ _ f => f)
  have hkk := HK3.out.trans k4 (fun _ f => f.elim)
  obtain ⟨o, ho⟩ : ∃ o : Nat → Nat, o = fun k => if k = V2.heap.size then 0 else if k = W1.heap.size then 1 else if k < V1.heap.size then (if (Value.slice a1 n c1).ownBlock = some k then 2 else 4) else 3 := ⟨_, rfl⟩
  have hV12 : V1.heap.size ≤ V2.heap.size := k2.size
  have hVW : V2.heap.size < W1.heap.size := HW1.out.lt
  have hbb : ∀ k, (Value.slice a2 m c2).ownBlock = some k → V1.heap.size ≤ k ∧ k < V2.heap.size := fun k e => HRb2.out.lt k e
  have HSp : Hid (Sp W2 o V2.heap.size (.slice none 0 0) [] W1.heap.size (.slice none 0 0) [] (.slice a1 n c1) s (.slice a2 m c2) R) := hideH (by
    refine ⟨hww, hx2, LibI.of_own (hkk.row HRl2.out (fun _ _ f => f)), Lib.of_own (hkk.row HRb2.out (fun _ _ f => f)), fun k hk => ?_, fun k hk => ?_, fun k hk => ?_, fun k hk => ?_⟩
    · rcases hk with rfl | e
      · rw [ho]; exact if_pos rfl
      · cases e
    · rcases hk with rfl | e
      · rw [ho]
        show (if _ then 0 else if _ then 1 else _) = 1
        rw [if_neg (by omega), if_pos rfl]
      · cases e
    · have := HLL.out k hk
      rw [ho]
      show (if _ then 0 else if _ then 1 else if _ then (if _ then 2 else 4) else 3) = 2
      rw [if_neg (by omega), if_neg (by omega), if_pos (by omega), if_pos hk]
    · have := hbb k hk
      rw [ho]
      show (if _ then 0 else if _ then 1 else if _ then (if _ then 2 else 4) else 3) = 3
      rw [if_neg (by omega), if_neg (by omega), if_neg (by omega)])
  have HOL : Hid (∀ k, k < w.heap.size → 4 ≤ o k) := hideH (fun k hk => by
    have h1 := HK2.out.size
    have h2 : w.heap.size ≤ V1.heap.size := HW0.out
    rw [ho]
    show 4 ≤ (if _ then 0 else if _ then 1 else if _ then (if _ then 2 else 4) else 3)
    rw [if_neg (by omega), if_neg (by omega), if_pos (by omega), if_neg (fun e => by have := HLL.out k e; omega)]
    exact Nat.le_refl _)
  have HKw := hideH (HK2.out.trans hkk (fun _ f => f.elim))
  clear hww hx2 k4 hkk ho hbb HRl2 HRb2 HW1 HK2 HK3 HLL k2
  go_wp2_with fail
  obtain ⟨bw, hbw⟩ : ∃ bw, bw = V2.heap.size := ⟨_, rfl⟩
  obtain ⟨bx, hbx⟩ : ∃ bx, bx = W1.heap.size := ⟨_, rfl⟩
  generalize V2.heap.size = bw0 at *
  generalize W1.heap.size = bx0 at *
  clear hbw hbx bw bx
  go_loopw [9] (fun s9 wr => ∃ (i : Nat) (o : Nat → Nat) (vw vx : Value) (D l b : List Int), i ≤ 2 ∧ s9 = .int .i64 i ∧ Hid (Sp wr o bw0 vw D bx0 vx D (.slice a1 n c1) l (.slice a2 m c2) b) ∧ Hid (Rsn l) ∧ Hid (n = l.length) ∧ Hid (m = b.length) ∧ D.length ≤ i * 33554432 ∧ Hid (∀ k, k < w.heap.size → 4 ≤ o k) ∧ Hid (Kept (fun _ => False) w wr)) (fun s9 _ => 2 - (intOf s9).toNat)
  case atStart => exact ⟨0, o, _, _, [], s, R, by omega, rfl, HSp, HRs, HNs, HMr, by simp, HOL, HKw⟩
  case round =>
  obtain ⟨i, o, vw, vx, D, l, b, hi, rfl, HS, HR, HNl, HMb, hD, HO, HK⟩ := hrel
  obtain ⟨Wa, hWa⟩ : ∃ Wa, Wa = wr := ⟨_, rfl⟩
  rw [← hWa] at HS HK ⊢
  clear hWa HSp HOL HKw HRs HNs HMr
  by_cases hlt : i < 2
  case neg =>
    obtain rfl : i = 2 := by omega
    have i1 : ¬ ((2 : Nat) : Int) < 2 := by omega
    go_wp2
    go_ret
    exact ⟨rfl, HK.out⟩
  have i1 : (i : Int) < 2 := by omega
  have hDb : D.length ≤ 67108864 := by omega
  have hrl := rising_le HR.out (by rw [← HNl.out]; omega)
  have hmo := rsn_more HR.out (x := 7) (by decide) (by decide)
  have hpl := packed_le hmo.1 hmo.2 (by rw [List.length_append, List.length_singleton, ← HNl.out]; omega)
  have hl7 : (l ++ [(7 : Int)]).length = n + 1 := by rw [List.length_append, List.length_singleton, ← HNl.out]
  rw [hl7] at hpl
  rw [← HNl.out] at hrl
  have HL7 := hideH hl7
  have HMO := hideH hmo
  -- the first Writer: the rising list
  obtain ⟨al, cl, el, hfar⟩ := HS.out.l.far (bw := bw0) (u := vw) (fun k e f => by have h1 := HS.out.ol k e; have h2 := HS.out.ow k f; omega)
  have C1 := hideH (rising_any bw0 vw D l al cl Wa HS.out.w hfar HR.out.nn HR.out.ii HR.out.rb (by rw [← HNl.out]; omega) (by rw [← HNl.out]; omega))
  rw [← HNl.out] at C1 el
  simp only [Value.slice.injEq] at el
  obtain ⟨rfl, -, rfl⟩ := el
  clear hfar hmo hl7
  go_wp2_with (go_at_call 6; refine StpH.go ?_)
  refine ⟨?_⟩
  refine C1.out.mono ?_
  clear C1
  rintro e W3 ⟨rfl, v1, hw3, st3⟩
  obtain ⟨o1, hsp1, ho1⟩ := HS.out.stepW st3 hw3
  have hk1 : Kept (fun _ => False) w W3 := HK.out.trans st3.kept (fun k e => .inr (by
    apply Classical.byContradiction
    intro hlt
    have h1 := HO.out k (by omega)
    have h2 := HS.out.ow k e
    omega))
  have HO1 : Hid (∀ k, k < w.heap.size → 4 ≤ o1 k) := hideH (fun k hk => by have := HK.out.size; rw [ho1 k (by omega)]; exact HO.out k hk)
  have ka := Kept.alloc W3 (.cells #[.int .i64 7] 3)
  have hsp1a := hsp1.later ka
  have HS1 := hideH hsp1a
  have HK1 := hideH (hk1.trans ka (fun _ f => f.elim))
  have HLi := hideH hsp1a.l
  have HC1 := hideH (one_cellI W3 7)
  clear st3 hw3 hsp1 ho1 hk1 ka hsp1a HS HK HO
  go_wp2_with (at_builtin; refine StpH.go ?_)
  refine ⟨?_⟩
  refine wpList_unguard rfl ?_
  refine wpList_libI rfl _ _ rfl (.slice a1 n c1) l [7] rfl HLi W3.heap.size 1 1 rfl (hideH rfl) HC1 n HNl (by decide) (by omega) ?_
  intro a3 c3 W4 HL4 HS4
  obtain ⟨o2, hsp2, hv2, ho2⟩ := HS1.out.stepL (by rw [← HNl.out]; exact HS4.out)
  have hk2 : Kept (fun _ => False) w W4 := HK1.out.trans HS4.out.kept (fun k e => .inr (by
    apply Classical.byContradiction
    intro hlt
    have h1 := HO1.out k (by omega)
    have h2 := HS1.out.ol k e
    omega))
  have HO2 : Hid (∀ k, k < w.heap.size → 4 ≤ o2 k) := hideH (fun k hk => by have := HK1.out.size; rw [ho2 k (by omega)]; exact HO1.out k hk)
  obtain ⟨ap, cp, ep, hfar⟩ := HL4.out.far (bw := bw0) (u := v1) (fun k e f => by have h1 := hv2 k e; have h2 := hsp2.ow k f; omega)
  rw [HL7.out] at ep
  simp only [Value.slice.injEq] at ep
  obtain ⟨rfl, -, rfl⟩ := ep
  have C2 := hideH (packed_any bw0 v1 (D ++ rising l) (l ++ [7]) a3 c3 W4 hsp2.w hfar HMO.out.2 HMO.out.1 (.inl (orl_more l 7 (by decide)).2) (by rw [HL7.out]; omega) (by rw [HL7.out, List.length_append]; omega))
  rw [HL7.out] at C2
  have HS2 := hideH hsp2
  have HK2 := hideH hk2
  clear hsp2 hv2 ho2 hk2 hfar HL4 HS4 HLi HC1 HS1 HK1 HO1
  go_wp2_with (go_at_call 7; refine StpH.go ?_)
  refine ⟨?_⟩
  refine C2.out.mono ?_
  clear C2
  rintro e W5 ⟨rfl, v2, hw5, st5⟩
  obtain ⟨o3, hsp3, ho3⟩ := HS2.out.stepW st5 hw5
  have hk3 : Kept (fun _ => False) w W5 := HK2.out.trans st5.kept (fun k e => .inr (by
    apply Classical.byContradiction
    intro hlt
    have h1 := HO2.out k (by omega)
    have h2 := HS2.out.ow k e
    omega))
  have HO3 : Hid (∀ k, k < w.heap.size → 4 ≤ o3 k) := hideH (fun k hk => by have := HK2.out.size; rw [ho3 k (by omega)]; exact HO2.out k hk)
  have hby := hsp3.b.bytesE
  have C3 := hideH (raw_any bw0 v2 ((D ++ rising l) ++ packed (l ++ [7])) b a2 c2 W5 hsp3.w hby.1 hby.2.2 (by rw [← HMb.out, List.length_append, List.length_append]; omega))
  rw [← HMb.out] at C3
  have HS3 := hideH hsp3
  have HK3 := hideH hk3
  clear st5 hw5 hsp3 ho3 hk3 hby HS2 HK2 HO2
  go_wp2_with (go_at_call 8; refine StpH.go ?_)
  refine ⟨?_⟩
  refine C3.out.mono ?_
  clear C3
  rintro e W6 ⟨rfl, v3, hw6, st6⟩
  have hDe : D ++ rising l ++ packed (l ++ [7]) ++ b = D ++ twd l 7 b := by unfold twd; rw [List.append_assoc, List.append_assoc]
  rw [hDe] at hw6
  obtain ⟨o4, hsp4, ho4⟩ := HS3.out.stepW st6 hw6
  have hk4 : Kept (fun _ => False) w W6 := HK3.out.trans st6.kept (fun k e => .inr (by
    apply Classical.byContradiction
    intro hlt
    have h1 := HO3.out k (by omega)
    have h2 := HS3.out.ow k e
    omega))
  have HO4 : Hid (∀ k, k < w.heap.size → 4 ≤ o4 k) := hideH (fun k hk => by have := HK3.out.size; rw [ho4 k (by omega)]; exact HO3.out k hk)
  -- a list of one's own for the second Writer
  have ka := Kept.alloc W6 (.cells #[] 3)
  have hsp4a := hsp4.later ka
  have HOf : Hid ((W6.alloc (.cells #[] 3)).ownsRow W6.heap.size 3 1 (.slice (some ⟨W6.heap.size, 0, none⟩) 0 0) 0 (isH [])) := hideH ⟨rfl, .inr ⟨W6.heap.size, 0, #[], rfl, Nat.le_refl _, heap_alloc_new W6 _, Nat.le_refl _, Nat.zero_le _, rfl, rfl⟩⟩
  have hin := hsp4a.l.ints
  have HIf := hideH hin.1
  have HZf := hideH hin.2.2.1
  have hs6 : W6.heap.size ≤ (W6.alloc (.cells #[] 3)).heap.size := ka.size
  have HS4 := hideH hsp4a
  have HK4 := hideH (hk4.trans ka (fun _ f => f.elim))
  have hw6s : w.heap.size ≤ W6.heap.size := hk4.size
  have HO4b : Hid (∀ k, WF bw0 v3 k ∨ WF bx0 vx k ∨ (Value.slice a1 n c1).ownBlock = some k ∨ (Value.slice a2 m c2).ownBlock = some k → k < W6.heap.size) := hideH (fun k hk => by
    rcases hk with q | q | q | q
    · exact hsp4.w.wf_lt q
    · exact hsp4.x.wf_lt q
    · exact hsp4.l.lt q
    · exact hsp4.b.lt q)
  clear st6 hw6 hsp4 ho4 hk4 hDe ka hsp4a hin HS3 HK3 HO3
  go_wp2_with (at_builtin; refine StpH.go ?_)
  refine ⟨?_⟩
  refine wpList_catHI (base := W6.heap.size) rfl _ _ rfl (.slice (some ⟨W6.heap.size, 0, none⟩) 0 0) 0 [] l rfl HOf a1 n c1 rfl HNl HIf HZf (by omega) (hideH hs6) ?_
  intro a4 c4 W7 O7 K7
  rw [Nat.zero_add, List.nil_append] at O7
  rw [Nat.zero_add]
  have hF7 : ∀ k, k < W6.heap.size → ¬ (Value.slice (some ⟨W6.heap.size, 0, none⟩) 0 0).ownBlock = some k := fun k hk e => by have e2 : W6.heap.size = k := Option.some.inj e; omega
  have h7 : Sp W7 o4 bw0 v3 (D ++ twd l 7 b) bx0 vx D (.slice a1 n c1) l (.slice a2 m c2) b := ⟨HS4.out.w.kept K7.out (fun k hk => hF7 k (HO4b.out k (.inl hk))), HS4.out.x.kept K7.out (fun k hk => hF7 k (HO4b.out k (.inr (.inl hk)))), HS4.out.l.kept K7.out (fun k hk => hF7 k (HO4b.out k (.inr (.inr (.inl hk))))), HS4.out.b.kept K7.out (fun k hk => hF7 k (HO4b.out k (.inr (.inr (.inr hk))))), HS4.out.ow, HS4.out.ox, HS4.out.ol, HS4.out.ob⟩
  have hk7 : Kept (fun _ => False) w W7 := HK4.out.trans K7.out (fun k e => .inr (by
    have e2 : W6.heap.size = k := Option.some.inj e
    have h1 := HK4.out.size
    have h2 : (W6.alloc (.cells #[] 3)).heap.size = W6.heap.size + 1 := by simp
    omega))
  have hlf : ∀ k, (Value.slice a4 n c4).ownBlock = some k → W6.heap.size ≤ k := fun k e => (O7.out.lt k e).1
  have hli7 : LibI W7 (.slice a4 n c4) l := LibI.of_own O7.out
  obtain ⟨al, cl, el, hfar⟩ := hli7.far (bw := bx0) (u := vx) (fun k e f => by have h1 := hlf k e; have h2 := HO4b.out k (.inr (.inl f)); omega)
  have C1 := hideH (rising_any bx0 vx D l al cl W7 h7.x hfar HR.out.nn HR.out.ii HR.out.rb (by rw [← HNl.out]; omega) (by rw [← HNl.out]; omega))
  rw [← HNl.out] at C1 el
  simp only [Value.slice.injEq] at el
  obtain ⟨rfl, -, rfl⟩ := el
  have HS7 := hideH h7
  have HK7 := hideH hk7
  have HLf := hideH hli7
  have HWl := hideH hlf
  have h67 : W6.heap.size ≤ W7.heap.size := Nat.le_trans hs6 K7.out.size
  clear hfar h7 hk7 hli7 hlf O7 K7 hF7 HS4 HK4 HIf HZf HOf hs6
  go_wp2_with (go_at_call 6; refine StpH.go ?_)
  refine ⟨?_⟩
  refine C1.out.mono ?_
  clear C1
  rintro e W8 ⟨rfl, u1, hw8, st8⟩
  obtain ⟨o5, hsp5, ho5⟩ := HS7.out.stepX st8 hw8
  have hk8 : Kept (fun _ => False) w W8 := HK7.out.trans st8.kept (fun k e => .inr (by
    apply Classical.byContradiction
    intro hlt
    have h1 := HO4.out k (by omega)
    have h2 := HS7.out.ox k e
    omega))
  have HO5 : Hid (∀ k, k < w.heap.size → 4 ≤ o5 k) := hideH (fun k hk => by have := HK7.out.size; rw [ho5 k (by omega)]; exact HO4.out k hk)
  have hf8 : LibI W8 (.slice a4 n c4) l := HLf.out.kept st8.kept (fun k e f => by have h1 := HWl.out k e; have h2 := HO4b.out k (.inr (.inl f)); omega)
  have ka := Kept.alloc W8 (.cells #[.int .i64 7] 3)
  have HS8 := hideH (hsp5.later ka)
  have HK8 := hideH (hk8.trans ka (fun _ f => f.elim))
  have HLf8 := hideH (hf8.later ka)
  have HC8 := hideH (one_cellI W8 7)
  have HU1 : Hid (∀ k, WF bx0 u1 k → k < W6.heap.size ∨ W7.heap.size ≤ k) := hideH (fun k hk => by
    rcases hk with q | q
    · exact .inl (HO4b.out k (.inr (.inl (.inl q))))
    · rcases st8.new k q with q2 | q2
      · exact .inl (HO4b.out k (.inr (.inl (.inr q2))))
      · exact .inr q2)
  have hf7 : ∀ k, (Value.slice a4 n c4).ownBlock = some k → k < W7.heap.size := fun k e => HLf.out.lt e
  have HF7 := hideH hf7
  have HAll8 : Hid (∀ k, WF bw0 v3 k ∨ WF bx0 u1 k ∨ (Value.slice a1 n c1).ownBlock = some k ∨ (Value.slice a2 m c2).ownBlock = some k → (Value.slice a4 n c4).ownBlock ≠ some k) := hideH (fun k hk e => by
    have h1 := HWl.out k e
    have h2 := hf7 k e
    rcases hk with q | q | q | q
    · have := HO4b.out k (.inl q); omega
    · have := HU1.out k q; omega
    · have := HO4b.out k (.inr (.inr (.inl q))); omega
    · have := HO4b.out k (.inr (.inr (.inr q))); omega)
  clear st8 hw8 hsp5 ho5 hk8 hf8 ka hf7 HS7 HK7 HLf HO4
  go_wp2_with (at_builtin; refine StpH.go ?_)
  refine ⟨?_⟩
  refine wpList_unguard rfl ?_
  refine wpList_libI rfl _ _ rfl (.slice a4 n c4) l [7] rfl HLf8 W8.heap.size 1 1 rfl (hideH rfl) HC8 n HNl (by decide) (by omega) ?_
  intro a5 c5 W9 HL9 HS9
  have h9 : Sp W9 o5 bw0 v3 (D ++ twd l 7 b) bx0 u1 (D ++ rising l) (.slice a1 n c1) l (.slice a2 m c2) b := ⟨HS8.out.w.kept HS9.out.kept (fun k hk e => HAll8.out k (.inl hk) e), HS8.out.x.kept HS9.out.kept (fun k hk e => HAll8.out k (.inr (.inl hk)) e), HS8.out.l.kept HS9.out.kept (fun k hk e => HAll8.out k (.inr (.inr (.inl hk))) e), HS8.out.b.kept HS9.out.kept (fun k hk e => HAll8.out k (.inr (.inr (.inr hk))) e), HS8.out.ow, HS8.out.ox, HS8.out.ol, HS8.out.ob⟩
  have hk9 : Kept (fun _ => False) w W9 := HK8.out.trans HS9.out.kept (fun k e => .inr (by have := HWl.out k e; omega))
  have hx8 : ∀ k, WF bx0 u1 k → k < (W8.alloc (.cells #[.int .i64 7] 3)).heap.size := fun k hk => HS8.out.x.wf_lt hk
  obtain ⟨ap, cp, ep, hfar⟩ := HL9.out.far (bw := bx0) (u := u1) (fun k e f => by
    rcases HS9.out.new k e with q | q
    · exact HAll8.out k (.inr (.inl f)) q
    · have := hx8 k f; omega)
  rw [HL7.out] at ep
  simp only [Value.slice.injEq] at ep
  obtain ⟨rfl, -, rfl⟩ := ep
  have C2 := hideH (packed_any bx0 u1 (D ++ rising l) (l ++ [7]) a5 c5 W9 h9.x hfar HMO.out.2 HMO.out.1 (.inl (orl_more l 7 (by decide)).2) (by rw [HL7.out]; omega) (by rw [HL7.out, List.length_append]; omega))
  rw [HL7.out] at C2
  have HS9s := hideH h9
  have HK9 := hideH hk9
  clear h9 hk9 hx8 hfar HL9 HS9 HLf8 HC8 HS8 HK8 HAll8 HU1 HF7
  go_wp2_with (go_at_call 7; refine StpH.go ?_)
  refine ⟨?_⟩
  refine C2.out.mono ?_
  clear C2
  rintro e W10 ⟨rfl, u2, hw10, st10⟩
  obtain ⟨o6, hsp6, ho6⟩ := HS9s.out.stepX st10 hw10
  have hk10 : Kept (fun _ => False) w W10 := HK9.out.trans st10.kept (fun k e => .inr (by
    apply Classical.byContradiction
    intro hlt
    have h1 := HO5.out k (by omega)
    have h2 := HS9s.out.ox k e
    omega))
  have HO6 : Hid (∀ k, k < w.heap.size → 4 ≤ o6 k) := hideH (fun k hk => by have := HK9.out.size; rw [ho6 k (by omega)]; exact HO5.out k hk)
  have ka := Kept.alloc W10 (.cells #[] 5)
  have hsp6a := hsp6.later ka
  have HOg : Hid ((W10.alloc (.cells #[] 5)).ownsRow W10.heap.size 5 1 (.slice (some ⟨W10.heap.size, 0, none⟩) 0 0) 0 (bs [])) := hideH ⟨rfl, .inr ⟨W10.heap.size, 0, #[], rfl, Nat.le_refl _, heap_alloc_new W10 _, Nat.le_refl _, Nat.zero_le _, rfl, rfl⟩⟩
  have hby := hsp6a.b.bytesE
  have HBy := hideH hby.1
  have HZy := hideH hby.2.2
  have hs10 : W10.heap.size ≤ (W10.alloc (.cells #[] 5)).heap.size := ka.size
  have hw10s : w.heap.size ≤ W10.heap.size := hk10.size
  have HS6 := hideH hsp6a
  have HK10 := hideH (hk10.trans ka (fun _ f => f.elim))
  have HB6 : Hid (∀ k, WF bw0 v3 k ∨ WF bx0 u2 k ∨ (Value.slice a1 n c1).ownBlock = some k ∨ (Value.slice a2 m c2).ownBlock = some k → k < W10.heap.size) := hideH (fun k hk => by
    rcases hk with q | q | q | q
    · exact hsp6.w.wf_lt q
    · exact hsp6.x.wf_lt q
    · exact hsp6.l.lt q
    · exact hsp6.b.lt q)
  clear st10 hw10 hsp6 ho6 hk10 ka hsp6a hby HS9s HK9 HO5 HO4b HWl
  go_wp2_with (at_builtin; refine StpH.go ?_)
  refine ⟨?_⟩
  refine wpList_catH (base := W10.heap.size) rfl _ _ rfl (.slice (some ⟨W10.heap.size, 0, none⟩) 0 0) 0 [] b rfl HOg a2 m c2 rfl HMb HBy HZy (by omega) (hideH hs10) ?_
  intro a6 c6 W11 O11 K11
  rw [Nat.zero_add, List.nil_append] at O11
  rw [Nat.zero_add]
  have hF11 : ∀ k, k < W10.heap.size → ¬ (Value.slice (some ⟨W10.heap.size, 0, none⟩) 0 0).ownBlock = some k := fun k hk e => by have e2 : W10.heap.size = k := Option.some.inj e; omega
  have h11 : Sp W11 o6 bw0 v3 (D ++ twd l 7 b) bx0 u2 ((D ++ rising l) ++ packed (l ++ [7])) (.slice a1 n c1) l (.slice a2 m c2) b := ⟨HS6.out.w.kept K11.out (fun k hk => hF11 k (HB6.out k (.inl hk))), HS6.out.x.kept K11.out (fun k hk => hF11 k (HB6.out k (.inr (.inl hk)))), HS6.out.l.kept K11.out (fun k hk => hF11 k (HB6.out k (.inr (.inr (.inl hk))))), HS6.out.b.kept K11.out (fun k hk => hF11 k (HB6.out k (.inr (.inr (.inr hk))))), HS6.out.ow, HS6.out.ox, HS6.out.ol, HS6.out.ob⟩
  have hk11 : Kept (fun _ => False) w W11 := HK10.out.trans K11.out (fun k e => .inr (by have e2 : W10.heap.size = k := Option.some.inj e; omega))
  have hb6 := (Lib.of_own O11.out).bytesE
  have C3 := hideH (raw_any bx0 u2 ((D ++ rising l) ++ packed (l ++ [7])) b a6 c6 W11 h11.x hb6.1 hb6.2.2 (by rw [← HMb.out, List.length_append, List.length_append]; omega))
  rw [← HMb.out] at C3
  have HS11 := hideH h11
  have HK11 := hideH hk11
  clear h11 hk11 hb6 hF11 O11 K11 HS6 HK10 HBy HZy HOg HB6 hs10
  go_wp2_with (go_at_call 8; refine StpH.go ?_)
  refine ⟨?_⟩
  refine C3.out.mono ?_
  clear C3
  rintro e W12 ⟨rfl, u3, hw12, st12⟩
  have hDe : D ++ rising l ++ packed (l ++ [7]) ++ b = D ++ twd l 7 b := by unfold twd; rw [List.append_assoc, List.append_assoc]
  rw [hDe] at hw12
  obtain ⟨o7, hsp7, ho7⟩ := HS11.out.stepX st12 hw12
  have hk12 : Kept (fun _ => False) w W12 := HK11.out.trans st12.kept (fun k e => .inr (by
    apply Classical.byContradiction
    intro hlt
    have h1 := HO6.out k (by omega)
    have h2 := HS11.out.ox k e
    omega))
  have HO7 : Hid (∀ k, k < w.heap.size → 4 ≤ o7 k) := hideH (fun k hk => by have := HK11.out.size; rw [ho7 k (by omega)]; exact HO6.out k hk)
  have htw := twd_le HR.out (x := 7) (by decide) (by decide) (R := b) (by rw [← HNl.out]; omega) (by rw [← HMb.out]; omega)
  obtain ⟨E, hE⟩ : ∃ E, E = D ++ twd l 7 b := ⟨_, rfl⟩
  have hEl : E.length ≤ (i + 1) * 33554432 := by rw [hE, List.length_append]; omega
  rw [← hE] at hsp7
  have HS12 := hideH hsp7
  have HK12 := hideH hk12
  clear hDe hw12 st12 hsp7 ho7 hk12 htw hE HS11 HK11 HO6
  have CBw : Hid (∀ W, Kept (fun _ => False) W12 W → Calls Tryd.prog 9 #[.pointer (some ⟨bw0, 0, none⟩)] W fun e w' => e = .returned (.slice (some ⟨W.heap.size, 0, none⟩) E.length E.length) ∧ w'.ownsRow W.heap.size 5 1 (.slice (some ⟨W.heap.size, 0, none⟩) E.length E.length) E.length (bs E) ∧ Kept (fun _ => False) W w') := hideH (fun W k => bytes_any bw0 v3 E W (HS12.out.later k).w (by omega))
  have CBx : Hid (∀ W, Kept (fun _ => False) W12 W → Calls Tryd.prog 9 #[.pointer (some ⟨bx0, 0, none⟩)] W fun e w' => e = .returned (.slice (some ⟨W.heap.size, 0, none⟩) E.length E.length) ∧ w'.ownsRow W.heap.size 5 1 (.slice (some ⟨W.heap.size, 0, none⟩) E.length E.length) E.length (bs E) ∧ Kept (fun _ => False) W w') := hideH (fun W k => bytes_any bx0 u3 E W (HS12.out.later k).x (by omega))
  have hS : Kept (fun _ => False) W12 W12.drew := Kept.drew W12
  go_wp2_with fail
  refine wp_region_held (S := fun W' => Kept (fun _ => False) W12 W') (by kernel_rfl) ?_
  change wpAnyH _ _ _ _ _ _ _ _ (World.drew _)
  refine takeYH (i := 0) (d := 66) (v := .pointer (some ⟨bw0, 0, none⟩)) rfl rfl (by kernel_rfl) (by kernel_rfl) (by kernel_rfl) (fun _ _ _ h => h) (Or.inl ⟨by rfl, fun W hW => ?_⟩) hS ?_
  · (go_simp)
  simp only [Act.put, List.setIfInBounds_toArray, List.set_cons_zero, List.set_cons_succ]
  refine takeYH (i := 3) (d := 69) (v := .pointer (some ⟨bx0, 0, none⟩)) rfl rfl (by kernel_rfl) (by kernel_rfl) (by kernel_rfl) (fun _ _ _ h => h) (Or.inl ⟨by rfl, fun W hW => ?_⟩) hS ?_
  · (go_simp)
  simp only [Act.put, List.setIfInBounds_toArray, List.set_cons_zero, List.set_cons_succ]
  refine wpAnyH_all (rs := [1]) (by kernel_rfl) (by simp) ?_
  intro i' hi'
  obtain rfl : i' = 1 := by simpa using hi'
  unfold wpOp
  go_simp
  first | refine (CBw.out W12.drew hS).mono ?_ | refine Or.inl ((CBw.out W12.drew hS).mono ?_)
  rintro e Wy ⟨rfl, hry, ky0⟩
  have ky : Kept (fun _ => False) W12 Wy := hS.trans ky0 (fun _ f => f.elim)
  have cy : (convert 23 9 (.slice (some ⟨W12.heap.size, 0, none⟩) E.length E.length)).run Tryd.prog Wy = .ok (.string (strOfNums E)) Wy := conv_atH (Lib.of_own hry)
  refine ⟨ky, ?_⟩
  refine wpAnyH_all (rs := [2, 4]) (by kernel_rfl) (by simp) ?_
  intro i' hi'
  obtain rfl | rfl : i' = 2 ∨ i' = 4 := by simpa using hi'
  case' inl =>
    unfold wpOp
    go_simp
    first | refine Or.inl ⟨ky, ?_⟩ | refine ⟨ky, ?_⟩ | (change wpAnyH _ _ _ _ _ _ _ _ _) | refine Or.inl ?_
    refine wpAnyH_all (rs := [4]) (by kernel_rfl) (by simp) ?_
    intro i' hi'
    obtain rfl : i' = 4 := by simpa using hi'
    unfold wpOp
    go_simp
    first | refine (CBx.out Wy ky).mono ?_ | refine Or.inl ((CBx.out Wy ky).mono ?_)
    rintro e Wz ⟨rfl, hrz, kz0⟩
    have kz : Kept (fun _ => False) W12 Wz := ky.trans kz0 (fun _ f => f.elim)
    have cz1 : (convert 23 9 (.slice (some ⟨W12.heap.size, 0, none⟩) E.length E.length)).run Tryd.prog Wz = .ok (.string (strOfNums E)) Wz := conv_atH (Lib.of_own (kz0.row hry (fun _ _ f => f)))
    have cz2 := conv_atH (Lib.of_own hrz)
    refine ⟨kz, ?_⟩
    refine wpAnyH_all (rs := [5]) (by kernel_rfl) (by simp) ?_
    intro i' hi'
    obtain rfl : i' = 5 := by simpa using hi'
    unfold wpOp
    go_simp
    first | refine Or.inl ⟨kz, ?_⟩ | refine ⟨kz, ?_⟩ | (change wpAnyH _ _ _ _ _ _ _ _ _) | refine Or.inl ?_
    refine wpAnyH_all (rs := [6]) (by kernel_rfl) (by simp) ?_
    intro i' hi'
    obtain rfl : i' = 6 := by simpa using hi'
    unfold wpOp
    go_simp
    first | refine Or.inl ⟨kz, ?_⟩ | refine ⟨kz, ?_⟩ | (change wpAnyH _ _ _ _ _ _ _ _ _) | refine Or.inl ?_
    refine wpAnyH_done (by kernel_rfl) ?_ _
  case' inr =>
    unfold wpOp
    go_simp
    first | refine (CBx.out Wy ky).mono ?_ | refine Or.inl ((CBx.out Wy ky).mono ?_)
    rintro e Wz ⟨rfl, hrz, kz0⟩
    have kz : Kept (fun _ => False) W12 Wz := ky.trans kz0 (fun _ f => f.elim)
    have cz1 : (convert 23 9 (.slice (some ⟨W12.heap.size, 0, none⟩) E.length E.length)).run Tryd.prog Wz = .ok (.string (strOfNums E)) Wz := conv_atH (Lib.of_own (kz0.row hry (fun _ _ f => f)))
    have cz2 := conv_atH (Lib.of_own hrz)
    refine ⟨kz, ?_⟩
    refine wpAnyH_all (rs := [2, 5]) (by kernel_rfl) (by simp) ?_
    intro i' hi'
    obtain rfl | rfl : i' = 2 ∨ i' = 5 := by simpa using hi'
    case' inl =>
      unfold wpOp
      go_simp
      first | refine Or.inl ⟨kz, ?_⟩ | refine ⟨kz, ?_⟩ | (change wpAnyH _ _ _ _ _ _ _ _ _) | refine Or.inl ?_
      refine wpAnyH_all (rs := [5]) (by kernel_rfl) (by simp) ?_
      intro i' hi'
      obtain rfl : i' = 5 := by simpa using hi'
      unfold wpOp
      go_simp
      first | refine Or.inl ⟨kz, ?_⟩ | refine ⟨kz, ?_⟩ | (change wpAnyH _ _ _ _ _ _ _ _ _) | refine Or.inl ?_
      refine wpAnyH_all (rs := [6]) (by kernel_rfl) (by simp) ?_
      intro i' hi'
      obtain rfl : i' = 6 := by simpa using hi'
      unfold wpOp
      go_simp
      first | refine Or.inl ⟨kz, ?_⟩ | refine ⟨kz, ?_⟩ | (change wpAnyH _ _ _ _ _ _ _ _ _) | refine Or.inl ?_
      refine wpAnyH_done (by kernel_rfl) ?_ _
    case' inr =>
      unfold wpOp
      go_simp
      first | refine Or.inl ⟨kz, ?_⟩ | refine ⟨kz, ?_⟩ | (change wpAnyH _ _ _ _ _ _ _ _ _) | refine Or.inl ?_
      refine wpAnyH_all (rs := [2]) (by kernel_rfl) (by simp) ?_
      intro i' hi'
      obtain rfl : i' = 2 := by simpa using hi'
      unfold wpOp
      go_simp
      first | refine Or.inl ⟨kz, ?_⟩ | refine ⟨kz, ?_⟩ | (change wpAnyH _ _ _ _ _ _ _ _ _) | refine Or.inl ?_
      refine wpAnyH_all (rs := [6]) (by kernel_rfl) (by simp) ?_
      intro i' hi'
      obtain rfl : i' = 6 := by simpa using hi'
      unfold wpOp
      go_simp
      first | refine Or.inl ⟨kz, ?_⟩ | refine ⟨kz, ?_⟩ | (change wpAnyH _ _ _ _ _ _ _ _ _) | refine Or.inl ?_
      refine wpAnyH_done (by kernel_rfl) ?_ _
  all_goals
    have HSz := hideH (HS12.out.later kz)
    have HKz := hideH (HK12.out.trans kz (fun _ f => f.elim))
    clear cy cz1 cz2 hry hrz ky kz0 hS ky0 CBw CBx kz HS12 HK12
    go_wp2_with fail
    go_loopw [75] (fun s75 wr => ∃ j : Nat, j ≤ n ∧ s75 = .int .i64 j ∧ Hid (Sp wr o7 bw0 v3 E bx0 u3 E (.slice a1 n c1) (thd j l) (.slice a2 m c2) b) ∧ Hid (Kept (fun _ => False) w wr)) (fun s75 _ => n - (intOf s75).toNat)
    case atStart => exact ⟨0, by omega, rfl, hideH (by rw [thd_zero]; exact HSz.out), HKz⟩
    case round =>
    obtain ⟨j, hj, rfl, HSj, HKj⟩ := hrel
    obtain ⟨Wj, hWj⟩ : ∃ Wj, Wj = wr := ⟨_, rfl⟩
    rw [← hWj] at HSj HKj ⊢
    clear hWj
    by_cases hjl : j < n
    · have hjt : j < (thd j l).length := by rw [thd_length _ _ (by rw [← HNl.out]; omega), ← HNl.out]; exact hjl
      obtain ⟨lb, lc, el, y1, y2⟩ := HSj.out.l.cells hjt
      have hlb : (Value.slice a1 n c1).ownBlock = some lb := by rw [el]; rfl
      simp only [Value.slice.injEq] at el
      obtain ⟨ea, -, -⟩ := el
      have hset := HSj.out.setL hlb hjt (3 * (j : Int) + 1)
      rw [thd_set _ _ (by rw [← HNl.out]; exact hjl)] at hset
      have hks : Kept (fun _ => False) w (Wj.setCell ⟨lb, j, none⟩ (.int .i64 (3 * (j : Int) + 1))) := HKj.out.trans (Kept.setCell Wj ⟨lb, j, none⟩ _) (fun k e => .inr (by
        apply Classical.byContradiction
        intro hlt
        have h1 := HO7.out k (by omega)
        have e2 : k = lb := e
        have h2 := HSj.out.ol lb hlb
        rw [e2] at h1
        omega))
      have HSn := hideH hset
      have HKn := hideH hks
      subst ea
      generalize (thd j l)[j]?.getD 0 = yv at y1
      have j1 : (j : Int) < (n : Int) := by omega
      have j2 : IntKind.i64.wrap (3 * (j : Int)) = 3 * (j : Int) := by rw [IntKind.wrap_i64]; omega
      have j3 : IntKind.i64.wrap (3 * (j : Int) + 1) = 3 * (j : Int) + 1 := by rw [IntKind.wrap_i64]; omega
      clear hset hks hlb hjt HSj HKj HSz HKz
      go_wp2
      go_roundw
      case rel => exact ⟨j + 1, by omega, by go_num, HSn, HKn⟩
      case measure => simp [intOf]; omega
    obtain rfl : j = n := by omega
    have j1 : ¬ (j : Int) < (j : Int) := by omega
    have hth : thd j l = thr j := by rw [HNl.out]; exact thd_all l
    rw [hth] at HSj
    have HRt := hideH (thr_rsn j (by omega))
    have HNt : Hid (j = (thr j).length) := hideH (thr_length j).symm
    clear hth HSz HKz hjl hj
    go_wp2
    go_loopw [87] (fun s87 wr => ∃ t : Nat, t ≤ m ∧ s87 = .int .i64 t ∧ Hid (Sp wr o7 bw0 v3 E bx0 u3 E (.slice a1 j c1) (thr j) (.slice a2 m c2) (xq t b)) ∧ Hid (Kept (fun _ => False) w wr)) (fun s87 _ => m - (intOf s87).toNat)
    case atStart => exact ⟨0, by omega, rfl, HSj, HKj⟩
    case round =>
    obtain ⟨t, ht, rfl, HSt, HKt⟩ := hrel
    obtain ⟨Wt, hWt⟩ : ∃ Wt, Wt = wr := ⟨_, rfl⟩
    rw [← hWt] at HSt HKt ⊢
    clear hWt
    by_cases htl : t < m
    · have htt : t < (xq t b).length := by rw [xq_length, ← HMb.out]; exact htl
      obtain ⟨lb, lc, el, y1, y2⟩ := HSt.out.b.cells htt
      have hlb : (Value.slice a2 m c2).ownBlock = some lb := by rw [el]; rfl
      simp only [Value.slice.injEq] at el
      obtain ⟨ea, -, -⟩ := el
      have hset := HSt.out.setB hlb htt (bits .xor .u8 ((xq t b)[t]?.getD 0) 51)
      have hks : Kept (fun _ => False) w (Wt.setCell ⟨lb, t, none⟩ (.int .u8 (bits .xor .u8 ((xq t b)[t]?.getD 0) 51))) := HKt.out.trans (Kept.setCell Wt ⟨lb, t, none⟩ _) (fun k e => .inr (by
        apply Classical.byContradiction
        intro hlt
        have h1 := HO7.out k (by omega)
        have e2 : k = lb := e
        have h2 := HSt.out.ob lb hlb
        rw [e2] at h1
        omega))
      have HSn : Hid (Sp _ o7 bw0 v3 E bx0 u3 E (.slice a1 j c1) (thr j) (.slice a2 m c2) (xq (t + 1) b)) := hideH hset
      have HKn := hideH hks
      subst ea
      generalize (xq t b)[t]?.getD 0 = yv at *
      have t1 : (t : Int) < (m : Int) := by omega
      clear hset hks hlb htt HSt HKt
      go_wp2
      go_roundw
      case rel => exact ⟨t + 1, by omega, by go_num, HSn, HKn⟩
      case measure => simp [intOf]; omega
    obtain rfl : t = m := by omega
    have t1 : ¬ (t : Int) < (t : Int) := by omega
    have HMt : Hid (t = (xq t b).length) := hideH (by rw [xq_length]; exact HMb.out)
    clear htl ht
    go_wp2
    go_roundw
    case rel => exact ⟨i + 1, o7, v3, u3, E, thr j, xq t b, by omega, by go_num, HSt, HRt, HNt, HMt, hEl, HO7, HKt⟩
    case measure => simp [intOf]; omega
end Go.Proofs.YtmpneljkpcniiaaDoor
