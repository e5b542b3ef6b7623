import Derived.Test.YtjmmdklgkcbihaaDoorHnk
import Derived.Test.YtjmmdklgkcbihaaDoorHne
import Derived.Test.YtjmmdklgkcbihaaDoorWrG
import Derived.Test.YtjmmdklgkcbihaaDoorMrg2
namespace Go.Proofs.YtjmmdklgkcbihaaDoor
open Go.ChangeShapes Go.WideShapes Go.ChangeAt Go.RowKit

/-- An operation under a guard that is met. -/
theorem wpList_unguard {P : Program} {ops : Array Oper} {Q : Exit → Act → World → Prop} {rest : List Oper} {o : Oper} {a : Act} {w : World} (hw : Region.wanted o (yielded ops a.tmps) = true) (h : wpList P ops Q ({ o with guard := none } :: rest) a w) : wpList P ops Q (o :: rest) a w := by
  unfold wpList at h ⊢
  rw [if_pos hw]
  rw [if_pos (by simp [Region.wanted])] at h
  exact h
theorem LibI.far {W : World} {v : Value} {l : List Int} (h : LibI W v l) {bw : Nat} {u : Value} (hd : ∀ k, v.ownBlock = some k → ¬ WF bw u k) : ∃ a c, v = .slice a l.length c ∧ IntsFar W a l bw u := by
  obtain ⟨a, c, rfl, -, -⟩ := h.shape
  refine ⟨a, c, rfl, fun hne => ?_⟩
  have h0 : 0 < l.length := List.length_pos_iff.2 hne
  obtain ⟨b, c', e, -⟩ := h.cells h0
  simp only [Value.slice.injEq] at e
  obtain ⟨rfl, -, -⟩ := e
  refine ⟨b, 0, rfl, hd b rfl, fun k hk => ?_⟩
  obtain ⟨b', c2, e2, hc, -⟩ := h.cells hk
  simp only [Value.slice.injEq, Option.some.injEq, Addr.mk.injEq, and_true] at e2
  obtain ⟨e3, -, -⟩ := e2
  subst e3
  rw [Nat.zero_add]
  exact hc
theorem Wr.wf_lt {W : World} {bw : Nat} {v : Value} {xs : List Int} (h : Wr W bw v xs) {k : Nat} (hk : WF bw v k) : k < W.heap.size := by
  rcases hk with rfl | e
  · exact h.lt
  · exact (h.own.lt k e).2
/-- Two Writers, a list of numbers, a list of bytes, all apart. -/
structure Sp (W : World) (o : Nat → Nat) (bw : Nat) (vw : Value) (xw : List Int) (bx : Nat) (vx : Value) (xx : List Int) (vl : Value) (l : List Int) (vb : Value) (b : List Int) : Prop where
  w : Wr W bw vw xw
  x : Wr W bx vx xx
  l : LibI W vl l
  b : Lib W vb b
  ow : ∀ k, WF bw vw k → o k = 0
  ox : ∀ k, WF bx vx k → o k = 1
  ol : ∀ k, vl.ownBlock = some k → o k = 2
  ob : ∀ k, vb.ownBlock = some k → o k = 3
theorem Sp.kept {F : Nat → Prop} {W W' : World} {o : Nat → Nat} {bw : Nat} {vw : Value} {xw : List Int} {bx : Nat} {vx : Value} {xx : List Int} {vl : Value} {l : List Int} {vb : Value} {b : List Int} (h : Sp W o bw vw xw bx vx xx vl l vb b) (k : Kept F W W') (hF : ∀ i, F i → i < W.heap.size → 4 ≤ o i) : Sp W' o bw vw xw bx vx xx vl l vb b := by
  refine ⟨h.w.kept k (fun i hi f => ?_), h.x.kept k (fun i hi f => ?_), h.l.kept k (fun i hi f => ?_), h.b.kept k (fun i hi f => ?_), h.ow, h.ox, h.ol, h.ob⟩
  · have := hF i f (h.w.wf_lt hi); have := h.ow i hi; omega
  · have := hF i f (h.x.wf_lt hi); have := h.ox i hi; omega
  · have := hF i f (h.l.lt hi); have := h.ol i hi; omega
  · have := hF i f (h.b.lt hi); have := h.ob i hi; omega
theorem Sp.later {W W' : World} {o : Nat → Nat} {bw : Nat} {vw : Value} {xw : List Int} {bx : Nat} {vx : Value} {xx : List Int} {vl : Value} {l : List Int} {vb : Value} {b : List Int} (h : Sp W o bw vw xw bx vx xx vl l vb b) (k : Kept (fun _ => False) W W') : Sp W' o bw vw xw bx vx xx vl l vb b := h.kept k (fun _ f => f.elim)
/-- The first Writer has written. -/
theorem Sp.stepW {W W' : World} {o : Nat → Nat} {bw : Nat} {vw vw' : Value} {xw xw' : List Int} {bx : Nat} {vx : Value} {xx : List Int} {vl : Value} {l : List Int} {vb : Value} {b : List Int} (h : Sp W o bw vw xw bx vx xx vl l vb b) (s : WStep W W' bw vw vw') (h' : Wr W' bw vw' xw') : ∃ o', Sp W' o' bw vw' xw' bx vx xx vl l vb b ∧ ∀ k, k < W.heap.size → o' k = o k := by
  have key : ∀ q, q < W.heap.size → (if W.heap.size ≤ q then 0 else o q) = o q := fun q hq => if_neg (by omega)
  refine ⟨fun q => if W.heap.size ≤ q then 0 else o q, ⟨h', h.x.kept s.kept (fun i hi f => ?_), h.l.kept s.kept (fun i hi f => ?_), h.b.kept s.kept (fun i hi f => ?_), fun k hk => ?_, fun k hk => (key k (h.x.wf_lt hk)).trans (h.ox k hk), fun k hk => (key k (h.l.lt hk)).trans (h.ol k hk), fun k hk => (key k (h.b.lt hk)).trans (h.ob k hk)⟩, key⟩
  · have := h.ox i hi; have := h.ow i f; omega
  · have := h.ol i hi; have := h.ow i f; omega
  · have := h.ob i hi; have := h.ow i f; omega
  · rcases hk with rfl | e
    · exact (key k h.w.lt).trans (h.ow k (.inl rfl))
    · rcases s.new k e with q | q
      · exact (key k (h.w.wf_lt (.inr q))).trans (h.ow k (.inr q))
      · exact if_pos q
/-- The second Writer has written. -/
theorem Sp.stepX {W W' : World} {o : Nat → Nat} {bw : Nat} {vw : Value} {xw : List Int} {bx : Nat} {vx vx' : Value} {xx xx' : List Int} {vl : Value} {l : List Int} {vb : Value} {b : List Int} (h : Sp W o bw vw xw bx vx xx vl l vb b) (s : WStep W W' bx vx vx') (h' : Wr W' bx vx' xx') : ∃ o', Sp W' o' bw vw xw bx vx' xx' vl l vb b ∧ ∀ k, k < W.heap.size → o' k = o k := by
  have key : ∀ q, q < W.heap.size → (if W.heap.size ≤ q then 1 else o q) = o q := fun q hq => if_neg (by omega)
  refine ⟨fun q => if W.heap.size ≤ q then 1 else o q, ⟨h.w.kept s.kept (fun i hi f => ?_), h', h.l.kept s.kept (fun i hi f => ?_), h.b.kept s.kept (fun i hi f => ?_), fun k hk => (key k (h.w.wf_lt hk)).trans (h.ow k hk), fun k hk => ?_, fun k hk => (key k (h.l.lt hk)).trans (h.ol k hk), fun k hk => (key k (h.b.lt hk)).trans (h.ob k hk)⟩, key⟩
  · have := h.ow i hi; have := h.ox i f; omega
  · have := h.ol i hi; have := h.ox i f; omega
  · have := h.ob i hi; have := h.ox i f; omega
  · rcases hk with rfl | e
    · exact (key k h.x.lt).trans (h.ox k (.inl rfl))
    · rcases s.new k e with q | q
      · exact (key k (h.x.wf_lt (.inr q))).trans (h.ox k (.inr q))
      · exact if_pos q
/-- Something was put behind the list of numbers. -/
theorem Sp.stepL {W W' : World} {o : Nat → Nat} {bw : Nat} {vw : Value} {xw : List Int} {bx : Nat} {vx : Value} {xx : List Int} {vl v' : Value} {l : List Int} {vb : Value} {b : List Int} (h : Sp W o bw vw xw bx vx xx vl l vb b) (s : LStepI W W' vl v' l.length) : ∃ o', Sp W' o' bw vw xw bx vx xx vl l vb b ∧ (∀ k, v'.ownBlock = some k → o' k = 2) ∧ ∀ k, k < W.heap.size → o' k = o k := by
  have key : ∀ q, q < W.heap.size → (if W.heap.size ≤ q then 2 else o q) = o q := fun q hq => if_neg (by omega)
  refine ⟨fun q => if W.heap.size ≤ q then 2 else o q, ⟨h.w.kept s.kept (fun i hi f => ?_), h.x.kept s.kept (fun i hi f => ?_), s.pre _ _ (fun _ => Nat.le_refl _) h.l, h.b.kept s.kept (fun i hi f => ?_), fun k hk => (key k (h.w.wf_lt hk)).trans (h.ow k hk), fun k hk => (key k (h.x.wf_lt hk)).trans (h.ox k hk), fun k hk => (key k (h.l.lt hk)).trans (h.ol k hk), fun k hk => (key k (h.b.lt hk)).trans (h.ob k hk)⟩, fun k hk => ?_, key⟩
  · have := h.ow i hi; have := h.ol i f; omega
  · have := h.ox i hi; have := h.ol i f; omega
  · have := h.ob i hi; have := h.ol i f; omega
  · rcases s.new k hk with q | q
    · exact (key k (h.l.lt q)).trans (h.ol k q)
    · exact if_pos q
/-- The numbers that samePlace writes over its list. -/
def thr (k : Nat) : List Int := (List.range k).map (fun (i : Nat) => 3 * (i : Int) + 1)
theorem thr_length (k : Nat) : (thr k).length = k := by simp [thr]
theorem thr_succ (k : Nat) : thr (k + 1) = thr k ++ [3 * (k : Int) + 1] := by simp [thr, List.range_succ]
def thd (j : Nat) (l : List Int) : List Int := thr j ++ l.drop j
theorem thd_zero (l : List Int) : thd 0 l = l := by simp [thd, thr]
theorem thd_all (l : List Int) : thd l.length l = thr l.length := by simp [thd]
theorem thd_length (j : Nat) (l : List Int) (h : j ≤ l.length) : (thd j l).length = l.length := by
  rw [thd, List.length_append, thr_length, List.length_drop]; omega
theorem thd_set (j : Nat) (l : List Int) (h : j < l.length) : (thd j l).set j (3 * (j : Int) + 1) = thd (j + 1) l := by
  have hm := thr_length j
  have e := List.drop_eq_getElem_cons h
  rw [thd, List.set_append_right _ _ (by omega), hm, Nat.sub_self, thd, thr_succ, List.append_assoc, e]
  rfl
/-- Lists that Rising takes. -/
structure Rsn (l : List Int) : Prop where
  nn : ∀ x ∈ l, 0 ≤ x
  ii : IsInts l
  rb : riseB l = true
theorem thr_rsn (k : Nat) (hk : k ≤ 1099511627776) : Rsn (thr k) := by
  refine ⟨fun x hx => ?_, fun x hx => ?_, ?_⟩
  · obtain ⟨i, hi, rfl⟩ := List.mem_map.1 hx
    omega
  · obtain ⟨i, hi, rfl⟩ := List.mem_map.1 hx
    have := List.mem_range.1 hi
    omega
  · rw [riseB_iff]
    intro j hj
    rw [thr_length] at hj
    have e : ∀ q, q < k → (thr k)[q]?.getD 0 = 3 * (q : Int) + 1 := fun q hq => by simp [thr, hq]
    rw [e j (by omega), e (j + 1) hj]
    omega
theorem xor51_byte (x : Int) : 0 ≤ bits .xor .u8 x 51 ∧ bits .xor .u8 x 51 ≤ 255 := by
  have h : bits .xor .u8 x 51 = IntKind.u8.wrap ((BitVec.ofInt 8 x ^^^ BitVec.ofInt 8 51).toNat : Int) := rfl
  rw [h, IntKind.wrap_u8]
  omega
end Go.Proofs.YtjmmdklgkcbihaaDoor
namespace Go.Proofs.YtjmmdklgkcbihaaDoor
open Go.ChangeShapes Go.WideShapes Go.ChangeAt Go.RowKit

theorem orl_more (l : List Int) (x : Int) (hx : 1 ≤ x) : orl (l ++ [x]) ≠ 0 ∧ bitLen (orl (l ++ [x])) ≠ 0 := by
  have h : orl (l ++ [x]) ≠ 0 := by
    rw [orl_snoc]
    intro e
    have h2 : x.toNat ≤ orl l ||| x.toNat := Nat.right_le_or
    omega
  refine ⟨h, fun e => h ?_⟩
  have := (bitLen_le_iff (orl (l ++ [x])) 0).1 (by omega)
  simpa using this
/-- What CodecTwice writes: a rising list, the same with one number behind it packed, plain bytes. -/
def twd (s : List Int) (x : Int) (R : List Int) : List Int := rising s ++ (packed (s ++ [x]) ++ R)
/-- The rising list is read. -/
theorem rd_rising (s : List Int) (x : Int) (R : List Int) (br : Nat) (v : Value) (a0 a1 a2 : Addr) (w : World) (hs : Rsn s) (h : Rd w br v (twd s x R) 0) (hl : (twd s x R).length ≤ 1099511627776) (hn : s.length ≤ 1099511627776) (g0 : w.cell? ⟨1, 0, none⟩ = some (errV a0)) (g1 : w.cell? ⟨3, 0, none⟩ = some (errV a1)) (g2 : w.cell? ⟨4, 0, none⟩ = some (errV a2)) :
    Calls Tryd.prog 51 #[.pointer (some ⟨br, 0, none⟩), .int .i64 s.length] w fun e w' => ∃ u, e = .returned (.tuple #[u, .nilIface]) ∧ w'.ownsRow w.heap.size 3 1 u s.length (isH s) ∧ Rd w' br v (twd s x R) (rising s).length ∧ Kept (fun i => i = br) w w' := by
  have e1 : twd s x R = uvb s.length ++ (risb s 0 ++ (packed (s ++ [x]) ++ R)) := by unfold twd rising; rw [List.append_assoc]
  have hr : rdu 0 0 ((twd s x R).drop 0) = .ok (s.length, (uvb s.length).length) := by rw [List.drop_zero, e1]; exact rdu_uvb _ _ (by omega)
  refine (rris_any br v (twd s x R) 0 s.length (uvb s.length).length s.length a0 a1 a2 w h hr (Int.le_refl _) (by omega) hl g0 g1 g2).mono ?_
  intro e w' hp
  rw [Nat.zero_add, e1, List.drop_left' rfl, rdr_back s 0 _ (ris_of hs.ii hs.nn hs.rb), ← e1] at hp
  obtain ⟨u, h1, h2, h3, h4⟩ := hp
  refine ⟨u, h1, h2, ?_, h4⟩
  have e2 : (rising s).length = (uvb s.length).length + (risb s 0).length := by unfold rising; rw [List.length_append]
  rw [e2]
  exact h3
/-- The packed list is read. -/
theorem rd_packed (s : List Int) (x : Int) (R : List Int) (br : Nat) (v : Value) (a0 a1 a2 a3 : Addr) (w : World) (hs : Rsn s) (hx : 1 ≤ x) (hx2 : x ≤ 9223372036854775807) (h : Rd w br v (twd s x R) (rising s).length) (hl : (twd s x R).length ≤ 1099511627776) (hn : s.length ≤ 1099511627775) (g0 : w.cell? ⟨1, 0, none⟩ = some (errV a0)) (g1 : w.cell? ⟨3, 0, none⟩ = some (errV a1)) (g2 : w.cell? ⟨4, 0, none⟩ = some (errV a2)) (g3 : w.cell? ⟨5, 0, none⟩ = some (errV a3)) :
    Calls Tryd.prog 53 #[.pointer (some ⟨br, 0, none⟩), .int .i64 ((s.length + 1 : Nat) : Int)] w fun e w' => ∃ u, e = .returned (.tuple #[u, .nilIface]) ∧ w'.ownsRow w.heap.size 3 1 u (s.length + 1) (isH (s ++ [x])) ∧ Rd w' br v (twd s x R) ((rising s).length + (packed (s ++ [x])).length) ∧ Kept (fun i => i = br) w w' := by
  have hlen : (s ++ [x]).length = s.length + 1 := by rw [List.length_append, List.length_singleton]
  have hd : (twd s x R).drop (rising s).length = uvb (s.length + 1) ++ (pbody (s ++ [x]) ++ R) := by
    unfold twd
    rw [List.drop_left' rfl, packed_eq, hlen, List.append_assoc]
  have hI : IsInts (s ++ [x]) := fun y hy => by
    rcases List.mem_append.1 hy with q | q
    · exact hs.ii y q
    · simp only [List.mem_singleton] at q
      omega
  have h0 : ∀ y ∈ s ++ [x], 0 ≤ y := fun y hy => by
    rcases List.mem_append.1 hy with q | q
    · exact hs.nn y q
    · simp only [List.mem_singleton] at q
      omega
  have hr : rdu 0 0 ((twd s x R).drop (rising s).length) = .ok (s.length + 1, (uvb (s.length + 1)).length) := by rw [hd]; exact rdu_uvb _ _ (by omega)
  refine (rpak_any br v (twd s x R) (rising s).length (s.length + 1) (uvb (s.length + 1)).length ((s.length + 1 : Nat) : Int) a0 a1 a2 a3 w h hr (Int.le_refl _) (by omega) hl g0 g1 g2 g3).mono ?_
  intro e w' hp
  rw [← List.drop_drop, hd, List.drop_left' rfl] at hp
  have hb := rdp_back (s ++ [x]) R hI h0 (fun q => (orl_more s x hx).1 q.1)
  rw [hlen] at hb
  rw [hb] at hp
  obtain ⟨u, h1, h2, h3, h4⟩ := hp
  rw [hlen] at h2
  refine ⟨u, h1, h2, ?_, h4⟩
  have e2 : (packed (s ++ [x])).length = (uvb (s.length + 1)).length + (pbody (s ++ [x])).length := by rw [packed_eq, hlen, List.length_append]
  rw [e2, ← Nat.add_assoc]
  exact h3
/-- The plain bytes are read. -/
theorem rd_raw (s : List Int) (x : Int) (R : List Int) (br : Nat) (v : Value) (w : World) (h : Rd w br v (twd s x R) ((rising s).length + (packed (s ++ [x])).length)) :
    Calls Tryd.prog 18 #[.pointer (some ⟨br, 0, none⟩), .int .i64 R.length] w fun e w' => ∃ g, e = .returned (.tuple #[.slice (some ⟨g, 0, none⟩) R.length R.length, .nilIface]) ∧ w.heap.size ≤ g ∧ w'.ownsRow w.heap.size 5 1 (.slice (some ⟨g, 0, none⟩) R.length R.length) R.length (bs R) ∧ Kept (fun i => i = br) w w' := by
  have hlen : (twd s x R).length = (rising s).length + (packed (s ++ [x])).length + R.length := by unfold twd; rw [List.length_append, List.length_append]; omega
  have hd : ((twd s x R).drop ((rising s).length + (packed (s ++ [x])).length)).take R.length = R := by
    unfold twd
    rw [← List.append_assoc, List.drop_left' (by rw [List.length_append]), List.take_of_length_le (Nat.le_refl _)]
  refine (rraw_ok br v (twd s x R) _ R.length w h (by omega)).mono ?_
  rintro e w' ⟨g, h1, h2, h3, -, h5⟩
  rw [hd] at h3
  exact ⟨g, h1, h2, h3, h5⟩
set_option maxRecDepth 20000 in
set_option maxHeartbeats 4000000 in
/-- Two lists of numbers that are alike. -/
theorem sameI_true (l : List Int) (a b : Option Addr) (n c d : Nat) (w : World) (hn : n = l.length) (hA : IntsAt w a l) (hB : IntsAt w b l) (hl : n ≤ 1099511627776) :
    Calls Tryd.prog 63 #[.slice a n c, .slice b n d] w fun e w' => e = .returned (.bool true) ∧ Kept (fun _ => False) w w' := by
  have HA := hideH hA
  have HB := hideH hB
  have HN := hideH hn
  clear hA hB hn
  go_enter Tryd.func63, Tryd.ntmps63
  go_wp2
  go_loopw [13] (fun s13 wr => ∃ k : Nat, k ≤ n ∧ s13 = .int .i64 k ∧ Hid (Kept (fun _ => False) w wr)) (fun s13 _ => n - (intOf s13).toNat)
  case atStart => exact ⟨0, Nat.zero_le _, rfl, hideH (Kept.refl _ _)⟩
  case round =>
    obtain ⟨k, hk, rfl, HK⟩ := hrel
    by_cases hlt : k < n
    · have hkl : k < l.length := by rw [← HN.out]; exact hlt
      obtain ⟨b1, o1, rfl, hc1⟩ := HA.out (by intro e; rw [e] at hkl; simp at hkl)
      obtain ⟨b2, o2, rfl, hc2⟩ := HB.out (by intro e; rw [e] at hkl; simp at hkl)
      have x1 := HK.out.cell (hc1 k hkl) (fun f => f)
      have x2 := HK.out.cell (hc2 k hkl) (fun f => f)
      generalize l[k]?.getD 0 = y at x1 x2
      have i1 : (k : Int) < (n : Int) := by omega
      clear hc1 hc2
      go_wp2
      go_quiet (fail)
      go_wp2
      go_roundw
      case rel => exact ⟨k + 1, by omega, by go_num, hideH (HK.out.trans (Kept.drewN _ _) (fun _ f => f.elim))⟩
      case measure => simp [intOf]; omega
    · obtain rfl : k = n := by omega
      have i1 : ¬ (k : Int) < (k : Int) := by omega
      go_wp2
      go_ret
      exact ⟨rfl, HK.out⟩
end Go.Proofs.YtjmmdklgkcbihaaDoor
namespace Go.Proofs.YtjmmdklgkcbihaaDoor
open Go.ChangeShapes Go.WideShapes Go.ChangeAt Go.RowKit

/-- 'append(s, x...)' to an owned row of numbers, x empty or not. -/
theorem wpList_catHI {base : Nat} {W : World} {ops : Array Oper} {rest : List Oper} {o : Oper} {act : Act} {Q : Exit → Act → World → Prop} (hgd : o.guard = none) (s x : Operand)
    (ho : o.op = .call { callee := .builtin .append, args := #[s, x], argTypes := #[35, 35] }) (v : Value) (n : Nat) (xs ys : List Int) (hs : act.eval s = v) (hG : Hid (W.ownsRow base 3 1 v n (isH xs))) (ad : Option Addr) (m c : Nat) (hx : act.eval x = .slice ad m c)
    (hl : Hid (m = ys.length)) (hc : Hid (IntsAt W ad ys)) (h0 : Hid (ad = none → c = 0)) (hb : n + m ≤ 8796093022208) (hb0 : Hid (base ≤ W.heap.size))
    (h : ∀ a' c' W', Hid (W'.ownsRow base 3 1 (.slice a' (n + m) c') (n + m) (isH (xs ++ ys))) → Hid (Kept (fun k => v.ownBlock = some k) W W') → wpList Tryd.prog ops Q rest (act.put o.dst (.slice a' (n + m) c')) W') : wpList Tryd.prog ops Q (o :: rest) act W := by
  obtain ⟨i0, hi, hz0, hz1, hz2⟩ := info_parts Tryd.infoIH
  cases ad with
  | none =>
    have e0 : ys = [] := by
      cases ys with
      | nil => rfl
      | cons y r => obtain ⟨b, off, e, _⟩ := hc.out (by simp); cases e
    subst e0
    have hm : m = 0 := hl.out
    subst hm
    obtain rfl := h0.out rfl
    obtain ⟨a', c', rfl⟩ := row_shapeH hG.out
    refine wpList_append_own_none hgd s x 35 ho base 3 i0 1 Tryd.underlying35 hi _ n (isH xs) hs hG.out hx ?_
    have := h a' c' W (hideH (by rw [List.append_nil]; exact hG.out)) (hideH (Kept.refl _ _))
    exact this
  | some p =>
    have hcl : ∀ j u, (isH ys)[j]? = some u → W.cell? (p.add j) = some u := by
      intro j u hu
      have hne : ys ≠ [] := by rintro rfl; simp [isH] at hu
      obtain ⟨b, off, e, hcc⟩ := hc.out hne
      cases e
      unfold isH at hu
      rw [List.getElem?_map] at hu
      rcases Nat.lt_or_ge j ys.length with q | q
      · rw [List.getElem?_eq_getElem q] at hu
        simp only [Option.map_some, Option.some.injEq] at hu
        have h9 := hcc j q
        rw [List.getElem?_eq_getElem q] at h9
        rw [Go.WideShapes.add_plain, h9, ← hu]
        rfl
      · rw [List.getElem?_eq_none q] at hu
        cases hu
    refine wpList_append_own W hgd s x 35 ho base 3 i0 (.int .i64 0) 1 8 Tryd.underlying35 hi hz0 hz1 hz2 rfl (by decide) v n (isH xs) hs hG.out p m c (isH ys) hx (by rw [isH_length, hl.out, Nat.mul_one]) hcl (isH_one ys) (by unfold maxLen; omega) (by omega) hb0.out ?_
    intro v' w1 ho1 hg1 _
    rw [← isH_append] at ho1
    obtain ⟨a', c', rfl⟩ := row_shapeH ho1
    exact h a' c' w1 (hideH ho1) (hideH (Kept.grown hg1))
theorem risb_le10 : ∀ (l : List Int) (s : Nat), (∀ x ∈ l, x ≤ 9223372036854775807) → (risb l s).length ≤ 10 * l.length
  | [], _, _ => Nat.zero_le _
  | x :: r, s, h => by
    have hx := h x List.mem_cons_self
    have h1 : (uvb (x.toNat - s)).length ≤ 10 := by rw [uvb_length]; exact (ulen_le _ (by omega)).2
    have h2 := risb_le10 r (x.toNat + 1) (fun y hy => h y (List.mem_cons_of_mem _ hy))
    rw [risb, List.length_append, List.length_cons]
    omega
theorem rising_le {s : List Int} (h : Rsn s) (hn : s.length ≤ 1099511627776) : (rising s).length ≤ 10 * (s.length + 1) := by
  have h1 : (uvb s.length).length ≤ 10 := by rw [uvb_length]; exact (ulen_le _ (by omega)).2
  have h2 := risb_le10 s 0 (fun x hx => (h.ii x hx).2)
  unfold rising
  rw [List.length_append]
  omega
theorem rsn_more {s : List Int} (h : Rsn s) {x : Int} (hx : 1 ≤ x) (hx2 : x ≤ 9223372036854775807) : IsInts (s ++ [x]) ∧ ∀ y ∈ s ++ [x], 0 ≤ y := by
  refine ⟨fun y hy => ?_, fun y hy => ?_⟩
  · rcases List.mem_append.1 hy with q | q
    · exact h.ii y q
    · simp only [List.mem_singleton] at q
      omega
  · rcases List.mem_append.1 hy with q | q
    · exact h.nn y q
    · simp only [List.mem_singleton] at q
      omega
theorem packed_le {q : List Int} (hI : IsInts q) (h0 : ∀ y ∈ q, 0 ≤ y) (hn : q.length ≤ 1099511627776) : (packed q).length ≤ 11 + (q.length * 63 + 7) / 8 := by
  have h1 := (ulen_le q.length (by omega)).2
  have h2 := orl_bits q h0 hI
  rw [packed_length]
  split
  · omega
  · have h3 : q.length * bitLen (orl q) ≤ q.length * 63 := Nat.mul_le_mul_left _ h2
    omega
theorem twd_le {s : List Int} (h : Rsn s) {x : Int} (hx : 1 ≤ x) (hx2 : x ≤ 9223372036854775807) {R : List Int} (hn : s.length ≤ 1048576) (hm : R.length ≤ 1048576) : (twd s x R).length ≤ 33554432 := by
  have h1 := rising_le h (by omega)
  have h2 := packed_le (rsn_more h hx hx2).1 (rsn_more h hx hx2).2 (by rw [List.length_append, List.length_singleton]; omega)
  rw [List.length_append, List.length_singleton] at h2
  unfold twd
  rw [List.length_append, List.length_append]
  omega
theorem LibI.ints {W : World} {a : Option Addr} {n c : Nat} {l : List Int} (h : LibI W (.slice a n c) l) : IntsAt W a l ∧ n = l.length ∧ (a = none → c = 0) ∧ n ≤ c := by
  obtain ⟨a', c', e, hz, hle⟩ := h.shape
  simp only [Value.slice.injEq] at e
  obtain ⟨rfl, rfl, rfl⟩ := e
  refine ⟨fun hne => ?_, rfl, fun e => (hz e).2, hle⟩
  have h0 : 0 < l.length := List.length_pos_iff.2 hne
  obtain ⟨b, c', e, -⟩ := h.cells h0
  simp only [Value.slice.injEq] at e
  obtain ⟨rfl, -, -⟩ := e
  refine ⟨b, 0, rfl, fun k hk => ?_⟩
  obtain ⟨b', c2, e2, hc, -⟩ := h.cells hk
  simp only [Value.slice.injEq, Option.some.injEq, Addr.mk.injEq, and_true] at e2
  obtain ⟨e3, -, -⟩ := e2
  subst e3
  rw [Nat.zero_add]
  exact hc
theorem Lib.bytesE {W : World} {a : Option Addr} {n c : Nat} {l : List Int} (h : Lib W (.slice a n c) l) : BytesAt W a l ∧ n = l.length ∧ (a = none → c = 0) := by
  obtain ⟨a', c', e, hz, hle⟩ := h.shape
  simp only [Value.slice.injEq] at e
  obtain ⟨rfl, rfl, rfl⟩ := e
  obtain ⟨a2, c2, e2, hb⟩ := h.bytes
  simp only [Value.slice.injEq] at e2
  obtain ⟨rfl, -, -⟩ := e2
  exact ⟨hb, rfl, fun e => (hz e).2⟩
theorem Sp.setL {W : World} {o : Nat → Nat} {bw : Nat} {vw : Value} {xw : List Int} {bx : Nat} {vx : Value} {xx : List Int} {vl : Value} {l : List Int} {vb : Value} {b : List Int} (h : Sp W o bw vw xw bx vx xx vl l vb b) {k j : Nat} (hk : vl.ownBlock = some k) (hj : j < l.length) (x : Int) : Sp (W.setCell ⟨k, j, none⟩ (.int .i64 x)) o bw vw xw bx vx xx vl (l.set j x) vb b := by
  have ks := Kept.setCell W ⟨k, j, none⟩ (.int .i64 x)
  have h2 := h.ol k hk
  refine ⟨h.w.kept ks (fun i hi f => ?_), h.x.kept ks (fun i hi f => ?_), h.l.set hk hj x, h.b.kept ks (fun i hi f => ?_), h.ow, h.ox, h.ol, h.ob⟩
  · have e : i = k := f
    have := h.ow i hi
    rw [e] at this
    omega
  · have e : i = k := f
    have := h.ox i hi
    rw [e] at this
    omega
  · have e : i = k := f
    have := h.ob i hi
    rw [e] at this
    omega
theorem Sp.setB {W : World} {o : Nat → Nat} {bw : Nat} {vw : Value} {xw : List Int} {bx : Nat} {vx : Value} {xx : List Int} {vl : Value} {l : List Int} {vb : Value} {b : List Int} (h : Sp W o bw vw xw bx vx xx vl l vb b) {k j : Nat} (hk : vb.ownBlock = some k) (hj : j < b.length) (x : Int) : Sp (W.setCell ⟨k, j, none⟩ (.int .u8 x)) o bw vw xw bx vx xx vl l vb (b.set j x) := by
  have ks := Kept.setCell W ⟨k, j, none⟩ (.int .u8 x)
  have h2 := h.ob k hk
  refine ⟨h.w.kept ks (fun i hi f => ?_), h.x.kept ks (fun i hi f => ?_), h.l.kept ks (fun i hi f => ?_), h.b.set hk hj x, h.ow, h.ox, h.ol, h.ob⟩
  · have e : i = k := f
    have := h.ow i hi
    rw [e] at this
    omega
  · have e : i = k := f
    have := h.ox i hi
    rw [e] at this
    omega
  · have e : i = k := f
    have := h.ol i hi
    rw [e] at this
    omega
def xq : Nat → List Int → List Int
  | 0, b => b
  | i + 1, b => (xq i b).set i (bits .xor .u8 ((xq i b)[i]?.getD 0) 51)
theorem xq_length : ∀ (i : Nat) (b : List Int), (xq i b).length = b.length
  | 0, _ => rfl
  | i + 1, b => by rw [xq, List.length_set, xq_length i b]
end Go.Proofs.YtjmmdklgkcbihaaDoor
