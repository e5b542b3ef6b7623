import Derived.Test.YtoglgicmnhklbaaDoorDce
namespace Go.Proofs.YtoglgicmnhklbaaDoor
open Go.ChangeShapes Go.WideShapes Go.ChangeAt Go.RowKit

theorem xor_u8 (a b : Nat) (ha : a < 256) (hb : b < 256) : bits .xor .u8 (a : Int) (b : Int) = ((a ^^^ b : Nat) : Int) := by
  show IntKind.u8.wrap ((BitVec.ofInt 8 (a : Int) ^^^ BitVec.ofInt 8 (b : Int)).toNat : Int) = _
  have e : ∀ x : Nat, x < 256 → (BitVec.ofInt 8 (x : Int)).toNat = x := fun x hx => by rw [BitVec.ofInt_natCast, BitVec.toNat_ofNat]; exact Nat.mod_eq_of_lt hx
  rw [BitVec.toNat_xor, e a ha, e b hb, IntKind.wrap_u8]
  have := Nat.xor_lt_two_pow (n := 8) ha hb
  omega
theorem xor_ne {a b : Nat} (hb : b ≠ 0) : a ^^^ b ≠ a := by
  intro e
  have h : a ^^^ (a ^^^ b) = a ^^^ a := congrArg (a ^^^ ·) e
  rw [← Nat.xor_assoc, Nat.xor_self, Nat.zero_xor] at h
  exact hb h
theorem xor_cancel {a b c : Nat} (h : a ^^^ c = b ^^^ c) : a = b := by
  have e := congrArg (· ^^^ c) h
  simpa [Nat.xor_assoc] using e
theorem le_inj : ∀ (m a b : Nat), a < 256 ^ m → b < 256 ^ m → le m a = le m b → a = b
  | 0, a, b, ha, hb, _ => by simp at ha hb; omega
  | m + 1, a, b, ha, hb, h => by
    rw [le, le] at h
    simp only [List.cons.injEq] at h
    have h1 : a / 256 = b / 256 := le_inj m _ _ (by rw [Nat.pow_succ] at ha; omega) (by rw [Nat.pow_succ] at hb; omega) h.2
    omega
theorem cbyte_inj {r s c : Nat} (hr : r < 4294967296) (hs : s < 4294967296) (hc : c < 4294967296) (h : cbyte pS r c = cbyte pS s c) : r = s := by
  unfold cbyte at h
  exact xor_cancel (cxn_inj pS_lt (by decide) 8 (xor_lt32 hr hc) (xor_lt32 hs hc) h)
theorem cbyte_ne {r c d : Nat} (hr : r < 4294967296) (hc : c < 4294967296) (hd : d < 4294967296) (hcd : c ≠ d) : cbyte pS r c ≠ cbyte pS r d := by
  intro h
  unfold cbyte at h
  have := cxn_inj pS_lt (by decide) 8 (xor_lt32 hr hc) (xor_lt32 hr hd) h
  rw [Nat.xor_comm r c, Nat.xor_comm r d] at this
  exact hcd (xor_cancel this)
theorem crun_inj (l : List Int) : ∀ {r s : Nat}, IsBytes l → r < 4294967296 → s < 4294967296 → crun pS r l = crun pS s l → r = s := by
  induction l with
  | nil => intro r s _ _ _ h; rwa [crun_nil, crun_nil] at h
  | cons c l ih =>
    intro r s hb hr hs h
    have hc := hb c List.mem_cons_self
    rw [crun_cons, crun_cons] at h
    exact cbyte_inj hr hs (by omega) (ih (fun x hx => hb x (List.mem_cons_of_mem _ hx)) (cbyte_lt pS_lt hr (by omega)) (cbyte_lt pS_lt hs (by omega)) h)
theorem neg32_neg32' {s : Nat} (h : s < 4294967296) : neg32 (neg32 s) = s := by unfold neg32; omega
/-- One other byte turns the sum. -/
theorem ext_turned {A B : List Int} {x y : Nat} (hA : IsBytes A) (hB : IsBytes B) (hx : x < 256) (hy : y < 256) (hxy : x ≠ y) : ext 0 (A ++ (x : Int) :: B) ≠ ext 0 (A ++ (y : Int) :: B) := by
  intro h
  have hr := crun_lt pS_lt A hA (neg32_lt 0)
  unfold ext at h
  rw [crun_append, crun_append, crun_cons, crun_cons, Int.toNat_natCast, Int.toNat_natCast] at h
  have hX := cbyte_lt (c := x) pS_lt hr (by omega)
  have hY := cbyte_lt (c := y) pS_lt hr (by omega)
  have h1 := crun_lt pS_lt B hB hX
  have h2 := crun_lt pS_lt B hB hY
  have h3 := congrArg neg32 h
  rw [neg32_neg32' h1, neg32_neg32' h2] at h3
  exact cbyte_ne hr (by omega) (by omega) hxy (crun_inj B hB hX hY h3)
/-- What bytes of a block's shape are. -/
theorem dec_shape (tag : Int) (l f : List Int) (hl : l.length < 18446744073709551616) (hf : f.length = 4) : decR (bhead tag l ++ f) = if tag = 0 then .error 5 else if f = le 4 (ext 0 (bhead tag l)) then .ok (tag, l, (bhead tag l).length + 4) else .error 6 := by
  have hul := ulen_le l.length (by omega)
  obtain ⟨L, hL⟩ : ∃ L, L = bhead tag l ++ f := ⟨_, rfl⟩
  have eL : L = tag :: (uvb l.length ++ (l ++ f)) := by
    rw [hL, bhead]
    simp only [List.append_assoc, List.cons_append, List.nil_append]
  have h0 : L[0]?.getD 0 = tag := by rw [eL]; rfl
  have hne : L ≠ [] := by rw [eL]; simp
  have hd1 : L.drop 1 = uvb l.length ++ (l ++ f) := by rw [eL]; rfl
  have hku : (uvb l.length).length = ulen l.length := uvb_length _
  have hhl := bhead_length tag l
  rw [← hL]
  by_cases ht : tag = 0
  · rw [if_pos ht]
    have hb : bodyR L = .error 5 := by rw [bodyR, if_neg hne, if_pos (by rw [h0]; exact ht)]
    unfold decR
    rw [hb]
  · rw [if_neg ht]
    have ht10 : (L.drop 1).take 10 = uvb l.length ++ (l ++ f).take (10 - ulen l.length) := by
      rw [hd1, List.take_append, hku, List.take_of_length_le (by omega)]
    have hr : rdu 0 0 ((L.drop 1).take 10) = .ok (l.length, ulen l.length) := by rw [ht10, rdu_uvb _ _ hl, hku]
    have hlen : L.length = 1 + ulen l.length + l.length + 4 := by rw [hL, List.length_append, hhl, hf]
    have hbody : bodyR L = .ok (1 + ulen l.length, 1 + ulen l.length + l.length) := by
      rw [bodyR, if_neg hne, if_neg (by rw [h0]; exact ht), hr]
      show (if L.length < 1 + ulen l.length + 4 + l.length then _ else _) = _
      rw [if_neg (by omega)]
    have hq : L.take (1 + ulen l.length + l.length) = bhead tag l := by
      rw [hL, List.take_append_of_le_length (by omega), List.take_of_length_le (by omega)]
    have hqd : L.drop (1 + ulen l.length + l.length) = f := by rw [hL, ← hhl, List.drop_left]
    have hpd : L.drop (1 + ulen l.length) = l ++ f := by rw [← List.drop_drop, hd1, ← hku, List.drop_left]
    unfold decR
    rw [hbody]
    simp only
    rw [hqd, List.take_of_length_le (by omega), hq, h0, hpd, show 1 + ulen l.length + l.length - (1 + ulen l.length) = l.length by omega, List.take_append_of_le_length (Nat.le_refl _), List.take_length, hhl]
/-- A block in whose tag, body or sum one byte is another one. -/
theorem dec_spoilt (tag : Nat) (l : List Int) (i x : Nat) (hl : l.length < 281474976710656) (ht : 0 < tag) (ht2 : tag < 256) (hb : IsBytes l) (hx : x < 256) (hi : i = 0 ∨ 1 + ulen l.length ≤ i ∧ i < (benc tag l).length) (hne : (benc tag l)[i]?.getD 0 ≠ (x : Int)) :
    decR ((benc tag l).set i (x : Int)) = .error (if ((benc tag l).set i (x : Int))[0]?.getD 0 = 0 then 5 else 6) := by
  have hhl := bhead_length tag l
  have hel := benc_length tag l
  have hfl := le_length 4 (ext 0 (bhead tag l))
  have hxl := ext_lt 0 (bhead tag l)
  have hbh := bhead_bytes (tag := tag) (l := l) (by omega) (by omega) hb
  by_cases h0 : i = 0
  · subst h0
    have e1 : (benc tag l).set 0 (x : Int) = bhead x l ++ le 4 (ext 0 (bhead tag l)) := by rw [benc, bhead, bhead]; rfl
    have e2 : ((benc tag l).set 0 (x : Int))[0]?.getD 0 = (x : Int) := by rw [e1]; rfl
    have e3 : (benc tag l)[0]?.getD 0 = (tag : Int) := rfl
    rw [e2, e1, dec_shape _ _ _ (by omega) hfl]
    by_cases hx0 : (x : Int) = 0
    · rw [if_pos hx0, if_pos hx0]
    · rw [if_neg hx0, if_neg hx0, if_neg]
      intro h
      have h2 := le_inj 4 _ _ (by have := hxl; omega) (by have := ext_lt 0 (bhead x l); omega) h
      refine ext_turned (A := []) (B := uvb l.length ++ l) (x := tag) (y := x) (fun y hy => by cases hy) (fun y hy => (List.mem_append.1 hy).elim (uvb_bytesF _ y) (hb y)) ht2 hx (by rw [e3] at hne; omega) ?_
      have e4 : ∀ t : Int, bhead t l = [] ++ t :: (uvb l.length ++ l) := fun t => by rw [bhead]; simp only [List.cons_append, List.nil_append]
      rw [← e4, ← e4]
      exact h2
  · obtain ⟨hi1, hi2⟩ := hi.resolve_left h0
    have e2 : ((benc tag l).set i (x : Int))[0]?.getD 0 = (tag : Int) := by
      rw [List.getElem?_set_ne (by omega)]; rfl
    rw [e2, if_neg (by omega)]
    by_cases hq : i < (bhead tag l).length
    · -- in the body
      obtain ⟨j, rfl⟩ : ∃ j, i = 1 + ulen l.length + j := ⟨i - (1 + ulen l.length), by omega⟩
      have hj : j < l.length := by omega
      have hku : (uvb l.length).length = ulen l.length := uvb_length _
      have e3 : (benc tag l).set (1 + ulen l.length + j) (x : Int) = bhead tag (l.set j x) ++ le 4 (ext 0 (bhead tag l)) := by
        rw [benc, List.set_append_left _ _ hq, bhead, List.set_append_right _ _ (by rw [List.length_append, List.length_singleton, hku]; omega)]
        congr 1
        rw [bhead, List.length_set, List.length_append, List.length_singleton, hku, show 1 + ulen l.length + j - (1 + ulen l.length) = j by omega]
      have e4 : (benc tag l)[1 + ulen l.length + j]?.getD 0 = l[j]?.getD 0 := by
        rw [benc, List.getElem?_append_left hq, bhead, List.getElem?_append_right (by rw [List.length_append, List.length_singleton, hku]; omega), List.length_append, List.length_singleton, hku, show 1 + ulen l.length + j - (1 + ulen l.length) = j by omega]
      rw [e3, dec_shape _ _ _ (by rw [List.length_set]; omega) hfl, if_neg (by omega), if_neg]
      intro h
      have h2 := le_inj 4 _ _ (by have := hxl; omega) (by have := ext_lt 0 (bhead tag (l.set j x)); omega) h
      obtain ⟨y, hy, hy2, hy3⟩ := hb.at hj
      have el : l = l.take j ++ (y : Int) :: l.drop (j + 1) := by
        rw [← hy3]
        simp
      have es : l.set j (x : Int) = l.take j ++ (x : Int) :: l.drop (j + 1) := by rw [List.set_eq_take_append_cons_drop, if_pos hj]
      have eb : ∀ m : List Int, m.length = l.length → bhead tag m = [(tag : Int)] ++ uvb l.length ++ m := fun m hm => by rw [bhead, hm]
      have q1 : bhead tag l = ([(tag : Int)] ++ uvb l.length ++ l.take j) ++ (y : Int) :: l.drop (j + 1) := by
        rw [List.append_assoc _ (l.take j), ← el]; exact eb l rfl
      have q2 : bhead tag (l.set j x) = ([(tag : Int)] ++ uvb l.length ++ l.take j) ++ (x : Int) :: l.drop (j + 1) := by
        rw [List.append_assoc _ (l.take j), ← es]; exact eb _ (List.length_set ..)
      rw [q1, q2] at h2
      refine ext_turned (fun z hz => ?_) (fun z hz => hb z (List.mem_of_mem_drop hz)) hy2 hx ?_ h2
      · refine hbh z ?_
        rw [q1]
        exact List.mem_append_left _ hz
      · rw [e4, hy] at hne
        omega
    · -- in the sum
      obtain ⟨j, rfl⟩ : ∃ j, i = (bhead tag l).length + j := ⟨i - (bhead tag l).length, by omega⟩
      have hj : j < 4 := by omega
      have e3 : (benc tag l).set ((bhead tag l).length + j) (x : Int) = bhead tag l ++ (le 4 (ext 0 (bhead tag l))).set j x := by
        rw [benc, List.set_append_right _ _ (by omega), Nat.add_sub_cancel_left]
      have e4 : (benc tag l)[(bhead tag l).length + j]?.getD 0 = (le 4 (ext 0 (bhead tag l)))[j]?.getD 0 := by
        rw [benc, List.getElem?_append_right (by omega), Nat.add_sub_cancel_left]
      rw [e3, dec_shape _ _ _ (by omega) (by rw [List.length_set]; exact hfl), if_neg (by omega), if_neg]
      intro h
      have h2 : ((le 4 (ext 0 (bhead tag l))).set j (x : Int))[j]?.getD 0 = (le 4 (ext 0 (bhead tag l)))[j]?.getD 0 := congrArg (fun m : List Int => m[j]?.getD 0) h
      rw [List.getElem?_set_self (by omega)] at h2
      rw [e4, ← h2] at hne
      exact hne rfl
end Go.Proofs.YtoglgicmnhklbaaDoor
