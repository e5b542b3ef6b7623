import Derived.Test.YteeimpjjmdpbgaaDoorDbf
namespace Go.Proofs.YteeimpjjmdpbgaaDoor
open Go.ChangeShapes Go.WideShapes Go.ChangeAt Go.RowKit

/-- How many keys of the first n lie below x. -/
def blw (E : List En) (x : ByteArray) (n : Nat) : Nat := (E.take n).countP (fun e => klt e.k x)
theorem cnt_step {p : En → Bool} {E : List En} {i : Nat} (h : i < E.length) : (E.take (i + 1)).countP p = (E.take i).countP p + if p E[i] then 1 else 0 := by
  rw [List.take_add_one, List.getElem?_eq_getElem h, List.countP_append]
  congr 1
  simp [List.countP_cons]
theorem cnt_le {p : En → Bool} (E : List En) (i : Nat) : (E.take i).countP p ≤ i := Nat.le_trans List.countP_le_length (by simp; omega)
theorem es_key {w : World} {a : Option Addr} {E : List En} (h : EsAt w a E) {i : Nat} (hi : i < E.length) : ∃ b off, a = some ⟨b, off, none⟩ ∧ w.cell? ⟨b, off + i * 5, none⟩ = some (.string E[i].k) := by
  obtain ⟨b, off, rfl, hc⟩ := h (by intro e; rw [e] at hi; simp at hi)
  exact ⟨b, off, rfl, (hc i hi).1⟩
theorem eql_strN (t : TypeId) (a b : ByteArray) : binOp .eql t (.string a) (.string b) = pure (.bool (a.toList == b.toList)) := by simp [binOp, Op.stringOp]
set_option maxRecDepth 20000 in
set_option maxHeartbeats 4000000 in
/-- The document's Seek. -/
theorem rseek_any (x : ByteArray) (E : List En) (a : Option Addr) (c : Nat) (w : World) (h : EsAt w a E) (hl : E.length ≤ 1073741824) : Calls Tryd.prog 29 #[.slice a E.length c, .string x] w fun e w' => e = .returned (.int .i64 (blw E x E.length : Nat)) ∧ w' = w := by
  have HE := hideQ h
  have HC : Hid (∀ i (hi : i < E.length), blw E x (i + 1) = blw E x i + if klt E[i].k x then 1 else 0) := hideQ (fun i hi => cnt_step hi)
  have HB : Hid (∀ i, blw E x i ≤ i) := hideQ (fun i => cnt_le E i)
  have HZ : Hid (blw E x 0 = 0) := hideQ (by simp [blw])
  obtain ⟨nl, hnl⟩ : ∃ nl, nl = E.length := ⟨_, rfl⟩
  rw [← hnl] at hl ⊢
  have HNL := hideQ hnl
  clear h hnl
  generalize blw E x = B at *
  go_enter Tryd.func29, Tryd.ntmps29
  go_wp2_with fail
  go_loopw [5, 6] (fun v5 v6 wr => ∃ (j : Nat), j ≤ nl ∧ v5 = .int .i64 (B j : Nat) ∧ v6 = .int .i64 j ∧ wr = w) (fun _ v6 _ => nl - (intOf v6).toNat)
  case atStart => exact ⟨0, by omega, by rw [HZ.out]; rfl, rfl, rfl⟩
  case round =>
    obtain ⟨j, hj, rfl, rfl, rfl⟩ := hrel
    by_cases hlt : j < nl
    · have hjj : (j : Int) < (nl : Int) := by omega
      have hjl : j < E.length := by rw [← HNL.out]; exact hlt
      obtain ⟨b, off, rfl, hc⟩ := es_key HE.out hjl
      have g1 := lss_strD 9 E[j].k x
      have hkl : Op.bytesLess E[j].k.toList x.toList = klt E[j].k x := rfl
      rw [hkl] at g1
      have HC1 := hideQ (HC.out j hjl)
      have hb := HB.out j
      have q1 : IntKind.i64.wrap ((j : Int) + 1) = (j : Int) + 1 := by rw [IntKind.wrap_i64]; omega
      have q2 : IntKind.i64.wrap ((B j : Int) + 1) = (B j : Int) + 1 := by rw [IntKind.wrap_i64]; omega
      clear hkl
      generalize klt E[j].k x = Q at *
      generalize E[j].k = k at *
      cases Q with
      | true =>
        have e1 : Hid (B (j + 1) = B j + 1) := hideQ (by rw [HC1.out]; rfl)
        clear HC1
        generalize B j = bj at *
        go_wp2_with fail
        go_roundw
        case rel => exact ⟨j + 1, hlt, by rw [e1.out]; go_num, by go_num, trivial⟩
        case measure => simp [intOf]; omega
      | false =>
        have e1 : Hid (B (j + 1) = B j) := hideQ (by rw [HC1.out]; rfl)
        clear HC1
        generalize B j = bj at *
        go_wp2_with fail
        go_roundw
        case rel => exact ⟨j + 1, hlt, by rw [e1.out], by go_num, trivial⟩
        case measure => simp [intOf]; omega
    · obtain rfl : j = nl := by omega
      go_wp2_with fail
      go_ret
      exact ⟨rfl, rfl⟩
/-- What the document's Find tells. -/
def rfPost (E : List En) (x : ByteArray) (e : Ending) : Prop :=
  (∃ i : Nat, i < E.length ∧ kat E i = x ∧ e = .returned (.tuple #[.int .i64 i, .bool true])) ∨ ((∀ i, i < E.length → ¬ kat E i = x) ∧ e = .returned (.tuple #[.int .i64 0, .bool false]))
set_option maxRecDepth 20000 in
set_option maxHeartbeats 4000000 in
/-- The document's Find. -/
theorem rfind_anyN (x : ByteArray) (E : List En) (a : Option Addr) (c : Nat) (w : World) (h : EsAt w a E) (hl : E.length ≤ 1073741824) : Calls Tryd.prog 27 #[.slice a E.length c, .string x] w fun e w' => rfPost E x e ∧ w' = w := by
  have HE := hideQ h
  have HP : Hid (∀ e, ((∃ i : Nat, i < E.length ∧ kat E i = x ∧ e = .returned (.tuple #[.int .i64 i, .bool true])) → rfPost E x e) ∧ ((∀ i, i < E.length → ¬ kat E i = x) ∧ e = .returned (.tuple #[.int .i64 0, .bool false]) → rfPost E x e)) := hideQ (fun e => ⟨.inl, .inr⟩)
  obtain ⟨nl, hnl⟩ : ∃ nl, nl = E.length := ⟨_, rfl⟩
  rw [← hnl] at hl HP ⊢
  have HNL := hideQ hnl
  clear h hnl
  generalize rfPost E x = PO at *
  go_enter Tryd.func27, Tryd.ntmps27
  go_wp2_with fail
  go_loopw [6] (fun v6 wr => ∃ (j : Nat), j ≤ nl ∧ v6 = .int .i64 j ∧ wr = w ∧ Hid (∀ i, i < j → ¬ kat E i = x)) (fun v6 _ => nl - (intOf v6).toNat)
  case atStart => exact ⟨0, by omega, rfl, rfl, hideQ (fun i hi => by omega)⟩
  case round =>
    obtain ⟨j, hj, rfl, rfl, HF⟩ := hrel
    by_cases hlt : j < nl
    · have hjj : (j : Int) < (nl : Int) := by omega
      have hjl : j < E.length := by rw [← HNL.out]; exact hlt
      obtain ⟨b, off, rfl, hc⟩ := es_key HE.out hjl
      rw [← kat_at hjl] at hc
      have g1 := eql_strN 9 (kat E j) x
      rw [toList_eqD] at g1
      have q1 : IntKind.i64.wrap ((j : Int) + 1) = (j : Int) + 1 := by rw [IntKind.wrap_i64]; omega
      by_cases hk : kat E j = x
      · have HQ := hideQ (fun e he => (HP.out e).1 ⟨j, hlt, hk, he⟩)
        rw [decide_eq_true hk] at g1
        clear hk HF HP
        generalize kat E j = k at *
        go_wp2_with fail
        go_ret2
        exact ⟨HQ.out _ rfl, rfl⟩
      · have HQ : Hid (∀ i, i < j + 1 → ¬ kat E i = x) := hideQ (fun i hi => by
          by_cases e : i = j
          · rw [e]; exact hk
          · exact HF.out i (by omega))
        rw [decide_eq_false hk] at g1
        clear hk HF
        generalize kat E j = k at *
        go_wp2_with fail
        go_roundw
        case rel => exact ⟨j + 1, hlt, by go_num, trivial, HQ⟩
        case measure => simp [intOf]; omega
    · obtain rfl : j = nl := by omega
      have HQ := hideQ (fun e he => (HP.out e).2 ⟨HF.out, he⟩)
      clear HF HP
      go_wp2_with fail
      go_ret2
      exact ⟨HQ.out _ rfl, rfl⟩
end Go.Proofs.YteeimpjjmdpbgaaDoor
