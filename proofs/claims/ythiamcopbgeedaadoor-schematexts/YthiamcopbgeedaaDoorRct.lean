import Derived.Test.YthiamcopbgeedaaDoorCtm
import Derived.Test.YthiamcopbgeedaaDoorGro
namespace Go.Proofs.YthiamcopbgeedaaDoor
open Go.ChangeShapes Go.WideShapes Go.ChangeAt Go.RowKit

theorem hideR {p : Prop} (h : p) : Hid p := h
theorem Tryd.infoSt : (Tryd.prog.info? 9).map (fun i => (i.zero, i.size, i.bytes)) = some (some (.string ⟨#[]⟩), 1, 16) := by kernel_rfl
/-- 'append(list, text)'. -/
theorem wpList_pushS {w0 W : World} {ops : Array Oper} {rest : List Oper} {o : Oper} {act : Act} {Q : Exit → Act → World → Prop} (hgd : o.guard = none) (s x : Operand)
    (ho : o.op = .call { callee := .builtin .append, args := #[s, x], argTypes := #[53, 53] }) (v : Value) (n m : Nat) (xs ys : List Value) (t : ByteArray) (hs : act.eval s = v) (hG : Hid (Gro w0 W 9 1 v n xs)) (hx : act.eval x = .slice (some ⟨W.heap.size, 0, none⟩) 1 1)
    (hl : Hid (ys = xs ++ [.string t])) (hm : m = n + 1) (hb : n ≤ 2199023255552)
    (h : ∀ a' c' W', Hid (Gro w0 W' 9 1 (.slice a' m c') m ys) → wpList Tryd.prog ops Q rest (act.put o.dst (.slice a' m c')) W') : wpList Tryd.prog ops Q (o :: rest) act (W.alloc (.cells #[.string t] 9)) := by
  obtain ⟨i0, hi, hz0, hz1, hz2⟩ := info_parts Tryd.infoSt
  have e1 := hl.out
  subst e1 hm
  exact wpList_push hgd s x 53 ho 9 i0 _ 1 16 Tryd.underlying53 hi hz0 hz1 hz2 rfl (by decide) v n xs _ hs hG hx rfl (by intro u hu; simp at hu; subst hu; rfl) (hideG (by omega)) (hideG (by unfold maxLen; omega)) h
theorem ext_bstr (S : ByteArray) (a b : Nat) : S.extract a b = bstr ((S.data.toList.drop a).take (b - a)) := by
  apply ByteArray.ext
  apply Array.toList_inj.1
  rw [ByteArray.data_extract, Array.toList_extract, List.extract_eq_take_drop]
  rfl
theorem ext_end (S : ByteArray) (a : Nat) : S.extract a S.size = bstr (S.data.toList.drop a) := by
  rw [ext_bstr, List.take_of_length_le]
  rw [List.length_drop, Array.length_toList]
  exact Nat.le_refl _
set_option maxRecDepth 20000 in
set_option maxHeartbeats 4000000 in
/-- The document's cut. -/
theorem rcut_any (S : ByteArray) (c : UInt8) (z : Int) (w : World) (hz : z = (c.toNat : Int)) (hS : S.size ≤ 1280) :
    Calls Tryd.prog 19 #[.string S, .int .u8 z] w fun e w' => ∃ a cp, e = .returned (.slice a (cutL c S.data.toList).length cp) ∧ Gro w w' 9 1 (.slice a (cutL c S.data.toList).length cp) (cutL c S.data.toList).length (txs (cutL c S.data.toList)) := by
  have hSz : S.data.toList.length = S.size := by rw [Array.length_toList]; rfl
  have HE : Hid (∀ a b, S.extract a b = bstr ((S.data.toList.drop a).take (b - a))) := hideR (ext_bstr S)
  have HF : Hid (∀ a, S.extract a S.size = bstr (S.data.toList.drop a)) := hideR (ext_end S)
  subst hz
  go_enter Tryd.func19, Tryd.ntmps19
  go_wp2
  go_loopw [5, 6, 7] (fun v5 v6 v7 wr => ∃ (i a0 m : Nat) (ad : Option Addr) (cp : Nat) (D : List (List UInt8)), a0 ≤ i ∧ i ≤ S.size ∧ v7 = .int .i64 i ∧ v6 = .int .i64 a0 ∧ v5 = .slice ad m cp ∧ Hid (m = D.length ∧ cutL c S.data.toList = D ++ cutL c (S.data.toList.drop a0) ∧ (∀ j (h : j < S.data.toList.length), a0 ≤ j → j < i → S.data.toList[j] ≠ c) ∧ m ≤ i) ∧ Hid (Gro w wr 9 1 (.slice ad m cp) m (txs D))) (fun _ _ v7 _ => S.size - (intOf v7).toNat)
  case atStart => exact ⟨0, 0, 0, _, _, [], by omega, by omega, rfl, rfl, rfl, hideR ⟨rfl, rfl, fun j _ _ h => by omega, by omega⟩, gro_empty w w _ _ (Kept.refl _ _)⟩
  case round =>
    obtain ⟨i, a0, m, ad, cp, D, ha, hi, rfl, rfl, rfl, HD, HG⟩ := hrel
    have hm : m ≤ 1280 := by have := HD.out.2.2.2; omega
    by_cases hlt : i < S.size
    · have hii : (i : Int) < (S.size : Int) := by omega
      have hil : i < S.data.toList.length := by omega
      have hget : S.data.toList[i] = S[i] := Array.getElem_toList ..
      by_cases hc : S[i] = c
      · have hq : ((S[i].toNat : Int) == (c.toNat : Int)) = true := by rw [hc]; exact beq_self_eq_true _
        have x1 := HE.out a0 i
        have HQ : Hid (cutL c S.data.toList = (D ++ [(S.data.toList.drop a0).take (i - a0)]) ++ cutL c (S.data.toList.drop (i + 1))) := hideR (by
          rw [List.append_assoc]
          exact HD.out.2.1.trans (congrArg (D ++ ·) (cut_step ha hil (hget.trans hc) HD.out.2.2.1)))
        have HM := hideR HD.out.1
        have HL := hideR HD.out.2.2.2
        have HT : Hid (txs (D ++ [(S.data.toList.drop a0).take (i - a0)]) = txs D ++ [.string (bstr ((S.data.toList.drop a0).take (i - a0)))]) := hideR (by rw [txs_append]; rfl)
        have e4 : a0 ≤ i := ha
        have e3 : (a0 : Int) ≤ (i : Int) := by omega
        generalize bstr ((S.data.toList.drop a0).take (i - a0)) = T at *
        clear HD HE HF hget hc
        go_wp2_with (at_builtin; refine wpList_pushS rfl _ _ rfl _ m (m + 1) _ _ _ rfl HG rfl HT rfl (by omega) ?_; intro a' c' W' HG')
        go_roundw
        case rel => exact ⟨i + 1, i + 1, m + 1, a', c', _, by omega, by omega, by go_num, by go_num, rfl, hideR ⟨by rw [List.length_append, ← HM.out]; rfl, HQ.out, (fun j _ h1 h2 => by omega), by have := HL.out; omega⟩, HG'⟩
        case measure => simp [intOf]; omega
      · have hq : ((S[i].toNat : Int) == (c.toNat : Int)) = false := by
          rw [beq_eq_false_iff_ne]
          intro e
          exact hc (UInt8.toNat_inj.1 (by omega))
        have HQ : Hid (∀ j (h : j < S.data.toList.length), a0 ≤ j → j < i + 1 → S.data.toList[j] ≠ c) := hideR (fun j h h1 h2 => by
          by_cases e : j = i
          · subst e
            rw [hget]
            exact hc
          · exact HD.out.2.2.1 j h h1 (by omega))
        have HD2 := hideR (And.intro HD.out.1 (And.intro HD.out.2.1 HD.out.2.2.2))
        clear HD HE HF hget hc
        go_wp2
        go_roundw
        case rel => exact ⟨i + 1, a0, m, ad, cp, D, by omega, by omega, by go_num, rfl, rfl, hideR ⟨HD2.out.1, HD2.out.2.1, HQ.out, by have := HD2.out.2.2; omega⟩, HG⟩
        case measure => simp [intOf]; omega
    · obtain rfl : i = S.size := by omega
      have x1 := HF.out a0
      have HQ : Hid (cutL c S.data.toList = D ++ [S.data.toList.drop a0]) := hideR (HD.out.2.1.trans (congrArg (D ++ ·) (cut_last (fun j h h1 _ => HD.out.2.2.1 j h h1 (by omega)))))
      have HM := hideR HD.out.1
      have HT : Hid (txs (D ++ [S.data.toList.drop a0]) = txs D ++ [.string (bstr (S.data.toList.drop a0))]) := hideR (by rw [txs_append]; rfl)
      have e4 : a0 ≤ S.size := ha
      have e3 : (a0 : Int) ≤ (S.size : Int) := by omega
      generalize bstr (S.data.toList.drop a0) = T at *
      clear HD HE HF hSz
      go_wp2_with (at_builtin; refine wpList_pushS rfl _ _ rfl _ m (m + 1) _ _ _ rfl HG rfl HT rfl (by omega) ?_; intro a' c' W' HG')
      go_ret
      have e5 : (cutL c S.data.toList).length = m + 1 := by rw [HQ.out, List.length_append, ← HM.out]; rfl
      rw [e5, HQ.out]
      exact ⟨_, _, rfl, HG'.out⟩
end Go.Proofs.YthiamcopbgeedaaDoor
