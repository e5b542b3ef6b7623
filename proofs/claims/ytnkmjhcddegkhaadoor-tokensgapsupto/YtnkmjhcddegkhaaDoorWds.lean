import Derived.Test.YtnkmjhcddegkhaaDoorWdw
namespace Go.Proofs.YtnkmjhcddegkhaaDoor
open Go.ChangeShapes Go.WideShapes Go.ChangeAt Go.RowKit

theorem Tryd.infoTk : (Tryd.prog.info? 29).map (fun i => (i.zero, i.size, i.bytes)) = some (some (.agg #[.string ⟨#[]⟩, .int .i64 0, .int .i64 0, .int .i64 0, .int .i64 0]), 5, 48) := by kernel_rfl
theorem tkC_one (t : ByteArray) (a b c d : Int) : ∀ u ∈ [Value.string t, .int .i64 a, .int .i64 b, .int .i64 c, .int .i64 d], u.oneCell' = true := by
  intro u hu
  simp at hu
  rcases hu with rfl | rfl | rfl | rfl | rfl <;> rfl
/-- 'append(list, token)'. -/
theorem wpList_pushT {w0 W : World} {ops : Array Oper} {rest : List Oper} {o : Oper} {act : Act} {Q : Exit → Act → World → Prop} (hgd : o.guard = none) (s x : Operand)
    (ho : o.op = .call { callee := .builtin .append, args := #[s, x], argTypes := #[25, 25] }) (v : Value) (n m : Nat) (xs ys : List Value) (t : ByteArray) (a b c d : Int) (hs : act.eval s = v) (hG : Hid (Gro w0 W 29 5 v n xs)) (hx : act.eval x = .slice (some ⟨W.heap.size, 0, none⟩) 1 1)
    (hl : Hid (ys = xs ++ [.string t, .int .i64 a, .int .i64 b, .int .i64 c, .int .i64 d])) (hm : m = n + 1) (hb : n ≤ 2199023255552)
    (h : ∀ a' c' W', Hid (Gro w0 W' 29 5 (.slice a' m c') m ys) → wpList Tryd.prog ops Q rest (act.put o.dst (.slice a' m c')) W') : wpList Tryd.prog ops Q (o :: rest) act (W.alloc (.cells #[.string t, .int .i64 a, .int .i64 b, .int .i64 c, .int .i64 d] 29)) := by
  obtain ⟨i0, hi, hz0, hz1, hz2⟩ := info_parts Tryd.infoTk
  have e1 := hl.out
  subst e1 hm
  exact wpList_push hgd s x 25 ho 29 i0 _ 5 48 Tryd.underlying25 hi hz0 hz1 hz2 rfl (by decide) v n xs _ hs hG hx rfl (tkC_one t a b c d) (hideG (by omega)) (hideG (by unfold maxLen; omega)) h
set_option maxRecDepth 20000 in
set_option maxHeartbeats 4000000 in
theorem words_any (l : List UInt8) (w : World) (hl : l.length ≤ 1099511627776) :
    Calls Tryd.prog 7 #[.string (bq l)] w fun e w' => ∃ a c, e = .returned (.slice a (words l).length c) ∧ Gro w w' 29 5 (.slice a (words l).length c) (words l).length (tks l 0 (words l)) := by
  have HI := hideV (fun k w (h : k < l.length) => inWord_any l k w hl h)
  have HW := hideV (fun k w (h : k ≤ l.length) => wordEnd_any l k w hl h)
  have HC := hideV (fun (t : List UInt8) w (h : t.length ≤ l.length) => clone_any t w (by omega))
  have HN : Hid (∀ (d r : List (Nat × Nat)), d ++ r = words l → d.length ≤ l.length) := hideV (fun d r h => by
    have h1 : (words l).length ≤ l.length := by rw [words_F]; exact wF_len l _ 0 (Nat.le_refl _)
    rw [← h, List.length_append] at h1; omega)
  have HX : Hid (∀ k E, (bq l).extract k E = bq (wtx l (k, E))) := hideV (fun k E => bq_extract l k E)
  have hz : (bq l).size = l.length := bq_size l
  have hz' : ((bq l).size : Int) = (l.length : Int) := by rw [hz]
  obtain ⟨s, hs⟩ : ∃ s, s = bq l := ⟨_, rfl⟩
  rw [← hs] at HI HW HX hz hz' ⊢
  clear hs
  go_enter Tryd.func7, Tryd.ntmps7
  go_wp2
  go_loopw [3, 4] (fun v i wr => ∃ (k m : Nat) (a : Option Addr) (c : Nat) (d : List (Nat × Nat)), k ≤ l.length ∧ i = .int .i64 k ∧ v = .slice a m c ∧ Hid (m = d.length ∧ d ++ wF l k = words l) ∧ Hid (Gro w wr 29 5 (.slice a m c) m (tks l 0 d))) (fun _ i _ => l.length - (intOf i).toNat)
  case atStart => exact ⟨0, 0, _, _, [], by omega, rfl, rfl, hideV ⟨rfl, rfl⟩, gro_nil w _ _⟩
  case round =>
    obtain ⟨k, m, a, c, d, hk, rfl, rfl, HD, HG⟩ := hrel
    have hm : m ≤ 1099511627776 := by have := HN.out d _ HD.out.2; have := HD.out.1; omega
    by_cases hlt : k < l.length
    · have hki : (k : Int) < (l.length : Int) := by omega
      have CI := fun w => hideV (HI.out k w hlt)
      cases hi : inw l k with
      | false =>
        have HQ : Hid (m = d.length ∧ d ++ wF l (k + 1) = words l) := hideV (by rw [← wF_out l k hlt hi]; exact HD.out)
        rw [hi] at CI
        clear hi HD HI HW HC HN HX
        go_wp2_with (go_at_call 13; refine (CI _).out.mono ?_; clear CI; rintro e W ⟨rfl, K2⟩)
        go_roundw
        case rel => exact ⟨k + 1, m, a, c, d, by omega, by go_num, rfl, HQ, HG.out.later K2⟩
        case measure => simp [intOf]; omega
      | true =>
        have e1 := wE_gt l k hlt hi
        have e2 := wE_le l k hk
        have CW := fun w => hideV (HW.out k w hk)
        have HQ : Hid (m + 1 = (d ++ [(k, wE l k)]).length ∧ (d ++ [(k, wE l k)]) ++ wF l (wE l k) = words l) := hideV (by
          refine ⟨by rw [List.length_append, ← HD.out.1]; rfl, ?_⟩
          rw [List.append_assoc, ← HD.out.2, wF_in l k hlt hi]; rfl)
        have HT : Hid (tks l 0 (d ++ [(k, wE l k)]) = tks l 0 d ++ [.string (bq (wtx l (k, wE l k))), .int .i64 0, .int .i64 (m : Int), .int .i64 (k : Int), .int .i64 (wE l k : Int)]) := hideV (by
          rw [tks_snoc, Nat.zero_add, ← HD.out.1]; rfl)
        have CC := fun w => hideV (HC.out (wtx l (k, wE l k)) w (by unfold wtx; rw [List.length_take, List.length_drop]; omega))
        have x1 := HX.out k (wE l k)
        rw [hi] at CI
        clear hi HD HI HW HC HN HX
        generalize wE l k = E at *
        generalize bq (wtx l (k, E)) = T at *
        have b1 : (k : Int) ≤ (E : Int) := by omega
        have b2 : (E : Int) ≤ (l.length : Int) := by omega
        go_wp2_with (first
          | (go_at_call 13; refine (CI _).out.mono ?_; clear CI; rintro e W ⟨rfl, K2⟩)
          | (go_at_call 14; refine (CW _).out.mono ?_; clear CW; rintro e W3 ⟨rfl, K3⟩)
          | (go_at_call 15; refine (CC _).out.mono ?_; clear CC; rintro e W4 ⟨rfl, K4⟩; have HG4 := hideV (((HG.out.later K2).later K3).later K4))
          | (at_builtin; refine wpList_pushT rfl _ _ rfl _ m (m + 1) _ _ _ _ _ _ _ rfl HG4 rfl HT rfl (by omega) ?_; intro a' c' W' HG'))
        go_roundw
        case rel => exact ⟨E, m + 1, a', c', d ++ [(k, E)], by omega, by go_num, rfl, HQ, HG'⟩
        case measure => simp [intOf]; omega
    · have HQ : Hid (d = words l) := hideV (by have := HD.out.2; rwa [wF_end l k (by omega), List.append_nil] at this)
      have hmw : Hid (m = (words l).length) := hideV (by rw [← HQ.out]; exact HD.out.1)
      have hki : ¬ (k : Int) < (l.length : Int) := by omega
      have e := HQ.out
      subst e
      have e2 := HD.out.1
      subst e2
      clear HD HI HW HC HN HX HQ hmw
      go_wp2
      go_ret
      exact ⟨a, c, rfl, HG.out⟩
end Go.Proofs.YtnkmjhcddegkhaaDoor
