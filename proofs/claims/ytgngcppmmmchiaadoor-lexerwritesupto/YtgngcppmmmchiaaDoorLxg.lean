import Derived.Test.YtgngcppmmmchiaaDoorLxf
namespace Go.Proofs.YtgngcppmmmchiaaDoor
open Go.ChangeShapes Go.WideShapes Go.ChangeAt Go.RowKit

/-- 'append(s, p...)' of bytes. -/
theorem wpList_pushR {w0 W : World} {ops : Array Oper} {rest : List Oper} {o : Oper} {act : Act} {Q : Exit → Act → World → Prop} (hgd : o.guard = none) (s x : Operand)
    (ho : o.op = .call { callee := .builtin .append, args := #[s, x], argTypes := #[25, 25] }) (a : Option Addr) (c0 n : Nat) (l p : List UInt8) (q g : Nat) (hs : act.eval s = .slice a n c0) (hG : Hid (Gb w0 W a c0 n l)) (hx : act.eval x = .slice (some ⟨g, 0, none⟩) q q) (hq : Hid (q = p.length)) (hR : Hid (Rb W g p))
    (hn : n + q ≤ 1099511627776)
    (h : ∀ a' c' W', Hid (Gb w0 W' a' c' (n + q) (l ++ p)) → wpList Tryd.prog ops Q rest (act.put o.dst (.slice a' (n + q) c')) W') : wpList Tryd.prog ops Q (o :: rest) act W := by
  obtain ⟨i0, hi, hz0, hz1, hz2⟩ := info_partsL Tryd.infoB
  have e1 := hq.out
  subst e1
  have hplain : ∀ j, (⟨g, 0, none⟩ : Addr).add j = ⟨g, j, none⟩ := fun j => by unfold Addr.add; split <;> simp_all
  refine wpList_append_own _ hgd s x 25 ho w0.heap.size 5 i0 (.int .u8 0) 1 1 Tryd.underlying25 hi hz0 hz1 hz2 rfl (by decide) (.slice a n c0) n (bu l) hs hG.out.gro.own ⟨g, 0, none⟩ p.length p.length (bu p) hx (by rw [bu_len, Nat.mul_one]) (fun j u hu => by rw [hplain]; exact hR.out.at' j u hu) ?_ (by unfold maxLen; omega) (by omega) hG.out.gro.kept.size ?_
  · intro u hu
    obtain ⟨x, _, rfl⟩ := List.mem_map.1 hu
    rfl
  · intro v' W' ho2 hg2 _
    have q : Gro w0 W' 5 1 v' (n + p.length) (bu l ++ bu p) := ⟨ho2, hG.out.gro.kept.trans (Kept.grown hg2) (fun i hi => .inr (hG.out.gro.own.lt i hi).1)⟩
    obtain ⟨a', c', rfl⟩ := q.shape
    rw [← bu_append] at q
    exact h a' c' W' ⟨q, by rw [List.length_append, hG.out.len]⟩
theorem gb_empty (w : World) : Gb w (w.alloc (.cells #[] 5)) (some ⟨w.heap.size, 0, none⟩) 0 0 [] := ⟨gro_empty w w 5 1 (Kept.refl _ _), rfl⟩
theorem gb_34 (w : World) : Gb w (w.alloc (.cells #[.int .u8 34] 5)) (some ⟨w.heap.size, 0, none⟩) 1 1 [34] := by
  refine ⟨⟨⟨rfl, .inr ⟨w.heap.size, 1, #[.int .u8 34], rfl, Nat.le_refl _, heap_alloc_new w _, Nat.le_refl _, by decide, rfl, rfl⟩⟩, Kept.alloc _ _⟩, rfl⟩
theorem str_esc (l : List UInt8) : (⟨#[92]⟩ : ByteArray) ++ bq l = bq (92 :: l) := bq_append [92] l
set_option maxRecDepth 20000 in
set_option maxHeartbeats 4000000 in
theorem rword_any (l : List UInt8) (w : World) (hl : l.length ≤ 400000000000) :
    Calls Tryd.prog 6 #[.string (bq l)] w fun e w' => e = .returned (.string (bq (wordF l))) ∧ Kept (fun _ => False) w w' := by
  have e1 := bq_list l
  have e2 := str_esc l
  obtain ⟨s, hs⟩ : ∃ s, s = bq l := ⟨_, rfl⟩
  have hz : s.size = l.length := by rw [hs]; exact bq_size l
  have HX : Hid (∀ k (h : k < l.length) (h2 : k < s.size), s[k] = l[k]) := hideL (fun k h h2 => by subst hs; rfl)
  rw [← hs] at e1 e2 ⊢
  clear hs
  have hsb : s.size ≤ 400000000000 := by omega
  unfold wordF rsv
  by_cases h1 : l = [65, 78, 68]
  · rw [if_pos h1, if_pos (by decide)]
    have g1 : (s.toList == [65, 78, 68]) = true := by rw [e1, h1]; rfl
    generalize bq (92 :: l) = t at *
    clear e1 h1 HX hz
    go_enter Tryd.func6, Tryd.ntmps6
    go_wp2
    go_ret
    exact ⟨rfl, Kept.refl _ _⟩
  rw [if_neg h1]
  have g1 : (s.toList == [65, 78, 68]) = false := by rw [e1]; simpa using h1
  by_cases h2 : l = [79, 82]
  · rw [if_pos h2, if_pos (by decide)]
    have g2 : (s.toList == [79, 82]) = true := by rw [e1, h2]; rfl
    generalize bq (92 :: l) = t at *
    clear e1 h1 h2 HX hz
    go_enter Tryd.func6, Tryd.ntmps6
    go_wp2
    go_ret
    exact ⟨rfl, Kept.refl _ _⟩
  rw [if_neg h2]
  have g2 : (s.toList == [79, 82]) = false := by rw [e1]; simpa using h2
  by_cases h3 : l = [78, 79, 84]
  · rw [if_pos h3, if_pos (by decide)]
    have g3 : (s.toList == [78, 79, 84]) = true := by rw [e1, h3]; rfl
    generalize bq (92 :: l) = t at *
    clear e1 h1 h2 h3 HX hz
    go_enter Tryd.func6, Tryd.ntmps6
    go_wp2
    go_ret
    exact ⟨rfl, Kept.refl _ _⟩
  rw [if_neg h3]
  have g3 : (s.toList == [78, 79, 84]) = false := by rw [e1]; simpa using h3
  by_cases h4 : l = [84, 79]
  · rw [if_pos h4, if_pos (by decide)]
    have g4 : (s.toList == [84, 79]) = true := by rw [e1, h4]; rfl
    generalize bq (92 :: l) = t at *
    clear e1 h1 h2 h3 h4 HX hz
    go_enter Tryd.func6, Tryd.ntmps6
    go_wp2
    go_ret
    exact ⟨rfl, Kept.refl _ _⟩
  rw [if_neg h4, if_neg (by decide)]
  have g4 : (s.toList == [84, 79]) = false := by rw [e1]; simpa using h4
  have HG := hideL (gb_empty w)
  obtain ⟨n, hn⟩ : ∃ n, n = s.size := ⟨_, rfl⟩
  have HLn : Hid (n = l.length) := hideL (by omega)
  have hnb : n ≤ 400000000000 := by omega
  clear e1 e2 h1 h2 h3 h4 hz hl
  go_enter Tryd.func6, Tryd.ntmps6
  go_wp2
  clear g1 g2 g3 g4
  generalize w.heap.size = b0 at *
  go_loopw [3, 4] (fun v i wr => ∃ (k m : Nat) (a : Option Addr) (c : Nat), k ≤ n ∧ m ≤ 2 * k ∧ i = .int .i64 k ∧ v = .slice a m c ∧ Hid (Gb w wr a c m (wl (l.take k)))) (fun _ i _ => n - (intOf i).toNat)
  case atStart => exact ⟨0, 0, _, _, by omega, by omega, rfl, rfl, HG⟩
  case round =>
    obtain ⟨k, m, a, c0, hk, hmk, rfl, rfl, HR⟩ := hrel
    clear HG
    by_cases hlt : k < n
    · have hkl : k < l.length := by rw [← HLn.out]; exact hlt
      have hks : k < s.size := by rw [← hn]; exact hlt
      have c0' := HX.out k hkl hks
      have HW := hideL (wl_next l k hkl)
      have c3 : s[k].toNat = l[k].toNat := by rw [c0']
      have hf := wl_empty l k (by omega)
      generalize (wl (l.take k)).isEmpty = f at *
      have hf2 : ((k : Int) == 0) = f := by rw [hf, Bool.eq_iff_iff, beq_iff_eq, decide_eq_true_eq]; omega
      have EC := hideL (escaped_any l[k] f wr)
      have hp2 := pl_len f l[k]
      generalize pl f l[k] = p at *
      obtain ⟨q, hq⟩ : ∃ q, q = p.length := ⟨_, rfl⟩
      have HQ := hideL hq
      unfold esPost at EC
      rw [← hq] at EC hp2
      obtain ⟨z, hzz⟩ : ∃ z, z = l[k].toNat := ⟨_, rfl⟩
      rw [← hzz] at EC c3
      have hkz : (k : Int) < (n : Int) := by omega
      clear c0' hf hq hzz HX
      go_wp2_with (first
        | (go_at_call 12; refine EC.out.mono ?_; clear EC; rintro e w6 ⟨g6, rfl, r6, k6⟩; have R6 := hideL r6; have G5 := hideL (HR.out.later k6); clear HR r6 k6)
        | (at_builtin; refine wpList_pushR rfl _ _ rfl _ _ m _ p q _ rfl G5 rfl HQ R6 (by omega) ?_; clear G5 R6; intro a7 c7 W7 G7))
      go_roundw
      case rel => exact ⟨k + 1, m + q, a7, c7, by omega, by omega, by go_num, rfl, by rw [HW.out]; exact G7⟩
      case measure => simp [intOf]; omega
    · obtain rfl : k = n := by omega
      have hb := gro_string HR.out.gro HR.out.len
      rw [List.take_of_length_le (by rw [HLn.out]; exact Nat.le_refl _)] at hb
      have HK := hideL HR.out.gro.kept
      have hb2 : (convert 25 9 (.slice a m c0)).run Tryd.prog wr = .ok (.string (bq (wl l))) wr := hb
      clear hb HR
      go_wp2
      go_ret
      exact ⟨rfl, HK.out⟩
set_option maxRecDepth 20000 in
set_option maxHeartbeats 4000000 in
theorem rquote_any (l : List UInt8) (w : World) (hl : l.length ≤ 400000000000) :
    Calls Tryd.prog 7 #[.string (bq l)] w fun e w' => e = .returned (.string (bq (quoteF l))) ∧ Kept (fun _ => False) w w' := by
  obtain ⟨s, hs⟩ : ∃ s, s = bq l := ⟨_, rfl⟩
  have hz : s.size = l.length := by rw [hs]; exact bq_size l
  have HG := hideL (gb_34 w)
  have HX : Hid (∀ k (h : k < l.length) (h2 : k < s.size), s[k] = l[k]) := hideL (fun k h h2 => by subst hs; rfl)
  rw [← hs]
  obtain ⟨n, hn⟩ : ∃ n, n = s.size := ⟨_, rfl⟩
  have HLn : Hid (n = l.length) := hideL (by omega)
  have hnb : n ≤ 400000000000 := by omega
  have H34 : Hid ((34 : Int) = ((34 : UInt8).toNat : Int)) := hideL rfl
  have H92 : Hid ((92 : Int) = ((92 : UInt8).toNat : Int)) := hideL rfl
  clear hs hl hz
  go_enter Tryd.func7, Tryd.ntmps7
  go_wp2
  generalize w.heap.size = b0 at *
  go_loopw [3, 4] (fun v i wr => ∃ (k m : Nat) (a : Option Addr) (c : Nat), k ≤ n ∧ m ≤ 2 * k + 1 ∧ i = .int .i64 k ∧ v = .slice a m c ∧ Hid (Gb w wr a c m (34 :: qF (l.take k)))) (fun _ i _ => n - (intOf i).toNat)
  case atStart => exact ⟨0, 1, _, _, by omega, by omega, rfl, rfl, HG⟩
  case round =>
    obtain ⟨k, m, a, c0, hk, hmk, rfl, rfl, HR⟩ := hrel
    clear HG
    by_cases hlt : k < n
    · have hkl : k < l.length := by rw [← HLn.out]; exact hlt
      have hks : k < s.size := by rw [← hn]; exact hlt
      have c0' := HX.out k hkl hks
      have c3 : s[k].toNat = l[k].toNat := by rw [c0']
      have hkz : (k : Int) < (n : Int) := by omega
      have HW := hideL (qF_next l k hkl)
      obtain ⟨x, hx⟩ : ∃ x, x = l[k] := ⟨_, rfl⟩
      rw [← hx] at HW c3
      clear hx c0'
      by_cases h1 : x = 34
      · subst h1
        have HZ : Hid (34 :: qF (l.take (k + 1)) = (34 :: qF (l.take k)) ++ [92] ++ [34]) := hideL (by rw [HW.out]; simp [qe])
        have y0 : s[k].toNat = 34 := c3
        clear HW c3
        go_wp2_with (first
          | (at_builtin; refine wpList_pushG rfl _ _ rfl _ _ m _ 92 _ rfl HR _ (by first | rfl | simp) rfl H92 (by omega) ?_; clear HR; intro a1 c1 W3 G3)
          | (at_builtin; refine wpList_pushG rfl _ _ rfl _ _ (m + 1) _ 34 _ rfl G3 _ (by first | rfl | simp) rfl H34 (by omega) ?_; clear G3; intro a4 c4 W4 G4))
        go_roundw
        case rel => exact ⟨k + 1, m + 1 + 1, a4, c4, by omega, by omega, by go_num, rfl, by rw [HZ.out]; exact G4⟩
        case measure => simp [intOf]; omega
      · by_cases h2 : x = 92
        · subst h2
          have HZ : Hid (34 :: qF (l.take (k + 1)) = (34 :: qF (l.take k)) ++ [92] ++ [92]) := hideL (by rw [HW.out]; simp [qe])
          have y0 : s[k].toNat = 92 := c3
          clear HW c3
          go_wp2_with (first
            | (at_builtin; refine wpList_pushG rfl _ _ rfl _ _ m _ 92 _ rfl HR _ (by first | rfl | simp) rfl H92 (by omega) ?_; clear HR; intro a1 c1 W3 G3)
            | (at_builtin; refine wpList_pushG rfl _ _ rfl _ _ (m + 1) _ 92 _ rfl G3 _ (by first | rfl | simp) rfl H92 (by omega) ?_; clear G3; intro a4 c4 W4 G4))
          go_roundw
          case rel => exact ⟨k + 1, m + 1 + 1, a4, c4, by omega, by omega, by go_num, rfl, by rw [HZ.out]; exact G4⟩
          case measure => simp [intOf]; omega
        · have HZ : Hid (34 :: qF (l.take (k + 1)) = (34 :: qF (l.take k)) ++ [x]) := hideL (by rw [HW.out, qe_no x h1 h2]; simp)
          obtain ⟨q, hq⟩ : ∃ q, q = x.toNat := ⟨_, rfl⟩
          have hqb : q < 256 := by rw [hq]; exact x.toNat_lt
          have y0 : s[k].toNat = q := by rw [c3, hq]
          have q1 : ((q : Int) == 34) = false := by rw [hq]; exact u8_intL x 34 h1
          have q2 : ((q : Int) == 92) = false := by rw [hq]; exact u8_intL x 92 h2
          have HQ : Hid ((q : Int) = (x.toNat : Int)) := hideL (by rw [hq])
          clear HW c3 h1 h2 hq
          go_wp2_with (at_builtin; refine wpList_pushG rfl _ _ rfl _ _ m _ x _ rfl HR _ (by first | rfl | simp) rfl HQ (by omega) ?_; clear HR; intro a4 c4 W4 G4)
          go_roundw
          case rel => exact ⟨k + 1, m + 1, a4, c4, by omega, by omega, by go_num, rfl, by rw [HZ.out]; exact G4⟩
          case measure => simp [intOf]; omega
    · obtain rfl : k = n := by omega
      have HT : Hid (l.take k = l) := hideL (List.take_of_length_le (by rw [HLn.out]; exact Nat.le_refl _))
      rw [HT.out] at HR
      have hb := fun (a : Option Addr) (c : Nat) (W : World) (h : Gb w W a c (m + 1) (34 :: qF l ++ [34])) => gro_string h.gro h.len
      have hb2 : ∀ (a : Option Addr) (c : Nat) (W : World) (h : Gb w W a c (m + 1) (34 :: qF l ++ [34])), (convert 25 9 (.slice a (m + 1) c)).run Tryd.prog W = .ok (.string (bq (quoteF l))) W := hb
      have HB := hideL hb2
      clear hb hb2
      go_wp2_with (at_builtin; refine wpList_pushG rfl _ _ rfl _ _ m _ 34 _ rfl HR _ (by first | rfl | simp) rfl H34 (by omega) ?_; clear HR; intro a4 c4 W4 G4; have hb4 := HB.out a4 c4 W4 G4.out; have HK := hideL G4.out.gro.kept; clear G4)
      go_ret
      exact ⟨rfl, HK.out⟩
end Go.Proofs.YtgngcppmmmchiaaDoor
