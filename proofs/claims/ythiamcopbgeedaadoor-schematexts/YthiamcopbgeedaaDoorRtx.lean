import Derived.Test.YthiamcopbgeedaaDoorTxo
import Derived.Test.YthiamcopbgeedaaDoorRck
import Derived.Laws.Concat
namespace Go.Proofs.YthiamcopbgeedaaDoor
open Go.ChangeShapes Go.WideShapes Go.ChangeAt Go.RowKit

def mF : ByteArray := ⟨#[44, 102, 111, 108, 100]⟩
def mS : ByteArray := ⟨#[44, 115, 116, 111, 112]⟩
def mE : ByteArray := ⟨#[44, 115, 116, 101, 109]⟩
set_option maxRecDepth 20000 in
theorem kindName_any (k : Int) (w : World) : Calls Tryd.prog 16 #[.int .i64 k] w fun e w' => e = .returned (.string (bstr (kW k))) ∧ w' = w := by
  by_cases h1 : k = 1
  · subst h1
    go_enter Tryd.func16, Tryd.ntmps16
    go_wp2
    go_ret
    exact ⟨rfl, rfl⟩
  · by_cases h2 : k = 2
    · subst h2
      go_enter Tryd.func16, Tryd.ntmps16
      go_wp2
      go_ret
      exact ⟨rfl, rfl⟩
    · have e : kW k = wNum := by rw [kW, if_neg h1, if_neg h2]
      rw [e]
      go_enter Tryd.func16, Tryd.ntmps16
      go_wp2
      go_ret
      exact ⟨rfl, rfl⟩
theorem stx_snoc : ∀ (F : List Fd) (f : Fd), F ≠ [] → stx (F ++ [f]) = stx F ++ 59 :: ftx f
  | [], _, h => absurd rfl h
  | [g], f, _ => by rw [List.singleton_append, stx_more g (by simp)]; rfl
  | g :: h :: r, f, _ => by
    rw [List.cons_append, stx_more g (by simp), stx_snoc (h :: r) f (by simp), stx_more g (by simp), List.append_assoc, List.cons_append]
theorem app_list (a b : ByteArray) : (a ++ b).data.toList = a.data.toList ++ b.data.toList := by simp
theorem app_size (a b : ByteArray) : (a ++ b).size = a.size + b.size := by simp
theorem ret2_sn {s t : ByteArray} {x y : Int} (h : s = t ∧ x = y) : Ending.returned (.tuple #[.string s, .int .i64 x]) = .returned (.tuple #[.string t, .int .i64 y]) := by rw [h.1, h.2]
/-- The text behind a field, step by step. -/
theorem ftx_steps (T : ByteArray) (P : List UInt8) (hT : T.data.toList = P) (f : Fd) (X1 X2 T2 T3 T4 T5 : ByteArray) (h1 : X1 = f.n ++ ⟨#[58]⟩) (h2 : X2 = X1 ++ bstr (kW f.k)) (h2' : T2 = T ++ X2) (h3 : T3 = if f.fo = true then T2 ++ mF else T2) (h4 : T4 = if f.st = true then T3 ++ mS else T3) (h5 : T5 = if f.se = true then T4 ++ mE else T4) : T5.data.toList = P ++ ftx f := by
  have e2 : T2.data.toList = P ++ (f.n.data.toList ++ 58 :: kW f.k) := by
    rw [h2', app_list, hT, h2, app_list, h1, app_list]
    simp [bstr]
  have e3 : T3.data.toList = T2.data.toList ++ (if f.fo then mFold else []) := by
    rw [h3]; cases f.fo
    · simp
    · simp only [if_true, app_list]; rfl
  have e4 : T4.data.toList = T3.data.toList ++ (if f.st then mStop else []) := by
    rw [h4]; cases f.st
    · simp
    · simp only [if_true, app_list]; rfl
  have e5 : T5.data.toList = T4.data.toList ++ (if f.se then mStem else []) := by
    rw [h5]; cases f.se
    · simp
    · simp only [if_true, app_list]; rfl
  rw [e5, e4, e3, e2, ftx, mks]
  simp [List.append_assoc]
set_option maxRecDepth 20000 in
set_option maxHeartbeats 8000000 in
/-- The document's Text. -/
theorem rtext_any (l : List Fd) (a : Option Addr) (c : Nat) (w : World) (hF : FsAt w a l) (hO : ∀ f ∈ l, f.Ok) :
    Calls Tryd.prog 6 #[.agg #[.slice a l.length c]] w fun e w' => e = .returned (.tuple #[.string (if gschema l then bstr (stx l) else ⟨#[]⟩), .int .i64 (chkN l)]) ∧ Kept (fun _ => False) w w' := by
  obtain ⟨B0, hB0⟩ : ∃ B0, B0 = w.alloc (.cells #[.slice a l.length c] 24) := ⟨_, rfl⟩
  have KA : Kept (fun _ => False) w B0 := by rw [hB0]; exact Kept.alloc _ _
  have HB : Hid (B0.cell? ⟨w.heap.size, 0, none⟩ = some (.slice a l.length c)) := hideW (by rw [hB0]; simp)
  have HK := hideW (rcheck_any l a c B0 (hF.kept KA) hO)
  rw [hB0] at HK
  have HKA := hideW KA
  have HF := hideW hF
  clear hF hO KA
  cases hG : gschema l with
  | false =>
    have HX := hideW (chkN_bad hG)
    rw [HX.out] at HK ⊢
    clear hG
    go_enter Tryd.func6, Tryd.ntmps6
    go_wp2_with (go_at_call 15; refine HK.out.mono ?_; clear HK; rintro e W1 ⟨rfl, hk1⟩)
    go_ret2
    exact ⟨rfl, (Kept.alloc _ _).trans hk1 (fun _ f => f.elim)⟩
  | true =>
    have HX := hideW (chkN_good hG)
    rw [HX.out] at HK ⊢
    have hq := hG
    rw [gschema, Bool.and_eq_true, Bool.and_eq_true] at hq
    have hl16 := of_decide_eq_true hq.1.1
    have HG := hideW (List.all_eq_true.1 hq.1.2)
    clear hG hq
    go_enter Tryd.func6, Tryd.ntmps6
    go_wp2_with (go_at_call 15; refine HK.out.mono ?_; clear HK; rintro e W1 ⟨rfl, hk1⟩; have hb1 := (show W1.cell? ⟨w.heap.size, 0, none⟩ = some (.slice a l.length c) from hk1.cell (by simp) (fun f => f)))
    rw [← hB0] at hk1
    clear hB0
    go_loopw [5, 16] (fun t i wr => ∃ (k : Nat), k ≤ l.length ∧ i = .int .i64 k ∧ t = .string (bstr (stx (l.take k))) ∧ Hid (Kept (fun _ => False) B0 wr)) (fun _ i _ => l.length - (intOf i).toNat)
    case atStart => exact ⟨0, by omega, rfl, rfl, hideW hk1⟩
    case round =>
      obtain ⟨k, hk, rfl, rfl, hK⟩ := hrel
      have hKw := hideW (HKA.out.trans hK.out (fun _ f => f.elim))
      by_cases hlt : k < l.length
      · obtain ⟨b, off, rfl, hc⟩ := HF.out (by intro e; rw [e] at hlt; simp at hlt)
        obtain ⟨x0, x1, x2, x3, x4⟩ := hc k hlt
        have hgf := HG.out _ (List.getElem_mem hlt)
        have hnx := names_next hlt
        have hTl := stx_len (l.take k) (fun f hf => HG.out f (List.mem_of_mem_take hf))
        rw [List.length_take] at hTl
        obtain ⟨f, hf⟩ : ∃ f, f = l[k] := ⟨_, rfl⟩
        rw [← hf] at x0 x1 x2 x3 x4 hgf hnx
        have y0 := hKw.out.cell x0 (fun f => f)
        have y1 := hKw.out.cell x1 (fun f => f)
        have y2 := hKw.out.cell x2 (fun f => f)
        have y3 := hKw.out.cell x3 (fun f => f)
        have y4 := hKw.out.cell x4 (fun f => f)
        have hn32 : f.n.size ≤ 32 := (gn_chars hgf).1
        have hk7 : (bstr (kW f.k)).size ≤ 7 := by
          rcases gk_range hgf with e | e | e <;> rw [e] <;> decide
        have KN : ∀ W, Calls Tryd.prog 16 #[.int .i64 f.k] W fun e w' => e = .returned (.string (bstr (kW f.k))) ∧ w' = W := fun W => kindName_any f.k W
        have K1 : Hid (Kept (fun _ => False) wr (wr.alloc (.cells #[.string f.n, .int .i64 f.k, .bool f.fo, .bool f.st, .bool f.se] 40))) := hideW (Kept.alloc _ _)
        have hi : ((k : Nat) : Int) < (l.length : Int) := by omega
        obtain ⟨T, hT⟩ : ∃ T, T = bstr (stx (l.take k)) := ⟨_, rfl⟩
        have hTd : T.data.toList = stx (l.take k) := by rw [hT]; rfl
        have hTs : T.size ≤ 896 := by
          have e : T.size = (stx (l.take k)).length := by rw [← hTd]; rfl
          omega
        rw [← hT]
        obtain ⟨KW, hKW⟩ : ∃ KW, KW = bstr (kW f.k) := ⟨_, rfl⟩
        rw [← hKW] at hk7 KN
        obtain ⟨T1, h1⟩ : ∃ T1, T1 = if 0 < k then T ++ ⟨#[59]⟩ else T := ⟨_, rfl⟩
        obtain ⟨X1, g1⟩ : ∃ X1, X1 = f.n ++ ⟨#[58]⟩ := ⟨_, rfl⟩
        obtain ⟨X2, g2⟩ : ∃ X2, X2 = X1 ++ KW := ⟨_, rfl⟩
        obtain ⟨T2, h2⟩ : ∃ T2, T2 = T1 ++ X2 := ⟨_, rfl⟩
        obtain ⟨T3, h3⟩ : ∃ T3, T3 = if f.fo = true then T2 ++ mF else T2 := ⟨_, rfl⟩
        obtain ⟨T4, h4⟩ : ∃ T4, T4 = if f.st = true then T3 ++ mS else T3 := ⟨_, rfl⟩
        obtain ⟨T5, h5⟩ : ∃ T5, T5 = if f.se = true then T4 ++ mE else T4 := ⟨_, rfl⟩
        have hT1 : T1.data.toList ++ ftx f = stx (l.take (k + 1)) := by
          rw [hnx, h1]
          by_cases h0 : 0 < k
          · rw [if_pos h0, app_list, hTd, stx_snoc _ _ (by intro e; have q : (l.take k).length = 0 := (by rw [e]; rfl); rw [List.length_take] at q; omega)]
            simp
          · obtain rfl : k = 0 := by omega
            rw [if_neg h0, hTd]; rfl
        have HTe : T5 = bstr (stx (l.take (k + 1))) := by
          refine bytes_inj ?_
          rw [ftx_steps T1 _ rfl f X1 X2 T2 T3 T4 T5 g1 (by rw [g2, hKW]) h2 h3 h4 h5, hT1]; rfl
        have o1 : (⟨#[59]⟩ : ByteArray).size = 1 := rfl
        have o2 : (⟨#[58]⟩ : ByteArray).size = 1 := rfl
        have s1 : T1.size ≤ 897 := by
          rw [h1]
          split
          · rw [app_size]; omega
          · omega
        have s2 : X1.size ≤ 33 := by rw [g1, app_size]; omega
        have s3 : X2.size ≤ 40 := by rw [g2, app_size]; omega
        have s4 : T2.size ≤ 937 := by rw [h2, app_size]; omega
        have s5 : T3.size ≤ 942 := by
          rw [h3]
          split
          · rw [app_size, show mF.size = 5 from rfl]; omega
          · omega
        have s6 : T4.size ≤ 947 := by
          rw [h4]
          split
          · rw [app_size, show mS.size = 5 from rfl]; omega
          · omega
        have m5 : mF.size = 5 := rfl
        have m6 : mS.size = 5 := rfl
        have m7 : mE.size = 5 := rfl
        have a2 := fun W => run_string_add_sum (P := Tryd.prog) W f.n ⟨#[58]⟩ (by rw [o2]; omega)
        rw [← g1] at a2
        have a3 := fun W => run_string_add_sum (P := Tryd.prog) W X1 KW (by omega)
        rw [← g2] at a3
        have a4 := fun W => run_string_add_sum (P := Tryd.prog) W T1 X2 (by omega)
        rw [← h2] at a4
        have HT := hideW (congrArg Value.string HTe)
        clear HTe x0 x1 x2 x3 x4 hc hf hnx hgf hT hTd hT1 g1 g2 h2 hTl hKW
        by_cases h0 : 0 < k
        · have h0' : (0 : Int) < (k : Int) := by omega
          rw [if_pos h0] at h1
          have a1 := fun W => run_string_add_sum (P := Tryd.prog) W T ⟨#[59]⟩ (by rw [o1]; omega)
          rw [← h1] at a1
          clear h1 h0
          cases e1 : f.fo <;> cases e2 : f.st <;> cases e3 : f.se
          · rw [e1] at y2 h3
            rw [e2] at y3 h4
            rw [e3] at y4 h5
            simp only [Bool.false_eq_true, if_false] at h3 h4 h5
            clear e1 e2 e3
            subst h3
            subst h4
            subst h5
            go_wp2
            go_quiet ((go_at_call 16; exact Calls.quiet_of_same (KN _)))
            go_wp2
            go_roundw
            case rel => exact ⟨k + 1, by omega, by go_num, HT.out, hideW ((hK.out.trans (Kept.alloc _ _) (fun _ f => f.elim)).trans (Kept.drewN _ _) (fun _ f => f.elim))⟩
            case measure => simp [intOf]; omega
          · rw [e1] at y2 h3
            rw [e2] at y3 h4
            rw [e3] at y4 h5
            simp only [if_true, Bool.false_eq_true, if_false] at h3 h4 h5
            clear e1 e2 e3
            subst h3
            subst h4
            have H5 := hideW h5
            clear h5
            go_wp2
            go_quiet ((go_at_call 16; exact Calls.quiet_of_same (KN _)))
            go_wp2
            go_roundw
            case rel => exact ⟨k + 1, by omega, by go_num, (Eq.trans (show _ = Value.string T5 by rw [H5.out]; rfl) HT.out), hideW ((hK.out.trans (Kept.alloc _ _) (fun _ f => f.elim)).trans (Kept.drewN _ _) (fun _ f => f.elim))⟩
            case measure => simp [intOf]; omega
          · rw [e1] at y2 h3
            rw [e2] at y3 h4
            rw [e3] at y4 h5
            simp only [if_true, Bool.false_eq_true, if_false] at h3 h4 h5
            clear e1 e2 e3
            subst h3
            have H4 := hideW h4
            clear h4
            subst h5
            go_wp2
            go_quiet ((go_at_call 16; exact Calls.quiet_of_same (KN _)))
            go_wp2
            go_roundw
            case rel => exact ⟨k + 1, by omega, by go_num, (Eq.trans (show _ = Value.string T5 by rw [H4.out]; rfl) HT.out), hideW ((hK.out.trans (Kept.alloc _ _) (fun _ f => f.elim)).trans (Kept.drewN _ _) (fun _ f => f.elim))⟩
            case measure => simp [intOf]; omega
          · rw [e1] at y2 h3
            rw [e2] at y3 h4
            rw [e3] at y4 h5
            simp only [if_true, Bool.false_eq_true, if_false] at h3 h4 h5
            clear e1 e2 e3
            subst h3
            have H4 := hideW h4
            clear h4
            have H5 := hideW h5
            clear h5
            go_wp2
            go_quiet ((go_at_call 16; exact Calls.quiet_of_same (KN _)))
            go_wp2
            go_roundw
            case rel => exact ⟨k + 1, by omega, by go_num, (Eq.trans (show _ = Value.string T5 by rw [H5.out, H4.out]; rfl) HT.out), hideW ((hK.out.trans (Kept.alloc _ _) (fun _ f => f.elim)).trans (Kept.drewN _ _) (fun _ f => f.elim))⟩
            case measure => simp [intOf]; omega
          · rw [e1] at y2 h3
            rw [e2] at y3 h4
            rw [e3] at y4 h5
            simp only [if_true, Bool.false_eq_true, if_false] at h3 h4 h5
            clear e1 e2 e3
            have H3 := hideW h3
            clear h3
            subst h4
            subst h5
            go_wp2
            go_quiet ((go_at_call 16; exact Calls.quiet_of_same (KN _)))
            go_wp2
            go_roundw
            case rel => exact ⟨k + 1, by omega, by go_num, (Eq.trans (show _ = Value.string T5 by rw [H3.out]; rfl) HT.out), hideW ((hK.out.trans (Kept.alloc _ _) (fun _ f => f.elim)).trans (Kept.drewN _ _) (fun _ f => f.elim))⟩
            case measure => simp [intOf]; omega
          · rw [e1] at y2 h3
            rw [e2] at y3 h4
            rw [e3] at y4 h5
            simp only [if_true, Bool.false_eq_true, if_false] at h3 h4 h5
            clear e1 e2 e3
            have H3 := hideW h3
            clear h3
            subst h4
            have H5 := hideW h5
            clear h5
            go_wp2
            go_quiet ((go_at_call 16; exact Calls.quiet_of_same (KN _)))
            go_wp2
            go_roundw
            case rel => exact ⟨k + 1, by omega, by go_num, (Eq.trans (show _ = Value.string T5 by rw [H5.out, H3.out]; rfl) HT.out), hideW ((hK.out.trans (Kept.alloc _ _) (fun _ f => f.elim)).trans (Kept.drewN _ _) (fun _ f => f.elim))⟩
            case measure => simp [intOf]; omega
          · rw [e1] at y2 h3
            rw [e2] at y3 h4
            rw [e3] at y4 h5
            simp only [if_true, Bool.false_eq_true, if_false] at h3 h4 h5
            clear e1 e2 e3
            have H3 := hideW h3
            clear h3
            have H4 := hideW h4
            clear h4
            subst h5
            go_wp2
            go_quiet ((go_at_call 16; exact Calls.quiet_of_same (KN _)))
            go_wp2
            go_roundw
            case rel => exact ⟨k + 1, by omega, by go_num, (Eq.trans (show _ = Value.string T5 by rw [H4.out, H3.out]; rfl) HT.out), hideW ((hK.out.trans (Kept.alloc _ _) (fun _ f => f.elim)).trans (Kept.drewN _ _) (fun _ f => f.elim))⟩
            case measure => simp [intOf]; omega
          · rw [e1] at y2 h3
            rw [e2] at y3 h4
            rw [e3] at y4 h5
            simp only [if_true] at h3 h4 h5
            clear e1 e2 e3
            have H3 := hideW h3
            clear h3
            have H4 := hideW h4
            clear h4
            have H5 := hideW h5
            clear h5
            go_wp2
            go_quiet ((go_at_call 16; exact Calls.quiet_of_same (KN _)))
            go_wp2
            go_roundw
            case rel => exact ⟨k + 1, by omega, by go_num, (Eq.trans (show _ = Value.string T5 by rw [H5.out, H4.out, H3.out]; rfl) HT.out), hideW ((hK.out.trans (Kept.alloc _ _) (fun _ f => f.elim)).trans (Kept.drewN _ _) (fun _ f => f.elim))⟩
            case measure => simp [intOf]; omega
        · have h0' : ¬ (0 : Int) < (k : Int) := by omega
          rw [if_neg h0] at h1
          subst h1
          clear h0
          cases e1 : f.fo <;> cases e2 : f.st <;> cases e3 : f.se
          · rw [e1] at y2 h3
            rw [e2] at y3 h4
            rw [e3] at y4 h5
            simp only [Bool.false_eq_true, if_false] at h3 h4 h5
            clear e1 e2 e3
            subst h3
            subst h4
            subst h5
            go_wp2
            go_quiet ((go_at_call 16; exact Calls.quiet_of_same (KN _)))
            go_wp2
            go_roundw
            case rel => exact ⟨k + 1, by omega, by go_num, HT.out, hideW ((hK.out.trans (Kept.alloc _ _) (fun _ f => f.elim)).trans (Kept.drewN _ _) (fun _ f => f.elim))⟩
            case measure => simp [intOf]; omega
          · rw [e1] at y2 h3
            rw [e2] at y3 h4
            rw [e3] at y4 h5
            simp only [if_true, Bool.false_eq_true, if_false] at h3 h4 h5
            clear e1 e2 e3
            subst h3
            subst h4
            have H5 := hideW h5
            clear h5
            go_wp2
            go_quiet ((go_at_call 16; exact Calls.quiet_of_same (KN _)))
            go_wp2
            go_roundw
            case rel => exact ⟨k + 1, by omega, by go_num, (Eq.trans (show _ = Value.string T5 by rw [H5.out]; rfl) HT.out), hideW ((hK.out.trans (Kept.alloc _ _) (fun _ f => f.elim)).trans (Kept.drewN _ _) (fun _ f => f.elim))⟩
            case measure => simp [intOf]; omega
          · rw [e1] at y2 h3
            rw [e2] at y3 h4
            rw [e3] at y4 h5
            simp only [if_true, Bool.false_eq_true, if_false] at h3 h4 h5
            clear e1 e2 e3
            subst h3
            have H4 := hideW h4
            clear h4
            subst h5
            go_wp2
            go_quiet ((go_at_call 16; exact Calls.quiet_of_same (KN _)))
            go_wp2
            go_roundw
            case rel => exact ⟨k + 1, by omega, by go_num, (Eq.trans (show _ = Value.string T5 by rw [H4.out]; rfl) HT.out), hideW ((hK.out.trans (Kept.alloc _ _) (fun _ f => f.elim)).trans (Kept.drewN _ _) (fun _ f => f.elim))⟩
            case measure => simp [intOf]; omega
          · rw [e1] at y2 h3
            rw [e2] at y3 h4
            rw [e3] at y4 h5
            simp only [if_true, Bool.false_eq_true, if_false] at h3 h4 h5
            clear e1 e2 e3
            subst h3
            have H4 := hideW h4
            clear h4
            have H5 := hideW h5
            clear h5
            go_wp2
            go_quiet ((go_at_call 16; exact Calls.quiet_of_same (KN _)))
            go_wp2
            go_roundw
            case rel => exact ⟨k + 1, by omega, by go_num, (Eq.trans (show _ = Value.string T5 by rw [H5.out, H4.out]; rfl) HT.out), hideW ((hK.out.trans (Kept.alloc _ _) (fun _ f => f.elim)).trans (Kept.drewN _ _) (fun _ f => f.elim))⟩
            case measure => simp [intOf]; omega
          · rw [e1] at y2 h3
            rw [e2] at y3 h4
            rw [e3] at y4 h5
            simp only [if_true, Bool.false_eq_true, if_false] at h3 h4 h5
            clear e1 e2 e3
            have H3 := hideW h3
            clear h3
            subst h4
            subst h5
            go_wp2
            go_quiet ((go_at_call 16; exact Calls.quiet_of_same (KN _)))
            go_wp2
            go_roundw
            case rel => exact ⟨k + 1, by omega, by go_num, (Eq.trans (show _ = Value.string T5 by rw [H3.out]; rfl) HT.out), hideW ((hK.out.trans (Kept.alloc _ _) (fun _ f => f.elim)).trans (Kept.drewN _ _) (fun _ f => f.elim))⟩
            case measure => simp [intOf]; omega
          · rw [e1] at y2 h3
            rw [e2] at y3 h4
            rw [e3] at y4 h5
            simp only [if_true, Bool.false_eq_true, if_false] at h3 h4 h5
            clear e1 e2 e3
            have H3 := hideW h3
            clear h3
            subst h4
            have H5 := hideW h5
            clear h5
            go_wp2
            go_quiet ((go_at_call 16; exact Calls.quiet_of_same (KN _)))
            go_wp2
            go_roundw
            case rel => exact ⟨k + 1, by omega, by go_num, (Eq.trans (show _ = Value.string T5 by rw [H5.out, H3.out]; rfl) HT.out), hideW ((hK.out.trans (Kept.alloc _ _) (fun _ f => f.elim)).trans (Kept.drewN _ _) (fun _ f => f.elim))⟩
            case measure => simp [intOf]; omega
          · rw [e1] at y2 h3
            rw [e2] at y3 h4
            rw [e3] at y4 h5
            simp only [if_true, Bool.false_eq_true, if_false] at h3 h4 h5
            clear e1 e2 e3
            have H3 := hideW h3
            clear h3
            have H4 := hideW h4
            clear h4
            subst h5
            go_wp2
            go_quiet ((go_at_call 16; exact Calls.quiet_of_same (KN _)))
            go_wp2
            go_roundw
            case rel => exact ⟨k + 1, by omega, by go_num, (Eq.trans (show _ = Value.string T5 by rw [H4.out, H3.out]; rfl) HT.out), hideW ((hK.out.trans (Kept.alloc _ _) (fun _ f => f.elim)).trans (Kept.drewN _ _) (fun _ f => f.elim))⟩
            case measure => simp [intOf]; omega
          · rw [e1] at y2 h3
            rw [e2] at y3 h4
            rw [e3] at y4 h5
            simp only [if_true] at h3 h4 h5
            clear e1 e2 e3
            have H3 := hideW h3
            clear h3
            have H4 := hideW h4
            clear h4
            have H5 := hideW h5
            clear h5
            go_wp2
            go_quiet ((go_at_call 16; exact Calls.quiet_of_same (KN _)))
            go_wp2
            go_roundw
            case rel => exact ⟨k + 1, by omega, by go_num, (Eq.trans (show _ = Value.string T5 by rw [H5.out, H4.out, H3.out]; rfl) HT.out), hideW ((hK.out.trans (Kept.alloc _ _) (fun _ f => f.elim)).trans (Kept.drewN _ _) (fun _ f => f.elim))⟩
            case measure => simp [intOf]; omega
      · obtain rfl : k = l.length := by omega
        go_wp2
        go_ret2
        exact ⟨ret2_sn ⟨rfl, rfl⟩, hKw.out⟩
end Go.Proofs.YthiamcopbgeedaaDoor
