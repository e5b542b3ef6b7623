import Derived.Test.YtjlimmgdikliiaaRwd
import Derived.Test.YtjlimmgdikliiaaLvt
namespace Go.Proofs.Ytjlimmgdikliiaa
open Go.ChangeShapes Go.WideShapes Go.ChangeAt Go.RowKit

/-- How far the document's Words has come: the words done, and where the word that runs began. -/
def rwI (l : List UInt8) (k : Nat) (d : List (Nat × Nat)) : Option Nat → Prop
  | none => d ++ wF l k = words l
  | some b => b < k ∧ k ≤ l.length ∧ d ++ (b, wE l k) :: wF l (wE l k) = words l
def stI : Option Nat → Int
  | none => -1
  | some b => b
theorem rwI_len {l : List UInt8} {k : Nat} {d : List (Nat × Nat)} {o : Option Nat} (h : rwI l k d o) : d.length ≤ l.length := by
  have h1 : (words l).length ≤ l.length := by rw [words_F]; exact wF_len l _ 0 (Nat.le_refl _)
  cases o with
  | none => rw [← (show d ++ wF l k = words l from h), List.length_append] at h1; omega
  | some b => rw [← h.2.2, List.length_append] at h1; omega
theorem rwI_in_none {l : List UInt8} {k : Nat} {d : List (Nat × Nat)} (h : rwI l k d none) (hk : k < l.length) (hi : inw l k = true) : rwI l (k + 1) d (some k) := by
  refine ⟨Nat.lt_succ_self k, hk, ?_⟩
  have h' : d ++ wF l k = words l := h
  rwa [wF_in l k hk hi, wE_step l k hk hi] at h'
theorem rwI_in_some {l : List UInt8} {k b : Nat} {d : List (Nat × Nat)} (h : rwI l k d (some b)) (hk : k < l.length) (hi : inw l k = true) : rwI l (k + 1) d (some b) := by
  obtain ⟨h1, h2, h3⟩ := h
  refine ⟨by omega, hk, ?_⟩
  rwa [wE_step l k hk hi] at h3
theorem wF_next (l : List UInt8) (k : Nat) (hi : ¬ (k < l.length ∧ inw l k = true)) : wF l (k + 1) = wF l k := by
  by_cases hk : k < l.length
  · exact (wF_out l k hk (by cases h : inw l k with | false => rfl | true => exact absurd ⟨hk, h⟩ hi)).symm
  · rw [wF_end l k (by omega), wF_end l (k + 1) (by omega)]
theorem rwI_out_none {l : List UInt8} {k : Nat} {d : List (Nat × Nat)} (h : rwI l k d none) (hi : ¬ (k < l.length ∧ inw l k = true)) : rwI l (k + 1) d none := by
  show d ++ wF l (k + 1) = words l
  rw [wF_next l k hi]; exact h
theorem rwI_out_some {l : List UInt8} {k b : Nat} {d : List (Nat × Nat)} (h : rwI l k d (some b)) (hi : ¬ (k < l.length ∧ inw l k = true)) : rwI l (k + 1) (d ++ [(b, k)]) none := by
  obtain ⟨h1, h2, h3⟩ := h
  show (d ++ [(b, k)]) ++ wF l (k + 1) = words l
  rw [wE_stop l k hi] at h3
  rw [wF_next l k hi, List.append_assoc]; exact h3
set_option maxRecDepth 20000 in
set_option maxHeartbeats 4000000 in
theorem rwords_any (l : List UInt8) (w : World) (hl : l.length ≤ 1099511627776) :
    Calls Try.prog 8 #[.string (bq l)] w fun e w' => ∃ a c, e = .returned (.slice a (words l).length c) ∧ Gro w w' 28 5 (.slice a (words l).length c) (words l).length (tks l 0 (words l)) := by
  have HI := hideV (fun k w (h : k < l.length) => rinWord_any l k w hl h)
  have HX : Hid (∀ k E, (bq l).extract k E = bq (wtx l (k, E))) := hideV (fun k E => bq_extract l k E)
  have hz : (bq l).size = l.length := bq_size l
  have hz' : ((bq l).size : Int) = (l.length : Int) := by rw [hz]
  obtain ⟨s, hs⟩ : ∃ s, s = bq l := ⟨_, rfl⟩
  rw [← hs] at HI HX hz hz' ⊢
  clear hs
  go_enter Try.func8, Try.ntmps8
  go_wp2
  go_loopw [3, 4, 5] (fun v st i wr => ∃ (k m : Nat) (a : Option Addr) (c : Nat) (d : List (Nat × Nat)) (o : Option Nat), k ≤ l.length + 1 ∧ i = .int .i64 k ∧ st = .int .i64 (stI o) ∧ v = .slice a m c ∧ Hid (m = d.length ∧ rwI l k d o) ∧ Hid (Gro w wr 28 5 (.slice a m c) m (tks l 0 d))) (fun _ _ i _ => l.length + 1 - (intOf i).toNat)
  case atStart => exact ⟨0, 0, _, _, [], none, by omega, rfl, rfl, rfl, hideV ⟨rfl, rfl⟩, gro_empty w w _ _ (Kept.refl _ _)⟩
  case round =>
    obtain ⟨k, m, a, c, d, o, hk, rfl, rfl, rfl, HD, HG⟩ := hrel
    have hm : m ≤ 1099511627776 := by have := rwI_len HD.out.2; have := HD.out.1; omega
    by_cases hle : k ≤ l.length
    · have hkl : (k : Int) ≤ (l.length : Int) := by omega
      by_cases hin : k < l.length ∧ inw l k = true
      · obtain ⟨hlt, hi⟩ := hin
        have hki : (k : Int) < (l.length : Int) := by omega
        have CI := fun w => hideV (HI.out k w hlt)
        rw [hi] at CI
        cases o with
        | none =>
          have HQ : Hid (m = d.length ∧ rwI l (k + 1) d (some k)) := hideV ⟨HD.out.1, rwI_in_none HD.out.2 hlt hi⟩
          have e1 : stI none = -1 := rfl
          rw [e1]
          clear hi HD HI HX e1
          go_wp2_with (go_at_call 14; refine (CI _).out.mono ?_; clear CI; rintro e W ⟨rfl, K2⟩)
          go_roundw
          case rel => exact ⟨k + 1, m, a, c, d, some k, by omega, by go_num, rfl, rfl, HQ, HG.out.later K2⟩
          case measure => simp [intOf]; omega
        | some b =>
          have HQ : Hid (m = d.length ∧ rwI l (k + 1) d (some b)) := hideV ⟨HD.out.1, rwI_in_some HD.out.2 hlt hi⟩
          have e1 : stI (some b) = (b : Int) := rfl
          have e2 : ¬ (b : Int) < 0 := by omega
          rw [e1]
          clear hi HD HI HX e1
          go_wp2_with (go_at_call 14; refine (CI _).out.mono ?_; clear CI; rintro e W ⟨rfl, K2⟩)
          go_roundw
          case rel => exact ⟨k + 1, m, a, c, d, some b, by omega, by go_num, rfl, rfl, HQ, HG.out.later K2⟩
          case measure => simp [intOf]; omega
      · by_cases hlt : k < l.length
        · have hki : (k : Int) < (l.length : Int) := by omega
          have hi : inw l k = false := by cases h : inw l k with | false => rfl | true => exact absurd ⟨hlt, h⟩ hin
          have CI := fun w => hideV (HI.out k w hlt)
          rw [hi] at CI
          cases o with
          | none =>
            have HQ : Hid (m = d.length ∧ rwI l (k + 1) d none) := hideV ⟨HD.out.1, rwI_out_none HD.out.2 hin⟩
            have e1 : stI none = -1 := rfl
            rw [e1]
            clear hi hin HD HI HX e1
            go_wp2_with (go_at_call 14; refine (CI _).out.mono ?_; clear CI; rintro e W ⟨rfl, K2⟩)
            go_roundw
            case rel => exact ⟨k + 1, m, a, c, d, none, by omega, by go_num, rfl, rfl, HQ, HG.out.later K2⟩
            case measure => simp [intOf]; omega
          | some b =>
            have HQ : Hid (m + 1 = (d ++ [(b, k)]).length ∧ rwI l (k + 1) (d ++ [(b, k)]) none) := hideV ⟨by rw [List.length_append, ← HD.out.1]; rfl, rwI_out_some HD.out.2 hin⟩
            have e1 : stI (some b) = (b : Int) := rfl
            have e2 : (0 : Int) ≤ (b : Int) := by omega
            have e3 : (b : Int) ≤ (k : Int) := by have := HD.out.2.1; omega
            have e4 : b ≤ k := by omega
            have x1 := HX.out b k
            have HT : Hid (tks l 0 (d ++ [(b, k)]) = tks l 0 d ++ [.string (bq (wtx l (b, k))), .int .i64 0, .int .i64 (m : Int), .int .i64 (b : Int), .int .i64 (k : Int)]) := hideV (by rw [tks_snoc, Nat.zero_add, ← HD.out.1]; rfl)
            generalize bq (wtx l (b, k)) = T at *
            rw [e1]
            clear hi hin HD HI HX e1
            go_wp2_with (first
              | (go_at_call 14; refine (CI _).out.mono ?_; clear CI; rintro e W ⟨rfl, K2⟩; have HG4 := hideV (HG.out.later K2))
              | (at_builtin; refine wpList_pushT rfl _ _ rfl _ m (m + 1) _ _ _ _ _ _ _ rfl HG4 rfl HT rfl (by omega) ?_; intro a' c' W' HG'))
            go_roundw
            case rel => exact ⟨k + 1, m + 1, a', c', d ++ [(b, k)], none, by omega, by go_num, rfl, rfl, HQ, HG'⟩
            case measure => simp [intOf]; omega
        · have hki : ¬ (k : Int) < (l.length : Int) := by omega
          cases o with
          | none =>
            have HQ : Hid (m = d.length ∧ rwI l (k + 1) d none) := hideV ⟨HD.out.1, rwI_out_none HD.out.2 hin⟩
            have e1 : stI none = -1 := rfl
            rw [e1]
            clear hin HD HI HX e1
            go_wp2
            go_roundw
            case rel => exact ⟨k + 1, m, a, c, d, none, by omega, by go_num, rfl, rfl, HQ, HG⟩
            case measure => simp [intOf]; omega
          | some b =>
            have HQ : Hid (m + 1 = (d ++ [(b, k)]).length ∧ rwI l (k + 1) (d ++ [(b, k)]) none) := hideV ⟨by rw [List.length_append, ← HD.out.1]; rfl, rwI_out_some HD.out.2 hin⟩
            have e1 : stI (some b) = (b : Int) := rfl
            have e2 : (0 : Int) ≤ (b : Int) := by omega
            have e3 : (b : Int) ≤ (k : Int) := by have := HD.out.2.1; omega
            have e4 : b ≤ k := by omega
            have x1 := HX.out b k
            have HT : Hid (tks l 0 (d ++ [(b, k)]) = tks l 0 d ++ [.string (bq (wtx l (b, k))), .int .i64 0, .int .i64 (m : Int), .int .i64 (b : Int), .int .i64 (k : Int)]) := hideV (by rw [tks_snoc, Nat.zero_add, ← HD.out.1]; rfl)
            generalize bq (wtx l (b, k)) = T at *
            rw [e1]
            clear hin HD HI HX e1
            go_wp2_with (at_builtin; refine wpList_pushT rfl _ _ rfl _ m (m + 1) _ _ _ _ _ _ _ rfl HG rfl HT rfl (by omega) ?_; intro a' c' W' HG')
            go_roundw
            case rel => exact ⟨k + 1, m + 1, a', c', d ++ [(b, k)], none, by omega, by go_num, rfl, rfl, HQ, HG'⟩
            case measure => simp [intOf]; omega
    · have hkl : ¬ (k : Int) ≤ (l.length : Int) := by omega
      have hd : d = words l := by
        have h := HD.out.2
        cases o with
        | none => have h' : d ++ wF l k = words l := h; rwa [wF_end l k (by omega), List.append_nil] at h'
        | some b => exact absurd h.2.1 hle
      subst hd
      have e2 := HD.out.1
      subst e2
      clear HD HI HX
      go_wp2
      go_ret
      exact ⟨a, c, rfl, HG.out⟩
set_option maxRecDepth 20000 in
set_option maxHeartbeats 2000000 in
theorem tokensWords_walk (l : List UInt8) (w : World) (hl : l.length ≤ 1099511627776) :
    Calls Try.prog 3 #[.string (bq l)] w fun e w' => e = .returned (.bool true) ∧ Kept (fun _ => False) w w' := by
  have CL := fun w => hideV (livesT_any w)
  have C1 := fun w => hideV (words_any l w hl)
  have C2 := fun w => hideV (rwords_any l w hl)
  have hwl : (words l).length ≤ 1099511627776 := by
    have : (words l).length ≤ l.length := by rw [words_F]; exact wF_len l _ 0 (Nat.le_refl _)
    omega
  have CS : Hid (∀ a b c d w1 w2 w, Gro w1 w 28 5 (.slice a (words l).length c) (words l).length (tks l 0 (words l)) → Gro w2 w 28 5 (.slice b (words l).length d) (words l).length (tks l 0 (words l)) → Calls Try.prog 6 #[.slice a (words l).length c, .slice b (words l).length d] w fun e w' => e = .returned (.bool true) ∧ Kept (fun _ => False) w w') := hideV (fun a b c d w1 w2 w hA hB => by
    rw [tks_wtk] at hA hB
    exact same_any (wtk l 0 (words l)) a b _ c d w1 w2 w (wtk_len l 0 _).symm (by omega) hA hB)
  generalize (words l).length = n at *
  generalize bq l = s at *
  go_enter Try.func3, Try.ntmps3
  go_wp2_with (first
    | (go_at_call 5; refine (CL _).out.mono ?_; rintro e W1 ⟨rfl, K1⟩)
    | (go_at_call 7; refine (C1 _).out.mono ?_; rintro e W2 ⟨a, c, rfl, G2⟩; have K2 := G2.kept; have G2 := hideV G2)
    | (go_at_call 8; refine (C2 _).out.mono ?_; rintro e W3 ⟨b, d, rfl, G3⟩; have K3 := G3.kept; have G3 := hideV G3)
    | (go_at_call 6; refine (CS.out _ _ _ _ _ _ _ (G2.out.later K3) G3.out).mono ?_; rintro e W4 ⟨rfl, K4⟩))
  go_ret
  exact ⟨rfl, ((K1.trans K2 (fun _ f => f.elim)).trans K3 (fun _ f => f.elim)).trans K4 (fun _ f => f.elim)⟩
end Go.Proofs.Ytjlimmgdikliiaa
