import Derived.Test.YtpopfgablgnalaaRdB
import Derived.Laws.CopyOwn
import Derived.Laws.MakeOwn
namespace Go.Proofs.Ytpopfgablgnalaa
open Go.ChangeShapes Go.WideShapes Go.ChangeAt Go.RowKit

/-- Lists of bytes: where each lies, its room and its bytes. -/
abbrev PartH := Option Addr × Nat × List Int
def PartH.val (p : PartH) : Value := .slice p.1 p.2.2.length p.2.1
def flatH (P : List PartH) : List Int := (P.map (fun p => p.2.2)).flatten
def PartsAtH (w : World) (a : Option Addr) (P : List PartH) : Prop :=
  P ≠ [] → ∃ b off, a = some ⟨b, off, none⟩ ∧ ∀ k (h : k < P.length), w.cell? ⟨b, off + k, none⟩ = some (P[k]).val
theorem flat_takeH {P : List PartH} {k : Nat} (h : k < P.length) : flatH (P.take (k + 1)) = flatH (P.take k) ++ (P[k]).2.2 := by
  rw [flatH, List.take_add_one, List.getElem?_eq_getElem h, List.map_append, List.flatten_append, flatH]
  simp only [Option.toList_some, List.map_cons, List.map_nil, List.flatten_cons, List.flatten_nil, List.append_nil]
theorem flat_take_leH {P : List PartH} {k : Nat} : (flatH (P.take k)).length ≤ (flatH P).length := by
  have e : flatH P = flatH (P.take k) ++ flatH (P.drop k) := by
    rw [flatH, flatH, flatH, ← List.flatten_append, ← List.map_append, List.take_append_drop]
  rw [e, List.length_append]
  omega
theorem flat_next_leH {P : List PartH} {k : Nat} (h : k < P.length) : (flatH (P.take k)).length + (P[k]).2.2.length ≤ (flatH P).length := by
  have := flat_take_leH (P := P) (k := k + 1)
  rwa [flat_takeH h, List.length_append] at this
theorem kept_belowH {w w' : World} (h : Kept (fun _ => False) w w') : Below w.heap.size w w' := h.below (Nat.le_refl _) (fun _ _ f => f)

set_option maxRecDepth 20000 in
set_option maxHeartbeats 1000000 in
theorem concat_anyH (P : List PartH) (pa : Option Addr) (pc : Nat) (w : World) (hP : PartsAtH w pa P) (hB : ∀ p ∈ P, BytesAt w p.1 p.2.2) (hl : P.length ≤ 1099511627776) (hn : (flatH P).length ≤ 140737488355328) :
    Calls Try.prog 4 #[.slice pa P.length pc] w fun e w' => e = .returned (.slice (some ⟨w.heap.size, 0, none⟩) (flatH P).length (flatH P).length) ∧ w'.ownsRow w.heap.size 5 1 (.slice (some ⟨w.heap.size, 0, none⟩) (flatH P).length (flatH P).length) (flatH P).length (bs (flatH P)) ∧ Kept (fun _ => False) w w' := by
  obtain ⟨i0, hi, hz0, hz1, hz2⟩ := info_parts Try.infoB
  have HP := hide hP
  have HB := hide hB
  obtain ⟨N, hN⟩ : ∃ N, N = (flatH P).length := ⟨_, rfl⟩
  rw [← hN] at hn ⊢
  have HN := hide hN
  clear hP hB hN
  go_enter Try.func4, Try.ntmps4
  go_wp2
  go_loopw [3, 12] (fun sz i wr => w = wr ∧ ∃ k : Nat, k ≤ P.length ∧ i = .int .i64 k ∧ sz = .int .i64 ((flatH (P.take k)).length : Nat)) (fun _ i _ => P.length - (intOf i).toNat)
  case atStart => exact ⟨rfl, 0, Nat.zero_le _, rfl, rfl⟩
  case round =>
    obtain ⟨rfl, k, hk, rfl, rfl⟩ := hrel
    by_cases hlt : k < P.length
    · obtain ⟨b, off, rfl, hcl⟩ := HP.out (by intro e; rw [e] at hlt; simp at hlt)
      have hc := hcl k hlt
      unfold PartH.val at hc
      have hfl := flat_next_leH hlt
      have hft := congrArg List.length (flat_takeH hlt)
      rw [List.length_append] at hft
      obtain ⟨m, hm⟩ : ∃ m, m = (flatH (P.take k)).length := ⟨_, rfl⟩
      obtain ⟨m2, hm2⟩ : ∃ m2, m2 = (flatH (P.take (k + 1))).length := ⟨_, rfl⟩
      obtain ⟨⟨qa, qc, ql⟩, hq⟩ : ∃ q, q = P[k] := ⟨_, rfl⟩
      rw [← HN.out, ← hm, ← hq] at hfl
      rw [← hm, ← hm2, ← hq] at hft
      rw [← hm]
      rw [← hq] at hc
      simp only at hc hfl hft
      have HM2 := hide hm2
      clear hcl hm hq hm2
      go_wp2
      go_roundw
      case rel => exact ⟨by first | rfl | trivial, k + 1, by omega, by go_num, by rw [← HM2.out, hft]; go_num⟩
      case measure => simp [intOf]; omega
    · obtain rfl : k = P.length := by omega
      rw [List.take_length, ← HN.out]
      clear hlt hk
      go_wp2_with (at_make; refine wpList_make_full _ rfl _ _ 23 rfl w.heap.size 5 i0 (.int .u8 0) 1 Try.underlying23 hi hz0 hz1 _ _ _ _ N rfl rfl rfl rfl ?m1 ?m2 (Nat.le_refl _) ?_)
      case m1 => rw [hz2]; omega
      case m2 => unfold maxLen; omega
      intro w1 hown hgrow
      rcases hown.2 with ⟨e, _⟩ | ⟨g, cap, cur, hv, _, hg, _, _, hcs, _⟩
      · cases e
      simp only [Value.slice.injEq, Option.some.injEq, Addr.mk.injEq, true_and, and_true] at hv
      obtain ⟨rfl, rfl⟩ := hv
      have HG0 := hide hg
      have HS0 := hide hcs
      have HB0 := hide (kept_belowH ((Kept.grown hgrow).mono (fun _ e => by cases e)))
      clear hown hgrow hg hcs
      go_wp2
      go_loopw [7, 25] (fun at_ i wr => ∃ (k : Nat) (rest : List Value), k ≤ P.length ∧ i = .int .i64 k ∧ at_ = .int .i64 ((flatH (P.take k)).length : Nat) ∧ wr.heap[w.heap.size]? = some (.cells (bs (flatH (P.take k)) ++ rest).toArray 5 (0, 0)) ∧ (flatH (P.take k)).length + rest.length = N ∧ Below w.heap.size w wr) (fun _ i _ => P.length - (intOf i).toNat)
      case atStart =>
        refine ⟨0, cur.toList, Nat.zero_le _, rfl, rfl, ?_, ?_, HB0.out⟩
        · have e : bs (flatH (P.take 0)) = [] := rfl
          rw [e, List.nil_append]
          exact HG0.out
        · have := HS0.out
          show 0 + cur.toList.length = N
          simp
          omega
      case round =>
        clear HG0 HS0 HB0
        obtain ⟨k, rest, hk, rfl, rfl, hg, hlen, hbw⟩ := hrel
        by_cases hlt : k < P.length
        · obtain ⟨b, off, rfl, hcl⟩ := HP.out (by intro e; rw [e] at hlt; simp at hlt)
          have hc0 := hcl k hlt
          have hbl : b < w.heap.size := World.block_lt_of_cell? w _ hc0
          have hc := (World.cell?_of_block (a := ⟨b, off + k, none⟩) (hbw.block b hbl)).trans hc0
          unfold PartH.val at hc
          have hbb := HB.out _ (List.getElem_mem hlt)
          have hfl := flat_next_leH hlt
          have hft := congrArg List.length (flat_takeH hlt)
          rw [List.length_append] at hft
          have hfe := flat_takeH hlt
          obtain ⟨m, hm⟩ : ∃ m, m = (flatH (P.take k)).length := ⟨_, rfl⟩
          obtain ⟨m2, hm2⟩ : ∃ m2, m2 = (flatH (P.take (k + 1))).length := ⟨_, rfl⟩
          obtain ⟨⟨qa, qc, ql⟩, hq⟩ : ∃ q, q = P[k] := ⟨_, rfl⟩
          obtain ⟨X, hX⟩ : ∃ X, X = bs (flatH (P.take k)) := ⟨_, rfl⟩
          obtain ⟨CS, hCS⟩ : ∃ CS, CS = bs ql := ⟨_, rfl⟩
          have hCSl : CS.length = ql.length := by rw [hCS, bs_length]
          have hXl : X.length = m := by rw [hX, bs_length, hm]
          rw [← HN.out, ← hm, ← hq] at hfl
          rw [← hm, ← hm2, ← hq] at hft
          rw [← hm] at hlen ⊢
          rw [← hX] at hg
          rw [← hq] at hc hbb hfe
          simp only at hc hfl hft hbb hfe
          have HM2 := hide hm2
          have HX := hide hX
          have HCS := hide hCS
          have HG := hide hg
          have HBW := hide hbw
          have HFT := hide hfe
          have HQ := hide hbb
          clear hcl hm hq hm2 hX hCS hg hbw hfe hbb hc0
          have hsrc : Hid (0 < CS.length → ∃ ad, qa = some ad ∧ ∀ j v, CS[j]? = some v → wr.cell? (ad.add j) = some v) := by
            intro hp
            obtain ⟨b', off', rfl, hc'⟩ := HQ.out (by intro e; rw [hCSl, e] at hp; simp at hp)
            refine ⟨_, rfl, ?_⟩
            rw [HCS.out]
            refine BytesAt.cells (fun j hj => ?_)
            have hb' : b' < w.heap.size := World.block_lt_of_cell? w _ (hc' j hj)
            exact (World.cell?_of_block (a := ⟨b', off' + j, none⟩) (HBW.out.block b' hb')).trans (hc' j hj)
          by_cases hNm : N = m
          · subst hNm
            go_wp2_with (refine wpList_copy_splice rfl (.tmp 32) (.tmp 33) 23 23 rfl 5 Try.underlying23 Try.sizeB (some ⟨w.heap.size, 0, none⟩) qa 0 0 ql.length qc rfl rfl w.heap.size N (X ++ rest) 5 HG.out CS ?k1 ?k2 ?k3 ?k4 w.heap.size w HBW.out (Nat.le_refl _) ?_)
            case k1 =>
              rw [hCSl]
              have : ql.length = 0 := by omega
              rw [this]; rfl
            case k2 => intro hp; exfalso; omega
            case k3 => rw [hCSl, List.length_append, hXl]; omega
            case k4 => rw [HCS.out]; exact bs_one _
            intro w2 hg2 hb2
            try rw [hCSl]
            have HB2 := hide hb2
            clear hb2
            go_wp2
            go_roundw
            case rel =>
              refine ⟨k + 1, rest.drop ql.length, by omega, by go_num, by rw [← HM2.out, hft]; go_num, ?_, by rw [List.length_drop, ← HM2.out]; omega, HB2.out⟩
              have e : splice (X ++ rest) N CS = bs (flatH (P.take (k + 1))) ++ rest.drop ql.length := by
                rw [splice, ← hXl, List.take_left, ← List.drop_drop, List.drop_left, hCSl, HFT.out, bs_append, HX.out, HCS.out, List.append_assoc]
              rw [← e]
              exact hg2.out
            case measure => simp [intOf]; omega
          · skip
            go_wp2_with (refine wpList_copy_splice rfl (.tmp 32) (.tmp 33) 23 23 rfl 5 Try.underlying23 Try.sizeB (some ⟨w.heap.size, m, none⟩) qa (N - m) (N - m) ql.length qc rfl rfl w.heap.size m (X ++ rest) 5 HG.out CS ?k1 ?k2 ?k3 ?k4 w.heap.size w HBW.out (Nat.le_refl _) ?_)
            case k1 => rw [hCSl]; exact (Nat.min_eq_left (by omega)).symm
            case k2 => intro hp; first | exact ⟨rfl, hsrc.out (by omega)⟩ | exact hsrc.out (by omega)
            case k3 => rw [hCSl, List.length_append, hXl]; omega
            case k4 => rw [HCS.out]; exact bs_one _
            intro w2 hg2 hb2
            try rw [hCSl]
            have HB2 := hide hb2
            clear hb2
            go_wp2
            go_roundw
            case rel =>
              refine ⟨k + 1, rest.drop ql.length, by omega, by go_num, by rw [← HM2.out, hft]; go_num, ?_, by rw [List.length_drop, ← HM2.out]; omega, HB2.out⟩
              have e : splice (X ++ rest) m CS = bs (flatH (P.take (k + 1))) ++ rest.drop ql.length := by
                rw [splice, ← hXl, List.take_left, ← List.drop_drop, List.drop_left, hCSl, HFT.out, bs_append, HX.out, HCS.out, List.append_assoc]
              rw [← e]
              exact hg2.out
            case measure => simp [intOf]; omega
        · obtain rfl : k = P.length := by omega
          rw [List.take_length, ← HN.out] at hlen
          rw [List.take_length] at hg
          have hr0 : rest = [] := List.eq_nil_of_length_eq_zero (by omega)
          subst hr0
          rw [List.append_nil] at hg
          have HG := hide hg
          have HBW := hide hbw
          clear hlt hk hg hbw hlen
          go_wp2
          go_ret
          refine ⟨rfl, ⟨by rw [bs_length, HN.out, Nat.mul_one], .inr ⟨w.heap.size, N, (bs (flatH P)).toArray, rfl, Nat.le_refl _, HG.out, Nat.le_refl _, by unfold maxLen; omega, by rw [List.size_toArray, bs_length, HN.out]; omega, ?_⟩⟩, Kept.of_below HBW.out⟩
          rw [List.toList_toArray, List.take_of_length_le (by rw [bs_length, ← HN.out]; omega)]
end Go.Proofs.Ytpopfgablgnalaa
