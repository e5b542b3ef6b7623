import Derived.Test.YtmfdoohnladohaaRmi
namespace Go.Proofs.Ytmfdoohnladohaa
open Go.ChangeShapes Go.WideShapes Go.ChangeAt Go.RowKit

theorem fou_start (w W : World) (k : Kept (fun _ => False) w W) : Fou w ((W.alloc (.cells #[] 37)).alloc (.cells #[.string ⟨#[97, 108]⟩, .string ⟨#[97, 110, 99, 101]⟩, .string ⟨#[101, 110, 99, 101]⟩, .string ⟨#[101, 114]⟩, .string ⟨#[105, 99]⟩, .string ⟨#[97, 98, 108, 101]⟩, .string ⟨#[105, 98, 108, 101]⟩, .string ⟨#[97, 110, 116]⟩, .string ⟨#[101, 109, 101, 110, 116]⟩, .string ⟨#[109, 101, 110, 116]⟩, .string ⟨#[101, 110, 116]⟩, .string ⟨#[105, 111, 110]⟩, .string ⟨#[111, 117]⟩, .string ⟨#[105, 115, 109]⟩, .string ⟨#[97, 116, 101]⟩, .string ⟨#[105, 116, 105]⟩, .string ⟨#[111, 117, 115]⟩, .string ⟨#[105, 118, 101]⟩, .string ⟨#[105, 122, 101]⟩] 9)) (W.heap.size + 1) (.slice (some ⟨W.heap.size, 0, none⟩) 0 0) 0 := by
  refine ⟨(gro_empty w W _ 2 k).later (Kept.alloc _ _), fun j hj => ?_, ?_, ?_⟩
  · have e : (W.alloc (.cells #[] 37)).heap.size = W.heap.size + 1 := by simp
    rw [← e, World.cell?_alloc_new]
    have q : (#[.string ⟨#[97, 108]⟩, .string ⟨#[97, 110, 99, 101]⟩, .string ⟨#[101, 110, 99, 101]⟩, .string ⟨#[101, 114]⟩, .string ⟨#[105, 99]⟩, .string ⟨#[97, 98, 108, 101]⟩, .string ⟨#[105, 98, 108, 101]⟩, .string ⟨#[97, 110, 116]⟩, .string ⟨#[101, 109, 101, 110, 116]⟩, .string ⟨#[109, 101, 110, 116]⟩, .string ⟨#[101, 110, 116]⟩, .string ⟨#[105, 111, 110]⟩, .string ⟨#[111, 117]⟩, .string ⟨#[105, 115, 109]⟩, .string ⟨#[97, 116, 101]⟩, .string ⟨#[105, 116, 105]⟩, .string ⟨#[111, 117, 115]⟩, .string ⟨#[105, 118, 101]⟩, .string ⟨#[105, 122, 101]⟩] : Array Value) = (tb4.map (fun p => Value.string (bq p.1))).toArray := rfl
    rw [q, List.getElem?_toArray, List.getElem?_map, List.getElem?_eq_getElem hj]; rfl
  · simp [Value.ownBlock]
  · simp
theorem ion_beq (e : List UInt8) : ((bq e).toList == ([105, 111, 110] : List UInt8)) = decide (e = [105, 111, 110]) := by
  rw [bq_list, Bool.eq_iff_iff, beq_iff_eq, decide_eq_true_eq]
set_option maxRecDepth 20000 in
set_option maxHeartbeats 8000000 in
theorem rmiddle_any (l : List UInt8) (w : World) (hl : l.length ≤ 140737488353000) :
    Calls Try.prog 16 #[.string (bq l)] w fun e w' => e = .returned (.string (bq (st4 (rep tb3 1 (rep tb2 1 l))))) ∧ Kept (fun _ => False) w w' := by
  obtain ⟨l1, h1⟩ : ∃ x, x = rep tb2 1 l := ⟨_, rfl⟩
  have n1 : l1.length ≤ 140737488353000 := by rw [h1]; exact Nat.le_trans (rep2_le 1 l) hl
  obtain ⟨l2, h2⟩ : ∃ x, x = rep tb3 1 l1 := ⟨_, rfl⟩
  have n2 : l2.length ≤ 140737488353000 := by rw [h2]; exact Nat.le_trans (rep3_le 1 l1) n1
  rw [← h1, ← h2]
  have M2 : ∀ (w : World) (b : Nat), b = w.heap.size → Hid (Calls Try.prog 36 #[.string (bq l), .slice (some ⟨b, 0, none⟩) 20 20, .int .i64 0] (w.alloc (.cells #[.string ⟨#[97, 116, 105, 111, 110, 97, 108]⟩, .string ⟨#[97, 116, 101]⟩, .string ⟨#[116, 105, 111, 110, 97, 108]⟩, .string ⟨#[116, 105, 111, 110]⟩, .string ⟨#[101, 110, 99, 105]⟩, .string ⟨#[101, 110, 99, 101]⟩, .string ⟨#[97, 110, 99, 105]⟩, .string ⟨#[97, 110, 99, 101]⟩, .string ⟨#[105, 122, 101, 114]⟩, .string ⟨#[105, 122, 101]⟩, .string ⟨#[97, 98, 108, 105]⟩, .string ⟨#[97, 98, 108, 101]⟩, .string ⟨#[97, 108, 108, 105]⟩, .string ⟨#[97, 108]⟩, .string ⟨#[101, 110, 116, 108, 105]⟩, .string ⟨#[101, 110, 116]⟩, .string ⟨#[101, 108, 105]⟩, .string ⟨#[101]⟩, .string ⟨#[111, 117, 115, 108, 105]⟩, .string ⟨#[111, 117, 115]⟩, .string ⟨#[105, 122, 97, 116, 105, 111, 110]⟩, .string ⟨#[105, 122, 101]⟩, .string ⟨#[97, 116, 105, 111, 110]⟩, .string ⟨#[97, 116, 101]⟩, .string ⟨#[97, 116, 111, 114]⟩, .string ⟨#[97, 116, 101]⟩, .string ⟨#[97, 108, 105, 115, 109]⟩, .string ⟨#[97, 108]⟩, .string ⟨#[105, 118, 101, 110, 101, 115, 115]⟩, .string ⟨#[105, 118, 101]⟩, .string ⟨#[102, 117, 108, 110, 101, 115, 115]⟩, .string ⟨#[102, 117, 108]⟩, .string ⟨#[111, 117, 115, 110, 101, 115, 115]⟩, .string ⟨#[111, 117, 115]⟩, .string ⟨#[97, 108, 105, 116, 105]⟩, .string ⟨#[97, 108]⟩, .string ⟨#[105, 118, 105, 116, 105]⟩, .string ⟨#[105, 118, 101]⟩, .string ⟨#[98, 105, 108, 105, 116, 105]⟩, .string ⟨#[98, 108, 101]⟩] 37)) fun e w' => e = .returned (.string (bq l1)) ∧ Kept (fun _ => False) w w') := fun w b hb => by
    have := measured_new l tb2 20 0 w b hb #[.string ⟨#[97, 116, 105, 111, 110, 97, 108]⟩, .string ⟨#[97, 116, 101]⟩, .string ⟨#[116, 105, 111, 110, 97, 108]⟩, .string ⟨#[116, 105, 111, 110]⟩, .string ⟨#[101, 110, 99, 105]⟩, .string ⟨#[101, 110, 99, 101]⟩, .string ⟨#[97, 110, 99, 105]⟩, .string ⟨#[97, 110, 99, 101]⟩, .string ⟨#[105, 122, 101, 114]⟩, .string ⟨#[105, 122, 101]⟩, .string ⟨#[97, 98, 108, 105]⟩, .string ⟨#[97, 98, 108, 101]⟩, .string ⟨#[97, 108, 108, 105]⟩, .string ⟨#[97, 108]⟩, .string ⟨#[101, 110, 116, 108, 105]⟩, .string ⟨#[101, 110, 116]⟩, .string ⟨#[101, 108, 105]⟩, .string ⟨#[101]⟩, .string ⟨#[111, 117, 115, 108, 105]⟩, .string ⟨#[111, 117, 115]⟩, .string ⟨#[105, 122, 97, 116, 105, 111, 110]⟩, .string ⟨#[105, 122, 101]⟩, .string ⟨#[97, 116, 105, 111, 110]⟩, .string ⟨#[97, 116, 101]⟩, .string ⟨#[97, 116, 111, 114]⟩, .string ⟨#[97, 116, 101]⟩, .string ⟨#[97, 108, 105, 115, 109]⟩, .string ⟨#[97, 108]⟩, .string ⟨#[105, 118, 101, 110, 101, 115, 115]⟩, .string ⟨#[105, 118, 101]⟩, .string ⟨#[102, 117, 108, 110, 101, 115, 115]⟩, .string ⟨#[102, 117, 108]⟩, .string ⟨#[111, 117, 115, 110, 101, 115, 115]⟩, .string ⟨#[111, 117, 115]⟩, .string ⟨#[97, 108, 105, 116, 105]⟩, .string ⟨#[97, 108]⟩, .string ⟨#[105, 118, 105, 116, 105]⟩, .string ⟨#[105, 118, 101]⟩, .string ⟨#[98, 105, 108, 105, 116, 105]⟩, .string ⟨#[98, 108, 101]⟩] rfl (by omega) tb2_k.1 tb2_k.2 tb2_small rfl (by decide)
    rw [h1]; exact this
  have M3 : ∀ (w : World) (b : Nat), b = w.heap.size → Hid (Calls Try.prog 36 #[.string (bq l1), .slice (some ⟨b, 0, none⟩) 7 7, .int .i64 0] (w.alloc (.cells #[.string ⟨#[105, 99, 97, 116, 101]⟩, .string ⟨#[105, 99]⟩, .string ⟨#[97, 116, 105, 118, 101]⟩, .string ⟨#[]⟩, .string ⟨#[97, 108, 105, 122, 101]⟩, .string ⟨#[97, 108]⟩, .string ⟨#[105, 99, 105, 116, 105]⟩, .string ⟨#[105, 99]⟩, .string ⟨#[105, 99, 97, 108]⟩, .string ⟨#[105, 99]⟩, .string ⟨#[102, 117, 108]⟩, .string ⟨#[]⟩, .string ⟨#[110, 101, 115, 115]⟩, .string ⟨#[]⟩] 37)) fun e w' => e = .returned (.string (bq l2)) ∧ Kept (fun _ => False) w w') := fun w b hb => by
    have := measured_new l1 tb3 7 0 w b hb #[.string ⟨#[105, 99, 97, 116, 101]⟩, .string ⟨#[105, 99]⟩, .string ⟨#[97, 116, 105, 118, 101]⟩, .string ⟨#[]⟩, .string ⟨#[97, 108, 105, 122, 101]⟩, .string ⟨#[97, 108]⟩, .string ⟨#[105, 99, 105, 116, 105]⟩, .string ⟨#[105, 99]⟩, .string ⟨#[105, 99, 97, 108]⟩, .string ⟨#[105, 99]⟩, .string ⟨#[102, 117, 108]⟩, .string ⟨#[]⟩, .string ⟨#[110, 101, 115, 115]⟩, .string ⟨#[]⟩] rfl (by omega) tb3_k.1 tb3_k.2 tb3_small rfl (by decide)
    rw [h2]; exact this
  obtain ⟨o, ho⟩ : ∃ o, o = lg tb4 l2 := ⟨_, rfl⟩
  have HF := hideV (st4_F l2 o ho)
  have ML : ∀ (g c : Nat) (W : World), RulesAt W g tb4 → Hid (Calls Try.prog 32 #[.string (bq l2), .slice (some ⟨g, 0, none⟩) 19 c] W fun e w' => e = .returned (.tuple #[.string (bq (cutE l2 (bo o).1)), .agg #[.string (bq (bo o).1), .string (bq (bo o).2)], .bool o.isSome]) ∧ Kept (fun _ => False) W w') := fun g c W hR => by
    rw [ho]; exact longest_any l2 tb4 g 19 c W (by omega) (fun p hp => (tb4_k.1 p hp).2) rfl (by decide) hR
  have MM : ∀ (g c : Nat) (W : World), RulesAt W g tb4 → Hid (Calls Try.prog 36 #[.string (bq l2), .slice (some ⟨g, 0, none⟩) 19 c, .int .i64 1] W fun e w' => e = .returned (.string (bq (rep tb4 2 l2))) ∧ Kept (fun _ => False) W w') := fun g c W hR =>
    measured_any l2 tb4 g 19 c 1 W (by omega) tb4_k.1 tb4_k.2 tb4_small rfl (by decide) hR
  have a1 := cutE_le l2 (bo o).1
  have ES := fun w => hideV (rends_any (cutE l2 (bo o).1) [115] w (by omega) (by decide))
  have ET := fun w => hideV (rends_any (cutE l2 (bo o).1) [116] w (by omega) (by decide))
  have EI := ion_beq (bo o).1
  have FS := hideV (fun w W k => fou_start w W k)
  obtain ⟨Z, hZ⟩ : ∃ Z, Z = bq (st4 l2) := ⟨_, rfl⟩
  rw [← hZ] at HF ⊢
  clear hZ h1 h2 ho a1 hl n1 n2
  generalize sfx (cutE l2 (bo o).1) [115] = S at *
  generalize sfx (cutE l2 (bo o).1) [116] = T at *
  generalize decide ((bo o).1 = [105, 111, 110]) = D at *
  generalize o.isSome = f at *
  generalize bq (cutE l2 (bo o).1) = R at *
  generalize bq (bo o).1 = x at *
  generalize bq (bo o).2 = y at *
  generalize bq (rep tb4 2 l2) = Y at *
  generalize bq l2 = s2 at *
  generalize bq l1 = s1 at *
  generalize bq l = s at *
  go_enter Try.func16, Try.ntmps16
  go_wp2_with (go_at_call 36; first | (refine (M2 _ _ (by first | rfl | simp)).out.mono ?_; clear M2; rintro e W1 ⟨rfl, K1⟩) | (refine (M3 _ _ (by first | rfl | simp)).out.mono ?_; clear M3; rintro e W2 ⟨rfl, K2⟩))
  have HFo := hideV (FS.out w W2 (K1.trans K2 (fun _ f => f.elim)))
  clear FS
  generalize W2.heap.size + 1 = gs at *
  go_loopw [3, 45] (fun v i wr => ∃ (k : Nat) (a : Option Addr) (c : Nat), k ≤ 19 ∧ i = .int .i64 k ∧ v = .slice a k c ∧ Hid (Fou w wr gs (.slice a k c) k)) (fun _ i _ => 19 - (intOf i).toNat)
  case atStart => exact ⟨0, _, _, by omega, rfl, rfl, HFo⟩
  case round =>
    obtain ⟨k, a, c, hk, rfl, rfl, HR⟩ := hrel
    clear HFo
    by_cases hlt : k < 19
    · have x0 := HR.out.s k hlt
      have hki : (k : Int) < 19 := by omega
      have HE : Hid (∀ h : k < tb4.length, bq tb4[k].1 = bq tb4[k].1) := hideV (fun _ => rfl)
      obtain ⟨e0, he0⟩ : ∃ e0, e0 = bq (tb4[k]'hlt).1 := ⟨_, rfl⟩
      rw [← he0] at x0
      have HE2 : Hid (∀ h : k < tb4.length, e0 = bq tb4[k].1) := hideV (fun _ => he0)
      clear he0 HE ML MM ES ET EI HF
      go_wp2_with (at_builtin; refine wpList_pushR rfl _ _ rfl _ k e0 rfl HR rfl hlt HE2 ?_; intro a' c' W' HR')
      go_roundw
      case rel => exact ⟨k + 1, a', c', by omega, by go_num, rfl, HR'⟩
      case measure => simp [intOf]; omega
    · obtain rfl : k = 19 := by omega
      obtain ⟨g, rfl, _, _⟩ := HR.out.g.cell (by decide)
      have RU : Hid (RulesAt wr g tb4) := hideV (by have := gro_rules HR.out.g; rwa [List.take_of_length_le (by decide)] at this)
      have KR := hideV HR.out.g.kept
      have CL := ML g c wr RU.out
      have CM := fun W (k : Kept (fun _ => False) wr W) => MM g c W (RU.out.kept k)
      clear HR ML MM RU hlt hk
      cases f with
      | false =>
        have HG : Hid (Y = Z) := hideV (by rw [HF.out]; rfl)
        clear HF
        go_wp2_with (first | (go_at_call 32; refine CL.out.mono ?_; clear CL; rintro e W4 ⟨rfl, K4⟩; have K5 := K4.trans (Kept.alloc W4 (.cells #[.string x, .string y] 37)) (fun _ f => f.elim)) | (go_at_call 14; first | (refine (ES _).out.mono ?_; clear ES; rintro e W5 ⟨rfl, e5⟩; subst e5) | (refine (ET _).out.mono ?_; clear ET; rintro e W5 ⟨rfl, e5⟩; subst e5)) | (go_at_call 36; refine (CM _ K5).out.mono ?_; clear CM; rintro e W6 ⟨rfl, K6⟩))
        go_ret
        exact ⟨rets HG.out, (KR.out.trans K5 (fun _ f => f.elim)).trans K6 (fun _ f => f.elim)⟩
      | true =>
        cases D with
        | false =>
          have HG : Hid (Y = Z) := hideV (by rw [HF.out]; rfl)
          clear HF
          go_wp2_with (first | (go_at_call 32; refine CL.out.mono ?_; clear CL; rintro e W4 ⟨rfl, K4⟩; have K5 := K4.trans (Kept.alloc W4 (.cells #[.string x, .string y] 37)) (fun _ f => f.elim)) | (go_at_call 14; first | (refine (ES _).out.mono ?_; clear ES; rintro e W5 ⟨rfl, e5⟩; subst e5) | (refine (ET _).out.mono ?_; clear ET; rintro e W5 ⟨rfl, e5⟩; subst e5)) | (go_at_call 36; refine (CM _ K5).out.mono ?_; clear CM; rintro e W6 ⟨rfl, K6⟩))
          go_ret
          exact ⟨rets HG.out, (KR.out.trans K5 (fun _ f => f.elim)).trans K6 (fun _ f => f.elim)⟩
        | true =>
          cases S with
          | true =>
            have HG : Hid (Y = Z) := hideV (by rw [HF.out]; rfl)
            clear HF
            go_wp2_with (first | (go_at_call 32; refine CL.out.mono ?_; clear CL; rintro e W4 ⟨rfl, K4⟩; have K5 := K4.trans (Kept.alloc W4 (.cells #[.string x, .string y] 37)) (fun _ f => f.elim)) | (go_at_call 14; first | (refine (ES _).out.mono ?_; clear ES; rintro e W5 ⟨rfl, e5⟩; subst e5) | (refine (ET _).out.mono ?_; clear ET; rintro e W5 ⟨rfl, e5⟩; subst e5)) | (go_at_call 36; refine (CM _ K5).out.mono ?_; clear CM; rintro e W6 ⟨rfl, K6⟩))
            go_ret
            exact ⟨rets HG.out, (KR.out.trans K5 (fun _ f => f.elim)).trans K6 (fun _ f => f.elim)⟩
          | false =>
            cases T with
            | true =>
              have HG : Hid (Y = Z) := hideV (by rw [HF.out]; rfl)
              clear HF
              go_wp2_with (first | (go_at_call 32; refine CL.out.mono ?_; clear CL; rintro e W4 ⟨rfl, K4⟩; have K5 := K4.trans (Kept.alloc W4 (.cells #[.string x, .string y] 37)) (fun _ f => f.elim)) | (go_at_call 14; first | (refine (ES _).out.mono ?_; clear ES; rintro e W5 ⟨rfl, e5⟩; subst e5) | (refine (ET _).out.mono ?_; clear ET; rintro e W5 ⟨rfl, e5⟩; subst e5)) | (go_at_call 36; refine (CM _ K5).out.mono ?_; clear CM; rintro e W6 ⟨rfl, K6⟩))
              go_ret
              exact ⟨rets HG.out, (KR.out.trans K5 (fun _ f => f.elim)).trans K6 (fun _ f => f.elim)⟩
            | false =>
              have HG : Hid (s2 = Z) := hideV (by rw [HF.out]; rfl)
              clear HF
              go_wp2_with (first | (go_at_call 32; refine CL.out.mono ?_; clear CL; rintro e W4 ⟨rfl, K4⟩; have K5 := K4.trans (Kept.alloc W4 (.cells #[.string x, .string y] 37)) (fun _ f => f.elim)) | (go_at_call 14; first | (refine (ES _).out.mono ?_; clear ES; rintro e W5 ⟨rfl, e5⟩; subst e5) | (refine (ET _).out.mono ?_; clear ET; rintro e W5 ⟨rfl, e5⟩; subst e5)) | (go_at_call 36; refine (CM _ K5).out.mono ?_; clear CM; rintro e W6 ⟨rfl, K6⟩))
              go_ret
              exact ⟨rets HG.out, KR.out.trans K5 (fun _ f => f.elim)⟩
end Go.Proofs.Ytmfdoohnladohaa
