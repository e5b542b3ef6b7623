import Derived.Test.YtebmkaiblhjbnaaDoorDlf
namespace Go.Proofs.YtebmkaiblhjbnaaDoor
open Go.ChangeShapes Go.WideShapes Go.ChangeAt Go.RowKit

theorem BytesAt.head {w : World} {a : Option Addr} {l : List Int} (h : BytesAt w a l) (n : Nat) : BytesAt w a (l.take n) := by
  intro hne
  obtain ⟨b, off, e, hc⟩ := h (by intro e; rw [e] at hne; simp at hne)
  refine ⟨b, off, e, fun k hk => ?_⟩
  rw [List.length_take] at hk
  rw [List.getElem?_take, if_pos (by omega)]
  exact hc k (by omega)
theorem own_cap {w : World} {base n c : Nat} {e : TypeId} {sz : Nat} {a : Option Addr} {xs : List Value} (h : w.ownsRow base e sz (.slice a n c) n xs) : n ≤ c := by
  rcases h.2 with ⟨e1, e2⟩ | ⟨g, cap, cur, e1, _, _, hn, _⟩
  · omega
  · injection e1 with _ _ e3
    omega
theorem oneForm_none (l : List Int) (a : Option Addr) (c : Nat) (cut : Int) (ad : Nat → Addr) (w : World) (hB : BytesAt w a l) (hI : IsBytes l) (hl : l.length ≤ 1048576) (hE : Errs13 w ad) (hO : opn l = none) :
    Calls Tryd.prog 6 #[.slice a l.length c, .int .i64 cut] w fun e w' => e = .returned (.bool true) ∧ Kept (fun _ => False) w w' := by
  have CF := hideQ (fixed_any ad w hE)
  have CO : Hid (∀ W, Kept (fun _ => False) w W → Calls Tryd.prog 14 #[.slice a l.length c] W fun e w' => e = .returned (.tuple #[.pointer none, errV (ad 9)]) ∧ Kept (fun _ => False) W w') := hideQ (fun W k => by
    have h9 := open_any l a c ad W (hB.keptO k) hI (by omega) (hE.kept k).toO
    rw [hO] at h9
    exact h9)
  clear hB hI hE hO
  generalize l.length = nl at *
  go_enter Tryd.func6, Tryd.ntmps6
  go_wp2_with (first
    | (go_at_call 9; refine CF.out.mono ?_; rintro e W1 ⟨rfl, K1⟩)
    | (go_at_call 14; refine (CO.out _ K1).mono ?_; rintro e W2 ⟨rfl, K2⟩; unfold errV))
  go_ret
  exact ⟨rfl, K1.trans K2 (fun _ f => f.elim)⟩
set_option maxRecDepth 20000 in
set_option maxHeartbeats 8000000 in
theorem oneForm_some (hC : ClnOk) (l : List Int) (a : Option Addr) (c : Nat) (cut : Int) (ad : Nat → Addr) (w : World) (E : List En) (hB : BytesAt w a l) (hI : IsBytes l) (hl : l.length ≤ 1048576) (hc : l.length ≤ c) (hE : Errs13 w ad) (hO : opn l = some E) :
    Calls Tryd.prog 6 #[.slice a l.length c, .int .i64 cut] w fun e w' => e = .returned (.bool true) ∧ Kept (fun _ => False) w w' := by
  obtain ⟨hle, hg, h7⟩ := opn_back hI hO
  have CF := hideQ (fixed_any ad w hE)
  have CO : Hid (∀ W, Kept (fun _ => False) w W → Calls Tryd.prog 14 #[.slice a l.length c] W fun e w' => (∃ bd va, e = .returned (.tuple #[.pointer (some ⟨bd, 0, none⟩), .nilIface]) ∧ Dct w' W.heap.size bd va E) ∧ Kept (fun _ => False) W w') := hideQ (fun W k => by
    have h9 := open_any l a c ad W (hB.keptO k) hI (by omega) (hE.kept k).toO
    rw [hO] at h9
    exact h9)
  have HG := hideQ hg
  have HB := hideQ hB
  have HE := hideQ hE
  have HLe := hideQ hle
  have HI := hideQ hI
  have HCl := hideQ hC
  have hEn : E.length ≤ 1048576 := by omega
  obtain ⟨i0, hi0, hz0, hz1, hz2⟩ := info_parts Tryd.infoE
  clear hB hI hE hO hg hle hC
  obtain ⟨nE, hnE⟩ : ∃ nE, nE = E.length := ⟨_, rfl⟩
  rw [← hnE] at h7 hEn
  have HNE := hideQ hnE
  obtain ⟨nl, hnl⟩ : ∃ nl, nl = l.length := ⟨_, rfl⟩
  rw [← hnl] at CO hl hc h7 ⊢
  have HNL := hideQ hnl
  clear hnE hnl
  go_enter Tryd.func6, Tryd.ntmps6
  go_wp2_with (first
    | (go_at_call 9; refine CF.out.mono ?_; rintro e W1 ⟨rfl, K1⟩; have HK1 := hideQ K1)
    | (go_at_call 14; refine Stp.go ?_))
  refine ⟨?_⟩
  refine (CO.out _ HK1.out).mono ?_
  rintro e W2 ⟨⟨bd, va, rfl, hD⟩, K2⟩
  have HD2 := hideQ hD
  have HK2 := hideQ (HK1.out.trans K2 (fun _ f => f.elim))
  have CL := hideQ (len_any W2 _ bd va E hD)
  rw [← HNE.out] at CL
  have hgt : ¬ ((nl : Int) < (nE : Int)) := by omega
  have hgt2 : decide ((nl : Int) < (nE : Int)) = false := decide_eq_false hgt
  have hgt3 : decide (nl < nE) = false := decide_eq_false (by omega)
  clear hD K2 HK1 K1 CO CF
  go_wp2_with (go_at_call 22; refine CL.out.mono ?_; rintro e W3 ⟨rfl, e3⟩; subst e3)
  have HBd : Hid (bd < W3.heap.size ∧ ∀ k, va.ownBlock = some k → k < W3.heap.size) := hideQ ⟨lt_of_block HD2.out.blk, fun k hk => (HD2.out.own.lt k hk).2⟩
  have hw3 : w.heap.size ≤ W3.heap.size := HK2.out.size
  go_loopw [7, 8] (fun v7 v8 wr => ∃ (i : Nat) (vb : Value), i ≤ nE ∧ v8 = .int .i64 i ∧ v7 = vb ∧ Hid (wr.ownsRow W3.heap.size 47 5 vb i (ecs (E.take i))) ∧ Hid (Dct wr W1.heap.size bd va E) ∧ Hid (Kept (fun _ => False) W3 wr)) (fun _ v8 _ => nE - (intOf v8).toNat)
  case atStart => exact ⟨0, _, by omega, rfl, rfl, hideQ ⟨rfl, .inl ⟨rfl, rfl⟩⟩, HD2, Kept.refl _ _⟩
  case round =>
    obtain ⟨i, vb, hi, rfl, rfl, HOr, HDr, HKr⟩ := hrel
    have CL := hideQ (len_any wr _ bd va E HDr.out)
    rw [← HNE.out] at CL
    by_cases hlt : i < nE
    · have hii : (i : Int) < (nE : Int) := by omega
      have hiE : i < E.length := by rw [← HNE.out]; exact hlt
      have CA := hideQ (atD_in HCl.out wr _ bd i va E HDr.out hiE (by have := (HG.out.gen _ (List.getElem_mem hiE)).k2; omega))
      have HTk : Hid (ecs (E.take (i + 1)) = ecs (E.take i) ++ (E[i]).cells) := hideQ (by rw [List.take_succ_eq_append_getElem hiE, ecs_snoc])
      generalize E[i] = en at *
      obtain ⟨k, d, t, p, s⟩ := en
      go_wp2_with (first
        | (go_at_call 22; refine CL.out.mono ?_; clear CL; rintro e W4 ⟨rfl, e4⟩; subst e4)
        | (go_at_call 23; refine CA.out.mono ?_; clear CA; rintro e W5 ⟨rfl, K5⟩; have HK5 := hideQ K5; clear K5; simp only [enV])
        | (at_builtin; refine Stp.go ?_))
      refine ⟨?_⟩
      have KA := Kept.alloc W5 (.cells #[.string k, .int .i64 d, .int .i64 t, .int .i64 p, .int .i64 s] 47)
      have K6 := HK5.out.trans KA (fun _ f => f.elim)
      have HO6 := hideQ (K6.row HOr.out (fun _ _ f => f))
      have HD6 := hideQ (HDr.out.kept K6)
      have HK6 := hideQ (HKr.out.trans K6 (fun _ f => f.elim))
      have hb6 : W3.heap.size ≤ (W5.alloc (.cells #[.string k, .int .i64 d, .int .i64 t, .int .i64 p, .int .i64 s] 47)).heap.size := HK6.out.size
      clear KA K6 HOr HDr HKr HK5
      refine wpList_pushR (base := W3.heap.size) rfl (.tmp 50) (.tmp 52) 22 rfl 47 i0 _ 5 48 Tryd.underlying22 hi0 hz0 hz1 hz2 rfl (by decide) _ i (ecs (E.take i)) [.string k, .int .i64 d, .int .i64 t, .int .i64 p, .int .i64 s] rfl HO6 hb6 (by simp; rfl) rfl ?one (hideQ (by omega)) (hideQ (by unfold maxLen; omega)) ?_
      case one => intro u hu; simp at hu; rcases hu with rfl | rfl | rfl | rfl | rfl <;> rfl
      intro a7 c7 W7 HO7 HK7
      have HD7 : Hid (Dct W7 W1.heap.size bd va E) := hideQ ⟨HK7.out.heap HD6.out.blk (fun f => by have h8 := (HO6.out.lt _ f).1; have h9 := HBd.out.1; omega), HK7.out.row HD6.out.own (fun k hk f => by have h8 := (HO6.out.lt _ f).1; have h9 := HBd.out.2 k hk; omega), HD6.out.new⟩
      have HK8 := hideQ (HK6.out.trans HK7.out (fun j hj => .inr (HO6.out.lt _ hj).1))
      go_wp2
      go_roundw
      case rel => exact ⟨i + 1, _, hlt, by go_num, rfl, hideQ (by rw [HTk.out]; exact HO7.out), HD7, HK8⟩
      case measure => simp [intOf]; omega
    · obtain rfl : i = nE := by omega
      have hT : E.take i = E := List.take_of_length_le (by rw [HNE.out]; exact Nat.le_refl _)
      rw [hT] at HOr
      obtain ⟨aE, cE, rfl⟩ := row_shape HOr.out
      have hcap := own_cap HOr.out
      have HKw := hideQ (HK2.out.trans HKr.out (fun _ f => f.elim))
      have CB := hideQ (build_good E aE cE wr (es_of_own HOr.out HNE.out) (by rw [← HNE.out]; omega) (by rw [← HNE.out]; exact hcap) HG.out)
      rw [← HNE.out, ← HLe.out, ← HNL.out] at CB
      clear HOr HDr HKr HD2 HK2 hT hi0 hz0 hz1 hz2
      go_wp2_with (first
        | (go_at_call 22; refine CL.out.mono ?_; clear CL; rintro e W4 ⟨rfl, e4⟩; subst e4)
        | (go_at_call 11; refine Stp.go ?_))
      refine ⟨?_⟩
      refine CB.out.mono ?_
      rintro e W5 ⟨⟨g, hgg, rfl, ho⟩, K5⟩
      have HK5 := hideQ (HKw.out.trans K5 (fun _ f => f.elim))
      have HO5 := hideQ (own_lowerE ho (b' := w.heap.size) HKw.out.size)
      have hg5 : w.heap.size ≤ g := by have h9 := HKw.out.size; omega
      have hBc : BytesAt W5 (some ⟨g, 0, none⟩) l := by
        obtain ⟨a', c', e', h', -⟩ := bytes_of_own ho
        simp only [Value.slice.injEq, true_and] at e'
        exact e'.1 ▸ h'
      have CQ := hideQ (equalD_any l l a (some ⟨g, 0, none⟩) c nl W5 (HB.out.keptO HK5.out) hBc)
      rw [eqD_dec HI.out HI.out, decide_eq_true rfl, ← HNL.out] at CQ
      clear CB K5 ho hBc HKw
      go_wp2_with (first
        | (go_at_call 13; refine CQ.out.mono ?_; rintro e W6 ⟨rfl, e6⟩; subst e6)
        | (at_builtin; refine Stp.go ?_))
      refine ⟨?_⟩
      obtain ⟨i1, hi1, hy0, hy1, hy2⟩ := info_parts Tryd.infoB
      refine wpList_pushR (base := w.heap.size) rfl (.tmp 68) (.tmp 69) 25 rfl 5 i1 _ 1 1 Tryd.underlying25 hi1 hy0 hy1 hy2 rfl (by decide) _ nl (bs l) [.int .u8 0] rfl HO5 HK5.out.size rfl rfl ?one (hideQ (by omega)) (hideQ (by unfold maxLen; omega)) ?_
      case one => intro u hu; simp at hu; subst hu; rfl
      intro a7 c7 W7 HO7 HK7
      have HKw := hideQ (HK5.out.trans HK7.out (fun j hj => .inr (HO5.out.lt _ hj).1))
      have hlen : (l ++ [0]).length = nl + 1 := by rw [List.length_append, ← HNL.out]; rfl
      have hIz : IsBytes (l ++ [0]) := fun x hx => by
        rcases List.mem_append.1 hx with hx | hx
        · exact HI.out x hx
        · simp only [List.mem_cons, List.not_mem_nil, or_false] at hx
          omega
      have hBz : BytesAt W7 a7 (l ++ [0]) := by
        have h9 : W7.ownsRow w.heap.size 5 1 (.slice a7 (nl + 1) c7) (nl + 1) (bs (l ++ [0])) := by rw [bs_append]; exact HO7.out
        obtain ⟨a', c', e', h', -⟩ := bytes_of_own h9
        simp only [Value.slice.injEq, true_and] at e'
        exact e'.1 ▸ h'
      have hOz : opn (l ++ [0]) = none := by
        have h9 := HNL.out
        rw [HLe.out] at h9 ⊢
        exact opn_more HG.out (by simp) (by rw [List.length_append]; simp; omega)
      have CO := hideQ (open_any (l ++ [0]) a7 c7 ad W7 hBz hIz (by omega) (HE.out.kept HKw.out).toO)
      rw [hOz, hlen] at CO
      clear hBz hIz hOz hlen HO7 HK7 HO5 HK5 CQ hi1 hy0 hy1 hy2
      go_wp2_with (go_at_call 14; refine Stp.go ?_)
      refine ⟨?_⟩
      refine CO.out.mono ?_
      rintro e W8 ⟨he, K8⟩
      obtain rfl : e = .returned (.tuple #[.pointer none, errV (ad 9)]) := he
      have HK8 := hideQ (HKw.out.trans K8 (fun _ f => f.elim))
      have CN := hideQ (num_corrupt (HE.out.kept HK8.out))
      clear K8 CO HKw
      by_cases hcu : cut < 0 ∨ (nl : Int) ≤ cut
      · by_cases hc0 : cut < 0
        · have d0 : decide (cut < 0) = true := decide_eq_true hc0
          go_wp2_with (go_at_call 12; refine CN.out.mono ?_; rintro e W9 ⟨rfl, e9⟩; subst e9)
          go_ret
          exact ⟨rfl, HK8.out⟩
        · have d0 : decide (cut < 0) = false := decide_eq_false hc0
          have d1 : (nl : Int) ≤ cut := hcu.resolve_left hc0
          have d2 : decide ((nl : Int) ≤ cut) = true := decide_eq_true d1
          go_wp2_with (go_at_call 12; refine CN.out.mono ?_; rintro e W9 ⟨rfl, e9⟩; subst e9)
          go_ret
          exact ⟨rfl, HK8.out⟩
      · obtain ⟨cn, rfl⟩ : ∃ cn : Nat, cut = cn := ⟨cut.toNat, by omega⟩
        have hcn : cn < nl := by omega
        have d0 : decide ((cn : Int) < 0) = false := decide_eq_false (by omega)
        have d1 : ¬ ((nl : Int) ≤ (cn : Int)) := by omega
        have d2 : decide ((nl : Int) ≤ (cn : Int)) = false := decide_eq_false d1
        have d3 : decide (nl ≤ cn) = false := decide_eq_false (by omega)
        have hne : l ≠ [] := by intro e; have h9 := HNL.out; rw [e] at h9; simp at h9; omega
        obtain ⟨ba, oa, rfl, -⟩ := HB.out hne
        have hOt : opn (l.take cn) = none := by
          have h8 := HI.out
          have h9 := HNL.out
          rw [HLe.out] at h8 h9 ⊢
          exact opn_less h8 HG.out (by omega) (by omega)
        have hlt : (l.take cn).length = cn := by rw [List.length_take, ← HNL.out]; omega
        have CT : Hid (∀ c', Calls Tryd.prog 14 #[.slice (some ⟨ba, oa, none⟩) cn c'] W8 fun e w' => e = .returned (.tuple #[.pointer none, errV (ad 9)]) ∧ Kept (fun _ => False) W8 w') := hideQ (fun c' => by
          have h9 := open_any (l.take cn) (some ⟨ba, oa, none⟩) c' ad W8 ((HB.out.head cn).keptO HK8.out) (fun x hx => HI.out x (List.mem_of_mem_take hx)) (by omega) (HE.out.kept HK8.out).toO
          rw [hOt, hlt] at h9
          exact h9)
        clear hOt hlt hcu hne
        go_wp2_with (first
          | (go_at_call 12; refine CN.out.mono ?_; clear CN; rintro e W9 ⟨rfl, e9⟩; subst e9)
          | (go_at_call 14; refine Stp.go ?_))
        refine ⟨?_⟩
        refine (CT.out _).mono ?_
        rintro e WA ⟨rfl, KA⟩
        have HKA := hideQ (HK8.out.trans KA (fun _ f => f.elim))
        have CN := hideQ (num_corrupt (HE.out.kept HKA.out))
        clear KA CT HK8
        go_wp2_with (go_at_call 12; refine CN.out.mono ?_; clear CN; rintro e WB ⟨rfl, eB⟩; subst eB)
        go_ret
        exact ⟨rfl, HKA.out⟩
theorem oneForm_walk (hC : ClnOk) (l : List Int) (a : Option Addr) (c : Nat) (cut : Int) (ad : Nat → Addr) (w : World) (hB : BytesAt w a l) (hI : IsBytes l) (hl : l.length ≤ 1048576) (hc : l.length ≤ c) (hE : Errs13 w ad) :
    Calls Tryd.prog 6 #[.slice a l.length c, .int .i64 cut] w fun e w' => e = .returned (.bool true) ∧ Kept (fun _ => False) w w' := by
  cases hO : opn l with
  | none => exact oneForm_none l a c cut ad w hB hI hl hE hO
  | some E => exact oneForm_some hC l a c cut ad w E hB hI hl hc hE hO
end Go.Proofs.YtebmkaiblhjbnaaDoor
