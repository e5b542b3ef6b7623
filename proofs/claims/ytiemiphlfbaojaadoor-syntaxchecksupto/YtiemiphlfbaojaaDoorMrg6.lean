import Derived.Test.YtiemiphlfbaojaaDoorSyk
import Derived.Test.YtiemiphlfbaojaaDoorAua
namespace Go.Proofs.YtiemiphlfbaojaaDoor
open Go.ChangeShapes Go.WideShapes Go.ChangeAt Go.RowKit
variable {w0 w w' : World} {b rc : Nat} {a0 : Option Addr} {R : List Tn} {v : Value} {s : MS} {Z : Bool × MS}

/-! What the machine lacks; Follow. -/
def lackL (m k : Nat) : List Int := ((List.range k).filter (fun i => m.testBit i)).map (fun (i : Nat) => (i : Int))
theorem lack_next (m k : Nat) : lackL m (k + 1) = lackL m k ++ (if m.testBit k then [(k : Int)] else []) := by
  unfold lackL
  rw [List.range_succ, List.filter_append, List.map_append]
  congr 1
  cases h : m.testBit k <;> simp [List.filter, h]
theorem lack_len (m k : Nat) : (lackL m k).length ≤ k := by
  unfold lackL
  rw [List.length_map]
  have := List.length_filter_le (fun i => m.testBit i) (List.range k)
  rw [List.length_range] at this
  exact this
theorem and_u32 (a b : Nat) (ha : a < 4294967296) (hb : b < 4294967296) : bits .and .u32 (a : Int) (b : Int) = ((a &&& b : Nat) : Int) := by
  show IntKind.u32.wrap ((BitVec.ofInt 32 (a : Int) &&& BitVec.ofInt 32 (b : Int)).toNat : Int) = _
  have e : ∀ x : Nat, x < 4294967296 → (BitVec.ofInt 32 (x : Int)).toNat = x := fun x hx => by
    rw [BitVec.ofInt_natCast, BitVec.toNat_ofNat]; exact Nat.mod_eq_of_lt hx
  rw [BitVec.toNat_and, e a ha, e b hb, IntKind.wrap_u32]
  have : a &&& b ≤ a := Nat.and_le_left
  omega
theorem bit_u32 (m k : Nat) (hm : m < 4294967296) (hk : k ≤ 21) : (bits BinOp.and IntKind.u32 (m : Int) (((2 : Int) ^ k) % (4294967296 : Int)) != 0) = m.testBit k := by
  obtain ⟨h1, h2⟩ := pow_u32 k hk
  rw [h1, and_u32 m _ hm h2, Nat.one_shiftLeft]
  cases ht : m.testBit k with
  | true =>
    rw [bne_iff_ne]
    intro e
    have e2 : m &&& 2 ^ k = 0 := by omega
    have e3 := congrArg (fun x => Nat.testBit x k) e2
    simp [Nat.testBit_and, ht] at e3
  | false =>
    have e2 : m &&& 2 ^ k = 0 := by
      apply Nat.eq_of_testBit_eq
      intro i
      rw [Nat.testBit_and, Nat.testBit_two_pow, Nat.zero_testBit]
      by_cases hi : k = i
      · subst hi; rw [ht]; rfl
      · simp [hi]
    rw [e2]
    rfl
def lkPost (w : World) (L : List Int) (n : Nat) (x : Ending) (w' : World) : Prop := ∃ a c, x = .returned (.slice a n c) ∧ Gro w w' 3 1 (.slice a n c) n (iv L)
set_option maxRecDepth 20000 in
set_option maxHeartbeats 4000000 in
theorem lacking_any (h : Mc w0 w b rc a0 R v s) : Calls Tryd.prog 18 #[.pointer (some ⟨b, 0, none⟩)] w (lkPost w (lackL s.mi 22) (lackL s.mi 22).length) := by
  have hm := h.hm
  have HM := hideL (fun W (k : Kept (fun _ => False) w W) => (h.later k).cells.2.2.1)
  have HG0 : Hid (Gro w w 3 1 (.slice none 0 0) 0 (iv (lackL s.mi 0))) := hideL (gro_nil w _ _)
  generalize s.mi = m at *
  have HP : Hid (∀ a c n w', n = (lackL m 22).length → Gro w w' 3 1 (.slice a n c) n (iv (lackL m 22)) → lkPost w (lackL m 22) (lackL m 22).length (.returned (.slice a n c)) w') := hideL (fun a c n w' e g => by subst e; exact ⟨a, c, rfl, g⟩)
  generalize lkPost w (lackL m 22) (lackL m 22).length = Q at *
  clear h
  go_enter Tryd.func18, Tryd.ntmps18
  go_wp2_with fail
  go_loopw [3, 4] (fun lv kv wr => ∃ (k n : Nat) (a : Option Addr) (c : Nat), k ≤ 22 ∧ n ≤ k ∧ kv = .int .i64 k ∧ lv = .slice a n c ∧ Hid (n = (lackL m k).length) ∧ Hid (Gro w wr 3 1 (.slice a n c) n (iv (lackL m k)))) (fun _ kv _ => 22 - (intOf kv).toNat)
  case atStart => exact ⟨0, 0, _, _, by omega, by omega, rfl, rfl, hideL rfl, HG0⟩
  case round =>
    obtain ⟨k, n, a, c, hk, hnk, rfl, rfl, HN, HG⟩ := hrel
    clear HG0
    by_cases hlt : k ≤ 21
    · have hkz : (k : Int) ≤ 21 := by omega
      have x2 := HM.out wr HG.out.kept
      have hb := bit_u32 m k hm hlt
      have hx := lack_next m k
      cases htb : m.testBit k with
      | true =>
        rw [htb] at hb hx
        have HX : Hid (lackL m (k + 1) = lackL m k ++ [(k : Int)]) := hideL hx
        have HN2 : Hid (n + 1 = (lackL m (k + 1)).length) := hideL (by rw [HX.out, List.length_append, ← HN.out]; rfl)
        have HGd := hideL (HG.out.later (Kept.drew wr))
        clear hx htb HG HN
        go_wp2_with fail
        go_region
        generalize wr.drew = V at *
        go_wp2_with (at_builtin; refine wpList_pushI rfl _ _ rfl _ n _ (k : Int) rfl HGd _ (by first | rfl | simp) rfl (by omega) ?_; intro a4 c4 W4 G4; rw [← HX.out] at G4; clear HGd)
        go_roundw
        case rel => exact ⟨k + 1, n + 1, a4, c4, by omega, by omega, by go_num, rfl, HN2, G4⟩
        case measure => simp [intOf] <;> omega
      | false =>
        rw [htb] at hb hx
        have HX : Hid (lackL m (k + 1) = lackL m k) := hideL (by rw [hx]; exact List.append_nil _)
        have HGd := hideL (HG.out.later (Kept.drew wr))
        rw [← HX.out] at HGd HN
        clear hx htb HG
        go_wp2_with fail
        go_region
        go_wp2_with fail
        go_roundw
        case rel => exact ⟨k + 1, n, a, c, by omega, by omega, by go_num, rfl, HN, HGd⟩
        case measure => simp [intOf] <;> omega
    · have hkz : ¬ (k : Int) ≤ 21 := by omega
      have HK22 : Hid (k = 22) := hideL (by omega)
      go_wp2
      have e := HK22.out
      subst e
      exact HP.out _ _ _ _ HN.out HG.out
end Go.Proofs.YtiemiphlfbaojaaDoor
namespace Go.Proofs.YtiemiphlfbaojaaDoor
open Go.ChangeShapes Go.WideShapes Go.ChangeAt Go.RowKit
variable {w : World} {b rc : Nat} {a0 : Option Addr} {R : List Tn}

/-! Follow, judge. -/
def s00 : MS := ⟨0, 0, 0, ⟨0, 0, false⟩, []⟩
/-- What run answers of a row, and what it leaves. -/
def runR (R : List Tn) : Bool × MS := runF R (R.length * 10 + 5) 0 s00
theorem goo_start (R : List Tn) : Goo R (runR R) 0 s00 := ⟨⟨Nat.le_refl _, Nat.le_refl _, trivial⟩, fun _ => rfl, Nat.zero_le _, _, rfl, by unfold rkM s00 lrk; simp⟩
theorem mc_start (hR : Rw w a0 R) (hr : R.length ≤ 500000000000) : Mc w (w.alloc (.cells #[.slice a0 R.length rc, .int .i64 0, .int .u32 0, .int .i64 0, .int .i64 0, .int .i64 0, .bool false, .slice none 0 0] 53)) w.heap.size rc a0 R (.slice none 0 0) s00 :=
  ⟨heap_alloc_new w _, ⟨rfl, .inl ⟨rfl, rfl⟩⟩, Kept.alloc _ _, Nat.le_refl _, hR, Nat.zero_le _, hr, by decide⟩
def folF (R : List Tn) : List Int := if (runR R).1 || decide ((runR R).2.at' < R.length) then [] else lackL (runR R).2.mi 22
set_option maxRecDepth 20000 in
set_option maxHeartbeats 4000000 in
theorem follow_any (n : Nat) (hn : n = R.length) (hR : Rw w a0 R) (hr : R.length ≤ 500000000000) : Calls Tryd.prog 9 #[.slice a0 n rc] w (lkPost w (folF R) (folF R).length) := by
  subst hn
  have CR := hideL (run_any (mc_start (rc := rc) hR hr) (goo_start R))
  unfold rnPost at CR
  have HP : Hid (∀ a c L w', folF R = L → Gro w w' 3 1 (.slice a L.length c) L.length (iv L) → lkPost w (folF R) (folF R).length (.returned (.slice a L.length c)) w') := hideL (fun a c L w' e g => by subst e; exact ⟨a, c, rfl, g⟩)
  generalize lkPost w (folF R) (folF R).length = Q at *
  obtain ⟨B, t, hZ⟩ : ∃ B t, runR R = (B, t) := ⟨_, _, rfl⟩
  have hfo : folF R = if B || decide (t.at' < R.length) then [] else lackL t.mi 22 := by unfold folF; rw [hZ]
  rw [hZ] at CR
  dsimp only at CR
  have HK0 := hideL (Kept.alloc w (.cells #[.slice a0 R.length rc, .int .i64 0, .int .u32 0, .int .i64 0, .int .i64 0, .int .i64 0, .bool false, .slice none 0 0] 53))
  clear hZ hR
  cases B with
  | true =>
    have HF : Hid (folF R = []) := hideL (by rw [hfo]; rfl)
    generalize R.length = n at *
    clear hfo
    go_enter Tryd.func9, Tryd.ntmps9
    go_wp2_with (go_at_call 17; refine CR.out.mono ?_; clear CR; rintro e W1 ⟨rfl, v1, h1⟩; have H1 := hideL h1; clear h1)
    exact HP.out none 0 [] _ HF.out ⟨⟨rfl, .inl ⟨rfl, rfl⟩⟩, H1.out.kept⟩
  | false =>
    by_cases hlt : t.at' < R.length
    · have HF : Hid (folF R = []) := hideL (by rw [hfo, decide_eq_true hlt]; rfl)
      have hz : (t.at' : Int) < (R.length : Int) := by omega
      generalize R.length = n at *
      clear hfo
      go_enter Tryd.func9, Tryd.ntmps9
      go_wp2_with (go_at_call 17; refine CR.out.mono ?_; clear CR; rintro e W1 ⟨rfl, v1, h1⟩; have H1 := hideL h1; have x1 := H1.out.cells.2.1; clear h1)
      exact HP.out none 0 [] _ HF.out ⟨⟨rfl, .inl ⟨rfl, rfl⟩⟩, H1.out.kept⟩
    · have HF : Hid (folF R = lackL t.mi 22) := hideL (by rw [hfo, decide_eq_false hlt]; rfl)
      have hz : ¬ (t.at' : Int) < (R.length : Int) := by omega
      have CL := hideL (fun W v1 (h : Mc w W w.heap.size rc a0 R v1 t) => lacking_any h)
      generalize R.length = n at *
      clear hfo
      unfold lkPost at CL
      go_enter Tryd.func9, Tryd.ntmps9
      go_wp2_with (first
        | (go_at_call 17; refine CR.out.mono ?_; clear CR; rintro e W1 ⟨rfl, v1, h1⟩; have H1 := hideL h1; have x1 := H1.out.cells.2.1; clear h1)
        | (go_at_call 18; refine (CL.out _ _ H1.out).mono ?_; clear CL; rintro e W2 ⟨a2, c2, rfl, g2⟩; have G2 := hideL (g2.baseA H1.out.kept); clear g2))
      exact HP.out _ _ _ _ HF.out G2.out
end Go.Proofs.YtiemiphlfbaojaaDoor
namespace Go.Proofs.YtiemiphlfbaojaaDoor
open Go.ChangeShapes Go.WideShapes Go.ChangeAt Go.RowKit
variable {w : World} {b rc : Nat} {a0 : Option Addr} {R : List Tn}

/-! A row whose last token is the end: the run never goes behind it, but where it answers true. -/
def EndR (R : List Tn) : Prop := ∃ y, R[R.length - 1]? = some y ∧ y.k = 0
def Bd (R : List Tn) (F : MS → Bool × MS) : Prop := ∀ s, s.at' < R.length → (F s).2.at' < R.length
theorem bd_tk (hE : EndR R) (k : Nat) (f : Tn → Bool) (hf : ∀ y : Tn, y.k = 0 → f y = false) : Bd R (fun s => (tkB R f s, tkS R k f s)) := by
  intro s hs
  obtain ⟨y, hy, h0⟩ := hE
  show (s.pass k (f (tkA R s.at'))).at' < R.length
  unfold MS.pass
  cases hq : f (tkA R s.at') with
  | false => exact hs
  | true =>
    show s.at' + 1 < R.length
    rcases Nat.lt_or_ge (s.at' + 1) R.length with q | q
    · exact q
    · exfalso
      have e : s.at' = R.length - 1 := by omega
      have : tkA R s.at' = y := by unfold tkA; rw [e, hy]; rfl
      rw [this, hf y h0] at hq
      cases hq
theorem bd_K (hE : EndR R) (k : Nat) (hk : k ≠ 0) : Bd R (tK R k) := bd_tk hE k (isK k) (fun y h => by unfold isK; rw [h, beq_eq_false_iff_ne]; omega)
theorem bd_St (hE : EndR R) : Bd R (tSt R) := bd_tk hE 2 isSt (fun y h => by unfold isSt; rw [h]; rfl)
theorem bd_Ed (hE : EndR R) : Bd R (tEd R) := bd_tk hE 20 isEd (fun y h => by unfold isEd; rw [h]; rfl)
theorem bd_Sl (hE : EndR R) : Bd R (tSl R) := bd_tk hE 20 isSl (fun y h => by unfold isSl; rw [h]; rfl)
theorem Bd.or {p q : MS → Bool × MS} (hp : Bd R p) (hq : Bd R q) : Bd R (orT p q) := by
  intro s hs
  unfold orT
  split
  · exact hp s hs
  · exact hq _ (hp s hs)
theorem Bd.and {p q : MS → Bool × MS} (hp : Bd R p) (hq : Bd R q) : Bd R (andT p q) := by
  intro s hs
  unfold andT
  split
  · exact hq _ (hp s hs)
  · exact hp s hs
theorem bd_Side (hE : EndR R) : Bd R (tSide R) := ((bd_K hE 1 (by decide)).or (bd_K hE 3 (by decide))).or (bd_St hE)
theorem bd_Sides (hE : EndR R) : Bd R (tSides R) := (((bd_Side hE).and (bd_K hE 7 (by decide))).and (bd_Side hE)).and ((bd_K hE 11 (by decide)).or (bd_K hE 13 (by decide)))
theorem bd_Join (hE : EndR R) : Bd R (tJoin R) := ((bd_K hE 5 (by decide)).or (bd_K hE 4 (by decide))).or (bd_K hE 17 (by decide))
theorem tk0_no {s : MS} (h : (tK R 0 s).1 = false) : (tK R 0 s).2.at' = s.at' := by
  have h : isK 0 (tkA R s.at') = false := h
  show (s.pass 0 (isK 0 (tkA R s.at'))).at' = s.at'
  unfold MS.pass
  rw [h]
  rfl
def InR (R : List Tn) (x : (Nat ⊕ Bool) × MS) : Prop := (∃ l, x.1 = .inl l ∧ x.2.at' < R.length) ∨ (∃ b, x.1 = .inr b ∧ (b = false → x.2.at' < R.length))
theorem in_go {l : Nat} {s : MS} (h : s.at' < R.length) : InR R (.inl l, s) := .inl ⟨l, rfl, h⟩
theorem in_no {s : MS} (h : s.at' < R.length) : InR R (.inr false, s) := .inr ⟨false, rfl, fun _ => h⟩
theorem in_yes {s : MS} : InR R (.inr true, s) := .inr ⟨true, rfl, fun h => by cases h⟩
theorem in_5e (hE : EndR R) {s : MS} (h : s.at' < R.length) : InR R (stp5e R s) := by
  unfold stp5e
  split
  · split
    · exact in_yes
    · rename_i q
      exact in_go (by rw [tk0_no (by simpa using q)]; exact h)
  · rename_i l r _
    split
    · refine in_go (bd_K hE 21 (by decide) _ ?_)
      exact bd_K hE 9 (by decide) _ h
    · exact in_go (bd_K hE 9 (by decide) _ h)
theorem in_stp (hE : EndR R) (lab : Nat) {s : MS} (h : s.at' < R.length) : InR R (stpM R lab s) := by
  have K : ∀ k, k ≠ 0 → ∀ s : MS, s.at' < R.length → (tK R k s).2.at' < R.length := fun k hk s hs => bd_K hE k hk s hs
  have St := bd_St hE
  have Ed := bd_Ed hE
  have Sl := bd_Sl hE
  unfold stpM
  split
  · exact in_go (((bd_K hE 15 (by decide)).or (bd_K hE 16 (by decide))) s h)
  split
  · have h6 := K 6 (by decide) s h
    have hs := St _ h6
    have h1 := K 1 (by decide) _ hs
    unfold stp1
    split
    · exact in_go h6
    · split
      · exact in_go hs
      · split <;> exact in_go h1
  split
  · have h8 := K 8 (by decide) s h
    have h10 := K 10 (by decide) _ h8
    have h12 := K 12 (by decide) _ h10
    have h3 := K 3 (by decide) _ h12
    have h1 := K 1 (by decide) _ h3
    have h2 := K 2 (by decide) _ h1
    have hS : ∀ t : MS, t.at' < R.length → InR R (stpS R t) := fun t ht => by
      unfold stpS
      split
      · exact in_go (bd_Sides hE t ht)
      · exact in_no (bd_Sides hE t ht)
    unfold stp2
    split
    · exact in_go h8
    · split
      · exact hS _ h10
      · split
        · exact hS _ h12
        · unfold stp2e
          split
          · exact in_go (Sl _ h3)
          · split
            · exact in_go (Ed _ h1)
            · split
              · exact in_go h2
              · exact in_no h2
  split
  · have h14 := K 14 (by decide) s h
    unfold stp3
    split
    · split
      · exact in_go (St _ h14)
      · exact in_no (St _ h14)
    · exact in_go h14
  split
  · have h14 := K 14 (by decide) s h
    unfold stp4
    split
    · exact in_go h14
    · exact in_go (Ed _ h14)
  · have ho := ((bd_K hE 18 (by decide)).or (bd_K hE 19 (by decide))) s h
    unfold stp5
    split
    · exact in_go ho
    · unfold stp5u
      split
      · exact in_5e hE ho
      · split
        · exact in_go (bd_Join hE _ ho)
        · exact in_5e hE (bd_Join hE _ ho)
theorem run_in (hE : EndR R) : ∀ (f lab : Nat) (s : MS), s.at' < R.length → (runF R f lab s).1 = false → (runF R f lab s).2.at' < R.length := by
  intro f
  induction f with
  | zero => intro lab s h _; exact h
  | succ f ih =>
    intro lab s h
    rcases in_stp hE lab h with ⟨l, h1, h2⟩ | ⟨b, h1, h2⟩
    · have e : stpM R lab s = (.inl l, (stpM R lab s).2) := by rw [← h1]
      rw [runF_go e]
      exact ih l _ h2
    · have e : stpM R lab s = (.inr b, (stpM R lab s).2) := by rw [← h1]
      rw [runF_ret e]
      exact h2
theorem runR_in (hE : EndR R) (h : (runR R).1 = false) : (runR R).2.at' < R.length := by
  refine run_in hE _ 0 s00 ?_ h
  obtain ⟨y, hy, _⟩ := hE
  have := (List.getElem?_eq_some_iff.1 hy).1
  show 0 < R.length
  omega
/-- What judge answers: the nest, or the place of the fault. -/
def jdPost (w : World) (ad : Addr) (R : List Tn) (x : Ending) (w' : World) : Prop :=
  (((runR R).1 = true ∧ x = .returned (.tuple #[.int .i64 (((runR R).2.top.n : Nat) : Int), .int .i64 0, .nilIface])) ∨ ((runR R).1 = false ∧ x = .returned (.tuple #[.int .i64 0, .int .i64 (tkA R (runR R).2.at').a, synV ad]))) ∧ Kept (fun _ => False) w w'
set_option maxRecDepth 20000 in
set_option maxHeartbeats 4000000 in
theorem judge_any (n : Nat) (ad : Addr) (hn : n = R.length) (hR : Rw w a0 R) (hr : R.length ≤ 500000000000) (hE : EndR R) (hS : SynAt w ad) : Calls Tryd.prog 13 #[.slice a0 n rc] w (jdPost w ad R) := by
  subst hn
  have CR := hideL (run_any (mc_start (rc := rc) hR hr) (goo_start R))
  unfold rnPost at CR
  obtain ⟨B, t, hZ⟩ : ∃ B t, runR R = (B, t) := ⟨_, _, rfl⟩
  have hin := runR_in hE
  unfold jdPost
  rw [hZ] at CR hin ⊢
  dsimp only at CR hin ⊢
  have HR := hideL hR
  have HS := hideL hS
  clear hZ hE hR hS
  cases B with
  | true =>
    generalize R.length = n at *
    clear hin
    go_enter Tryd.func13, Tryd.ntmps13
    go_wp2_with (go_at_call 17; refine CR.out.mono ?_; clear CR; rintro e W1 ⟨rfl, v1, h1⟩; have H1 := hideL h1; have x4 := H1.out.cells.2.2.2.2.1; clear h1)
    go_ret3
    exact ⟨.inl ⟨trivial, rfl⟩, H1.out.kept⟩
  | false =>
    have hlt := hin rfl
    have hne : R ≠ [] := by intro e; rw [e] at hlt; simp at hlt
    obtain ⟨g, o, e0, hc⟩ := HR.out hne
    have hy : R[t.at']? = some R[t.at'] := List.getElem?_eq_getElem hlt
    have et : tkA R t.at' = R[t.at'] := by unfold tkA; rw [hy]; rfl
    have HC := hideL (fun W (k : Kept (fun _ => False) w W) => ((hc _ _ hy).later k).c3)
    rw [et]
    have hz : (t.at' : Int) < (R.length : Int) := by omega
    subst e0
    generalize R[t.at'] = Y at *
    generalize hp : t.at' = p at *
    generalize R.length = n at *
    have HPp := hideL hp
    clear hin hc hy et hne hlt hp HR
    go_enter Tryd.func13, Tryd.ntmps13
    go_wp2_with (go_at_call 17; refine CR.out.mono ?_; clear CR; rintro e W1 ⟨rfl, v1, h1⟩; have H1 := hideL h1; have x1 := H1.out.cells.2.1; rw [HPp.out] at x1; have x3 := HC.out W1 H1.out.kept; have xs := (HS.out.later H1.out.kept).var; unfold synV at xs; clear h1)
    go_region
    all_goals go_wp2_with fail
    all_goals go_ret3
    all_goals exact ⟨.inr ⟨trivial, rfl⟩, H1.out.kept.trans (Kept.drew _) (fun _ f => f.elim)⟩
end Go.Proofs.YtiemiphlfbaojaaDoor
