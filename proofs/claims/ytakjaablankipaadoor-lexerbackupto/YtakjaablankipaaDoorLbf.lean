import Derived.Test.YtakjaablankipaaDoorLbe
namespace Go.Proofs.YtakjaablankipaaDoor
open Go.ChangeShapes Go.WideShapes Go.ChangeAt Go.RowKit

/-! The law LexerBack. -/
def KsL (w : World) (a : Option Addr) (X : List (List UInt8)) : Prop := X ≠ [] → ∃ b off, a = some ⟨b, off, none⟩ ∧ ∀ j (h : j < X.length), w.cell? ⟨b, off + j, none⟩ = some (.string (bq X[j]))
def GpL (w : World) (a : Option Addr) (gf : Nat → Bool) (n : Nat) : Prop := 0 < n → ∃ b off, a = some ⟨b, off, none⟩ ∧ ∀ j, j < n → w.cell? ⟨b, off + j, none⟩ = some (.bool (gf j))
def szs (X : List (List UInt8)) : Nat := (X.map (fun x => x.length + 1)).sum
theorem szs_next (X : List (List UInt8)) (i : Nat) (h : i < X.length) : szs (X.take (i + 1)) = szs (X.take i) + X[i].length + 1 := by
  unfold szs
  rw [List.take_succ_eq_append_getElem h, List.map_append, List.sum_append]
  simp [Nat.add_assoc]
theorem szs_le (X : List (List UInt8)) (i : Nat) : szs (X.take i) ≤ szs X := by
  have : szs X = szs (X.take i) + szs (X.drop i) := by
    unfold szs
    rw [← List.sum_append, ← List.map_append, List.take_append_drop]
  omega
/-- A pattern under way: its elements, its text, its canonical form. -/
structure ElI (E : List (UInt8 × Bool)) (P C : ByteArray) (st : Bool) (m : Nat) : Prop where
  els : Els E
  p : P = bq (E.flatMap wr1)
  c : C = bq (E.flatMap cnE)
  s : st = E.any isW
  n : E.length ≤ m
theorem flat_len {f : UInt8 × Bool → List UInt8} (hf : ∀ x, (f x).length ≤ 2) : ∀ E : List (UInt8 × Bool), (E.flatMap f).length ≤ 2 * E.length := by
  intro E
  induction E with
  | nil => simp
  | cons x E ih => rw [List.flatMap_cons, List.length_append, List.length_cons]; have := hf x; omega
theorem wr1_len (x : UInt8 × Bool) : (wr1 x).length ≤ 2 := by unfold wr1; split <;> simp
theorem cnE_len (x : UInt8 × Bool) : (cnE x).length ≤ 2 := by unfold cnE; split <;> simp
theorem ElI.sizes {E : List (UInt8 × Bool)} {P C : ByteArray} {st : Bool} {m : Nat} (h : ElI E P C st m) : P.size ≤ 2 * m ∧ C.size ≤ 2 * m := by
  have h1 := flat_len wr1_len E
  have h2 := flat_len cnE_len E
  have h3 := h.n
  rw [h.p, h.c, bq_size, bq_size]
  omega
theorem eli_start : ElI [] ⟨#[]⟩ ⟨#[]⟩ false 0 := ⟨fun _ h => (by cases h), rfl, rfl, rfl, Nat.le_refl _⟩
theorem ElI.more {E : List (UInt8 × Bool)} {P C : ByteArray} {st : Bool} {m m' : Nat} (h : ElI E P C st m) (hm : m ≤ m') : ElI E P C st m' := ⟨h.els, h.p, h.c, h.s, Nat.le_trans h.n hm⟩
theorem els_snoc {E : List (UInt8 × Bool)} (h : Els E) {x : UInt8 × Bool} (hx : x.2 = true ∨ wdB x.1 = true) : Els (E ++ [x]) := by
  intro y hy
  rcases List.mem_append.1 hy with q | q
  · exact h y q
  · rw [List.mem_singleton.1 q]; exact hx
theorem ElI.letter {E : List (UInt8 × Bool)} {P C : ByteArray} {st : Bool} {m : Nat} (h : ElI E P C st m) (ch : UInt8) {P' C' : ByteArray} (hP : P' = P ++ bq [92, ch]) (hC : C' = C ++ bq (cnE (ch, true))) : ElI (E ++ [(ch, true)]) P' C' st (m + 1) := by
  refine ⟨els_snoc h.els (.inl rfl), ?_, ?_, ?_, by rw [List.length_append]; have := h.n; simp; omega⟩
  · rw [hP, h.p, bq_append, List.flatMap_append]; simp [wr1]
  · rw [hC, h.c, bq_append, List.flatMap_append]; simp
  · rw [List.any_append, ← h.s]; simp [isW]
theorem ElI.gap {E : List (UInt8 × Bool)} {P C : ByteArray} {st : Bool} {m : Nat} (h : ElI E P C st m) (g : UInt8) (hg : wdB g = true) {P' C' : ByteArray} (hP : P' = P ++ bq [g]) (hC : C' = C ++ bq [g]) : ElI (E ++ [(g, false)]) P' C' true (m + 1) := by
  refine ⟨els_snoc h.els (.inr hg), ?_, ?_, ?_, by rw [List.length_append]; have := h.n; simp; omega⟩
  · rw [hP, h.p, bq_append, List.flatMap_append]; simp [wr1]
  · rw [hC, h.c, bq_append, List.flatMap_append]; simp [cnE]
  · rw [List.any_append]; simp [isW, hg]
theorem cn_yes (ch : UInt8) (h : ch = 42 ∨ ch = 63 ∨ ch = 92) : cnE (ch, true) = [92, ch] := by rcases h with rfl | rfl | rfl <;> rfl
theorem cn_not (ch : UInt8) (h1 : ch ≠ 42) (h2 : ch ≠ 63) (h3 : ch ≠ 92) : cnE (ch, true) = [ch] := by unfold cnE wdB; simp [h1, h2, h3]
theorem wordF_len (s : List UInt8) : (wordF s).length ≤ 2 * s.length + 1 := by
  unfold wordF
  split
  · simp; omega
  · have := wl_len s; omega
theorem quoteF_len (s : List UInt8) : (quoteF s).length ≤ 2 * s.length + 2 := by
  have := qF_len s
  unfold quoteF
  simp
  omega
theorem patF_len (s : List UInt8) : (patF s).length ≤ 2 * s.length := by
  have h1 := (ptF_len (sgn s) []).2
  have h2 := sgn_len s.length s (Nat.le_refl _)
  unfold patF
  split
  · simp at h1; omega
  · simp
theorem one_string (w : World) (ch : UInt8) (z : Int) (hz : z = (ch.toNat : Int)) : (convert 37 9 (.slice (some ⟨w.heap.size, 0, none⟩) 1 1)).run Tryd.prog (w.alloc (.cells #[.int .u8 z] 5)) = .ok (.string (bq [ch])) (w.alloc (.cells #[.int .u8 z] 5)) := by
  subst hz
  have g : Gro w (w.alloc (.cells #[.int .u8 (ch.toNat : Int)] 5)) 5 1 (.slice (some ⟨w.heap.size, 0, none⟩) 1 1) 1 (bu [ch]) :=
    ⟨⟨rfl, .inr ⟨w.heap.size, 1, #[.int .u8 (ch.toNat : Int)], rfl, Nat.le_refl _, heap_alloc_new w _, Nat.le_refl _, by decide, rfl, rfl⟩⟩, Kept.alloc _ _⟩
  exact gro_string g rfl
theorem bq_ne (s : List UInt8) (h : s ≠ []) : ((bq s).toList == []) = false := by
  rw [bq_list]
  cases s with
  | nil => exact absurd rfl h
  | cons c s => rfl
set_option maxRecDepth 20000 in
set_option maxHeartbeats 4000000 in
theorem back_long (s : List UInt8) (n ng : Nat) (a a2 : Option Addr) (c c2 : Nat) (x y : Int) (w : World) (ad : Addr) (hC : ClsAt w) (hS : SynAt w ad) (hn1 : 1000 < n) :
    Calls Tryd.prog 4 #[.string (bq s), .slice a n c, .slice a2 ng c2, .int .i64 x, .int .i64 y] w fun e w' => e = .returned (.bool true) ∧ Kept (fun _ => False) w w' := by
  have CV := hideL (lives13_any w ad hC hS)
  have hnz : (1000 : Int) < (n : Int) := by omega
  generalize bq s = S at *
  clear hC hS
  go_enter Tryd.func4, Tryd.ntmps4
  go_wp2_with (go_at_call 5; refine CV.out.mono ?_; clear CV; rintro e W1 ⟨rfl, k1⟩; have KK := hideL k1; clear k1)
  go_ret
  exact ⟨rfl, KK.out⟩
set_option maxRecDepth 20000 in
set_option maxHeartbeats 8000000 in
theorem back_cons (s : List UInt8) (hs : s.length ≤ 1048576) (hs0 : s ≠ []) (X : List (List UInt8)) (gf : Nat → Bool) (n ng : Nat) (a a2 : Option Addr) (c c2 : Nat) (x y : Int) (w : World) (ad : Addr) (hC : ClsAt w) (hS : SynAt w ad) (hn : n = X.length) (hn1 : n ≤ 1000) (hX : KsL w a X) (hG : GpL w a2 gf ng) (hT : szs X ≤ 1048576) (hng : ng ≤ 1048576) :
    Calls Tryd.prog 4 #[.string (bq s), .slice a n c, .slice a2 ng c2, .int .i64 x, .int .i64 y] w fun e w' => e = .returned (.bool true) ∧ Kept (fun _ => False) w w' := by
  have CV := hideL (lives13_any w ad hC hS)
  have CW := hideL (fun W (k : Kept (fun _ => False) w W) => word_any s W (hC.later k) (by omega))
  have l1 := wordF_len s
  have l3 := quoteF_len s
  have CL1 := hideL (fun W (k : Kept (fun _ => False) w W) => lone_any (wordF s) s 1 W ad (hC.later k) (hS.later k) (by omega) (word_back s hs0))
  have CQ := hideL (fun W => quote_any s W (by omega))
  have CL3 := hideL (fun W (k : Kept (fun _ => False) w W) => lone_any (quoteF s) s 3 W ad (hC.later k) (hS.later k) (by omega) (quote_back s))
  have CX1 := hideL (fun W (k : Kept (fun _ => False) w W) => wrapped_any (wordF s) W ad (hC.later k) (hS.later k) (by omega) (by rw [word_back s hs0]) x y)
  have g0 := bq_ne s hs0
  generalize bq (wordF s) = D at *
  generalize bq (quoteF s) = D3 at *
  generalize bq s = S at *
  clear l1 l3 hs hs0
  have CP := hideL (fun W (k : Kept (fun _ => False) w W) (l : List UInt8) (h : l.length ≤ 400000000000) => pattern_any l W (hC.later k) h)
  have CL2 := hideL (fun W (k : Kept (fun _ => False) w W) (E : List (UInt8 × Bool)) (h : Els E) (hw : E.any isW = true) (hl : (patF (E.flatMap wr1)).length ≤ 400000000000) => lone_any _ _ 2 W ad (hC.later k) (hS.later k) hl (pat_back h hw))
  have CX2 := hideL (fun W (k : Kept (fun _ => False) w W) (E : List (UInt8 × Bool)) (h : Els E) (hw : E.any isW = true) (hl : (patF (E.flatMap wr1)).length ≤ 100000000000) => wrapped_any _ W ad (hC.later k) (hS.later k) hl (by rw [pat_back h hw]) x y)
  have HX := hideL hX
  have HG := hideL hG
  have HN := hideL hn
  have HT := hideL hT
  have hnz : ¬ (1000 : Int) < (n : Int) := by omega
  have HE0 : Hid (ElI [] ⟨#[]⟩ ⟨#[]⟩ false (szs (X.take 0))) := hideL eli_start
  have s0 : (⟨#[]⟩ : ByteArray).size ≤ 4194304 := by decide
  clear hC hS hX hG hn hT
  go_enter Tryd.func4, Tryd.ntmps4
  go_wp2_with (first
    | (go_at_call 5; refine CV.out.mono ?_; clear CV; rintro e W1 ⟨rfl, k1⟩; have KK := hideL k1; clear k1)
    | (go_at_call 10; refine (CW.out _ KK.out).mono ?_; rintro e WN ⟨rfl, k⟩; replace KK := hideL (KK.out.trans k (fun _ f => f.elim)); clear k)
    | (go_at_call 12; refine (CQ.out _).mono ?_; rintro e WN ⟨rfl, k⟩; replace KK := hideL (KK.out.trans k (fun _ f => f.elim)); clear k)
    | (go_at_call 11; refine (CL1.out _ KK.out).mono ?_; clear CL1; rintro e WN ⟨rfl, k⟩; replace KK := hideL (KK.out.trans k (fun _ f => f.elim)); clear k)
    | (go_at_call 11; refine (CL3.out _ KK.out).mono ?_; clear CL3; rintro e WN ⟨rfl, k⟩; replace KK := hideL (KK.out.trans k (fun _ f => f.elim)); clear k))
  clear CQ
  go_loopw [12, 13, 14, 46] (fun pv cv sv iv wr => ∃ (i : Nat) (P C : ByteArray) (st : Bool) (E : List (UInt8 × Bool)), pv = .string P ∧ cv = .string C ∧ sv = .bool st ∧ iv = .int .i64 i ∧ i ≤ n ∧ P.size ≤ 4194304 ∧ C.size ≤ 4194304 ∧ Hid (ElI E P C st (szs (X.take i))) ∧ Hid (Kept (fun _ => False) w wr)) (fun _ _ _ iv _ => n - (intOf iv).toNat)
  case atStart => exact ⟨0, _, _, _, _, rfl, rfl, rfl, rfl, by omega, s0, s0, HE0, KK⟩
  case round =>
    obtain ⟨i, P, C, st, E, rfl, rfl, rfl, rfl, hi, hP, hCs, HE, HK⟩ := hrel
    clear HE0 KK s0
    by_cases hlt : i < n
    · have hil : i < X.length := by rw [← HN.out]; exact hlt
      have hiz : (i : Int) < (n : Int) := by omega
      obtain ⟨b1, o1, e1, hc1⟩ := HX.out (fun e => by rw [e] at hil; simp at hil)
      have xi := HK.out.cell (hc1 i hil) (fun f => f)
      have HSN := hideL (szs_next X i hil)
      have hmx : szs (X.take (i + 1)) ≤ 1048576 := Nat.le_trans (szs_le X (i + 1)) HT.out
      rw [HSN.out] at hmx
      obtain ⟨xl, hxl⟩ : ∃ xl, xl = X[i] := ⟨_, rfl⟩
      rw [← hxl] at xi hmx HSN
      obtain ⟨xn, hxn⟩ : ∃ xn, xn = xl.length := ⟨_, rfl⟩
      obtain ⟨xs, hxs⟩ : ∃ xs, xs = bq xl := ⟨_, rfl⟩
      have hz : xs.size = xl.length := by rw [hxs]; exact bq_size xl
      have HXX : Hid (∀ k (h : k < xl.length) (h2 : k < xs.size), xs[k] = xl[k]) := hideL (fun k h h2 => by subst hxs; rfl)
      rw [← hxs] at xi
      rw [← hxn] at hz hmx HSN
      have HXN := hideL hxn
      obtain ⟨m, hm⟩ : ∃ m, m = szs (X.take i) := ⟨_, rfl⟩
      rw [← hm] at HE hmx HSN
      have HEj : Hid (ElI E P C st (m + 0)) := HE
      subst e1
      clear hxl hxn hxs hm HE hc1 hil
      go_wp2_with fail
      have HKo := hideL HK.out
      clear HK xi
      go_loopw [12, 13, 17] (fun pv cv jv wr => ∃ (j : Nat) (P C : ByteArray) (E : List (UInt8 × Bool)), pv = .string P ∧ cv = .string C ∧ jv = .int .i64 j ∧ j ≤ xn ∧ P.size ≤ 4194304 ∧ C.size ≤ 4194304 ∧ Hid (ElI E P C st (m + j)) ∧ Hid (Kept (fun _ => False) w wr)) (fun _ _ jv _ => xn - (intOf jv).toNat)
      case atStart => exact ⟨0, _, _, _, rfl, rfl, rfl, by omega, hP, hCs, HEj, HKo⟩
      case round =>
      obtain ⟨j, Q, D, F, rfl, rfl, rfl, hj, hQ, hDs, HF, HK⟩ := hrel
      clear HEj HKo hP hCs
      by_cases hjl : j < xn
      · have hjx : j < xl.length := by rw [← HXN.out]; exact hjl
        have hjs : j < xs.size := by rw [hz]; exact hjl
        have hjz : (j : Int) < (xn : Int) := by omega
        have c0 := HXX.out j hjx hjs
        obtain ⟨ch, hch⟩ : ∃ ch, ch = xl[j] := ⟨_, rfl⟩
        rw [← hch] at c0
        obtain ⟨z, hzc⟩ : ∃ z, z = ch.toNat := ⟨_, rfl⟩
        have c3 : xs[j].toNat = z := by rw [c0, hzc]
        have hcv := one_string wr ch (z : Int) (by rw [hzc])
        have KA := hideL (HK.out.trans (Kept.alloc wr (.cells #[.int .u8 (z : Int)] 5)) (fun _ f => f.elim))
        have b92 : (⟨#[92]⟩ : ByteArray) ++ bq [ch] = bq [92, ch] := bq_append [92] [ch]
        have sc : (bq [ch]).size = 1 := rfl
        have sc2 : (bq [92, ch]).size = 2 := rfl
        obtain ⟨Q2, hQ2⟩ : ∃ Q2, Q2 = Q ++ bq [92, ch] := ⟨_, rfl⟩
        have hszQ := HF.out.sizes
        have hw : (ch = 42 ∨ ch = 63 ∨ ch = 92) ∨ (ch ≠ 42 ∧ ch ≠ 63 ∧ ch ≠ 92) := by
          by_cases h1 : ch = 42
          · exact .inl (.inl h1)
          · by_cases h2 : ch = 63
            · exact .inl (.inr (.inl h2))
            · by_cases h3 : ch = 92
              · exact .inl (.inr (.inr h3))
              · exact .inr ⟨h1, h2, h3⟩
        have q42 : ((bq [ch]).toList == [42]) = (ch == 42) := by rw [bq_list]; simp
        have q63 : ((bq [ch]).toList == [63]) = (ch == 63) := by rw [bq_list]; simp
        have q92 : ((bq [ch]).toList == [92]) = (ch == 92) := by rw [bq_list]; simp
        rcases hw with hw | ⟨h1, h2, h3⟩
        · obtain ⟨D2, hD2⟩ : ∃ D2, D2 = D ++ (⟨#[92]⟩ : ByteArray) := ⟨_, rfl⟩
          obtain ⟨D3x, hD3x⟩ : ∃ D3x, D3x = D2 ++ bq [ch] := ⟨_, rfl⟩
          have hD3 : D3x = D ++ bq (cnE (ch, true)) := by rw [hD3x, hD2, cn_yes ch hw, ByteArray.append_assoc, b92]
          have hD2s : D2.size ≤ 4194305 := by rw [hD2, ByteArray.size_append]; show D.size + 1 ≤ _; omega
          have e3 : D ++ (⟨#[92]⟩ : ByteArray) = D2 := hD2.symm
          have e4 : D2 ++ bq [ch] = D3x := hD3x.symm
          clear hD2 hD3x
          have HF2 := hideL (HF.out.letter ch hQ2 hD3)
          have hsz2 := HF2.out.sizes
          have hQ2s : Q2.size ≤ 4194304 := by omega
          have hD3s : D3x.size ≤ 4194304 := by omega
          generalize bq [92, ch] = c92 at *
          generalize bq [ch] = cs at *
          have e2 : Q ++ c92 = Q2 := hQ2.symm
          have sc9 : cs.size ≤ 1 := by omega
          have sc8 : c92.size ≤ 2 := by omega
          clear hQ2 hch hzc c0 HF HK hszQ hsz2 sc sc2 hjx hD3
          rcases hw with rfl | rfl | rfl
          all_goals
            have q42 : (cs.toList == [42]) = _ := q42
            simp only [beq_self_eq_true, show ((63 : UInt8) == 42) = false from rfl, show ((92 : UInt8) == 42) = false from rfl, show ((92 : UInt8) == 63) = false from rfl, show ((42 : UInt8) == 63) = false from rfl, show ((42 : UInt8) == 92) = false from rfl, show ((63 : UInt8) == 92) = false from rfl] at q42 q63 q92
            go_wp2_with fail
            go_roundw
            case rel => exact ⟨j + 1, _, _, _, rfl, rfl, by go_num, by omega, hQ2s, hD3s, HF2, KA⟩
            case measure => simp [intOf] <;> omega
        · obtain ⟨D3x, hD3x⟩ : ∃ D3x, D3x = D ++ bq [ch] := ⟨_, rfl⟩
          have hD3 : D3x = D ++ bq (cnE (ch, true)) := by rw [hD3x, cn_not ch h1 h2 h3]
          have e4 : D ++ bq [ch] = D3x := hD3x.symm
          rw [beq_eq_false_iff_ne.2 h1] at q42
          rw [beq_eq_false_iff_ne.2 h2] at q63
          rw [beq_eq_false_iff_ne.2 h3] at q92
          clear hD3x h1 h2 h3
          have HF2 := hideL (HF.out.letter ch hQ2 hD3)
          have hsz2 := HF2.out.sizes
          have hQ2s : Q2.size ≤ 4194304 := by omega
          have hD3s : D3x.size ≤ 4194304 := by omega
          generalize bq [92, ch] = c92 at *
          generalize bq [ch] = cs at *
          have e2 : Q ++ c92 = Q2 := hQ2.symm
          have sc9 : cs.size ≤ 1 := by omega
          have sc8 : c92.size ≤ 2 := by omega
          clear hQ2 hch hzc c0 HF HK hszQ hsz2 sc sc2 hjx hD3
          go_wp2_with fail
          go_roundw
          case rel => exact ⟨j + 1, _, _, _, rfl, rfl, by go_num, by omega, hQ2s, hD3s, HF2, KA⟩
          case measure => simp [intOf] <;> omega
      · obtain rfl : j = xn := by omega
        have hjz : ¬ (j : Int) < (j : Int) := by omega
        have hsz := HF.out.sizes
        by_cases hg : i < ng
        · have hgz : (i : Int) < (ng : Int) := by omega
          obtain ⟨b2, o2, e2, hc2⟩ := HG.out (by omega)
          have xg := HK.out.cell (hc2 i hg) (fun f => f)
          have w42 : wdB 42 = true := rfl
          have w63 : wdB 63 = true := rfl
          obtain ⟨P4, hP4⟩ : ∃ P4, P4 = Q ++ (⟨#[42]⟩ : ByteArray) := ⟨_, rfl⟩
          obtain ⟨C4, hC4⟩ : ∃ C4, C4 = D ++ (⟨#[42]⟩ : ByteArray) := ⟨_, rfl⟩
          obtain ⟨P6, hP6⟩ : ∃ P6, P6 = Q ++ (⟨#[63]⟩ : ByteArray) := ⟨_, rfl⟩
          obtain ⟨C6, hC6⟩ : ∃ C6, C6 = D ++ (⟨#[63]⟩ : ByteArray) := ⟨_, rfl⟩
          have H4 := hideL (HF.out.gap 42 w42 hP4 hC4)
          have H6 := hideL (HF.out.gap 63 w63 hP6 hC6)
          have z4 := H4.out.sizes
          have z6 := H6.out.sizes
          rw [show m + j + 1 = szs (X.take (i + 1)) from HSN.out.symm] at H4 H6
          have p4 : P4.size ≤ 4194304 := by omega
          have p6 : P6.size ≤ 4194304 := by omega
          have c4 : C4.size ≤ 4194304 := by omega
          have c6 : C6.size ≤ 4194304 := by omega
          have e4 : Q ++ (⟨#[42]⟩ : ByteArray) = P4 := hP4.symm
          have e5 : D ++ (⟨#[42]⟩ : ByteArray) = C4 := hC4.symm
          have e6 : Q ++ (⟨#[63]⟩ : ByteArray) = P6 := hP6.symm
          have e7 : D ++ (⟨#[63]⟩ : ByteArray) = C6 := hC6.symm
          subst e2
          clear hP4 hC4 hP6 hC6 hc2 z4 z6 w42 w63 HF hsz
          cases hgf : gf i with
          | true =>
            rw [hgf] at xg
            clear hgf
            go_wp2_with fail
            go_roundw
            case rel => exact ⟨i + 1, _, _, _, _, rfl, rfl, rfl, by go_num, by omega, p6, c6, H6, HK⟩
            case measure => simp [intOf] <;> omega
          | false =>
            rw [hgf] at xg
            clear hgf
            go_wp2_with fail
            go_roundw
            case rel => exact ⟨i + 1, _, _, _, _, rfl, rfl, rfl, by go_num, by omega, p4, c4, H4, HK⟩
            case measure => simp [intOf] <;> omega
        · have hgz : ¬ (i : Int) < (ng : Int) := by omega
          have H4 := hideL (HF.out.more (Nat.le_succ (m + j)))
          rw [show (m + j).succ = szs (X.take (i + 1)) from HSN.out.symm] at H4
          clear HF hsz
          go_wp2_with fail
          go_roundw
          case rel => exact ⟨i + 1, _, _, _, _, rfl, rfl, rfl, by go_num, by omega, hQ, hDs, H4, HK⟩
          case measure => simp [intOf] <;> omega
    · obtain rfl : i = n := by omega
      have hiz : ¬ (i : Int) < (i : Int) := by omega
      have KK := hideL HK.out
      have hEl := HE.out.n
      have hEm := Nat.le_trans (szs_le X i) HT.out
      have hE1 := flat_len wr1_len E
      have hE2 := flat_len cnE_len E
      have hPe := HE.out.p
      have hCe := HE.out.c
      have hse := HE.out.s
      have hels := HE.out.els
      obtain ⟨hpa, hpb⟩ := pat_same hels
      have hpl := patF_len (E.flatMap wr1)
      clear HE HK hP hCs HX HG HT HN
      cases st with
      | false =>
        rw [← hse, if_neg (by decide)] at hpa
        have C1 : Hid (∀ W, Kept (fun _ => False) w W → Calls Tryd.prog 13 #[.string P] W fun e w' => e = .returned (.string ⟨#[]⟩) ∧ Kept (fun _ => False) W w') := hideL (fun W k => by have := CP.out W k (E.flatMap wr1) (by omega); rw [hpa] at this; rw [hPe]; exact this)
        have C2 : Hid (∀ W, Kept (fun _ => False) w W → Calls Tryd.prog 13 #[.string C] W fun e w' => e = .returned (.string ⟨#[]⟩) ∧ Kept (fun _ => False) W w') := hideL (fun W k => by have := CP.out W k (E.flatMap cnE) (by omega); rw [hpb, hpa] at this; rw [hCe]; exact this)
        clear hPe hCe hse hels hpa hpb hpl hE1 hE2 hEm hEl CP CL2 CX2 CX1 CW
        go_wp2_with (first
          | (go_at_call 13; refine (C1.out _ KK.out).mono ?_; clear C1; rintro e WN ⟨rfl, k⟩; replace KK := hideL (KK.out.trans k (fun _ f => f.elim)); clear k)
          | (go_at_call 13; refine (C2.out _ KK.out).mono ?_; clear C2; rintro e WN ⟨rfl, k⟩; replace KK := hideL (KK.out.trans k (fun _ f => f.elim)); clear k))
        go_ret
        exact ⟨rfl, KK.out⟩
      | true =>
        obtain ⟨T, hTe⟩ : ∃ T, T = bq (patF (E.flatMap wr1)) := ⟨_, rfl⟩
        obtain ⟨P4, hP4⟩ : ∃ P4, P4 = P ++ (⟨#[92]⟩ : ByteArray) := ⟨_, rfl⟩
        have hP4b : P4 = bq (E.flatMap wr1 ++ [92]) := by rw [hP4, hPe]; exact bq_append _ [92]
        have hPs : P.size ≤ 4194304 := by rw [hPe, bq_size]; omega
        have C1 : Hid (∀ W, Kept (fun _ => False) w W → Calls Tryd.prog 13 #[.string P] W fun e w' => e = .returned (.string T) ∧ Kept (fun _ => False) W w') := hideL (fun W k => by have := CP.out W k (E.flatMap wr1) (by omega); rw [hPe, hTe]; exact this)
        have C2 : Hid (∀ W, Kept (fun _ => False) w W → Calls Tryd.prog 13 #[.string C] W fun e w' => e = .returned (.string T) ∧ Kept (fun _ => False) W w') := hideL (fun W k => by have := CP.out W k (E.flatMap cnE) (by omega); rw [hpb] at this; rw [hCe, hTe]; exact this)
        have C4 : Hid (∀ W, Kept (fun _ => False) w W → Calls Tryd.prog 13 #[.string P4] W fun e w' => e = .returned (.string ⟨#[]⟩) ∧ Kept (fun _ => False) W w') := hideL (fun W k => by have := CP.out W k (E.flatMap wr1 ++ [92]) (by rw [List.length_append]; show _ + 1 ≤ _; omega); rw [pat_lone hels] at this; rw [hP4b]; exact this)
        have C3 : Hid (∀ W, Kept (fun _ => False) w W → Calls Tryd.prog 11 #[.string T, .int .i64 2, .string C] W fun e w' => e = .returned (.bool true) ∧ Kept (fun _ => False) W w') := hideL (fun W k => by have := CL2.out W k E hels hse.symm (by omega); rw [hTe, hCe]; exact this)
        have C6 : Hid (∀ W, Kept (fun _ => False) w W → Calls Tryd.prog 14 #[.string T, .int .i64 x, .int .i64 y] W fun e w' => e = .returned (.bool true) ∧ Kept (fun _ => False) W w') := hideL (fun W k => by have := CX2.out W k E hels hse.symm (by omega); rw [hTe]; exact this)
        have C1b := hideL C1.out
        have C1c := hideL C1.out
        have e4 : P ++ (⟨#[92]⟩ : ByteArray) = P4 := hP4.symm
        have q1 : (T.toList == T.toList) = true := by simp
        clear hPe hCe hse hels hpa hpb hpl hE1 hE2 hEm hEl CP CL2 CX2 hTe hP4 hP4b
        go_wp2_with (first
          | (go_at_call 13; refine (C1.out _ KK.out).mono ?_; clear C1; rintro e WN ⟨rfl, k⟩; replace KK := hideL (KK.out.trans k (fun _ f => f.elim)); clear k)
          | (go_at_call 13; refine (C2.out _ KK.out).mono ?_; clear C2; rintro e WN ⟨rfl, k⟩; replace KK := hideL (KK.out.trans k (fun _ f => f.elim)); clear k)
          | (go_at_call 13; refine (C1b.out _ KK.out).mono ?_; clear C1b; rintro e WN ⟨rfl, k⟩; replace KK := hideL (KK.out.trans k (fun _ f => f.elim)); clear k)
          | (go_at_call 13; refine (C4.out _ KK.out).mono ?_; clear C4; rintro e WN ⟨rfl, k⟩; replace KK := hideL (KK.out.trans k (fun _ f => f.elim)); clear k)
          | (go_at_call 13; refine (C1c.out _ KK.out).mono ?_; clear C1c; rintro e WN ⟨rfl, k⟩; replace KK := hideL (KK.out.trans k (fun _ f => f.elim)); clear k)
          | (go_at_call 11; refine (C3.out _ KK.out).mono ?_; clear C3; rintro e WN ⟨rfl, k⟩; replace KK := hideL (KK.out.trans k (fun _ f => f.elim)); clear k)
          | (go_at_call 10; refine (CW.out _ KK.out).mono ?_; clear CW; rintro e WN ⟨rfl, k⟩; replace KK := hideL (KK.out.trans k (fun _ f => f.elim)); clear k)
          | (go_at_call 14; refine (CX1.out _ KK.out).mono ?_; clear CX1; rintro e WN ⟨rfl, k⟩; replace KK := hideL (KK.out.trans k (fun _ f => f.elim)); clear k)
          | (go_at_call 14; refine (C6.out _ KK.out).mono ?_; clear C6; rintro e WN ⟨rfl, k⟩; replace KK := hideL (KK.out.trans k (fun _ f => f.elim)); clear k))
        go_ret
        exact ⟨rfl, KK.out⟩
set_option maxRecDepth 20000 in
set_option maxHeartbeats 8000000 in
theorem back_nil  (X : List (List UInt8)) (gf : Nat → Bool) (n ng : Nat) (a a2 : Option Addr) (c c2 : Nat) (x y : Int) (w : World) (ad : Addr) (hC : ClsAt w) (hS : SynAt w ad) (hn : n = X.length) (hn1 : n ≤ 1000) (hX : KsL w a X) (hG : GpL w a2 gf ng) (hT : szs X ≤ 1048576) (hng : ng ≤ 1048576) :
    Calls Tryd.prog 4 #[.string ⟨#[]⟩, .slice a n c, .slice a2 ng c2, .int .i64 x, .int .i64 y] w fun e w' => e = .returned (.bool true) ∧ Kept (fun _ => False) w w' := by
  have CV := hideL (lives13_any w ad hC hS)
  have CW : Hid (∀ W, Kept (fun _ => False) w W → Calls Tryd.prog 10 #[.string ⟨#[]⟩] W fun e w' => e = .returned (.string ⟨#[]⟩) ∧ Kept (fun _ => False) W w') := hideL (fun W k => by have := word_any [] W (hC.later k) (by simp); rwa [word_nil] at this)
  have CQ : Hid (∀ W, Calls Tryd.prog 12 #[.string ⟨#[]⟩] W fun e w' => e = .returned (.string (bq (quoteF []))) ∧ Kept (fun _ => False) W w') := hideL (fun W => quote_any [] W (by simp))
  have CL3 : Hid (∀ W, Kept (fun _ => False) w W → Calls Tryd.prog 11 #[.string (bq (quoteF [])), .int .i64 3, .string ⟨#[]⟩] W fun e w' => e = .returned (.bool true) ∧ Kept (fun _ => False) W w') := hideL (fun W k => lone_any (quoteF []) [] 3 W ad (hC.later k) (hS.later k) (by decide) (quote_back []))
  have CX1 : Hid (∀ W, Kept (fun _ => False) w W → Calls Tryd.prog 14 #[.string ⟨#[]⟩, .int .i64 x, .int .i64 y] W fun e w' => e = .returned (.bool true) ∧ Kept (fun _ => False) W w') := hideL (fun W k => wrapped_any [] W ad (hC.later k) (hS.later k) (by simp) (by unfold scanF; rw [sc_nil]) x y)
  generalize bq (quoteF []) = D3 at *
  have CP := hideL (fun W (k : Kept (fun _ => False) w W) (l : List UInt8) (h : l.length ≤ 400000000000) => pattern_any l W (hC.later k) h)
  have CL2 := hideL (fun W (k : Kept (fun _ => False) w W) (E : List (UInt8 × Bool)) (h : Els E) (hw : E.any isW = true) (hl : (patF (E.flatMap wr1)).length ≤ 400000000000) => lone_any _ _ 2 W ad (hC.later k) (hS.later k) hl (pat_back h hw))
  have CX2 := hideL (fun W (k : Kept (fun _ => False) w W) (E : List (UInt8 × Bool)) (h : Els E) (hw : E.any isW = true) (hl : (patF (E.flatMap wr1)).length ≤ 100000000000) => wrapped_any _ W ad (hC.later k) (hS.later k) hl (by rw [pat_back h hw]) x y)
  have HX := hideL hX
  have HG := hideL hG
  have HN := hideL hn
  have HT := hideL hT
  have hnz : ¬ (1000 : Int) < (n : Int) := by omega
  have HE0 : Hid (ElI [] ⟨#[]⟩ ⟨#[]⟩ false (szs (X.take 0))) := hideL eli_start
  have s0 : (⟨#[]⟩ : ByteArray).size ≤ 4194304 := by decide
  clear hC hS hX hG hn hT
  go_enter Tryd.func4, Tryd.ntmps4
  go_wp2_with (first
    | (go_at_call 5; refine CV.out.mono ?_; clear CV; rintro e W1 ⟨rfl, k1⟩; have KK := hideL k1; clear k1)
    | (go_at_call 10; refine (CW.out _ KK.out).mono ?_; rintro e WN ⟨rfl, k⟩; replace KK := hideL (KK.out.trans k (fun _ f => f.elim)); clear k)
    | (go_at_call 12; refine (CQ.out _).mono ?_; rintro e WN ⟨rfl, k⟩; replace KK := hideL (KK.out.trans k (fun _ f => f.elim)); clear k)
    | (go_at_call 11; refine (CL3.out _ KK.out).mono ?_; clear CL3; rintro e WN ⟨rfl, k⟩; replace KK := hideL (KK.out.trans k (fun _ f => f.elim)); clear k))
  clear CQ
  go_loopw [12, 13, 14, 46] (fun pv cv sv iv wr => ∃ (i : Nat) (P C : ByteArray) (st : Bool) (E : List (UInt8 × Bool)), pv = .string P ∧ cv = .string C ∧ sv = .bool st ∧ iv = .int .i64 i ∧ i ≤ n ∧ P.size ≤ 4194304 ∧ C.size ≤ 4194304 ∧ Hid (ElI E P C st (szs (X.take i))) ∧ Hid (Kept (fun _ => False) w wr)) (fun _ _ _ iv _ => n - (intOf iv).toNat)
  case atStart => exact ⟨0, _, _, _, _, rfl, rfl, rfl, rfl, by omega, s0, s0, HE0, KK⟩
  case round =>
    obtain ⟨i, P, C, st, E, rfl, rfl, rfl, rfl, hi, hP, hCs, HE, HK⟩ := hrel
    clear HE0 KK s0
    by_cases hlt : i < n
    · have hil : i < X.length := by rw [← HN.out]; exact hlt
      have hiz : (i : Int) < (n : Int) := by omega
      obtain ⟨b1, o1, e1, hc1⟩ := HX.out (fun e => by rw [e] at hil; simp at hil)
      have xi := HK.out.cell (hc1 i hil) (fun f => f)
      have HSN := hideL (szs_next X i hil)
      have hmx : szs (X.take (i + 1)) ≤ 1048576 := Nat.le_trans (szs_le X (i + 1)) HT.out
      rw [HSN.out] at hmx
      obtain ⟨xl, hxl⟩ : ∃ xl, xl = X[i] := ⟨_, rfl⟩
      rw [← hxl] at xi hmx HSN
      obtain ⟨xn, hxn⟩ : ∃ xn, xn = xl.length := ⟨_, rfl⟩
      obtain ⟨xs, hxs⟩ : ∃ xs, xs = bq xl := ⟨_, rfl⟩
      have hz : xs.size = xl.length := by rw [hxs]; exact bq_size xl
      have HXX : Hid (∀ k (h : k < xl.length) (h2 : k < xs.size), xs[k] = xl[k]) := hideL (fun k h h2 => by subst hxs; rfl)
      rw [← hxs] at xi
      rw [← hxn] at hz hmx HSN
      have HXN := hideL hxn
      obtain ⟨m, hm⟩ : ∃ m, m = szs (X.take i) := ⟨_, rfl⟩
      rw [← hm] at HE hmx HSN
      have HEj : Hid (ElI E P C st (m + 0)) := HE
      subst e1
      clear hxl hxn hxs hm HE hc1 hil
      go_wp2_with fail
      have HKo := hideL HK.out
      clear HK xi
      go_loopw [12, 13, 17] (fun pv cv jv wr => ∃ (j : Nat) (P C : ByteArray) (E : List (UInt8 × Bool)), pv = .string P ∧ cv = .string C ∧ jv = .int .i64 j ∧ j ≤ xn ∧ P.size ≤ 4194304 ∧ C.size ≤ 4194304 ∧ Hid (ElI E P C st (m + j)) ∧ Hid (Kept (fun _ => False) w wr)) (fun _ _ jv _ => xn - (intOf jv).toNat)
      case atStart => exact ⟨0, _, _, _, rfl, rfl, rfl, by omega, hP, hCs, HEj, HKo⟩
      case round =>
      obtain ⟨j, Q, D, F, rfl, rfl, rfl, hj, hQ, hDs, HF, HK⟩ := hrel
      clear HEj HKo hP hCs
      by_cases hjl : j < xn
      · have hjx : j < xl.length := by rw [← HXN.out]; exact hjl
        have hjs : j < xs.size := by rw [hz]; exact hjl
        have hjz : (j : Int) < (xn : Int) := by omega
        have c0 := HXX.out j hjx hjs
        obtain ⟨ch, hch⟩ : ∃ ch, ch = xl[j] := ⟨_, rfl⟩
        rw [← hch] at c0
        obtain ⟨z, hzc⟩ : ∃ z, z = ch.toNat := ⟨_, rfl⟩
        have c3 : xs[j].toNat = z := by rw [c0, hzc]
        have hcv := one_string wr ch (z : Int) (by rw [hzc])
        have KA := hideL (HK.out.trans (Kept.alloc wr (.cells #[.int .u8 (z : Int)] 5)) (fun _ f => f.elim))
        have b92 : (⟨#[92]⟩ : ByteArray) ++ bq [ch] = bq [92, ch] := bq_append [92] [ch]
        have sc : (bq [ch]).size = 1 := rfl
        have sc2 : (bq [92, ch]).size = 2 := rfl
        obtain ⟨Q2, hQ2⟩ : ∃ Q2, Q2 = Q ++ bq [92, ch] := ⟨_, rfl⟩
        have hszQ := HF.out.sizes
        have hw : (ch = 42 ∨ ch = 63 ∨ ch = 92) ∨ (ch ≠ 42 ∧ ch ≠ 63 ∧ ch ≠ 92) := by
          by_cases h1 : ch = 42
          · exact .inl (.inl h1)
          · by_cases h2 : ch = 63
            · exact .inl (.inr (.inl h2))
            · by_cases h3 : ch = 92
              · exact .inl (.inr (.inr h3))
              · exact .inr ⟨h1, h2, h3⟩
        have q42 : ((bq [ch]).toList == [42]) = (ch == 42) := by rw [bq_list]; simp
        have q63 : ((bq [ch]).toList == [63]) = (ch == 63) := by rw [bq_list]; simp
        have q92 : ((bq [ch]).toList == [92]) = (ch == 92) := by rw [bq_list]; simp
        rcases hw with hw | ⟨h1, h2, h3⟩
        · obtain ⟨D2, hD2⟩ : ∃ D2, D2 = D ++ (⟨#[92]⟩ : ByteArray) := ⟨_, rfl⟩
          obtain ⟨D3x, hD3x⟩ : ∃ D3x, D3x = D2 ++ bq [ch] := ⟨_, rfl⟩
          have hD3 : D3x = D ++ bq (cnE (ch, true)) := by rw [hD3x, hD2, cn_yes ch hw, ByteArray.append_assoc, b92]
          have hD2s : D2.size ≤ 4194305 := by rw [hD2, ByteArray.size_append]; show D.size + 1 ≤ _; omega
          have e3 : D ++ (⟨#[92]⟩ : ByteArray) = D2 := hD2.symm
          have e4 : D2 ++ bq [ch] = D3x := hD3x.symm
          clear hD2 hD3x
          have HF2 := hideL (HF.out.letter ch hQ2 hD3)
          have hsz2 := HF2.out.sizes
          have hQ2s : Q2.size ≤ 4194304 := by omega
          have hD3s : D3x.size ≤ 4194304 := by omega
          generalize bq [92, ch] = c92 at *
          generalize bq [ch] = cs at *
          have e2 : Q ++ c92 = Q2 := hQ2.symm
          have sc9 : cs.size ≤ 1 := by omega
          have sc8 : c92.size ≤ 2 := by omega
          clear hQ2 hch hzc c0 HF HK hszQ hsz2 sc sc2 hjx hD3
          rcases hw with rfl | rfl | rfl
          all_goals
            have q42 : (cs.toList == [42]) = _ := q42
            simp only [beq_self_eq_true, show ((63 : UInt8) == 42) = false from rfl, show ((92 : UInt8) == 42) = false from rfl, show ((92 : UInt8) == 63) = false from rfl, show ((42 : UInt8) == 63) = false from rfl, show ((42 : UInt8) == 92) = false from rfl, show ((63 : UInt8) == 92) = false from rfl] at q42 q63 q92
            go_wp2_with fail
            go_roundw
            case rel => exact ⟨j + 1, _, _, _, rfl, rfl, by go_num, by omega, hQ2s, hD3s, HF2, KA⟩
            case measure => simp [intOf] <;> omega
        · obtain ⟨D3x, hD3x⟩ : ∃ D3x, D3x = D ++ bq [ch] := ⟨_, rfl⟩
          have hD3 : D3x = D ++ bq (cnE (ch, true)) := by rw [hD3x, cn_not ch h1 h2 h3]
          have e4 : D ++ bq [ch] = D3x := hD3x.symm
          rw [beq_eq_false_iff_ne.2 h1] at q42
          rw [beq_eq_false_iff_ne.2 h2] at q63
          rw [beq_eq_false_iff_ne.2 h3] at q92
          clear hD3x h1 h2 h3
          have HF2 := hideL (HF.out.letter ch hQ2 hD3)
          have hsz2 := HF2.out.sizes
          have hQ2s : Q2.size ≤ 4194304 := by omega
          have hD3s : D3x.size ≤ 4194304 := by omega
          generalize bq [92, ch] = c92 at *
          generalize bq [ch] = cs at *
          have e2 : Q ++ c92 = Q2 := hQ2.symm
          have sc9 : cs.size ≤ 1 := by omega
          have sc8 : c92.size ≤ 2 := by omega
          clear hQ2 hch hzc c0 HF HK hszQ hsz2 sc sc2 hjx hD3
          go_wp2_with fail
          go_roundw
          case rel => exact ⟨j + 1, _, _, _, rfl, rfl, by go_num, by omega, hQ2s, hD3s, HF2, KA⟩
          case measure => simp [intOf] <;> omega
      · obtain rfl : j = xn := by omega
        have hjz : ¬ (j : Int) < (j : Int) := by omega
        have hsz := HF.out.sizes
        by_cases hg : i < ng
        · have hgz : (i : Int) < (ng : Int) := by omega
          obtain ⟨b2, o2, e2, hc2⟩ := HG.out (by omega)
          have xg := HK.out.cell (hc2 i hg) (fun f => f)
          have w42 : wdB 42 = true := rfl
          have w63 : wdB 63 = true := rfl
          obtain ⟨P4, hP4⟩ : ∃ P4, P4 = Q ++ (⟨#[42]⟩ : ByteArray) := ⟨_, rfl⟩
          obtain ⟨C4, hC4⟩ : ∃ C4, C4 = D ++ (⟨#[42]⟩ : ByteArray) := ⟨_, rfl⟩
          obtain ⟨P6, hP6⟩ : ∃ P6, P6 = Q ++ (⟨#[63]⟩ : ByteArray) := ⟨_, rfl⟩
          obtain ⟨C6, hC6⟩ : ∃ C6, C6 = D ++ (⟨#[63]⟩ : ByteArray) := ⟨_, rfl⟩
          have H4 := hideL (HF.out.gap 42 w42 hP4 hC4)
          have H6 := hideL (HF.out.gap 63 w63 hP6 hC6)
          have z4 := H4.out.sizes
          have z6 := H6.out.sizes
          rw [show m + j + 1 = szs (X.take (i + 1)) from HSN.out.symm] at H4 H6
          have p4 : P4.size ≤ 4194304 := by omega
          have p6 : P6.size ≤ 4194304 := by omega
          have c4 : C4.size ≤ 4194304 := by omega
          have c6 : C6.size ≤ 4194304 := by omega
          have e4 : Q ++ (⟨#[42]⟩ : ByteArray) = P4 := hP4.symm
          have e5 : D ++ (⟨#[42]⟩ : ByteArray) = C4 := hC4.symm
          have e6 : Q ++ (⟨#[63]⟩ : ByteArray) = P6 := hP6.symm
          have e7 : D ++ (⟨#[63]⟩ : ByteArray) = C6 := hC6.symm
          subst e2
          clear hP4 hC4 hP6 hC6 hc2 z4 z6 w42 w63 HF hsz
          cases hgf : gf i with
          | true =>
            rw [hgf] at xg
            clear hgf
            go_wp2_with fail
            go_roundw
            case rel => exact ⟨i + 1, _, _, _, _, rfl, rfl, rfl, by go_num, by omega, p6, c6, H6, HK⟩
            case measure => simp [intOf] <;> omega
          | false =>
            rw [hgf] at xg
            clear hgf
            go_wp2_with fail
            go_roundw
            case rel => exact ⟨i + 1, _, _, _, _, rfl, rfl, rfl, by go_num, by omega, p4, c4, H4, HK⟩
            case measure => simp [intOf] <;> omega
        · have hgz : ¬ (i : Int) < (ng : Int) := by omega
          have H4 := hideL (HF.out.more (Nat.le_succ (m + j)))
          rw [show (m + j).succ = szs (X.take (i + 1)) from HSN.out.symm] at H4
          clear HF hsz
          go_wp2_with fail
          go_roundw
          case rel => exact ⟨i + 1, _, _, _, _, rfl, rfl, rfl, by go_num, by omega, hQ, hDs, H4, HK⟩
          case measure => simp [intOf] <;> omega
    · obtain rfl : i = n := by omega
      have hiz : ¬ (i : Int) < (i : Int) := by omega
      have KK := hideL HK.out
      have hEl := HE.out.n
      have hEm := Nat.le_trans (szs_le X i) HT.out
      have hE1 := flat_len wr1_len E
      have hE2 := flat_len cnE_len E
      have hPe := HE.out.p
      have hCe := HE.out.c
      have hse := HE.out.s
      have hels := HE.out.els
      obtain ⟨hpa, hpb⟩ := pat_same hels
      have hpl := patF_len (E.flatMap wr1)
      clear HE HK hP hCs HX HG HT HN
      cases st with
      | false =>
        rw [← hse, if_neg (by decide)] at hpa
        have C1 : Hid (∀ W, Kept (fun _ => False) w W → Calls Tryd.prog 13 #[.string P] W fun e w' => e = .returned (.string ⟨#[]⟩) ∧ Kept (fun _ => False) W w') := hideL (fun W k => by have := CP.out W k (E.flatMap wr1) (by omega); rw [hpa] at this; rw [hPe]; exact this)
        have C2 : Hid (∀ W, Kept (fun _ => False) w W → Calls Tryd.prog 13 #[.string C] W fun e w' => e = .returned (.string ⟨#[]⟩) ∧ Kept (fun _ => False) W w') := hideL (fun W k => by have := CP.out W k (E.flatMap cnE) (by omega); rw [hpb, hpa] at this; rw [hCe]; exact this)
        clear hPe hCe hse hels hpa hpb hpl hE1 hE2 hEm hEl CP CL2 CX2 CX1 CW
        go_wp2_with (first
          | (go_at_call 13; refine (C1.out _ KK.out).mono ?_; clear C1; rintro e WN ⟨rfl, k⟩; replace KK := hideL (KK.out.trans k (fun _ f => f.elim)); clear k)
          | (go_at_call 13; refine (C2.out _ KK.out).mono ?_; clear C2; rintro e WN ⟨rfl, k⟩; replace KK := hideL (KK.out.trans k (fun _ f => f.elim)); clear k))
        go_ret
        exact ⟨rfl, KK.out⟩
      | true =>
        obtain ⟨T, hTe⟩ : ∃ T, T = bq (patF (E.flatMap wr1)) := ⟨_, rfl⟩
        obtain ⟨P4, hP4⟩ : ∃ P4, P4 = P ++ (⟨#[92]⟩ : ByteArray) := ⟨_, rfl⟩
        have hP4b : P4 = bq (E.flatMap wr1 ++ [92]) := by rw [hP4, hPe]; exact bq_append _ [92]
        have hPs : P.size ≤ 4194304 := by rw [hPe, bq_size]; omega
        have C1 : Hid (∀ W, Kept (fun _ => False) w W → Calls Tryd.prog 13 #[.string P] W fun e w' => e = .returned (.string T) ∧ Kept (fun _ => False) W w') := hideL (fun W k => by have := CP.out W k (E.flatMap wr1) (by omega); rw [hPe, hTe]; exact this)
        have C2 : Hid (∀ W, Kept (fun _ => False) w W → Calls Tryd.prog 13 #[.string C] W fun e w' => e = .returned (.string T) ∧ Kept (fun _ => False) W w') := hideL (fun W k => by have := CP.out W k (E.flatMap cnE) (by omega); rw [hpb] at this; rw [hCe, hTe]; exact this)
        have C4 : Hid (∀ W, Kept (fun _ => False) w W → Calls Tryd.prog 13 #[.string P4] W fun e w' => e = .returned (.string ⟨#[]⟩) ∧ Kept (fun _ => False) W w') := hideL (fun W k => by have := CP.out W k (E.flatMap wr1 ++ [92]) (by rw [List.length_append]; show _ + 1 ≤ _; omega); rw [pat_lone hels] at this; rw [hP4b]; exact this)
        have C3 : Hid (∀ W, Kept (fun _ => False) w W → Calls Tryd.prog 11 #[.string T, .int .i64 2, .string C] W fun e w' => e = .returned (.bool true) ∧ Kept (fun _ => False) W w') := hideL (fun W k => by have := CL2.out W k E hels hse.symm (by omega); rw [hTe, hCe]; exact this)
        have C6 : Hid (∀ W, Kept (fun _ => False) w W → Calls Tryd.prog 14 #[.string T, .int .i64 x, .int .i64 y] W fun e w' => e = .returned (.bool true) ∧ Kept (fun _ => False) W w') := hideL (fun W k => by have := CX2.out W k E hels hse.symm (by omega); rw [hTe]; exact this)
        have C1b := hideL C1.out
        have C1c := hideL C1.out
        have e4 : P ++ (⟨#[92]⟩ : ByteArray) = P4 := hP4.symm
        have q1 : (T.toList == T.toList) = true := by simp
        clear hPe hCe hse hels hpa hpb hpl hE1 hE2 hEm hEl CP CL2 CX2 hTe hP4 hP4b
        go_wp2_with (first
          | (go_at_call 13; refine (C1.out _ KK.out).mono ?_; clear C1; rintro e WN ⟨rfl, k⟩; replace KK := hideL (KK.out.trans k (fun _ f => f.elim)); clear k)
          | (go_at_call 13; refine (C2.out _ KK.out).mono ?_; clear C2; rintro e WN ⟨rfl, k⟩; replace KK := hideL (KK.out.trans k (fun _ f => f.elim)); clear k)
          | (go_at_call 13; refine (C1b.out _ KK.out).mono ?_; clear C1b; rintro e WN ⟨rfl, k⟩; replace KK := hideL (KK.out.trans k (fun _ f => f.elim)); clear k)
          | (go_at_call 13; refine (C4.out _ KK.out).mono ?_; clear C4; rintro e WN ⟨rfl, k⟩; replace KK := hideL (KK.out.trans k (fun _ f => f.elim)); clear k)
          | (go_at_call 13; refine (C1c.out _ KK.out).mono ?_; clear C1c; rintro e WN ⟨rfl, k⟩; replace KK := hideL (KK.out.trans k (fun _ f => f.elim)); clear k)
          | (go_at_call 11; refine (C3.out _ KK.out).mono ?_; clear C3; rintro e WN ⟨rfl, k⟩; replace KK := hideL (KK.out.trans k (fun _ f => f.elim)); clear k)
          | (go_at_call 10; refine (CW.out _ KK.out).mono ?_; clear CW; rintro e WN ⟨rfl, k⟩; replace KK := hideL (KK.out.trans k (fun _ f => f.elim)); clear k)
          | (go_at_call 14; refine (CX1.out _ KK.out).mono ?_; clear CX1; rintro e WN ⟨rfl, k⟩; replace KK := hideL (KK.out.trans k (fun _ f => f.elim)); clear k)
          | (go_at_call 14; refine (C6.out _ KK.out).mono ?_; clear C6; rintro e WN ⟨rfl, k⟩; replace KK := hideL (KK.out.trans k (fun _ f => f.elim)); clear k))
        go_ret
        exact ⟨rfl, KK.out⟩
end Go.Proofs.YtakjaablankipaaDoor
