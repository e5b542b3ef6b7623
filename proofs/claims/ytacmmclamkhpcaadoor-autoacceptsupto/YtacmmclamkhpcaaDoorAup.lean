import Derived.Test.YtacmmclamkhpcaaDoorAuo
namespace Go.Proofs.YtacmmclamkhpcaaDoor
open Go.ChangeShapes Go.WideShapes Go.ChangeAt Go.RowKit

variable {w0 : World} {ty : TypeId} {ag : Value} {fN fA : FuncId} {nx : List Int → Nat → List Int} {ac : List Int → Bool} {Inv : List Int → Prop}
def accK (nx : List Int → Nat → List Int) (ac : List Int → Bool) (S0 : List Int) (l : List UInt8) : Bool := decide (runK nx S0 l ≠ []) && ac (runK nx S0 l)
def alvK (nx : List Int → Nat → List Int) (S0 : List Int) (l : List UInt8) : Bool := decide (0 < (runK nx S0 l).length)
theorem aliveK_any (hK : Knd w0 ty ag fN fA nx ac Inv) (S0 : List Int) (hI0 : Inv S0) (sa : Option Addr) (sc ba : Nat) (l : List UInt8) (w : World) (hw : Kept (fun _ => False) w0 w) (hA : AuK w ba ty ag S0 sa sc) (hl : l.length ≤ 1099511627776) :
    Calls Tryd.prog 13 #[.pointer (some ⟨ba, 0, none⟩), .string (bq l)] w fun e w' => e = .returned (.bool (alvK nx S0 l)) ∧ Kept (fun _ => False) w w' := by
  have CB := hideG (behindK_any hK S0 hI0 sa sc ba l w hw hA hl)
  clear hA hl
  go_enter Tryd.func13, Tryd.ntmps13
  go_wp2_with (first
    | (go_at_call 21; refine CB.out.mono ?_; clear CB; rintro e W ⟨⟨a, c, t, rfl, hN, -, -⟩, K1⟩)
    | (go_at_call 22; refine (isAlive_any a _ c W).mono ?_; rintro e W2 ⟨rfl, e2⟩; subst e2))
  go_ret
  exact ⟨rfl, K1⟩
set_option maxRecDepth 20000 in
set_option maxHeartbeats 4000000 in
theorem acceptsK_any (hK : Knd w0 ty ag fN fA nx ac Inv) (S0 : List Int) (hI0 : Inv S0) (sa : Option Addr) (sc ba : Nat) (l : List UInt8) (w : World) (hw : Kept (fun _ => False) w0 w) (hA : AuK w ba ty ag S0 sa sc) (hl : l.length ≤ 1099511627776) :
    Calls Tryd.prog 11 #[.pointer (some ⟨ba, 0, none⟩), .string (bq l)] w fun e w' => e = .returned (.bool (accK nx ac S0 l)) ∧ Kept (fun _ => False) w w' := by
  have CB := hideG (behindK_any hK S0 hI0 sa sc ba l w hw hA hl)
  have HA := hideG hA
  have HKn := hideG hK
  have HW0 := hideG hw
  obtain ⟨R, hR⟩ : ∃ R, R = accK nx ac S0 l := ⟨_, rfl⟩
  rw [← hR]
  have hR' := hR
  unfold accK at hR'
  have HR := hideG hR'
  obtain ⟨S, hS⟩ : ∃ S, S = runK nx S0 l := ⟨_, rfl⟩
  rw [← hS] at HR CB
  clear hA hl hR hR' hS hK hw
  by_cases hne : S = []
  · have HQ : Hid (R = false) := hideG (by rw [HR.out, hne]; simp)
    obtain rfl : R = false := HQ.out
    subst hne
    clear HR
    have CI : ∀ a c W, Calls Tryd.prog 22 #[.slice a 0 c] W fun e w' => e = .returned (.bool false) ∧ w' = W := fun a c W => isAlive_any a 0 c W
    go_enter Tryd.func11, Tryd.ntmps11
    go_wp2_with (first
      | (go_at_call 21; refine CB.out.mono ?_; clear CB; rintro e W ⟨⟨a, c, t, rfl, hN, -, -⟩, K1⟩)
      | (go_at_call 22; refine (CI a c W).mono ?_; rintro e W2 ⟨rfl, e2⟩; subst e2))
    go_ret
    exact ⟨rfl, K1⟩
  · have HQ : Hid (R = ac S) := hideG (by rw [HR.out, decide_eq_true hne, Bool.true_and])
    have hpos : 0 < S.length := List.length_pos_iff.2 hne
    have CI : ∀ a c W, Calls Tryd.prog 22 #[.slice a S.length c] W fun e w' => e = .returned (.bool true) ∧ w' = W := fun a c W => by have := isAlive_any a S.length c W; rwa [decide_eq_true hpos] at this
    have CA : Hid (∀ a c W, S.length ≤ c → Kept (fun _ => False) w W → NsAt W a S → Inv S → Calls Tryd.prog fA #[ag, .slice a S.length c] W fun e w' => e = .returned (.bool R) ∧ Kept (fun _ => False) W w') := hideG (fun a c W h9 k h hi => by rw [HQ.out]; exact HKn.out.acc W S a c h9 (HW0.out.trans k (fun _ f => f.elim)) h hi hne)
    have HC0 : Hid (∀ W, Kept (fun _ => False) w W → W.cell? ⟨ba, 0, none⟩ = some (.iface ty ag)) := hideG (fun W k => k.cell HA.out.c0 (fun f => f))
    have M1 := HKn.out.mA
    have M2 := HKn.out.eA
    obtain ⟨n, hn⟩ : ∃ n, n = S.length := ⟨_, rfl⟩
    rw [← hn] at CI CA CB hpos
    clear HR HQ hne hn
    go_enter Tryd.func11, Tryd.ntmps11
    go_wp2_with (first
      | (go_at_call 21; refine CB.out.mono ?_; clear CB; rintro e W ⟨⟨a, c, t, rfl, hN, hi, hcp⟩, K1⟩; have c0 := HC0.out W K1; have HNs := hideG hN; have HIv := hideG hi; have HCp := hideG hcp; clear hN hi hcp)
      | (go_at_call 22; refine (CI a c W).mono ?_; rintro e W2 ⟨rfl, e2⟩; subst e2)
      | (refine (CA.out a c _ HCp.out K1 HNs.out HIv.out).mono ?_; rintro e W3 ⟨rfl, K3⟩))
    go_ret
    exact ⟨rfl, K1.trans K3 (fun _ f => f.elim)⟩
/-! A word, a head. -/
def IvX (l : List UInt8) (S : List Int) : Prop := S = [] ∨ ∃ n : Nat, S = [(n : Int)] ∧ n ≤ l.length
def nxX (l : List UInt8) (S : List Int) (b : Nat) : List Int := match S with
  | x :: _ => if (l[x.toNat]?).map UInt8.toNat = some b then [x + 1] else []
  | [] => []
def nxP (l : List UInt8) (S : List Int) (b : Nat) : List Int := match S with
  | x :: _ => if x = (l.length : Int) then [x] else if (l[x.toNat]?).map UInt8.toNat = some b then [x + 1] else []
  | [] => []
def acX (l : List UInt8) (S : List Int) : Bool := match S with
  | x :: _ => x == (l.length : Int)
  | [] => false
theorem ivX_next {l : List UInt8} {S : List Int} {b : Nat} (h : IvX l S) (hne : S ≠ []) : IvX l (nxX l S b) := by
  rcases h with h | ⟨n, rfl, hn⟩
  · exact absurd h hne
  · unfold nxX
    simp only []
    split
    · rename_i h2
      rcases Nat.lt_or_ge n l.length with hl | hl
      · exact .inr ⟨n + 1, by simp, hl⟩
      · rw [List.getElem?_eq_none (by simpa using hl)] at h2
        cases h2
    · exact .inl rfl
theorem ivP_next {l : List UInt8} {S : List Int} {b : Nat} (h : IvX l S) (hne : S ≠ []) : IvX l (nxP l S b) := by
  rcases h with h | ⟨n, rfl, hn⟩
  · exact absurd h hne
  · unfold nxP
    simp only []
    split
    · exact .inr ⟨n, rfl, hn⟩
    · split
      · rename_i h2
        rcases Nat.lt_or_ge n l.length with hl | hl
        · exact .inr ⟨n + 1, by simp, hl⟩
        · rw [List.getElem?_eq_none (by simpa using hl)] at h2
          cases h2
      · exact .inl rfl
theorem nsAt_one (w : World) (y : Int) : NsAt (w.alloc (.cells #[.int .i64 y] 3)) (some ⟨w.heap.size, 0, none⟩) [y] := by
  intro _
  refine ⟨w.heap.size, 0, rfl, fun j hj => ?_⟩
  obtain rfl : j = 0 := by simp at hj; omega
  simp
def StK (W w' : World) (L : List Int) (e : Ending) : Prop := (∃ a' c', e = .returned (.slice a' L.length c') ∧ NsAt w' a' L ∧ L.length ≤ c') ∧ Kept (fun _ => False) W w'
set_option maxRecDepth 20000 in
set_option maxHeartbeats 4000000 in
theorem next_exact (l : List UInt8) (W : World) (S : List Int) (a : Option Addr) (c b : Nat) (hl : l.length ≤ 1099511627776) (_hcp : S.length ≤ c) (hS : NsAt W a S) (hI : IvX l S) (hne : S ≠ []) (hb : b < 256) (_ : b < 256 := hb) :
    Calls Tryd.prog 82 #[.agg #[.string (bq l)], .slice a S.length c, .int .u8 (b : Nat)] W fun e w' => StK W w' (nxX l S b) e := by
  rcases hI with h | ⟨n, rfl, hn⟩
  · exact absurd h hne
  · obtain ⟨bS, oS, rfl, hc⟩ := hS hne
    have KB := Kept.alloc W (.cells #[.string (bq l)] 94)
    have y0 := KB.cell (hc 0 (by simp)) (fun f => f)
    have HKB := hideG KB
    have HS := hideG (hS.kept KB)
    obtain ⟨s, hs⟩ : ∃ s, s = bq l := ⟨_, rfl⟩
    have hz : s.size = l.length := by rw [hs]; exact bq_size l
    have HX : Hid (∀ k (h : k < l.length) (h2 : k < s.size), s[k] = l[k]) := hideG (fun k h h2 => by subst hs; rfl)
    rw [← hs] at y0 HKB HS ⊢
    simp only [List.getElem_cons_zero, Nat.add_zero] at y0
    have HZl := hideG hz
    have hsm : s.size ≤ 1099511627776 := by omega
    clear KB hc hs hS
    rcases Nat.lt_or_ge n s.size with hlt | hge
    · have hks : n < s.size := hlt
      have hkl : n < l.length := by omega
      have x0 := HX.out n hkl hks
      have hnl : (n : Int) ≠ (l.length : Int) := by omega
      clear hz
      have d0 : ((n : Int) == (s.size : Int)) = false := by simp; omega
      have d1 : ¬ ((n : Int) = (s.size : Int)) := by omega
      have d3 : (n : Int) < (s.size : Int) := by omega
      have eg : l[((n : Int)).toNat]? = some l[n] := by rw [Int.toNat_natCast, List.getElem?_eq_getElem hkl]
      by_cases he : l[n].toNat = b
      · have y1 : s[n].toNat = b := by rw [x0]; exact he
        have en : nxX l [(n : Int)] b = [(n : Int) + 1] := by
          unfold nxX
          simp only []
          skip
          rw [eg, if_pos (by rw [Option.map_some, he])]
        rw [en]
        have HN := hideG (nsAt_one (W.alloc (.cells #[.string s] 94)) ((n : Int) + 1))
        rw [World.size_alloc] at HN
        clear en eg HX x0 he hkl hnl hn
        go_enter Tryd.func82, Tryd.ntmps82
        go_wp2
        go_ret
        exact ⟨⟨_, _, rfl, HN.out, Nat.le_refl _⟩, HKB.out.trans (Kept.alloc _ _) (fun _ f => f.elim)⟩
      · obtain ⟨q, hq⟩ : ∃ q, q = l[n].toNat := ⟨_, rfl⟩
        have y1 : s[n].toNat = q := by rw [x0, hq]
        have hqb : q < 256 := by rw [hq]; exact l[n].toNat_lt
        have qn : ((b : Int) == (q : Int)) = false := by simp; omega
        have qn2 : ¬ ((b : Int) = (q : Int)) := by omega
        have qn3 : ¬ (b = q) := by omega
        have qn4 : (b == q) = false := by simpa using qn3
        have qn5 : ((b : Int) != (q : Int)) = true := by simp; omega
        have en : nxX l [(n : Int)] b = [] := by
          unfold nxX
          simp only []
          skip
          rw [eg, if_neg (by rw [Option.map_some]; intro e; exact he (Option.some.inj e))]
        rw [en]
        clear en eg HX x0 he hkl hq hnl hn
        go_enter Tryd.func82, Tryd.ntmps82
        go_wp2
        go_ret
        exact ⟨⟨none, 0, rfl, fun h => absurd rfl h, Nat.le_refl _⟩, HKB.out⟩
    · obtain rfl : n = s.size := by omega
      have hnl : ((s.size : Nat) : Int) = (l.length : Int) := by omega
      have en : nxX l [((s.size : Nat) : Int)] b = [] := by
        unfold nxX
        simp only []
        rw [if_neg]
        rw [List.getElem?_eq_none (by rw [Int.toNat_natCast]; omega)]
        simp
      rw [en]
      clear en HX hz hnl hn
      go_enter Tryd.func82, Tryd.ntmps82
      go_wp2
      go_ret
      exact ⟨⟨none, 0, rfl, fun h => absurd rfl h, Nat.le_refl _⟩, HKB.out⟩
set_option maxRecDepth 20000 in
theorem accepts_exact (l : List UInt8) (W : World) (S : List Int) (a : Option Addr) (c : Nat) (_hl : l.length ≤ 1099511627776) (hS : NsAt W a S) (hI : IvX l S) (hne : S ≠ []) :
    Calls Tryd.prog 80 #[.agg #[.string (bq l)], .slice a S.length c] W fun e w' => e = .returned (.bool (acX l S)) ∧ Kept (fun _ => False) W w' := by
  rcases hI with h | ⟨n, rfl, hn⟩
  · exact absurd h hne
  · obtain ⟨bS, oS, rfl, hc⟩ := hS hne
    have KB := Kept.alloc W (.cells #[.string (bq l)] 94)
    have y0 := KB.cell (hc 0 (by simp)) (fun f => f)
    simp only [List.getElem_cons_zero, Nat.add_zero] at y0
    have HKB := hideG KB
    have hz : (bq l).size = l.length := bq_size l
    have HQ : Hid (acX l [(n : Int)] = ((n : Int) == ((bq l).size : Int))) := hideG (by unfold acX; rw [hz])
    rw [HQ.out]
    generalize bq l = s at *
    have z0 : (W.alloc (.cells #[.string s] 94)).cell? ⟨W.heap.size, 0, none⟩ = some (.string s) := by simp
    clear KB hc hS HQ hz hn
    go_enter Tryd.func80, Tryd.ntmps80
    go_wp2_with (go_quiet (fail))
    go_ret
    exact ⟨rfl, HKB.out.trans (Kept.drewA _ _) (fun _ f => f.elim)⟩
theorem mN_exact (v : Value) (w : World) : (method 220 94 v "concord/auto.next").run Tryd.prog w = .ok (82, v) w := by kernel_rfl
theorem mA_exact (v : Value) (w : World) : (method 220 94 v "concord/auto.accepts").run Tryd.prog w = .ok (80, v) w := by kernel_rfl
theorem knd_exact (w0 : World) (l : List UInt8) (hl : l.length ≤ 1099511627776) : Knd w0 94 (.agg #[.string (bq l)]) 82 80 (nxX l) (acX l) (IvX l) :=
  ⟨fun w => mN_exact _ w, fun w => mA_exact _ w, enters_of Tryd.func82 (by kernel_rfl) rfl, enters_of Tryd.func80 (by kernel_rfl) rfl, fun S b _ hi hne => ivX_next hi hne, fun W S a c b hcp _ hS hI hne hb => next_exact l W S a c b hl hcp hS hI hne hb, fun W S a c _ _ hS hI hne => accepts_exact l W S a c hl hS hI hne⟩
set_option maxRecDepth 20000 in
set_option maxHeartbeats 4000000 in
theorem next_prefix (l : List UInt8) (W : World) (S : List Int) (a : Option Addr) (c b : Nat) (hl : l.length ≤ 1099511627776) (hcp : S.length ≤ c) (hS : NsAt W a S) (hI : IvX l S) (hne : S ≠ []) (hb : b < 256) (_ : b < 256 := hb) :
    Calls Tryd.prog 71 #[.agg #[.string (bq l)], .slice a S.length c, .int .u8 (b : Nat)] W fun e w' => StK W w' (nxP l S b) e := by
  rcases hI with h | ⟨n, rfl, hn⟩
  · exact absurd h hne
  · obtain ⟨bS, oS, rfl, hc⟩ := hS hne
    have KB := Kept.alloc W (.cells #[.string (bq l)] 89)
    have y0 := KB.cell (hc 0 (by simp)) (fun f => f)
    have HKB := hideG KB
    have HS := hideG (hS.kept KB)
    obtain ⟨s, hs⟩ : ∃ s, s = bq l := ⟨_, rfl⟩
    have hz : s.size = l.length := by rw [hs]; exact bq_size l
    have HX : Hid (∀ k (h : k < l.length) (h2 : k < s.size), s[k] = l[k]) := hideG (fun k h h2 => by subst hs; rfl)
    rw [← hs] at y0 HKB HS ⊢
    simp only [List.getElem_cons_zero, Nat.add_zero] at y0
    have HZl := hideG hz
    have hsm : s.size ≤ 1099511627776 := by omega
    clear KB hc hs hS
    rcases Nat.lt_or_ge n s.size with hlt | hge
    · have hks : n < s.size := hlt
      have hkl : n < l.length := by omega
      have x0 := HX.out n hkl hks
      have hnl : (n : Int) ≠ (l.length : Int) := by omega
      clear hz
      have d0 : ((n : Int) == (s.size : Int)) = false := by simp; omega
      have d1 : ¬ ((n : Int) = (s.size : Int)) := by omega
      have d3 : (n : Int) < (s.size : Int) := by omega
      have eg : l[((n : Int)).toNat]? = some l[n] := by rw [Int.toNat_natCast, List.getElem?_eq_getElem hkl]
      by_cases he : l[n].toNat = b
      · have y1 : s[n].toNat = b := by rw [x0]; exact he
        have en : nxP l [(n : Int)] b = [(n : Int) + 1] := by
          unfold nxP
          simp only []
          rw [if_neg hnl]
          rw [eg, if_pos (by rw [Option.map_some, he])]
        rw [en]
        have HN := hideG (nsAt_one (W.alloc (.cells #[.string s] 89)) ((n : Int) + 1))
        rw [World.size_alloc] at HN
        clear en eg HX x0 he hkl hnl hn
        go_enter Tryd.func71, Tryd.ntmps71
        go_wp2
        go_ret
        exact ⟨⟨_, _, rfl, HN.out, Nat.le_refl _⟩, HKB.out.trans (Kept.alloc _ _) (fun _ f => f.elim)⟩
      · obtain ⟨q, hq⟩ : ∃ q, q = l[n].toNat := ⟨_, rfl⟩
        have y1 : s[n].toNat = q := by rw [x0, hq]
        have hqb : q < 256 := by rw [hq]; exact l[n].toNat_lt
        have qn : ((b : Int) == (q : Int)) = false := by simp; omega
        have qn2 : ¬ ((b : Int) = (q : Int)) := by omega
        have qn3 : ¬ (b = q) := by omega
        have qn4 : (b == q) = false := by simpa using qn3
        have qn5 : ((b : Int) != (q : Int)) = true := by simp; omega
        have en : nxP l [(n : Int)] b = [] := by
          unfold nxP
          simp only []
          rw [if_neg hnl]
          rw [eg, if_neg (by rw [Option.map_some]; intro e; exact he (Option.some.inj e))]
        rw [en]
        clear en eg HX x0 he hkl hq hnl hn
        go_enter Tryd.func71, Tryd.ntmps71
        go_wp2
        go_ret
        exact ⟨⟨none, 0, rfl, fun h => absurd rfl h, Nat.le_refl _⟩, HKB.out⟩
    · obtain rfl : n = s.size := by omega
      have hnl : ((s.size : Nat) : Int) = (l.length : Int) := by omega
      have en : nxP l [((s.size : Nat) : Int)] b = [((s.size : Nat) : Int)] := by
        unfold nxP
        simp only []
        rw [if_pos hnl]
      rw [en]
      clear en HX hz hnl hn
      go_enter Tryd.func71, Tryd.ntmps71
      go_wp2
      go_ret
      exact ⟨⟨_, _, rfl, HS.out, hcp⟩, HKB.out⟩
set_option maxRecDepth 20000 in
theorem accepts_prefix (l : List UInt8) (W : World) (S : List Int) (a : Option Addr) (c : Nat) (_hl : l.length ≤ 1099511627776) (hS : NsAt W a S) (hI : IvX l S) (hne : S ≠ []) :
    Calls Tryd.prog 69 #[.agg #[.string (bq l)], .slice a S.length c] W fun e w' => e = .returned (.bool (acX l S)) ∧ Kept (fun _ => False) W w' := by
  rcases hI with h | ⟨n, rfl, hn⟩
  · exact absurd h hne
  · obtain ⟨bS, oS, rfl, hc⟩ := hS hne
    have KB := Kept.alloc W (.cells #[.string (bq l)] 89)
    have y0 := KB.cell (hc 0 (by simp)) (fun f => f)
    simp only [List.getElem_cons_zero, Nat.add_zero] at y0
    have HKB := hideG KB
    have hz : (bq l).size = l.length := bq_size l
    have HQ : Hid (acX l [(n : Int)] = ((n : Int) == ((bq l).size : Int))) := hideG (by unfold acX; rw [hz])
    rw [HQ.out]
    generalize bq l = s at *
    have z0 : (W.alloc (.cells #[.string s] 89)).cell? ⟨W.heap.size, 0, none⟩ = some (.string s) := by simp
    clear KB hc hS HQ hz hn
    go_enter Tryd.func69, Tryd.ntmps69
    go_wp2_with (go_quiet (fail))
    go_ret
    exact ⟨rfl, HKB.out.trans (Kept.drewA _ _) (fun _ f => f.elim)⟩
theorem mN_prefix (v : Value) (w : World) : (method 220 89 v "concord/auto.next").run Tryd.prog w = .ok (71, v) w := by kernel_rfl
theorem mA_prefix (v : Value) (w : World) : (method 220 89 v "concord/auto.accepts").run Tryd.prog w = .ok (69, v) w := by kernel_rfl
theorem knd_prefix (w0 : World) (l : List UInt8) (hl : l.length ≤ 1099511627776) : Knd w0 89 (.agg #[.string (bq l)]) 71 69 (nxP l) (acX l) (IvX l) :=
  ⟨fun w => mN_prefix _ w, fun w => mA_prefix _ w, enters_of Tryd.func71 (by kernel_rfl) rfl, enters_of Tryd.func69 (by kernel_rfl) rfl, fun S b _ hi hne => ivP_next hi hne, fun W S a c b hcp _ hS hI hne hb => next_prefix l W S a c b hl hcp hS hI hne hb, fun W S a c _ _ hS hI hne => accepts_prefix l W S a c hl hS hI hne⟩
end Go.Proofs.YtacmmclamkhpcaaDoor
