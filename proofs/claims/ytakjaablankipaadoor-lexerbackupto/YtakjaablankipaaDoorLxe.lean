import Derived.Test.YtakjaablankipaaDoorLxd
namespace Go.Proofs.YtakjaablankipaaDoor
open Go.ChangeShapes Go.WideShapes Go.ChangeAt Go.RowKit

/-- What is left of a pattern behind o. -/
def finP (o : List UInt8) (g : List (UInt8 × Bool)) : List UInt8 := if g.any isE then [] else ptF o g
theorem finP_cons (o : List UInt8) (x : UInt8 × Bool) (g : List (UInt8 × Bool)) (h : isE x = false) : finP o (x :: g) = finP (o ++ if isW x then [x.1] else pl o.isEmpty x.1) g := by
  unfold finP
  rw [List.any_cons, h, Bool.false_or]
  rfl
theorem finP_wild (o : List UInt8) (c : UInt8) (r : List UInt8) (h : wdB c = true) : finP o (sgn (c :: r)) = finP (o ++ [c]) (sgn r) := by
  have h2 : c ≠ 92 := by intro e; subst e; simp [wdB] at h
  rw [sgn_oth c r h2, finP_cons _ _ _ (by simp [isE, h2])]
  simp [isW, h]
theorem finP_oth (o : List UInt8) (c : UInt8) (r : List UInt8) (h : wdB c = false) (h2 : c ≠ 92) : finP o (sgn (c :: r)) = finP (o ++ pl o.isEmpty c) (sgn r) := by
  rw [sgn_oth c r h2, finP_cons _ _ _ (by simp [isE, h2])]
  simp [isW, h]
theorem finP_esc (o : List UInt8) (d : UInt8) (r : List UInt8) : finP o (sgn (92 :: d :: r)) = finP (o ++ pl o.isEmpty d) (sgn r) := by
  rw [sgn_esc, finP_cons _ _ _ (by simp [isE])]
  simp [isW]
theorem finP_lone (o : List UInt8) : finP o (sgn [92]) = [] := by rw [sgn_one]; simp [finP, isE]
theorem finP_nil (o : List UInt8) : finP o (sgn []) = o := by simp [sgn, finP, ptF]
theorem patF_fin (l : List UInt8) : patF l = if (sgn l).any isW then finP [] (sgn l) else [] := by
  unfold patF finP
  cases (sgn l).any isW <;> cases (sgn l).any isE <;> rfl
theorem kdF_two (l : List UInt8) : kdF l = 2 ↔ (sgn l).any isW = true := by
  unfold kdF
  by_cases h : rsv l = 1
  · rw [if_neg (by omega)]
    cases (sgn l).any isW <;> simp
  · rw [if_pos h, rsv_wild l h]
    unfold rsv
    (repeat' split) <;> simp
theorem kdF_lt (l : List UInt8) : kdF l ≤ 7 := by
  have := rsv_is l
  unfold kdF
  (repeat' split) <;> omega
set_option maxRecDepth 20000 in
set_option maxHeartbeats 4000000 in
theorem pattern_any (l : List UInt8) (w : World) (hC : ClsAt w) (hl : l.length ≤ 400000000000) :
    Calls Tryd.prog 13 #[.string (bq l)] w fun e w' => e = .returned (.string (bq (patF l))) ∧ Kept (fun _ => False) w w' := by
  have CK := hideL (kindOf_any l w hC hl)
  have hk7 := kdF_lt l
  rw [patF_fin]
  by_cases hw : (sgn l).any isW = true
  · rw [if_pos hw]
    rw [(kdF_two l).2 hw] at CK
    obtain ⟨Z, hZ⟩ : ∃ Z, Z = finP [] (sgn l) := ⟨_, rfl⟩
    rw [← hZ]
    have HZ : Hid (Z = finP [] (sgn (l.drop 0))) := hideL (by rw [hZ, List.drop_zero])
    obtain ⟨s, hs⟩ : ∃ s, s = bq l := ⟨_, rfl⟩
    have hz : s.size = l.length := by rw [hs]; exact bq_size l
    obtain ⟨W1, hm, hg⟩ := make0I w l.length (s.size : Int) (by omega) (by omega)
    have HG := hideL hg
    have HX : Hid (∀ k (h : k < l.length) (h2 : k < s.size), s[k] = l[k]) := hideL (fun k h h2 => by subst hs; rfl)
    rw [← hs] at CK ⊢
    obtain ⟨g, hg0⟩ : ∃ g, g = w.heap.size := ⟨_, rfl⟩
    rw [← hg0] at hm HG
    have HC := hideL hC
    obtain ⟨n, hn⟩ : ∃ n, n = s.size := ⟨_, rfl⟩
    have HLn : Hid (n = l.length) := hideL (by omega)
    have hnb : n ≤ 400000000000 := by omega
    obtain ⟨cp, hcp⟩ : ∃ cp, cp = l.length := ⟨_, rfl⟩
    rw [← hcp] at hm HG
    have PC := hideL (fun (c : UInt8) (w1 : World) (h1 : ClsAt w1) {a : Option Addr} {c0 m : Nat} {o : List UInt8} (h2 : Gb w w1 a c0 m o) (h3 : m ≤ 1000000000000) => putLetter_any c w w1 h1 h2 h3)
    clear hs hg hg0 hC hw hk7 hl hz hcp hZ
    go_enter Tryd.func13, Tryd.ntmps13
    go_wp2_with (go_at_call 22; refine CK.out.mono ?_; clear CK; rintro e w5 ⟨rfl, e5⟩; subst e5)
    go_loopw [3, 4] (fun v i wr => ∃ (k m : Nat) (a : Option Addr) (c : Nat) (o : List UInt8), k ≤ n ∧ m ≤ 2 * k ∧ i = .int .i64 k ∧ v = .slice a m c ∧ Hid (Gb w5 wr a c m o) ∧ Hid (Z = finP o (sgn (l.drop k)))) (fun _ i _ => n - (intOf i).toNat)
    case atStart => exact ⟨0, 0, _, _, [], by omega, by omega, rfl, rfl, HG, HZ⟩
    case round =>
      obtain ⟨k, m, a, c0, o, hk, hmk, rfl, rfl, HR, HD⟩ := hrel
      clear HG hm HZ
      have HCr := hideL (HC.out.later HR.out.gro.kept)
      by_cases hlt : k < n
      · have hkl : k < l.length := by rw [← HLn.out]; exact hlt
        have hks : k < s.size := by rw [← hn]; exact hlt
        have hkz : (k : Int) < (n : Int) := by omega
        have c0' := HX.out k hkl hks
        have HD2 := HD.out
        rw [List.drop_eq_getElem_cons hkl] at HD2
        obtain ⟨x, hx⟩ : ∃ x, x = l[k] := ⟨_, rfl⟩
        rw [← hx] at HD2 c0'
        have C1 := hideL (classOf_any x wr HCr.out)
        obtain ⟨q, hq⟩ : ∃ q, q = x.toNat := ⟨_, rfl⟩
        have hqb : q < 256 := by rw [hq]; exact x.toNat_lt
        have y0 : s[k].toNat = q := by rw [c0', hq]
        have HQ0 : Hid ((q : Int) = (x.toNat : Int)) := hideL (by rw [hq])
        rw [← hq] at C1
        clear c0' hx HD
        rcases cl_cases x with ⟨e, e2⟩ | ⟨e, e2⟩ | ⟨e, e1, e2, e3⟩
        · rw [e] at C1
          have HQ : Hid (Z = finP (o ++ [x]) (sgn (l.drop (k + 1)))) := hideL (by rw [HD2, finP_wild o x _ e2])
          clear HD2 e e2 hq PC
          go_wp2_with (first
            | (go_at_call 23; refine C1.out.mono ?_; clear C1; rintro e w6 ⟨rfl, e6⟩; subst e6)
            | (at_builtin; refine wpList_pushG rfl _ _ rfl _ _ m _ x _ rfl HR _ (by first | rfl | simp) rfl HQ0 (by omega) ?_; clear HR; intro a4 c4 W4 G4))
          go_roundw
          case rel => exact ⟨k + 1, m + 1, a4, c4, o ++ [x], by omega, by omega, by go_num, rfl, G4, HQ⟩
          case measure => simp [intOf]; omega
        · rw [e] at C1
          subst e2
          by_cases hE : k + 1 < n
          · have hkl2 : k + 1 < l.length := by rw [← HLn.out]; exact hE
            have hks2 : k + 1 < s.size := by rw [← hn]; exact hE
            have d0' := HX.out (k + 1) hkl2 hks2
            rw [List.drop_eq_getElem_cons hkl2] at HD2
            obtain ⟨d, hd⟩ : ∃ d, d = l[k + 1] := ⟨_, rfl⟩
            rw [← hd] at HD2 d0'
            have HQ : Hid (Z = finP (o ++ pl o.isEmpty d) (sgn (l.drop (k + 1 + 1)))) := hideL (by rw [HD2, finP_esc])
            have HP := hideL (PC.out d wr HCr.out HR.out (by omega))
            have hp2 := pl_len o.isEmpty d
            generalize pl o.isEmpty d = p at *
            obtain ⟨q2, hq2⟩ : ∃ q2, q2 = d.toNat := ⟨_, rfl⟩
            have hqb2 : q2 < 256 := by rw [hq2]; exact d.toNat_lt
            have y1 : s[k + 1].toNat = q2 := by rw [d0', hq2]
            rw [← hq2] at HP
            have e1 : ((k : Int) + 1 == (n : Int)) = false := by simp; omega
            have e2 : ¬ ((k : Int) + 1 = (n : Int)) := by omega
            clear HD2 e hq PC HQ0 hd hq2 d0' HR
            generalize hpl : p.length = pn at *
            go_wp2_with (first
              | (go_at_call 23; refine C1.out.mono ?_; clear C1; rintro e w6 ⟨rfl, e6⟩; subst e6)
              | (go_at_call 21; refine HP.out.mono ?_; clear HP; rintro e w7 ⟨a7, c7, rfl, G7⟩; have G7 := hideL G7))
            go_roundw
            case rel => exact ⟨k + 1 + 1, m + pn, a7, c7, o ++ p, by omega, by omega, by go_num, rfl, G7, HQ⟩
            case measure => simp [intOf]; omega
          · obtain rfl : n = k + 1 := by omega
            obtain rfl : Z = [] := by rw [HD2, List.drop_of_length_le (by have := HLn.out; omega), finP_lone]
            have HK := hideL HR.out.gro.kept
            clear HD2 e hq PC HQ0 HR
            go_wp2_with (go_at_call 23; refine C1.out.mono ?_; clear C1; rintro e w6 ⟨rfl, e6⟩; subst e6)
            go_ret
            exact ⟨rfl, HK.out⟩
        · have HQ : Hid (Z = finP (o ++ pl o.isEmpty x) (sgn (l.drop (k + 1)))) := hideL (by rw [HD2, finP_oth o x _ e2 e3])
          have HP := hideL (PC.out x wr HCr.out HR.out (by omega))
          have hp2 := pl_len o.isEmpty x
          generalize pl o.isEmpty x = p at *
          rw [← hq] at HP
          generalize cl x = r at *
          have q1 : ((r : Int) == 103) = false := by simp; omega
          have q2 : ((r : Int) == 104) = false := by simp; omega
          clear HD2 e e1 e2 e3 hq PC HQ0 HR
          generalize hpl : p.length = pn at *
          go_wp2_with (first
            | (go_at_call 23; refine C1.out.mono ?_; clear C1; rintro e w6 ⟨rfl, e6⟩; subst e6)
            | (go_at_call 21; refine HP.out.mono ?_; clear HP; rintro e w7 ⟨a7, c7, rfl, G7⟩; have G7 := hideL G7))
          go_roundw
          case rel => exact ⟨k + 1, m + pn, a7, c7, o ++ p, by omega, by omega, by go_num, rfl, G7, HQ⟩
          case measure => simp [intOf]; omega
      · obtain rfl : k = n := by omega
        have hZ : Z = o := by rw [HD.out, List.drop_of_length_le (by have := HLn.out; omega), finP_nil]
        subst hZ
        have hb := gro_string HR.out.gro HR.out.len
        have HK := hideL HR.out.gro.kept
        have hb2 : (convert 37 9 (.slice a m c0)).run Tryd.prog wr = .ok (.string (bq Z)) wr := hb
        clear hb PC HR
        go_wp2
        go_ret
        exact ⟨rfl, HK.out⟩
  · rw [if_neg hw]
    have hk : kdF l ≠ 2 := fun h => hw ((kdF_two l).1 h)
    generalize bq l = s at *
    generalize kdF l = r at *
    have q1 : ((r : Int) != 2) = true := by simp; omega
    clear hC
    go_enter Tryd.func13, Tryd.ntmps13
    go_wp2_with (go_at_call 22; refine CK.out.mono ?_; clear CK; rintro e w5 ⟨rfl, e5⟩; subst e5)
    go_ret
    exact ⟨rfl, Kept.refl _ _⟩
end Go.Proofs.YtakjaablankipaaDoor
