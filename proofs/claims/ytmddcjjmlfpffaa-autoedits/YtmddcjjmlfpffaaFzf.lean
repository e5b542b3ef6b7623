import Derived.Test.YtmddcjjmlfpffaaFze
namespace Go.Proofs.Ytmddcjjmlfpffaa
open Go.ChangeShapes Go.WideShapes Go.ChangeAt Go.RowKit

/-- What Edits answers. -/
def edF (a b : List UInt8) (most : Int) : Int := if (led2 a b : Int) ≤ (if most < 0 then 0 else most) then (led2 a b : Int) else (if most < 0 then 0 else most) + 1
theorem last_nz {x v : Nat} {row : List Nat} (h : row.getLast? = some v) (hl : row.length < (nz (x :: row)).length) : (nz (x :: row))[row.length] = (v : Int) := by
  have h2 : (nz (x :: row))[row.length]? = some (v : Int) := by
    unfold nz
    rw [List.getElem?_map]
    cases row with
    | nil => simp at h
    | cons r q =>
      rw [List.length_cons, List.getElem?_cons_succ]
      rw [List.getLast?_eq_getElem?, List.length_cons, Nat.add_sub_cancel] at h
      rw [h]; rfl
  rw [List.getElem?_eq_getElem hl] at h2
  exact Option.some.inj h2
theorem cell_of_two0 (w : World) (s : ByteArray) (ed : Nat) : (w.alloc (.cells #[.string s, .int .i64 (ed : Nat)] 26)).cell? ⟨w.heap.size, 0, none⟩ = some (.string s) := by simp
theorem cell_of_two1 (w : World) (s : ByteArray) (ed : Nat) : (w.alloc (.cells #[.string s, .int .i64 (ed : Nat)] 26)).cell? ⟨w.heap.size, 1, none⟩ = some (.int .i64 (ed : Nat)) := by simp
/-- The automaton behind the text b: the state T. -/
theorem behindF_any (a b : List UInt8) (ed : Nat) (ha : a.length ≤ 549755000000) (hb : b.length ≤ 549755000000) (hed : ed ≤ 549755000000) (ba sc : Nat) (sa : Option Addr) (w : World) (hA : AuK w ba 26 (.agg #[.string (bq a), .int .i64 (ed : Nat)]) (nz (0 :: List.range (min a.length ed + 1))) sa sc) :
    Calls Try.prog 8 #[.pointer (some ⟨ba, 0, none⟩), .string (bq b)] w fun e w' => (∃ a1 c t, e = .returned (.tuple #[.slice a1 (nz (trm (ed + 1) 0 (rwC (ed + 1) a b.reverse))).length c, .int .i64 t]) ∧ NsAt w' a1 (nz (trm (ed + 1) 0 (rwC (ed + 1) a b.reverse))) ∧ IvF a ed (nz (trm (ed + 1) 0 (rwC (ed + 1) a b.reverse))) ∧ (nz (trm (ed + 1) 0 (rwC (ed + 1) a b.reverse))).length ≤ c) ∧ Kept (fun _ => False) w w' := by
  have h := behindK_any (knd_fuzzy w a ed (by omega) (by omega)) _ (ivF_start a ed) sa sc ba b w (Kept.refl _ _) hA (by omega)
  rw [runF_any] at h
  exact h
theorem edF_far {a b : List UInt8} {most : Int} {ed : Nat} (hed : (ed : Int) = if ((max a.length b.length : Nat) : Int) < (if most < 0 then 0 else most) then ((max a.length b.length : Nat) : Int) else (if most < 0 then 0 else most)) (h : ed + 1 ≤ led2 a b) : edF a b most = (ed : Int) + 1 := by
  have h2 := led2_high a b
  unfold edF
  split at hed
  · omega
  · rw [if_neg (by omega)]; omega
theorem edF_near {a b : List UInt8} {most : Int} {ed : Nat} (hed : (ed : Int) = if ((max a.length b.length : Nat) : Int) < (if most < 0 then 0 else most) then ((max a.length b.length : Nat) : Int) else (if most < 0 then 0 else most)) (h : led2 a b < ed + 1) : edF a b most = (led2 a b : Int) := by
  unfold edF
  rw [if_pos]
  split at hed
  · omega
  · omega
set_option maxRecDepth 20000 in
set_option maxHeartbeats 4000000 in
theorem Edits_any (a b : List UInt8) (most : Int) (w : World) (ha : a.length ≤ 549755000000) (hb : b.length ≤ 549755000000) : Calls Try.prog 5 #[.string (bq a), .string (bq b), .int .i64 most] w fun e w' => e = .returned (.int .i64 (edF a b most)) ∧ Kept (fun _ => False) w w' := by
  obtain ⟨m0, hm0⟩ : ∃ m0 : Int, m0 = if most < 0 then 0 else most := ⟨_, rfl⟩
  obtain ⟨mx, hmx⟩ : ∃ mx : Nat, mx = max a.length b.length := ⟨_, rfl⟩
  have hza : (bq a).size = a.length := bq_size a
  have hzb : (bq b).size = b.length := bq_size b
  have HM2 : Hid ((mx : Int) = if ((bq a).size : Int) < ((bq b).size : Int) then ((bq b).size : Int) else ((bq a).size : Int)) := hideG (by rw [hza, hzb]; split <;> omega)
  have hm00 : 0 ≤ m0 := by rw [hm0]; split <;> omega
  obtain ⟨ed, hed⟩ : ∃ ed : Nat, (ed : Int) = if (mx : Int) < m0 then (mx : Int) else m0 := ⟨(if (mx : Int) < m0 then (mx : Int) else m0).toNat, by split <;> omega⟩
  have hedb : ed ≤ 549755000000 := by split at hed <;> omega
  have HE : Hid ((ed : Int) = if ((max a.length b.length : Nat) : Int) < (if most < 0 then 0 else most) then ((max a.length b.length : Nat) : Int) else (if most < 0 then 0 else most)) := hideG (by rw [← hm0, ← hmx]; exact hed)
  have HM1 := hideG hm0
  have HM3 := hideG hed
  have CN := hideG (fun W => newAutoK_fuzzy a ed W (by omega) (by omega))
  have CB := hideG (fun W ba sa sc hA => behindF_any a b ed ha hb hedb ba sc sa W hA)
  have hled : led2 a b = lev a.reverse b.reverse := rfl
  obtain ⟨Z, hZ⟩ : ∃ Z, Z = edF a b most := ⟨_, rfl⟩
  rw [← hZ]
  have hedI : (ed : Int) ≤ 549755000000 := by omega
  have u1 : IntKind.i64.wrap ((ed : Int) + 1) = (ed : Int) + 1 := by rw [IntKind.wrap_i64]; omega
  cases hT : trm (ed + 1) 0 (rwC (ed + 1) a b.reverse) with
  | nil =>
    rw [hT] at CB
    have hz2 : Z = (ed : Int) + 1 := by rw [hZ]; exact edF_far HE.out (by rw [hled]; exact end_dead hT)
    have CI : ∀ a c W, Calls Try.prog 9 #[.slice a 0 c] W fun e w' => e = .returned (.bool false) ∧ w' = W := fun a c W => isAlive_any a 0 c W
    have CB2 : Hid (∀ W ba sa sc, AuK W ba 26 (.agg #[.string (bq a), .int .i64 (ed : Nat)]) (nz (0 :: List.range (min a.length ed + 1))) sa sc → Calls Try.prog 8 #[.pointer (some ⟨ba, 0, none⟩), .string (bq b)] W fun e w' => (∃ a1 c t, e = .returned (.tuple #[.slice a1 0 c, .int .i64 t])) ∧ Kept (fun _ => False) W w') := hideG (fun W ba sa sc hA => (CB.out W ba sa sc hA).mono (fun e w' ⟨⟨a1, c, t, h1, _⟩, h2⟩ => ⟨⟨a1, c, t, h1⟩, h2⟩))
    subst hz2
    clear CB hZ hT HE hm0 hmx hed hled hza hzb hm00 ha hb u1 hedb
    unfold AuF at CN
    generalize nz (0 :: List.range (min a.length ed + 1)) = S0 at *
    generalize bq a = sA at *
    generalize bq b = sB at *
    go_enter Try.func5, Try.ntmps5
    go_wp2_with (first
      | (refine wpList_maxA rfl _ _ rfl most 0 m0 rfl rfl HM1.out ?_)
      | (refine wpList_maxA rfl _ _ rfl (sA.size : Int) (sB.size : Int) (mx : Int) rfl rfl HM2.out ?_)
      | (refine wpList_minA rfl _ _ rfl m0 (mx : Int) (ed : Int) rfl rfl HM3.out ?_)
      | (go_at_call 7; refine (CN.out _).mono ?_; rintro e W1 ⟨⟨ba, sa, sc, rfl, hA⟩, K1⟩; have HA := hideG hA; clear hA)
      | (go_at_call 8; refine (CB2.out W1 ba sa sc HA.out).mono ?_; rintro e W2 ⟨⟨a2, c2, t2, rfl⟩, K2⟩)
      | (go_at_call 9; refine (CI a2 c2 _).mono ?_; rintro e W3 ⟨rfl, e3⟩; subst e3))
    go_ret
    exact ⟨rfl, ((Kept.alloc _ _).trans K1 (fun _ f => f.elim)).trans K2 (fun _ f => f.elim)⟩
  | cons x row =>
    rw [hT] at CB
    obtain ⟨he1, he2⟩ := end_row hT
    obtain ⟨z, e9, M, y, er, hy⟩ := trm_split hT
    have hlen := congrArg List.length e9
    rw [rwC_len, List.length_append, List.length_append, List.length_replicate, List.length_replicate] at hlen
    obtain ⟨R, hR⟩ : ∃ R, R = row.length := ⟨_, rfl⟩
    have hR1 : 1 ≤ R := by rw [hR, er]; simp
    have eS : (nz (x :: row)).length = R + 1 := by rw [nz_len, List.length_cons, hR]
    have CI : Hid (∀ a c W, Calls Try.prog 9 #[.slice a (R + 1) c] W fun e w' => e = .returned (.bool true) ∧ w' = W) := hideG (fun a c W => by have := isAlive_any a (R + 1) c W; rwa [decide_eq_true (by omega)] at this)
    have CA : Hid (∀ a1 c W, NsAt W a1 (nz (x :: row)) → IvF a ed (nz (x :: row)) → Calls Try.prog 10 #[.agg #[.string (bq a), .int .i64 (ed : Nat)], .slice a1 (R + 1) c] W fun e w' => e = .returned (.bool (decide (lev a.reverse b.reverse < ed + 1))) ∧ Kept (fun _ => False) W w') := hideG (fun a1 c W hN hI => by
      have h := accepts_fuzzy a ed W (nz (x :: row)) a1 c (by omega) hN hI (by unfold nz; simp)
      have hac : acF a (nz (x :: row)) = decide (lev a.reverse b.reverse < ed + 1) := by
        unfold acF
        rw [zn_nz]
        exact decide_eq_decide.2 he1
      rw [hac, eS] at h
      exact h)
    rw [eS] at CB
    unfold AuF at CN
    have bR : R ≤ 549755000001 := by omega
    by_cases hac : lev a.reverse b.reverse < ed + 1
    · have hz2 : Z = ((lev a.reverse b.reverse : Nat) : Int) := by rw [hZ]; exact edF_near HE.out hac
      rw [decide_eq_true hac] at CA
      have HL : Hid (∀ W a1, NsAt W a1 (nz (x :: row)) → ∃ bS oS, a1 = some ⟨bS, oS, none⟩ ∧ W.cell? ⟨bS, oS + R, none⟩ = some (.int .i64 ((lev a.reverse b.reverse : Nat) : Int))) := hideG (fun W a1 hN => by
        obtain ⟨bS, oS, h1, h2⟩ := hN (by unfold nz; simp)
        refine ⟨bS, oS, h1, ?_⟩
        have h3 := h2 R (by rw [eS]; omega)
        have h4 : (nz (x :: row))[R]'(by rw [eS]; omega) = ((lev a.reverse b.reverse : Nat) : Int) := by
          subst hR
          exact last_nz (he2 (he1.2 hac)) _
        rw [h4] at h3
        exact h3)
      generalize lev a.reverse b.reverse = lv at *
      subst hz2
      clear hZ hT HE hm0 hmx hed hled hza hzb hm00 ha hb u1 hedb he1 he2 e9 er hy hlen eS hR hac
      generalize nz (0 :: List.range (min a.length ed + 1)) = S0 at *
      generalize nz (x :: row) = ST at *
      generalize bq a = sA at *
      generalize bq b = sB at *
      have i1 : (R : Int) + 1 - 1 = (R : Int) := by omega
      have i2 : (R : Int) < (R : Int) + 1 := by omega
      go_enter Try.func5, Try.ntmps5
      go_wp2_with (first
        | (refine wpList_maxA rfl _ _ rfl most 0 m0 rfl rfl HM1.out ?_)
        | (refine wpList_maxA rfl _ _ rfl (sA.size : Int) (sB.size : Int) (mx : Int) rfl rfl HM2.out ?_)
        | (refine wpList_minA rfl _ _ rfl m0 (mx : Int) (ed : Int) rfl rfl HM3.out ?_)
        | (go_at_call 7; refine (CN.out _).mono ?_; rintro e W1 ⟨⟨ba, sa, sc, rfl, hA⟩, K1⟩; have HA := hideG hA; have c0 := K1.cell (cell_of_two0 w sA ed) (fun f => f); have c1 := K1.cell (cell_of_two1 w sA ed) (fun f => f); clear hA)
        | (go_at_call 8; refine (CB.out W1 ba sa sc HA.out).mono ?_; rintro e W2 ⟨⟨a2, c2, t2, rfl, hN, hI, -⟩, K2⟩; obtain ⟨bS, oS, rfl, y0⟩ := HL.out W2 a2 hN; have HN := hideG hN; have HI := hideG hI; have d0 := K2.cell c0 (fun f => f); have d1 := K2.cell c1 (fun f => f); clear hN hI c0 c1)
        | (go_at_call 9; refine (CI.out _ c2 _).mono ?_; rintro e W3 ⟨rfl, e3⟩; subst e3)
        | (go_at_call 10; refine (CA.out _ c2 _ HN.out HI.out).mono ?_; rintro e W4 ⟨rfl, K4⟩; have y1 := K4.cell y0 (fun f => f); clear y0))
      go_ret
      exact ⟨rfl, (((Kept.alloc _ _).trans K1 (fun _ f => f.elim)).trans K2 (fun _ f => f.elim)).trans K4 (fun _ f => f.elim)⟩
    · have hz2 : Z = (ed : Int) + 1 := by rw [hZ]; exact edF_far HE.out (by rw [hled]; omega)
      rw [decide_eq_false hac] at CA
      subst hz2
      clear hZ hT HE hm0 hmx hed hled hza hzb hm00 ha hb u1 hedb he1 he2 e9 er hy hlen eS hR hac
      generalize nz (0 :: List.range (min a.length ed + 1)) = S0 at *
      generalize nz (x :: row) = ST at *
      generalize bq a = sA at *
      generalize bq b = sB at *
      go_enter Try.func5, Try.ntmps5
      go_wp2_with (first
        | (refine wpList_maxA rfl _ _ rfl most 0 m0 rfl rfl HM1.out ?_)
        | (refine wpList_maxA rfl _ _ rfl (sA.size : Int) (sB.size : Int) (mx : Int) rfl rfl HM2.out ?_)
        | (refine wpList_minA rfl _ _ rfl m0 (mx : Int) (ed : Int) rfl rfl HM3.out ?_)
        | (go_at_call 7; refine (CN.out _).mono ?_; rintro e W1 ⟨⟨ba, sa, sc, rfl, hA⟩, K1⟩; have HA := hideG hA; have c0 := K1.cell (cell_of_two0 w sA ed) (fun f => f); have c1 := K1.cell (cell_of_two1 w sA ed) (fun f => f); clear hA)
        | (go_at_call 8; refine (CB.out W1 ba sa sc HA.out).mono ?_; rintro e W2 ⟨⟨a2, c2, t2, rfl, hN, hI, -⟩, K2⟩; have HN := hideG hN; have HI := hideG hI; have d0 := K2.cell c0 (fun f => f); have d1 := K2.cell c1 (fun f => f); clear hN hI c0 c1)
        | (go_at_call 9; refine (CI.out _ c2 _).mono ?_; rintro e W3 ⟨rfl, e3⟩; subst e3)
        | (go_at_call 10; refine (CA.out _ c2 _ HN.out HI.out).mono ?_; rintro e W4 ⟨rfl, K4⟩))
      go_ret
      exact ⟨rfl, (((Kept.alloc _ _).trans K1 (fun _ f => f.elim)).trans K2 (fun _ f => f.elim)).trans K4 (fun _ f => f.elim)⟩
end Go.Proofs.Ytmddcjjmlfpffaa
