import Derived.Test.YtjmmdklgkcbihaaDoorKwc
namespace Go.Proofs.YtjmmdklgkcbihaaDoor
open Go.ChangeShapes Go.WideShapes Go.ChangeAt Go.RowKit

/-- Is there a number below 0? -/
def ngB (l : List Int) : Bool := l.any (fun x => decide (x < 0))
theorem ngB_no {l : List Int} (h : ngB l = false) : ∀ x ∈ l, 0 ≤ x := by
  intro x hx
  have := (List.any_eq_false.1 h) x hx
  simp only [decide_eq_true_eq] at this
  omega
/-- The error's number of a list that is to rise, and its bytes. -/
def rko (l : List Int) : Nat := if ngB l = true then 8 else if riseB l = true then 0 else 4
def rbo (l : List Int) : List Int := if rko l = 0 then rising l else []
/-- The same of a list that is to be packed. -/
def pko (l : List Int) : Nat := if ngB l = true then 8 else if l ≠ [] ∧ bitLen (orl l) = 0 ∧ 65536 < l.length then 3 else 0
def pbo (l : List Int) : List Int := if pko l = 0 then packed l else []
theorem nxt_snocK (l : List Int) (x : Int) (s : Nat) : nxt (l ++ [x]) s = x.toNat + 1 := by
  unfold nxt
  rw [List.foldl_append]
  rfl
theorem take_nextK {L : List Int} {k : Nat} (h : k < L.length) : L.take (k + 1) = L.take k ++ [L[k]?.getD 0] := by
  rw [List.take_add_one, List.getElem?_eq_getElem h, Option.toList_some, Option.getD_some]
set_option maxRecDepth 20000 in
set_option maxHeartbeats 4000000 in
/-- The document's Rising refuses a number below 0. -/
theorem drise_negK (l : List Int) (a : Option Addr) (c : Nat) (w : World) (hA : IntsAt w a l) (hl : l.length ≤ 1048576) (hg : ngB l = true) :
    Calls Tryd.prog 69 #[.slice a l.length c] w fun e w' => ∃ v, e = .returned (.tuple #[v, .int .i64 8]) ∧ GroK w w' 5 1 v 0 (bs []) := by
  have HG0 := hideH (gro_emptyK w w 5 1 (Kept.refl _ _))
  have HA := hideH hA
  have HX : Hid (¬ ∀ k, k < l.length → 0 ≤ l[k]?.getD 0) := hideH (fun h => by
    obtain ⟨x, hx, h2⟩ := List.any_eq_true.1 hg
    obtain ⟨k, hk, e⟩ := List.getElem_of_mem hx
    have := h k hk
    rw [List.getElem?_eq_getElem hk, Option.getD_some, e] at this
    simp only [decide_eq_true_eq] at h2
    omega)
  obtain ⟨n, hn⟩ : ∃ n, n = l.length := ⟨_, rfl⟩
  rw [← hn] at hl HX ⊢
  have HN := hideH hn
  clear hA hg hn
  go_enter Tryd.func69, Tryd.ntmps69
  go_wp2
  go_loop [11] (fun v11 => ∃ j : Nat, j ≤ n ∧ v11 = .int .i64 j ∧ Hid (∀ k, k < j → 0 ≤ l[k]?.getD 0)) (fun v11 => n - (intOf v11).toNat)
  case atStart => exact ⟨0, by omega, rfl, hideH (fun k hk => absurd hk (Nat.not_lt_zero _))⟩
  case round =>
    obtain ⟨j, hj, rfl, HP⟩ := hrel
    by_cases hlt : j < n
    · have hjj : (j : Int) < (n : Int) := by omega
      have hjl : j < l.length := by rw [← HN.out]; exact hlt
      obtain ⟨b, off, rfl, hc⟩ := HA.out.get (k := j) hjl
      obtain ⟨x, hx⟩ : ∃ x, x = l[j]?.getD 0 := ⟨_, rfl⟩
      rw [← hx] at hc
      have HXx := hideH hx
      clear hx
      by_cases hx0 : x < 0
      · go_wp2
        go_ret2
        exact ⟨_, rfl, HG0.out⟩
      · go_wp2
        go_round
        case rel => exact ⟨j + 1, by omega, by go_num, hideH (fun k hk => by
          by_cases e : k = j
          · rw [e, ← HXx.out]; omega
          · exact HP.out k (by omega))⟩
        case measure => simp [intOf]; omega
    · obtain rfl : j = n := by omega
      exact absurd HP.out HX.out
set_option maxRecDepth 20000 in
set_option maxHeartbeats 8000000 in
/-- The document's Rising, of numbers that are none below 0. -/
theorem drise_posK (l : List Int) (a : Option Addr) (c : Nat) (w : World) (hA : IntsAt w a l) (hl : l.length ≤ 1048576) (hI : IsInts l) (h0 : ∀ x ∈ l, 0 ≤ x) :
    Calls Tryd.prog 69 #[.slice a l.length c] w fun e w' => ∃ v, e = .returned (.tuple #[v, .int .i64 ((if riseB l = true then 0 else 4 : Nat) : Int)]) ∧ GroK w w' 5 1 v (if riseB l = true then rising l else []).length (bs (if riseB l = true then rising l else [])) := by
  have HA := hideH hA
  have CU : Hid (∀ (m : Nat) W, m < 18446744073709551616 → Calls Tryd.prog 31 #[.int .u64 m] W fun e w' => ∃ g c, e = .returned (.slice (some ⟨g, 0, none⟩) (uvb m).length c) ∧ GroK W w' 5 1 (.slice (some ⟨g, 0, none⟩) (uvb m).length c) (uvb m).length (bs (uvb m))) := hideH (fun m W h => duv_anyK m W h)
  have HP : Hid (∀ k, k < l.length → 0 ≤ l[k]?.getD 0 ∧ l[k]?.getD 0 ≤ 9223372036854775807) := hideH (fun k hk => by
    rw [List.getElem?_eq_getElem hk, Option.getD_some]
    exact ⟨h0 _ (List.getElem_mem hk), (hI _ (List.getElem_mem hk)).2⟩)
  have HRB := hideH (riseB_iff l)
  obtain ⟨K0, hK0⟩ : ∃ K0 : Nat, K0 = (if riseB l = true then 0 else 4) := ⟨_, rfl⟩
  obtain ⟨B0, hB0⟩ : ∃ B0 : List Int, B0 = (if riseB l = true then rising l else []) := ⟨_, rfl⟩
  rw [← hK0, ← hB0]
  have HK0 := hideH hK0
  have HB0 := hideH hB0
  clear hK0 hB0
  obtain ⟨n, hn⟩ : ∃ n, n = l.length := ⟨_, rfl⟩
  rw [← hn] at hl HP HRB ⊢
  have HN := hideH hn
  have CU0 := hideH (CU.out n w (by omega))
  have hu0 := uvb_le10K n (by omega)
  clear hA hI h0 hn
  go_enter Tryd.func69, Tryd.ntmps69
  go_wp2
  go_loop [11] (fun v11 => ∃ j : Nat, j ≤ n ∧ v11 = .int .i64 j) (fun v11 => n - (intOf v11).toNat)
  case atStart => exact ⟨0, by omega, rfl⟩
  case round =>
    obtain ⟨j, hj, rfl⟩ := hrel
    by_cases hlt : j < n
    · have hjj : (j : Int) < (n : Int) := by omega
      have hjl : j < l.length := by rw [← HN.out]; exact hlt
      obtain ⟨b, off, rfl, hc⟩ := HA.out.get (k := j) hjl
      have hx0 := HP.out j hlt
      generalize l[j]?.getD 0 = x at *
      have hxn : ¬ x < 0 := by omega
      go_wp2
      go_round
      case rel => exact ⟨j + 1, by omega, by go_num⟩
      case measure => simp [intOf]; omega
    · have hjj : ¬ (j : Int) < (n : Int) := by omega
      go_wp2_with (go_at_call 31; refine StpH.go ?_)
      refine ⟨?_⟩
      refine CU0.out.mono ?_
      clear CU0
      rintro e W1 ⟨g1, c1, rfl, hG1⟩
      have HG1 := hideH hG1
      clear hG1
      go_wp2_with fail
      go_loopw [6, 25] (fun v6 v25 wr => ∃ (j : Nat) (va : Value) (zs : List Int), j ≤ n ∧ v25 = .int .i64 j ∧ v6 = va ∧ zs.length ≤ 10 * (j + 1) ∧ Hid (zs = uvb n ++ risb (l.take j) 0) ∧ Hid (GroK w wr 5 1 va zs.length (bs zs)) ∧ Hid (∀ k, k + 1 < j → l[k]?.getD 0 < l[k + 1]?.getD 0)) (fun _ v25 _ => n - (intOf v25).toNat)
      case atStart => exact ⟨0, _, uvb n, by omega, rfl, rfl, by omega, hideH (by rw [List.take_zero, risb, List.append_nil]), HG1, hideH (fun k hk => absurd hk (by omega))⟩
      case round =>
        obtain ⟨j, va, zs, hj, rfl, rfl, hzl, HZ, HG, HR⟩ := hrel
        clear HG1
        by_cases hlt : j < n
        · have hjj : (j : Int) < (n : Int) := by omega
          have hjl : j < l.length := by rw [← HN.out]; exact hlt
          have hxb := HP.out j hlt
          obtain ⟨b, off, rfl, hcA⟩ := HA.out (by intro e; rw [e] at hjl; simp at hjl)
          have hc := HG.out.kept.cell (hcA j hjl) (fun f => f)
          have HSn := hideH (take_nextK hjl)
          obtain ⟨x, hx⟩ : ∃ x, x = l[j]?.getD 0 := ⟨_, rfl⟩
          rw [← hx] at hc hxb HSn
          have HXx := hideH hx
          obtain ⟨X, hX⟩ : ∃ X : Nat, x = X := ⟨x.toNat, by omega⟩
          subst hX
          clear hx
          by_cases hj0 : j = 0
          · subst hj0
            have hb0 : (((0 : Nat) : Int) == 0) = true := rfl
            rw [Nat.add_zero] at hc
            have w1 : IntKind.u64.wrap (X : Int) = (X : Int) := by rw [IntKind.wrap_u64]; omega
            have CU1 := hideH (CU.out X wr (by omega))
            have hu1 := uvb_le10K X (by omega)
            go_wp2_with (go_at_call 31; refine StpH.go ?_)
            refine ⟨?_⟩
            refine CU1.out.mono ?_
            clear CU1
            rintro e W2 ⟨g2, c2, rfl, hG2⟩
            have HGb := hideH (HG.out.later hG2.kept)
            have HB2 := hideH (gro_bytesK hG2).1
            have hU0 : 0 < (uvb X).length := by rw [uvb_length]; exact (ulen_le X (by omega)).1
            clear hG2
            go_wp2_with (at_builtin; refine StpH.go ?_)
            refine ⟨?_⟩
            refine wpList_catBK rfl _ _ rfl _ zs.length zs (uvb X) rfl HGb (some ⟨g2, 0, none⟩) (uvb X).length c2 rfl rfl HB2 hU0 (by omega) ?_
            intro g3 c3 W3 HG3 _
            go_wp2
            go_roundw
            case rel => exact ⟨1, _, zs ++ uvb X, by omega, by go_num, rfl, by rw [List.length_append]; omega, hideH (by rw [HSn.out, HZ.out]; simp [risb]), hideH (by rw [List.length_append]; exact HG3.out), hideH (fun k hk => absurd hk (by omega))⟩
            case measure => simp [intOf]; omega
          · have hb0 : ((j : Int) == 0) = false := by rw [beq_eq_false_iff_ne]; omega
            have hpb := HP.out (j - 1) (by omega)
            have hcp := HG.out.kept.cell (hcA (j - 1) (by omega)) (fun f => f)
            have ej : (j : Int) - 1 = ((j - 1 : Nat) : Int) := by omega
            have HTk : Hid (nxt (l.take j) 0 = (l[j - 1]?.getD 0).toNat + 1) := hideH (by
              have e2 := take_nextK (L := l) (k := j - 1) (by omega)
              rw [show j - 1 + 1 = j by omega] at e2
              rw [e2, nxt_snocK])
            have HRo : Hid (riseB l = true → l[j - 1]?.getD 0 < (X : Int)) := hideH (fun h => by
              have q := HRB.out.1 h (j - 1) (by omega)
              rw [show j - 1 + 1 = j by omega, ← HXx.out] at q
              exact q)
            have HRn : Hid (l[j - 1]?.getD 0 < (X : Int) → ∀ k, k + 1 < j + 1 → l[k]?.getD 0 < l[k + 1]?.getD 0) := hideH (fun h k hk => by
              by_cases e : k + 1 = j
              · have e2 : k = j - 1 := by omega
                rw [e, ← HXx.out, e2]
                exact h
              · exact HR.out k (by omega))
            generalize l[j - 1]?.getD 0 = y at hpb hcp HTk HRo HRn
            obtain ⟨Y, hY⟩ : ∃ Y : Nat, y = Y := ⟨y.toNat, by omega⟩
            subst hY
            rw [Int.toNat_natCast] at HTk
            clear hcA HR
            by_cases hle : X ≤ Y
            · have d1 : (X : Int) ≤ (Y : Int) := by omega
              have HRf : Hid (riseB l = false) := hideH (by
                cases h : riseB l with
                | false => rfl
                | true => have := HRo.out h; omega)
              have HGe := hideH (gro_emptyK w wr 5 1 HG.out.kept)
              go_wp2
              go_ret2
              have eK : K0 = 4 := by rw [HK0.out, HRf.out]; rfl
              have eB : B0 = [] := by rw [HB0.out, HRf.out]; rfl
              rw [eK, eB]
              exact ⟨_, rfl, HGe.out⟩
            · have d1 : ¬ (X : Int) ≤ (Y : Int) := by omega
              obtain ⟨m, hm⟩ : ∃ m, m = X - Y - 1 := ⟨_, rfl⟩
              have w1 : (X : Int) - (Y : Int) = ((m + 1 : Nat) : Int) := by omega
              have w2 : IntKind.u64.wrap ((m + 1 : Nat) : Int) = ((m + 1 : Nat) : Int) := by rw [IntKind.wrap_u64]; omega
              have w3 : ((m + 1 : Nat) : Int) - 1 = (m : Int) := by omega
              have CU1 := hideH (CU.out m wr (by omega))
              have hu1 := uvb_le10K m (by omega)
              have HSr : Hid (risb (l.take (j + 1)) 0 = risb (l.take j) 0 ++ uvb m) := hideH (by
                rw [HSn.out, risb_snoc, HTk.out, Int.toNat_natCast, hm]
                first | (congr 2; done) | (congr 2; omega))
              clear hm
              go_wp2_with (go_at_call 31; refine StpH.go ?_)
              refine ⟨?_⟩
              refine CU1.out.mono ?_
              clear CU1
              rintro e W2 ⟨g2, c2, rfl, hG2⟩
              have HGb := hideH (HG.out.later hG2.kept)
              have HB2 := hideH (gro_bytesK hG2).1
              have hU0 : 0 < (uvb m).length := by rw [uvb_length]; exact (ulen_le m (by omega)).1
              clear hG2
              go_wp2_with (at_builtin; refine StpH.go ?_)
              refine ⟨?_⟩
              refine wpList_catBK rfl _ _ rfl _ zs.length zs (uvb m) rfl HGb (some ⟨g2, 0, none⟩) (uvb m).length c2 rfl rfl HB2 hU0 (by omega) ?_
              intro g3 c3 W3 HG3 _
              go_wp2
              go_roundw
              case rel => exact ⟨j + 1, _, zs ++ uvb m, by omega, by go_num, rfl, by rw [List.length_append]; omega, hideH (by rw [HSr.out, HZ.out, List.append_assoc]), hideH (by rw [List.length_append]; exact HG3.out), hideH (HRn.out (by omega))⟩
              case measure => simp [intOf]; omega
        · obtain rfl : j = n := by omega
          have i1 : ¬ (j : Int) < (j : Int) := by omega
          have HRt : Hid (riseB l = true) := hideH (HRB.out.2 HR.out)
          have HZf : Hid (rising l = zs) := hideH (by rw [HZ.out, rising, ← HN.out, List.take_of_length_le (by rw [← HN.out]; exact Nat.le_refl _)])
          go_wp2
          go_ret2
          have eK : K0 = 0 := by rw [HK0.out, HRt.out]; rfl
          have eB : B0 = zs := by rw [HB0.out, HRt.out, if_pos rfl, HZf.out]
          rw [eK, eB]
          exact ⟨_, rfl, HG.out⟩
end Go.Proofs.YtjmmdklgkcbihaaDoor
