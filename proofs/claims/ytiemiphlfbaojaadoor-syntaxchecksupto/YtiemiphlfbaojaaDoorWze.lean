import Derived.Test.YtiemiphlfbaojaaDoorMrg4
import Derived.Test.YtiemiphlfbaojaaDoorMrg7
namespace Go.Proofs.YtiemiphlfbaojaaDoor
open Go.ChangeShapes Go.WideShapes Go.ChangeAt Go.RowKit
variable {w : World}

/-! The document's suffixes and its fault. -/
theorem rw_kind {w : World} {a0 : Option Addr} {R : List Tn} (h : Rw w a0 R) {j : Nat} (hj : j < R.length) : ∃ g o, a0 = some ⟨g, o, none⟩ ∧ w.cell? ⟨g, o + j * 5, none⟩ = some (.int .i64 (tkA R j).k) := by
  obtain ⟨g, o, e, hc⟩ := h (by intro e; rw [e] at hj; simp at hj)
  have hy : R[j]? = some R[j] := List.getElem?_eq_getElem hj
  have et : tkA R j = R[j] := by unfold tkA; rw [hy]; rfl
  rw [et]
  exact ⟨g, o, e, (hc j _ hy).c0⟩
set_option maxRecDepth 20000 in
set_option maxHeartbeats 4000000 in
theorem suf_any (R : List Tn) (n : Nat) (hn : n = R.length) (a0 : Option Addr) (rc : Nat) (w : World) (hR : Rw w a0 R) (hr : n ≤ 500000000000) (i : Nat) (hi : i ≤ 600000000000) : Calls Tryd.prog 28 #[.slice a0 n rc, .int .i64 (i : Int)] w fun e w' => e = .returned (.int .i64 ((sufL (R.drop i) : Nat) : Int)) ∧ w' = w := by
  have HR := hideL hR
  have HN := hideL hn
  obtain ⟨S, hS⟩ : ∃ S, S = sufL (R.drop i) := ⟨_, rfl⟩
  rw [← hS]
  have hcl : ∀ T : List Tn, cntL T ≤ T.length := by
    intro T
    induction T with
    | nil => exact Nat.le_refl _
    | cons y r ih => rw [cntL]; split <;> simp only [List.length_cons] <;> omega
  have hcase : (i < n ∧ (isK 21 (tkA R i) = true ∨ (isK 21 (tkA R i) = false ∧ isK 20 (tkA R i) = true)) ∧ S = cntL (R.drop (i + 1))) ∨ (i < n ∧ isK 21 (tkA R i) = false ∧ isK 20 (tkA R i) = false ∧ S = cntL (R.drop i)) ∨ (¬ i < n ∧ S = cntL (R.drop i)) := by
    rcases Nat.lt_or_ge i n with q | q
    · have hd := drop_tk (R := R) (i := i) (by omega)
      rw [hd, sufL] at hS
      cases q21 : isK 21 (tkA R i) with
      | true => rw [q21] at hS; exact .inl ⟨q, .inl rfl, hS⟩
      | false =>
        cases q20 : isK 20 (tkA R i) with
        | true => rw [q21, q20] at hS; exact .inl ⟨q, .inr ⟨rfl, rfl⟩, hS⟩
        | false => rw [q21, q20] at hS; exact .inr (.inl ⟨q, rfl, rfl, by rw [hd]; exact hS⟩)
    · right; right
      refine ⟨by omega, ?_⟩
      rw [List.drop_of_length_le (by omega)] at hS ⊢
      exact hS
  have hSb : S ≤ n := by
    rcases hcase with ⟨_, _, e⟩ | ⟨_, _, _, e⟩ | ⟨_, e⟩ <;> (rw [e]; have := hcl (R.drop (i + 1)); have h2 := hcl (R.drop i); rw [List.length_drop] at this h2; omega)
  clear hcl hS hR hn
  have loop : Hid (∀ j0, S = cntL (R.drop j0) → Hid (0 + cntL (R.drop j0) = S)) := hideL (fun j0 e => hideL (by rw [Nat.zero_add]; exact e.symm))
  rcases hcase with ⟨h1, h2, h3⟩ | ⟨h1, h2, h3, h4⟩ | ⟨h1, h2⟩
  · obtain ⟨g, o, e0, x0⟩ := rw_kind HR.out (j := i) (by have := HN.out; omega)
    have hiz : (i : Int) < (n : Int) := by omega
    have HS0 := loop.out (i + 1) h3
    subst e0
    rcases h2 with h2 | ⟨h2, h20⟩
    · have b21 : ((tkA R i).k == 21) = true := h2
      generalize (tkA R i).k = yk at *
      clear h2 h3
      go_enter Tryd.func28, Tryd.ntmps28
      go_wp2_with fail
      go_loopw [1, 5] (fun jv cv wr => ∃ (j c : Nat), j ≤ 600000000001 ∧ c ≤ n ∧ jv = .int .i64 j ∧ cv = .int .i64 c ∧ Hid (c + cntL (R.drop j) = S) ∧ wr = w) (fun jv _ _ => n - (intOf jv).toNat)
      case atStart => exact ⟨(i + 1), 0, by omega, by omega, by go_num, rfl, HS0, rfl⟩
      case round =>
        obtain ⟨j, c, hj, hcn, rfl, rfl, HC, hw⟩ := hrel
        subst hw
        by_cases hjl : j < n
        · have hjz : (j : Int) < (n : Int) := by omega
          obtain ⟨g', o', e0', z0⟩ := rw_kind HR.out (j := j) (by have := HN.out; omega)
          obtain ⟨rfl, rfl⟩ : g' = g ∧ o' = o := by injection e0' with e0'; injection e0' with h1 h2 _; exact ⟨h1.symm, h2.symm⟩
          have hd := drop_tk (R := R) (i := j) (by have := HN.out; omega)
          have hC := HC.out
          rw [hd, cntL] at hC
          cases q18 : isK 18 (tkA R j) with
          | true =>
            have b18 : ((tkA R j).k == 18) = true := q18
            rw [q18] at hC
            have HC2 : Hid (c + 1 + cntL (R.drop (j + 1)) = S) := hideL (by rw [← hC]; show _ = c + (cntL (R.drop (j + 1)) + 1); omega)
            have hcn2 : c + 1 ≤ n := by have := HC2.out; omega
            generalize (tkA R j).k = zk at *
            clear hd hC HC q18
            go_wp2_with fail
            go_roundw
            case rel => exact ⟨j + 1, c + 1, by omega, hcn2, by go_num, by go_num, HC2, by first | rfl | trivial⟩
            case measure => simp [intOf] <;> omega
          | false =>
            have b18 : ((tkA R j).k == 18) = false := q18
            cases q19 : isK 19 (tkA R j) with
            | true =>
              have b19 : ((tkA R j).k == 19) = true := q19
              rw [q18, q19] at hC
              have HC2 : Hid (c + 1 + cntL (R.drop (j + 1)) = S) := hideL (by rw [← hC]; show _ = c + (cntL (R.drop (j + 1)) + 1); omega)
              have hcn2 : c + 1 ≤ n := by have := HC2.out; omega
              generalize (tkA R j).k = zk at *
              clear hd hC HC q18 q19
              go_wp2_with fail
              go_roundw
              case rel => exact ⟨j + 1, c + 1, by omega, hcn2, by go_num, by go_num, HC2, by first | rfl | trivial⟩
              case measure => simp [intOf] <;> omega
            | false =>
              have b19 : ((tkA R j).k == 19) = false := q19
              rw [q18, q19] at hC
              have hC2 : c = S := hC
              generalize (tkA R j).k = zk at *
              clear hd hC HC q18 q19
              go_wp2_with fail
              go_ret
              exact ⟨by first | rfl | (rw [hC2]; done) | (rw [hC2]; rfl) | (rw [← hC2]; rfl), rfl⟩
        · have hjz : ¬ (j : Int) < (n : Int) := by omega
          have hC2 : c = S := by have h := HC.out; rw [List.drop_of_length_le (by have := HN.out; omega)] at h; exact h
          clear HC
          go_wp2_with fail
          go_ret
          exact ⟨by first | rfl | (rw [hC2]; done) | (rw [hC2]; rfl) | (rw [← hC2]; rfl), rfl⟩
    · have b21 : ((tkA R i).k == 21) = false := h2
      have b20 : ((tkA R i).k == 20) = true := h20
      generalize (tkA R i).k = yk at *
      clear h2 h20 h3
      go_enter Tryd.func28, Tryd.ntmps28
      go_wp2_with fail
      go_loopw [1, 5] (fun jv cv wr => ∃ (j c : Nat), j ≤ 600000000001 ∧ c ≤ n ∧ jv = .int .i64 j ∧ cv = .int .i64 c ∧ Hid (c + cntL (R.drop j) = S) ∧ wr = w) (fun jv _ _ => n - (intOf jv).toNat)
      case atStart => exact ⟨(i + 1), 0, by omega, by omega, by go_num, rfl, HS0, rfl⟩
      case round =>
        obtain ⟨j, c, hj, hcn, rfl, rfl, HC, hw⟩ := hrel
        subst hw
        by_cases hjl : j < n
        · have hjz : (j : Int) < (n : Int) := by omega
          obtain ⟨g', o', e0', z0⟩ := rw_kind HR.out (j := j) (by have := HN.out; omega)
          obtain ⟨rfl, rfl⟩ : g' = g ∧ o' = o := by injection e0' with e0'; injection e0' with h1 h2 _; exact ⟨h1.symm, h2.symm⟩
          have hd := drop_tk (R := R) (i := j) (by have := HN.out; omega)
          have hC := HC.out
          rw [hd, cntL] at hC
          cases q18 : isK 18 (tkA R j) with
          | true =>
            have b18 : ((tkA R j).k == 18) = true := q18
            rw [q18] at hC
            have HC2 : Hid (c + 1 + cntL (R.drop (j + 1)) = S) := hideL (by rw [← hC]; show _ = c + (cntL (R.drop (j + 1)) + 1); omega)
            have hcn2 : c + 1 ≤ n := by have := HC2.out; omega
            generalize (tkA R j).k = zk at *
            clear hd hC HC q18
            go_wp2_with fail
            go_roundw
            case rel => exact ⟨j + 1, c + 1, by omega, hcn2, by go_num, by go_num, HC2, by first | rfl | trivial⟩
            case measure => simp [intOf] <;> omega
          | false =>
            have b18 : ((tkA R j).k == 18) = false := q18
            cases q19 : isK 19 (tkA R j) with
            | true =>
              have b19 : ((tkA R j).k == 19) = true := q19
              rw [q18, q19] at hC
              have HC2 : Hid (c + 1 + cntL (R.drop (j + 1)) = S) := hideL (by rw [← hC]; show _ = c + (cntL (R.drop (j + 1)) + 1); omega)
              have hcn2 : c + 1 ≤ n := by have := HC2.out; omega
              generalize (tkA R j).k = zk at *
              clear hd hC HC q18 q19
              go_wp2_with fail
              go_roundw
              case rel => exact ⟨j + 1, c + 1, by omega, hcn2, by go_num, by go_num, HC2, by first | rfl | trivial⟩
              case measure => simp [intOf] <;> omega
            | false =>
              have b19 : ((tkA R j).k == 19) = false := q19
              rw [q18, q19] at hC
              have hC2 : c = S := hC
              generalize (tkA R j).k = zk at *
              clear hd hC HC q18 q19
              go_wp2_with fail
              go_ret
              exact ⟨by first | rfl | (rw [hC2]; done) | (rw [hC2]; rfl) | (rw [← hC2]; rfl), rfl⟩
        · have hjz : ¬ (j : Int) < (n : Int) := by omega
          have hC2 : c = S := by have h := HC.out; rw [List.drop_of_length_le (by have := HN.out; omega)] at h; exact h
          clear HC
          go_wp2_with fail
          go_ret
          exact ⟨by first | rfl | (rw [hC2]; done) | (rw [hC2]; rfl) | (rw [← hC2]; rfl), rfl⟩
  · obtain ⟨g, o, e0, x0⟩ := rw_kind HR.out (j := i) (by have := HN.out; omega)
    have hiz : (i : Int) < (n : Int) := by omega
    have HS0 := loop.out i h4
    subst e0
    have b21 : ((tkA R i).k == 21) = false := h2
    have b20 : ((tkA R i).k == 20) = false := h3
    generalize (tkA R i).k = yk at *
    clear h2 h3 h4
    go_enter Tryd.func28, Tryd.ntmps28
    go_wp2_with fail
    go_loopw [1, 5] (fun jv cv wr => ∃ (j c : Nat), j ≤ 600000000001 ∧ c ≤ n ∧ jv = .int .i64 j ∧ cv = .int .i64 c ∧ Hid (c + cntL (R.drop j) = S) ∧ wr = w) (fun jv _ _ => n - (intOf jv).toNat)
    case atStart => exact ⟨i, 0, by omega, by omega, by go_num, rfl, HS0, rfl⟩
    case round =>
      obtain ⟨j, c, hj, hcn, rfl, rfl, HC, hw⟩ := hrel
      subst hw
      by_cases hjl : j < n
      · have hjz : (j : Int) < (n : Int) := by omega
        obtain ⟨g', o', e0', z0⟩ := rw_kind HR.out (j := j) (by have := HN.out; omega)
        obtain ⟨rfl, rfl⟩ : g' = g ∧ o' = o := by injection e0' with e0'; injection e0' with h1 h2 _; exact ⟨h1.symm, h2.symm⟩
        have hd := drop_tk (R := R) (i := j) (by have := HN.out; omega)
        have hC := HC.out
        rw [hd, cntL] at hC
        cases q18 : isK 18 (tkA R j) with
        | true =>
          have b18 : ((tkA R j).k == 18) = true := q18
          rw [q18] at hC
          have HC2 : Hid (c + 1 + cntL (R.drop (j + 1)) = S) := hideL (by rw [← hC]; show _ = c + (cntL (R.drop (j + 1)) + 1); omega)
          have hcn2 : c + 1 ≤ n := by have := HC2.out; omega
          generalize (tkA R j).k = zk at *
          clear hd hC HC q18
          go_wp2_with fail
          go_roundw
          case rel => exact ⟨j + 1, c + 1, by omega, hcn2, by go_num, by go_num, HC2, by first | rfl | trivial⟩
          case measure => simp [intOf] <;> omega
        | false =>
          have b18 : ((tkA R j).k == 18) = false := q18
          cases q19 : isK 19 (tkA R j) with
          | true =>
            have b19 : ((tkA R j).k == 19) = true := q19
            rw [q18, q19] at hC
            have HC2 : Hid (c + 1 + cntL (R.drop (j + 1)) = S) := hideL (by rw [← hC]; show _ = c + (cntL (R.drop (j + 1)) + 1); omega)
            have hcn2 : c + 1 ≤ n := by have := HC2.out; omega
            generalize (tkA R j).k = zk at *
            clear hd hC HC q18 q19
            go_wp2_with fail
            go_roundw
            case rel => exact ⟨j + 1, c + 1, by omega, hcn2, by go_num, by go_num, HC2, by first | rfl | trivial⟩
            case measure => simp [intOf] <;> omega
          | false =>
            have b19 : ((tkA R j).k == 19) = false := q19
            rw [q18, q19] at hC
            have hC2 : c = S := hC
            generalize (tkA R j).k = zk at *
            clear hd hC HC q18 q19
            go_wp2_with fail
            go_ret
            exact ⟨by first | rfl | (rw [hC2]; done) | (rw [hC2]; rfl) | (rw [← hC2]; rfl), rfl⟩
      · have hjz : ¬ (j : Int) < (n : Int) := by omega
        have hC2 : c = S := by have h := HC.out; rw [List.drop_of_length_le (by have := HN.out; omega)] at h; exact h
        clear HC
        go_wp2_with fail
        go_ret
        exact ⟨by first | rfl | (rw [hC2]; done) | (rw [hC2]; rfl) | (rw [← hC2]; rfl), rfl⟩
  · have hiz : ¬ (i : Int) < (n : Int) := by omega
    have HS0 := loop.out i h2
    clear h2
    go_enter Tryd.func28, Tryd.ntmps28
    go_wp2_with fail
    go_loopw [1, 5] (fun jv cv wr => ∃ (j c : Nat), j ≤ 600000000001 ∧ c ≤ n ∧ jv = .int .i64 j ∧ cv = .int .i64 c ∧ Hid (c + cntL (R.drop j) = S) ∧ wr = w) (fun jv _ _ => n - (intOf jv).toNat)
    case atStart => exact ⟨i, 0, by omega, by omega, by go_num, rfl, HS0, rfl⟩
    case round =>
      obtain ⟨j, c, hj, hcn, rfl, rfl, HC, hw⟩ := hrel
      subst hw
      by_cases hjl : j < n
      · have hjz : (j : Int) < (n : Int) := by omega
        obtain ⟨g', o', e0', z0⟩ := rw_kind HR.out (j := j) (by have := HN.out; omega)
        subst e0'
        have hd := drop_tk (R := R) (i := j) (by have := HN.out; omega)
        have hC := HC.out
        rw [hd, cntL] at hC
        cases q18 : isK 18 (tkA R j) with
        | true =>
          have b18 : ((tkA R j).k == 18) = true := q18
          rw [q18] at hC
          have HC2 : Hid (c + 1 + cntL (R.drop (j + 1)) = S) := hideL (by rw [← hC]; show _ = c + (cntL (R.drop (j + 1)) + 1); omega)
          have hcn2 : c + 1 ≤ n := by have := HC2.out; omega
          generalize (tkA R j).k = zk at *
          clear hd hC HC q18
          go_wp2_with fail
          go_roundw
          case rel => exact ⟨j + 1, c + 1, by omega, hcn2, by go_num, by go_num, HC2, by first | rfl | trivial⟩
          case measure => simp [intOf] <;> omega
        | false =>
          have b18 : ((tkA R j).k == 18) = false := q18
          cases q19 : isK 19 (tkA R j) with
          | true =>
            have b19 : ((tkA R j).k == 19) = true := q19
            rw [q18, q19] at hC
            have HC2 : Hid (c + 1 + cntL (R.drop (j + 1)) = S) := hideL (by rw [← hC]; show _ = c + (cntL (R.drop (j + 1)) + 1); omega)
            have hcn2 : c + 1 ≤ n := by have := HC2.out; omega
            generalize (tkA R j).k = zk at *
            clear hd hC HC q18 q19
            go_wp2_with fail
            go_roundw
            case rel => exact ⟨j + 1, c + 1, by omega, hcn2, by go_num, by go_num, HC2, by first | rfl | trivial⟩
            case measure => simp [intOf] <;> omega
          | false =>
            have b19 : ((tkA R j).k == 19) = false := q19
            rw [q18, q19] at hC
            have hC2 : c = S := hC
            generalize (tkA R j).k = zk at *
            clear hd hC HC q18 q19
            go_wp2_with fail
            go_ret
            exact ⟨by first | rfl | (rw [hC2]; done) | (rw [hC2]; rfl) | (rw [← hC2]; rfl), rfl⟩
      · have hjz : ¬ (j : Int) < (n : Int) := by omega
        have hC2 : c = S := by have h := HC.out; rw [List.drop_of_length_le (by have := HN.out; omega)] at h; exact h
        clear HC
        go_wp2_with fail
        go_ret
        exact ⟨by first | rfl | (rw [hC2]; done) | (rw [hC2]; rfl) | (rw [← hC2]; rfl), rfl⟩
/-- What fault answers. -/
def ftPost (w : World) (R : List Tn) (e : Ending) (w' : World) : Prop := Kept (fun _ => False) w w' ∧ ((∃ i : Nat, e = .returned (.int .i64 (i : Int)) ∧ i < R.length ∧ rfR (R.take i) ≠ none ∧ rfR (R.take (i + 1)) = none) ∨ (e = .returned (.int .i64 (-1)) ∧ rfR R ≠ none))
theorem ft_start (w : World) : FlS w (w.alloc (.cells #[.int .i64 0, .bool false, .slice none 0 0] 57)) w.heap.size r00 none 0 0 (.slice none 0 0) 0 [] :=
  ⟨Kept.alloc _ _, heap_alloc_new w _, ⟨⟨rfl, .inl ⟨rfl, rfl⟩⟩, rfl⟩, ⟨rfl, .inl ⟨rfl, rfl⟩⟩, Nat.le_refl _⟩
set_option maxRecDepth 20000 in
set_option maxHeartbeats 8000000 in
theorem fault_any (R : List Tn) (n : Nat) (hn : n = R.length) (a0 : Option Addr) (rc : Nat) (w : World) (hR : Rw w a0 R) (hr : R.length ≤ 500000000000) : Calls Tryd.prog 26 #[.slice a0 n rc] w (ftPost w R) := by
  have HP1 : Hid (∀ (i : Nat) w', Kept (fun _ => False) w w' → i < n → rfR (R.take i) ≠ none → rfR (R.take (i + 1)) = none → ftPost w R (.returned (.int .i64 (i : Int))) w') := hideL (fun i w' k h1 h2 h3 => ⟨k, .inl ⟨i, rfl, by omega, h2, h3⟩⟩)
  have HP2 : Hid (∀ w', Kept (fun _ => False) w w' → rfR R ≠ none → ftPost w R (.returned (.int .i64 (-1))) w') := hideL (fun w' k h => ⟨k, .inr ⟨rfl, h⟩⟩)
  generalize ftPost w R = QQ at *
  have FS := hideL (ft_start w)
  have HR := hideL hR
  have HN := hideL hn
  have HR0 : Hid (rfR (R.take 0) = some r00) := hideL (by rw [List.take_zero]; rfl)
  have hnb : n ≤ 500000000000 := by omega
  clear hR hn hr
  go_enter Tryd.func26, Tryd.ntmps26
  go_wp2_with fail
  generalize w.alloc (.cells #[.int .i64 0, .bool false, .slice none 0 0] 57) = W2 at *
  obtain ⟨rb, hrb⟩ : ∃ rb, rb = w.heap.size := ⟨_, rfl⟩
  rw [← hrb] at FS ⊢
  clear hrb
  go_loopw [11] (fun jv wr => ∃ (i : Nat) (r : Rs) (oa : Option Addr) (on oc : Nat), i ≤ n ∧ jv = .int .i64 i ∧ Hid (rfR (R.take i) = some r) ∧ Hid (FlS w wr rb r oa on oc (.slice none 0 0) 0 [])) (fun jv _ => n - (intOf jv).toNat)
  case atStart => exact ⟨0, r00, none, 0, 0, by omega, rfl, HR0, FS⟩
  case round =>
    obtain ⟨i, r, oa, on, oc, hi, rfl, HRi, HF⟩ := hrel
    clear HR0 FS
    have hrl := rf_len (R := R) i r (by have := HN.out; omega) HRi.out
    have hon : on = r.op.length := HF.out.opn.2
    have hob : on ≤ 900000000000 := by omega
    have hra := hrl.2
    clear hrl hon
    by_cases hlt : i < n
    · have hiz : (i : Int) < (n : Int) := by omega
      have hil : i < R.length := by rw [← HN.out]; exact hlt
      have hy : R[i]? = some R[i] := List.getElem?_eq_getElem hil
      have hnx := rf_next hy
      rw [HRi.out] at hnx
      obtain ⟨g, og, e0, hc⟩ := (HR.out.later HF.out.kept) (by intro e; rw [e] at hil; simp at hil)
      have hc := hc i _ hy
      generalize R[i] = y at hc hnx hy
      obtain ⟨yk, yt, yn, ya, ye⟩ := y
      obtain ⟨y0, y1, y2, y3, y4⟩ := hc
      dsimp only at y0 y1 y2 y3 y4
      have KA := Kept.alloc wr (.cells #[.int .i64 yk, .string yt, .int .i64 yn, .int .i64 ya, .int .i64 ye] 59)
      have HV := hideL (HF.out.later KA)
      have hsv : rb + 1 ≤ (wr.alloc (.cells #[.int .i64 yk, .string yt, .int .i64 yn, .int .i64 ya, .int .i64 ye] 59)).heap.size := by have := HF.out.lt; have := KA.size; omega
      have CQ := hideL (quick_any r hra ⟨yk, yt, yn, ya, ye⟩ oa on oc (rb + 1) _ HV.out.opn hsv hob)
      unfold lxC at CQ
      obtain ⟨c0, c1, c2, -⟩ := row3_cells HV.out.row
      have HX : Hid (rfR (R.take (i + 1)) = stepF r ⟨yk, yt, yn, ya, ye⟩) := hideL hnx
      dsimp only at CQ
      subst e0
      obtain ⟨ra, rs9, rop⟩ := r
      dsimp only at *
      clear KA hy hnx hsv hra HF
      generalize hVV : wr.alloc (.cells #[.int .i64 yk, .string yt, .int .i64 yn, .int .i64 ya, .int .i64 ye] 59) = V at CQ HV c0 c1 c2
      rw [← hVV] at c0 c1 c2
      have HVV := hideL hVV
      clear hVV
      go_wp2_with (go_at_call 19; refine Stp13.go ?_)
      rw [HVV.out]
      refine ⟨?_⟩
      refine CQ.out.mono ?_
      clear CQ y0 y1 y2 y3 y4 c0 c1 c2 HVV
      rintro x W4 ⟨k4, h4⟩
      rcases h4 with ⟨hx, a9, sg9, va, vn, vc, rfl⟩ | ⟨q, va, vn, vc, hx, rfl, ho⟩
      · obtain ⟨kw, hou⟩ := HV.out.quick0 k4
        have HE : Hid (rfR (R.take (i + 1)) = none) := hideL (by rw [HX.out]; exact hx)
        have HE0 : Hid (rfR (R.take i) ≠ none) := hideL (by rw [HRi.out]; exact fun e => by cases e)
        have KN := Kept.alloc W4 (.cells #[.int .i64 a9, .bool sg9, .slice va vn vc] 57)
        have HK := hideL (kw.trans KN (fun _ f => f.elim))
        clear k4 kw hou hx KN HV HX HRi
        go_wp2_with fail
        exact HP1.out i _ HK.out hlt HE0.out HE.out
      · obtain ⟨kw, hrow, hou, hO⟩ := HV.out.quick k4 ho
        have HRn : Hid (rfR (R.take (i + 1)) = some q) := hideL (by rw [HX.out]; exact hx)
        have HFn := hideL (fl_set (q := q) kw hrow hou hO HV.out.hb)
        obtain ⟨qa, qs, qop⟩ := q
        dsimp only at *
        have hrlt : rb < W4.heap.size := (Array.getElem?_eq_some_iff.mp hrow).1
        have n1 : ¬ rb = W4.heap.size := by omega
        have n2 : ¬ W4.heap.size = rb := by omega
        obtain ⟨d0, d1, d2, df⟩ := row3_cells hrow
        have f0 := df 0
        have f1 := df 1
        have f2 := df 2
        clear k4 kw hrow hou hO hx ho df HV HX HRi
        go_wp2_with fail
        go_roundw
        case rel => exact ⟨i + 1, ⟨qa, qs, qop⟩, va, vn, vc, by omega, by go_num, HRn, hideL (HFn.out.later (Kept.alloc _ _))⟩
        case measure => simp [intOf] <;> omega
    · have hiz : ¬ (i : Int) < (n : Int) := by omega
      have HE : Hid (rfR R ≠ none) := hideL (by
        have e1 := HRi.out
        rw [List.take_of_length_le (by have := HN.out; omega)] at e1
        rw [e1]
        exact fun e => by cases e)
      clear HRi
      go_wp2_with fail
      exact HP2.out _ HF.out.kept HE.out
end Go.Proofs.YtiemiphlfbaojaaDoor
