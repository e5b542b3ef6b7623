import Derived.Test.YtjmmdklgkcbihaaDoorKwb
import Derived.Test.YtjmmdklgkcbihaaDoorKwd
import Derived.Test.YtjmmdklgkcbihaaDoorErrs
import Derived.LaidEql
namespace Go.Proofs.YtjmmdklgkcbihaaDoor
open Go.ChangeShapes Go.WideShapes Go.ChangeAt Go.RowKit

theorem Sent.keptK {w w' : World} {tp : TypeId} {g : Nat} {text : List UInt8} {a : Addr} (h : Sent w tp g text a) (k : Kept (fun _ => False) w w') : Sent w' tp g text a := by
  obtain ⟨c, t, hb⟩ := h.blk
  exact ⟨k.cell h.var (fun f => f), k.cell h.cell (fun f => f), c, t, k.heap hb (fun f => f)⟩
theorem Sent.neK {w : World} {tp : TypeId} {g g' : Nat} {x y : List UInt8} {a b : Addr} (h : Sent w tp g x a) (h' : Sent w tp g' y b) (hne : x ≠ y) : a ≠ b := by
  intro e
  have h1 := h.cell
  rw [e, h'.cell] at h1
  simp at h1
  exact hne h1.symm
theorem Tryd.compErrFK : (Tryd.prog.info? 139).map (·.comparable) = some true := by kernel_rfl
theorem Tryd.sizeErrFK : (Tryd.prog.info? 155).map (·.size) = some 1 := by kernel_rfl
theorem errEqK (W : World) (a : Addr) : (binOp .eql 50 (.iface 139 (.pointer (some a))) (.iface 139 (.pointer (some a)))).run Tryd.prog W = .ok (.bool true) W := by
  obtain ⟨i, hi, hci⟩ := Option.map_eq_some_iff.1 (show (Tryd.prog.info? 139).map (·.comparable) = some true by kernel_rfl)
  obtain ⟨j, hj, _⟩ := Option.map_eq_some_iff.1 (show (Tryd.prog.info? 155).map (·.comparable) = some true by kernel_rfl)
  exact run_eql_iface_ptr_same W a Tryd.underlying50 Tryd.underlying139 hi hci hj
theorem err_neqFK {w : World} {tp : TypeId} {g g' : Nat} {x y : List UInt8} {a b : Addr} (h : Sent w tp g x a) (h' : Sent w tp g' y b) (hne : x ≠ y) :
    (binOp .eql 50 (.iface 139 (.pointer (some a))) (.iface 139 (.pointer (some b)))).run Tryd.prog w = .ok (.bool false) w := by
  obtain ⟨i, hi, hci⟩ := Option.map_eq_some_iff.1 Tryd.compErrFK
  obtain ⟨j, hj, hcj⟩ := Option.map_eq_some_iff.1 Tryd.sizeErrFK
  obtain ⟨c, t, ha⟩ := h.blk
  obtain ⟨c', t', hb⟩ := h'.blk
  exact run_eql_iface_ptr_other w Tryd.underlying50 Tryd.underlying139 hi hci hj (by rw [hcj]; decide) (h.neK h' hne) ha hb
def te0K : List UInt8 := [99, 111, 110, 99, 111, 114, 100, 58, 32, 116, 111, 111, 32, 115, 104, 111, 114, 116]
def te1K : List UInt8 := [99, 111, 110, 99, 111, 114, 100, 58, 32, 118, 97, 114, 105, 110, 116]
def te2K : List UInt8 := [99, 111, 110, 99, 111, 114, 100, 58, 32, 108, 105, 109, 105, 116]
def te3K : List UInt8 := [99, 111, 110, 99, 111, 114, 100, 58, 32, 111, 114, 100, 101, 114]
def te4K : List UInt8 := [99, 111, 110, 99, 111, 114, 100, 58, 32, 116, 97, 105, 108]
def te5K : List UInt8 := [99, 111, 110, 99, 111, 114, 100, 58, 32, 116, 97, 103]
def te6K : List UInt8 := [99, 111, 110, 99, 111, 114, 100, 58, 32, 115, 117, 109]
def te7K : List UInt8 := [99, 111, 110, 99, 111, 114, 100, 58, 32, 114, 97, 110, 103, 101]
/-- The errors that the number goes by, as they lie. -/
structure Es8K (w : World) (ad : Nat → Addr) : Prop where
  s0 : Sent w 139 1 te0K (ad 0)
  s1 : Sent w 139 3 te1K (ad 1)
  s2 : Sent w 139 4 te2K (ad 2)
  s3 : Sent w 139 5 te3K (ad 3)
  s4 : Sent w 139 2 te4K (ad 4)
  s5 : Sent w 139 6 te5K (ad 5)
  s6 : Sent w 139 7 te6K (ad 6)
  s7 : Sent w 139 0 te7K (ad 7)
theorem Es8K.kept {w w' : World} {ad : Nat → Addr} (h : Es8K w ad) (k : Kept (fun _ => False) w w') : Es8K w' ad :=
  ⟨h.s0.keptK k, h.s1.keptK k, h.s2.keptK k, h.s3.keptK k, h.s4.keptK k, h.s5.keptK k, h.s6.keptK k, h.s7.keptK k⟩
theorem num_nilK (w : World) : Calls Tryd.prog 22 #[.nilIface] w fun e w' => e = .returned (.int .i64 0) ∧ w' = w := by
  go_enter Tryd.func22, Tryd.ntmps22
  go_wp2
  go_ret
  exact ⟨rfl, rfl⟩
theorem num_limK {w : World} {ad : Nat → Addr} (h : Es8K w ad) : Calls Tryd.prog 22 #[errV (ad 2)] w fun e w' => e = .returned (.int .i64 3) ∧ w' = w := by
  have v0 := h.s0.var
  have v1 := h.s1.var
  have v2 := h.s2.var
  have e0 := err_neqFK h.s2 h.s0 (by decide)
  have e1 := err_neqFK h.s2 h.s1 (by decide)
  have e2 := errEqK w (ad 2)
  clear h
  unfold errV
  go_enter Tryd.func22, Tryd.ntmps22
  go_wp2
  go_ret
  exact ⟨rfl, rfl⟩
theorem num_ordK {w : World} {ad : Nat → Addr} (h : Es8K w ad) : Calls Tryd.prog 22 #[errV (ad 3)] w fun e w' => e = .returned (.int .i64 4) ∧ w' = w := by
  have v0 := h.s0.var
  have v1 := h.s1.var
  have v2 := h.s2.var
  have v3 := h.s3.var
  have e0 := err_neqFK h.s3 h.s0 (by decide)
  have e1 := err_neqFK h.s3 h.s1 (by decide)
  have e2 := err_neqFK h.s3 h.s2 (by decide)
  have e3 := errEqK w (ad 3)
  clear h
  unfold errV
  go_enter Tryd.func22, Tryd.ntmps22
  go_wp2
  go_ret
  exact ⟨rfl, rfl⟩
theorem num_rngK {w : World} {ad : Nat → Addr} (h : Es8K w ad) : Calls Tryd.prog 22 #[errV (ad 7)] w fun e w' => e = .returned (.int .i64 8) ∧ w' = w := by
  have v0 := h.s0.var
  have v1 := h.s1.var
  have v2 := h.s2.var
  have v3 := h.s3.var
  have v4 := h.s4.var
  have v5 := h.s5.var
  have v6 := h.s6.var
  have v7 := h.s7.var
  have e0 := err_neqFK h.s7 h.s0 (by decide)
  have e1 := err_neqFK h.s7 h.s1 (by decide)
  have e2 := err_neqFK h.s7 h.s2 (by decide)
  have e3 := err_neqFK h.s7 h.s3 (by decide)
  have e4 := err_neqFK h.s7 h.s4 (by decide)
  have e5 := err_neqFK h.s7 h.s5 (by decide)
  have e6 := err_neqFK h.s7 h.s6 (by decide)
  have e7 := errEqK w (ad 7)
  clear h
  unfold errV
  go_enter Tryd.func22, Tryd.ntmps22
  go_wp2
  go_ret
  exact ⟨rfl, rfl⟩
set_option maxRecDepth 20000 in
set_option maxHeartbeats 4000000 in
/-- The document's Packed refuses a number below 0. -/
theorem dpk_negK (l : List Int) (a : Option Addr) (c : Nat) (w : World) (hA : IntsAt w a l) (hl : l.length ≤ 1048576) (hg : ngB l = true) :
    Calls Tryd.prog 72 #[.slice a l.length c] w fun e w' => ∃ v, e = .returned (.tuple #[v, .int .i64 8]) ∧ GroK w w' 5 1 v 0 (bs []) := by
  have HG0 := hideH (gro_emptyK w w 5 1 (Kept.refl _ _))
  have HA := hideH hA
  have HX : Hid (¬ ∀ k, k < l.length → 0 ≤ l[k]?.getD 0) := hideH (fun h => by
    obtain ⟨x, hx, h2⟩ := List.any_eq_true.1 hg
    obtain ⟨k, hk, e⟩ := List.getElem_of_mem hx
    have := h k hk
    rw [List.getElem?_eq_getElem hk, Option.getD_some, e] at this
    simp only [decide_eq_true_eq] at h2
    omega)
  obtain ⟨n, hn⟩ : ∃ n, n = l.length := ⟨_, rfl⟩
  rw [← hn] at hl HX ⊢
  have HN := hideH hn
  clear hA hg hn
  go_enter Tryd.func72, Tryd.ntmps72
  go_wp2
  go_loop [15] (fun v15 => ∃ j : Nat, j ≤ n ∧ v15 = .int .i64 j ∧ Hid (∀ k, k < j → 0 ≤ l[k]?.getD 0)) (fun v15 => n - (intOf v15).toNat)
  case atStart => exact ⟨0, by omega, rfl, hideH (fun k hk => absurd hk (Nat.not_lt_zero _))⟩
  case round =>
    obtain ⟨j, hj, rfl, HP⟩ := hrel
    by_cases hlt : j < n
    · have hjj : (j : Int) < (n : Int) := by omega
      have hjl : j < l.length := by rw [← HN.out]; exact hlt
      obtain ⟨b, off, rfl, hc⟩ := HA.out.get (k := j) hjl
      obtain ⟨x, hx⟩ : ∃ x, x = l[j]?.getD 0 := ⟨_, rfl⟩
      rw [← hx] at hc
      have HXx := hideH hx
      clear hx
      by_cases hx0 : x < 0
      · go_wp2
        go_ret2
        exact ⟨_, rfl, HG0.out⟩
      · go_wp2
        go_round
        case rel => exact ⟨j + 1, by omega, by go_num, hideH (fun k hk => by
          by_cases e : k = j
          · rw [e, ← HXx.out]; omega
          · exact HP.out k (by omega))⟩
        case measure => simp [intOf]; omega
    · obtain rfl : j = n := by omega
      exact absurd HP.out HX.out
set_option maxRecDepth 20000 in
set_option maxHeartbeats 4000000 in
/-- The document's Packed refuses noughts alone, where there are too many; of nothing it is the number alone. -/
theorem dpk_limK (l : List Int) (a : Option Addr) (c : Nat) (w : World) (hA : IntsAt w a l) (h0 : ∀ x ∈ l, 0 ≤ x) (hI : IsInts l) (hl : l.length ≤ 1048576) (hz : bitLen (orl l) = 0) (hb : 65536 < l.length) :
    Calls Tryd.prog 72 #[.slice a l.length c] w fun e w' => ∃ v, e = .returned (.tuple #[v, .int .i64 3]) ∧ GroK w w' 5 1 v 0 (bs []) := by
  have CU := hideH (duv_anyK l.length w (by omega))
  have CW : Hid (∀ W, Kept (fun _ => False) w W → Calls Tryd.prog 85 #[.slice a l.length c] W fun e w' => e = .returned (.int .i64 0) ∧ w' = W) := hideH (fun W k => (dwid_anyK l a c W (hA.keptK k) h0 hI (by omega)).mono (fun e w' h => ⟨by rw [h.1, hz]; rfl, h.2⟩))
  have HA := hideH hA
  have H0 := hideH h0
  obtain ⟨n, hn⟩ : ∃ n, n = l.length := ⟨_, rfl⟩
  rw [← hn] at hl CU CW hb ⊢
  have HN := hideH hn
  have hn0b : ((n : Int) == 0) = false := by rw [beq_eq_false_iff_ne]; omega
  have hnl : decide ((65536 : Int) < (n : Int)) = true := by rw [decide_eq_true_iff]; omega
  generalize uvb n = U at CU
  clear hA h0 hI hn hz
  go_enter Tryd.func72, Tryd.ntmps72
  go_wp2
  go_loop [15] (fun v15 => ∃ j : Nat, j ≤ n ∧ v15 = .int .i64 j) (fun v15 => n - (intOf v15).toNat)
  case atStart => exact ⟨0, by omega, rfl⟩
  case round =>
    obtain ⟨j, hj, rfl⟩ := hrel
    by_cases hlt : j < n
    · have hjj : (j : Int) < (n : Int) := by omega
      have hjl : j < l.length := by rw [← HN.out]; exact hlt
      obtain ⟨b, off, rfl, hc⟩ := HA.out.get (k := j) hjl
      have hx0 := H0.out (l[j]?.getD 0) (by rw [List.getElem?_eq_getElem hjl]; exact List.getElem_mem hjl)
      generalize l[j]?.getD 0 = x at *
      have hxn : ¬ x < 0 := by omega
      go_wp2
      go_round
      case rel => exact ⟨j + 1, by omega, by go_num⟩
      case measure => simp [intOf]; omega
    · have hjj : ¬ (j : Int) < (n : Int) := by omega
      go_wp2_with (first
        | (go_at_call 31; refine CU.out.mono ?_; clear CU; rintro e W1 ⟨g1, c1, rfl, hG1⟩; have HG1 := hideH (gro_emptyK w W1 5 1 hG1.kept); have CW1 := hideH (CW.out W1 hG1.kept); clear hG1 CW)
        | (go_at_call 85; refine CW1.out.mono ?_; clear CW1; rintro e W1 ⟨rfl, rfl⟩))
      go_ret2
      exact ⟨_, rfl, HG1.out⟩
set_option maxRecDepth 20000 in
set_option maxHeartbeats 4000000 in
theorem dpk_nilK (a : Option Addr) (c : Nat) (w : World) :
    Calls Tryd.prog 72 #[.slice a 0 c] w fun e w' => ∃ v, e = .returned (.tuple #[v, .int .i64 0]) ∧ GroK w w' 5 1 v (uvb 0).length (bs (uvb 0)) := by
  have CU := hideH (duv_anyK 0 w (by omega))
  generalize uvb 0 = U at *
  go_enter Tryd.func72, Tryd.ntmps72
  go_wp2
  go_loop [15] (fun v15 => v15 = .int .i64 0) (fun v15 => 0)
  case atStart => rfl
  case round =>
    subst hrel
    go_wp2_with (go_at_call 31; refine CU.out.mono ?_; clear CU; rintro e W1 ⟨g1, c1, rfl, hG1⟩; have HG1 := hideH hG1; clear hG1)
    go_ret2
    exact ⟨_, rfl, HG1.out⟩
/-- The document's Packed and Rising of any list. -/
theorem dpk_allK (l : List Int) (a : Option Addr) (c : Nat) (w : World) (hA : IntsAt w a l) (hI : IsInts l) (hl : l.length ≤ 1048576) :
    Calls Tryd.prog 72 #[.slice a l.length c] w fun e w' => ∃ v, e = .returned (.tuple #[v, .int .i64 ((pko l : Nat) : Int)]) ∧ GroK w w' 5 1 v (pbo l).length (bs (pbo l)) := by
  unfold pbo pko
  cases hg : ngB l with
  | true =>
    rw [if_pos rfl, if_neg (by decide)]
    exact dpk_negK l a c w hA hl hg
  | false =>
    rw [if_neg (by decide)]
    have h0 := ngB_no hg
    by_cases hz : l ≠ [] ∧ bitLen (orl l) = 0 ∧ 65536 < l.length
    · rw [if_pos hz, if_neg (by decide)]
      exact dpk_limK l a c w hA h0 hI hl hz.2.1 hz.2.2
    · rw [if_neg hz, if_pos rfl]
      by_cases hne : l = []
      · subst hne
        have e : packed [] = uvb 0 := by rw [packed_eq]; simp [pbody]
        rw [e]
        exact dpk_nilK a c w
      · refine (dpk_anyK l a c w hA h0 hI hl hne ?_).mono ?_
        · by_cases q : bitLen (orl l) = 0
          · exact .inr (Nat.le_of_not_lt (fun r => hz ⟨hne, q, r⟩))
          · exact .inl q
        · rintro e w' ⟨g, c', rfl, hG⟩
          exact ⟨_, rfl, hG⟩
theorem drise_allK (l : List Int) (a : Option Addr) (c : Nat) (w : World) (hA : IntsAt w a l) (hI : IsInts l) (hl : l.length ≤ 1048576) :
    Calls Tryd.prog 69 #[.slice a l.length c] w fun e w' => ∃ v, e = .returned (.tuple #[v, .int .i64 ((rko l : Nat) : Int)]) ∧ GroK w w' 5 1 v (rbo l).length (bs (rbo l)) := by
  unfold rbo rko
  cases hg : ngB l with
  | true =>
    rw [if_pos rfl, if_neg (by decide)]
    exact drise_negK l a c w hA hl hg
  | false =>
    rw [if_neg (by decide)]
    refine (drise_posK l a c w hA hl hI (ngB_no hg)).mono ?_
    rintro e w' ⟨v, rfl, hG⟩
    cases hr : riseB l with
    | true => rw [hr] at hG; exact ⟨v, rfl, hG⟩
    | false => rw [hr] at hG; exact ⟨v, rfl, hG⟩
/-- What the program's Rising and Packed answer of any list: the error whose number the document tells, and the bytes put behind. -/
def EvK (ad : Nat → Addr) (k : Nat) : Value := if k = 0 then .nilIface else errV (ad (k - 1))
theorem wrise_allK (bw : Nat) (v : Value) (xs l : List Int) (a : Option Addr) (c : Nat) (ad : Nat → Addr) (w : World) (h : Wr w bw v xs) (hF : IntsFar w a l bw v) (hI : IsInts l) (hl : l.length ≤ 1048576) (hx : xs.length ≤ 70368744177664) (hE : Es8K w ad) :
    Calls Tryd.prog 70 #[.pointer (some ⟨bw, 0, none⟩), .slice a l.length c] w fun e w' => e = .returned (EvK ad (rko l)) ∧ ∃ v', Wr w' bw v' (xs ++ rbo l) ∧ WStep w w' bw v v' := by
  unfold rbo rko
  cases hg : ngB l with
  | true =>
    rw [if_pos rfl, if_neg (by decide)]
    refine (rising_neg bw l a c (ad 7) w hF.ints (by omega) hg hE.s7.var).mono ?_
    rintro e w' ⟨rfl, rfl⟩
    exact ⟨rfl, v, by rw [List.append_nil]; exact h, ⟨Kept.refl _ _, fun _ e => .inl e⟩⟩
  | false =>
    rw [if_neg (by decide)]
    cases hr : riseB l with
    | true =>
      rw [if_pos rfl, if_pos rfl]
      exact rising_any bw v xs l a c w h hF (ngB_no hg) hI hr (by omega) (by omega)
    | false =>
      rw [if_neg (by decide), if_neg (by decide)]
      refine (rising_ord bw l a c (ad 3) w hF.ints (by omega) (ngB_no hg) hr hE.s3.var).mono ?_
      rintro e w' ⟨rfl, n, rfl⟩
      exact ⟨rfl, v, by rw [List.append_nil]; exact h.kept (Kept.drewN _ _) (fun _ _ f => f), ⟨(Kept.drewN _ _).mono (fun _ f => f.elim), fun _ e => .inl e⟩⟩
theorem wpack_allK (bw : Nat) (v : Value) (xs l : List Int) (a : Option Addr) (c : Nat) (ad : Nat → Addr) (w : World) (h : Wr w bw v xs) (hF : IntsFar w a l bw v) (hI : IsInts l) (hl : l.length ≤ 1048576) (hx : xs.length ≤ 70368744177664) (hE : Es8K w ad) :
    Calls Tryd.prog 73 #[.pointer (some ⟨bw, 0, none⟩), .slice a l.length c] w fun e w' => e = .returned (EvK ad (pko l)) ∧ ∃ v', Wr w' bw v' (xs ++ pbo l) ∧ WStep w w' bw v v' := by
  unfold pbo pko
  cases hg : ngB l with
  | true =>
    rw [if_pos rfl, if_neg (by decide)]
    refine (packed_neg bw l a c (ad 7) w hF.ints (by omega) hg hE.s7.var).mono ?_
    rintro e w' ⟨rfl, rfl⟩
    exact ⟨rfl, v, by rw [List.append_nil]; exact h, ⟨Kept.refl _ _, fun _ e => .inl e⟩⟩
  | false =>
    rw [if_neg (by decide)]
    have h0 := ngB_no hg
    by_cases hz : l ≠ [] ∧ bitLen (orl l) = 0 ∧ 65536 < l.length
    · rw [if_pos hz, if_neg (by decide)]
      have hz0 : orl l = 0 := by
        have := (bitLen_le_iff (orl l) 0).1 (by omega)
        simpa using this
      refine (packed_lim bw l a c (ad 2) w hF.ints (by omega) h0 hI hz0 hz.2.2 hE.s2.var).mono ?_
      rintro e w' ⟨rfl, rfl⟩
      exact ⟨rfl, v, by rw [List.append_nil]; exact h, ⟨Kept.refl _ _, fun _ e => .inl e⟩⟩
    · rw [if_neg hz, if_pos rfl]
      refine packed_any bw v xs l a c w h hF h0 hI ?_ (by omega) (by omega)
      by_cases q : bitLen (orl l) = 0
      · by_cases hne : l = []
        · exact .inr (by rw [hne]; decide)
        · exact .inr (Nat.le_of_not_lt (fun r => hz ⟨hne, q, r⟩))
      · exact .inl q
end Go.Proofs.YtjmmdklgkcbihaaDoor
