import Derived.Test.YtiemiphlfbaojaaDoorLyi
import Derived.LaidEql
namespace Go.Proofs.YtiemiphlfbaojaaDoor
open Go.ChangeShapes Go.WideShapes Go.ChangeAt Go.RowKit

/-! A token stays where the text is cut behind it. -/
theorem rn_take : ∀ (n : Nat) (r : List UInt8) (m z : Nat), r.length ≤ n → rnL r = some z → z ≤ m → rnL (r.take m) = some z := by
  intro n
  induction n with
  | zero =>
    intro r m z h e hm
    cases r with
    | nil => rw [List.take_nil]; exact e
    | cons c r => simp at h
  | succ n ih =>
    intro r m z h e hm
    cases r with
    | nil => rw [List.take_nil]; exact e
    | cons c r =>
      simp only [List.length_cons] at h
      by_cases h2 : c = 92
      · subst h2
        cases r with
        | nil => rw [rn_lone] at e; cases e
        | cons d r =>
          rw [rn_esc] at e
          obtain ⟨x, hx, rfl⟩ := Option.map_eq_some_iff.1 e
          simp only [List.length_cons] at h
          obtain ⟨m2, rfl⟩ : ∃ m2, m = m2 + 2 := ⟨m - 2, by omega⟩
          show rnL (92 :: d :: r.take m2) = _
          rw [rn_esc, ih r m2 x (by omega) hx (by omega)]; rfl
      · by_cases hR : isR c = true
        · rw [rn_run c r hR] at e
          obtain ⟨x, hx, rfl⟩ := Option.map_eq_some_iff.1 e
          obtain ⟨m2, rfl⟩ : ∃ m2, m = m2 + 1 := ⟨m - 1, by omega⟩
          show rnL (c :: r.take m2) = _
          rw [rn_run c _ hR, ih r m2 x (by omega) hx (by omega)]; rfl
        · have hR2 : isR c = false := by simpa using hR
          rw [rn_end c r hR2 h2] at e
          cases e
          cases m with
          | zero => exact rn_nil
          | succ m2 =>
            show rnL (c :: r.take m2) = _
            rw [rn_end c _ hR2 h2]
theorem qo_take : ∀ (n : Nat) (r : List UInt8) (m z : Nat), r.length ≤ n → qoL r = some z → z ≤ m → qoL (r.take m) = some z := by
  intro n
  induction n with
  | zero =>
    intro r m z h e hm
    cases r with
    | nil => rw [List.take_nil]; exact e
    | cons c r => simp at h
  | succ n ih =>
    intro r m z h e hm
    cases r with
    | nil => rw [List.take_nil]; exact e
    | cons c r =>
      simp only [List.length_cons] at h
      by_cases h1 : c = 34
      · subst h1
        rw [qo_end] at e
        cases e
        obtain ⟨m2, rfl⟩ : ∃ m2, m = m2 + 1 := ⟨m - 1, by omega⟩
        show qoL (34 :: r.take m2) = _
        rw [qo_end]
      · by_cases h2 : c = 92
        · subst h2
          cases r with
          | nil => rw [qo_lone] at e; cases e
          | cons d r =>
            rw [qo_esc] at e
            obtain ⟨x, hx, rfl⟩ := Option.map_eq_some_iff.1 e
            simp only [List.length_cons] at h
            obtain ⟨m2, rfl⟩ : ∃ m2, m = m2 + 2 := ⟨m - 2, by omega⟩
            show qoL (92 :: d :: r.take m2) = _
            rw [qo_esc, ih r m2 x (by omega) hx (by omega)]; rfl
        · rw [qo_oth c r h1 h2] at e
          obtain ⟨x, hx, rfl⟩ := Option.map_eq_some_iff.1 e
          obtain ⟨m2, rfl⟩ : ∃ m2, m = m2 + 1 := ⟨m - 1, by omega⟩
          show qoL (c :: r.take m2) = _
          rw [qo_oth c _ h1 h2, ih r m2 x (by omega) hx (by omega)]; rfl
theorem dg_take (r : List UInt8) : ∀ (m : Nat), dgL r ≤ m → dgL (r.take m) = dgL r := by
  induction r with
  | nil => intro m _; rw [List.take_nil]
  | cons c r ih =>
    intro m h
    by_cases hc : cl c = 102
    · rw [dg_yes c r hc] at h ⊢
      obtain ⟨m2, rfl⟩ : ∃ m2, m = m2 + 1 := ⟨m - 1, by omega⟩
      show dgL (c :: r.take m2) = _
      rw [dg_yes c _ hc, ih m2 (by omega)]
    · rw [dg_no c r hc]
      cases m with
      | zero => rfl
      | succ m2 => show dgL (c :: r.take m2) = _; rw [dg_no c _ hc]
theorem nm_take (r : List UInt8) : ∀ (m v : Nat), dgL r ≤ m → nmV v (r.take m) = nmV v r := by
  induction r with
  | nil => intro m v _; rw [List.take_nil]
  | cons c r ih =>
    intro m v h
    by_cases hc : cl c = 102
    · rw [dg_yes c r hc] at h
      obtain ⟨m2, rfl⟩ : ∃ m2, m = m2 + 1 := ⟨m - 1, by omega⟩
      show nmV v (c :: r.take m2) = _
      rw [nm_yes v c _ hc, nm_yes v c r hc, ih m2 _ (by omega)]
    · rw [nm_no v c r hc]
      cases m with
      | zero => rw [List.take_zero, nmV]
      | succ m2 => show nmV v (c :: r.take m2) = _; rw [nm_no v c _ hc]
theorem num_take {k m0 m : Nat} {r : List UInt8} {t : Tk} (h : numT k m0 r = some t) (hm : t.z ≤ m0 + m) : numT k m0 (r.take m) = some t := by
  have e := numT_some h
  have hz : dgL r ≤ m := by rw [e] at hm; simp only at hm; omega
  unfold numT at h ⊢
  rw [dg_take r m hz, nm_take r m 0 hz]
  exact h
theorem tok_take (c : UInt8) (r : List UInt8) (m : Nat) (t : Tk) (h : tokF (c :: r) = some t) (hm : t.z ≤ m + 1) : tokF (c :: r.take m) = some t := by
  cases hB : isB c with
  | true =>
    cases e : rnL (c :: r) with
    | none => rw [tok_run0 c r hB e] at h; cases h
    | some z =>
      rw [tok_run c r hB z e] at h
      cases h
      simp only at hm
      have e2 : rnL (c :: r.take m) = some z := rn_take _ (c :: r) (m + 1) z (Nat.le_refl _) e hm
      rw [tok_run c _ hB z e2]
      have e3 : (c :: r.take m).take z = (c :: r).take z := by
        show ((c :: r).take (m + 1)).take z = _
        rw [List.take_take, Nat.min_eq_left hm]
      rw [e3]
  | false =>
    by_cases h3 : cl c = 3
    · have h34 : c = 34 := by
        have := cl_quo c
        rw [h3] at this
        exact eq_of_beq this.symm
      subst h34
      cases e : qoL r with
      | none => rw [tok_quo0 r e] at h; cases h
      | some z =>
        rw [tok_quo r z e] at h
        cases h
        simp only at hm
        rw [tok_quo _ z (qo_take _ r m z (Nat.le_refl _) e (by omega)), List.take_take, Nat.min_eq_left (by omega)]
    · by_cases h20 : cl c = 20
      · by_cases hd : dgL r = 0
        · rw [tok_til0 c r hB h20 hd] at h
          rw [tok_til0 c _ hB h20 (by rw [dg_take r m (by omega)]; exact hd)]
          exact h
        · rw [tok_til c r hB h20 hd] at h
          have hz := numT_some h
          have hz2 : dgL r ≤ m := by rw [hz] at hm; simp only at hm; omega
          rw [tok_til c _ hB h20 (by rw [dg_take r m hz2]; exact hd)]
          exact num_take h (by omega)
      · by_cases h18 : cl c = 18
        · by_cases hh : r.head? = some 61
          · obtain ⟨r', rfl⟩ : ∃ r', r = 61 :: r' := by
              cases r with
              | nil => cases hh
              | cons d r' => simp at hh; subst hh; exact ⟨r', rfl⟩
            rw [tok_const c _ hB h18 hh] at h
            have hz := numT_some h
            have hz2 : 1 ≤ m := by rw [hz] at hm; simp only at hm; omega
            obtain ⟨m2, rfl⟩ : ∃ m2, m = m2 + 1 := ⟨m - 1, by omega⟩
            show tokF (c :: 61 :: r'.take m2) = _
            rw [tok_const c _ hB h18 rfl]
            exact num_take (r := r') h (by omega)
          · rw [tok_boost c r hB h18 hh] at h
            have hz := numT_some h
            have hp : 0 < dgL r := by
              unfold numT at h
              split at h
              · rename_i q; exact q.1
              · cases h
            have hz2 : 1 ≤ m := by rw [hz] at hm; simp only at hm; omega
            rw [tok_boost c _ hB h18 (by
              cases r with
              | nil => rw [List.take_nil]; exact hh
              | cons d r' => obtain ⟨m2, rfl⟩ : ∃ m2, m = m2 + 1 := ⟨m - 1, by omega⟩; exact hh)]
            exact num_take h (by omega)
        · by_cases h21 : cl c = 21
          · rw [tok_least c r hB h21] at h
            rw [tok_least c _ hB h21]
            exact num_take h (by omega)
          · rw [tok_single c r hB h3 h20 h18 h21] at h
            rw [tok_single c _ hB h3 h20 h18 h21]
            exact h
/-- Where a fault is. -/
theorem scf_fault : ∀ (g k : Nat) (r : List UInt8) (f : Nat), r.length < g → (scF g k r).2 = some f → k ≤ f ∧ (∃ c s, r.drop (f - k) = c :: s ∧ cl c ≠ 101 ∧ tokF (c :: s) = none) ∧ (scF g k (r.take (f - k))).2 = none := by
  intro g
  induction g with
  | zero => intro k r f h; omega
  | succ g ih =>
    intro k r f hg h
    cases r with
    | nil => rw [sc_nil] at h; cases h
    | cons c r =>
      simp only [List.length_cons] at hg
      by_cases hb : cl c = 101
      · rw [sc_blank g k c r hb] at h
        obtain ⟨h1, ⟨c', s, h2, h3, h4⟩, h5⟩ := ih (k + 1) r f (by omega) h
        have e : f - k = (f - (k + 1)) + 1 := by omega
        refine ⟨by omega, ⟨c', s, by rw [e]; exact h2, h3, h4⟩, ?_⟩
        rw [e]
        show (scF (g + 1) k (c :: r.take (f - (k + 1)))).2 = none
        rw [sc_blank g k c _ hb]
        exact h5
      · cases ht : tokF (c :: r) with
        | none =>
          rw [sc_bad g k c r hb ht] at h
          cases h
          refine ⟨Nat.le_refl _, ⟨c, r, by rw [Nat.sub_self]; rfl, hb, ht⟩, ?_⟩
          rw [Nat.sub_self, List.take_zero, sc_nil]
        | some t =>
          have hz := tok_len _ t ht
          simp only [List.length_cons] at hz
          rw [sc_tok g k c r hb t ht] at h
          have h' : (scF g (k + t.z) ((c :: r).drop t.z)).2 = some f := h
          obtain ⟨h1, ⟨c', s, h2, h3, h4⟩, h5⟩ := ih (k + t.z) _ f (by rw [List.length_drop, List.length_cons]; omega) h'
          have e : f - k = (f - (k + t.z)) + t.z := by omega
          refine ⟨by omega, ⟨c', s, ?_, h3, h4⟩, ?_⟩
          · rw [← h2, List.drop_drop]; congr 1; omega
          · obtain ⟨y, hy⟩ : ∃ y, f - k = y + 1 := ⟨f - k - 1, by omega⟩
            rw [hy]
            show (scF (g + 1) k (c :: r.take y)).2 = none
            rw [sc_tok g k c _ hb t (tok_take c r y t ht (by omega))]
            show (scF g (k + t.z) ((c :: r.take y).drop t.z)).2 = none
            have e2 : (c :: r.take y).drop t.z = ((c :: r).drop t.z).take (f - (k + t.z)) := by
              show ((c :: r).take (y + 1)).drop t.z = _
              rw [← hy, List.drop_take]
              congr 1
              omega
            rw [e2]
            exact h5
/-- What is ahead of a fault, and from it on. -/
theorem scan_fault (l : List UInt8) (f : Nat) (h : (scanF l).2 = some f) : f < l.length ∧ (∀ hf : f < l.length, cl l[f] ≠ 101) ∧ (scanF (l.take f)).2 = none ∧ (scanF (l.drop f)).2 = some 0 := by
  obtain ⟨_, ⟨c, s, h2, h3, h4⟩, h5⟩ := scf_fault (l.length + 1) 0 l f (by omega) h
  rw [Nat.sub_zero] at h2 h5
  obtain ⟨hf, hd⟩ := drop_next h2
  refine ⟨hf, fun hf => ?_, ?_, ?_⟩
  · rw [List.drop_eq_getElem_cons hf] at h2
    rw [(List.cons.inj h2).1]
    exact h3
  · unfold scanF
    rw [sc_fuel _ (l.length + 1) 0 _ (by omega) (by rw [List.length_take]; omega)]
    exact h5
  · unfold scanF
    rw [h2]
    rw [sc_bad _ 0 c s h3 h4]
theorem ex_live : scanF [97, 32, 45, 98] = ([⟨1, [97], 0, 0, 1⟩, ⟨16, [], 0, 2, 3⟩, ⟨1, [98], 0, 3, 4⟩, ⟨0, [], 0, 4, 4⟩], none) := by kernel_rfl
theorem ex_dead : scanF [97, 32, 94] = ([⟨1, [97], 0, 0, 1⟩], some 2) := by kernel_rfl
theorem cl_blank (c : UInt8) : (cl c == 101) = (c == 32 || c == 9 || c == 10 || c == 13) := by
  have := u8_all (fun c => (cl c == 101) == (c == 32 || c == 9 || c == 10 || c == 13)) (by decide +kernel) c
  simpa using this
end Go.Proofs.YtiemiphlfbaojaaDoor
namespace Go.Proofs.YtiemiphlfbaojaaDoor
open Go.ChangeShapes Go.WideShapes Go.ChangeAt Go.RowKit

theorem errEqL (W : World) (a : Addr) : (binOp .eql 24 (.iface 120 (.pointer (some a))) (.iface 120 (.pointer (some a)))).run Tryd.prog W = .ok (.bool true) W := by
  obtain ⟨i, hi, hci⟩ := Option.map_eq_some_iff.1 (show (Tryd.prog.info? 120).map (·.comparable) = some true by kernel_rfl)
  obtain ⟨j, hj, _⟩ := Option.map_eq_some_iff.1 (show (Tryd.prog.info? 135).map (·.comparable) = some true by kernel_rfl)
  exact run_eql_iface_ptr_same W a Tryd.underlying24 Tryd.underlying120 hi hci hj
theorem errNeL (W : World) (a : Addr) : (binOp .neq 24 (.iface 120 (.pointer (some a))) (.iface 120 (.pointer (some a)))).run Tryd.prog W = .ok (.bool false) W := by
  obtain ⟨i, hi, hci⟩ := Option.map_eq_some_iff.1 (show (Tryd.prog.info? 120).map (·.comparable) = some true by kernel_rfl)
  obtain ⟨j, hj, _⟩ := Option.map_eq_some_iff.1 (show (Tryd.prog.info? 135).map (·.comparable) = some true by kernel_rfl)
  simp only [binOp]
  simp [Op.equal, Op.maxDepth, run_equalIn_iface_ptr_same W 9998 a Tryd.underlying24 Tryd.underlying120 hi hci hj]
theorem u8_neL (c d : UInt8) : ((c.toNat : Int) != (d.toNat : Int)) = !(c == d) := by
  show (!((c.toNat : Int) == (d.toNat : Int))) = !(c == d)
  by_cases h : c = d
  · subst h; simp
  · rw [u8_intL c d h, beq_eq_false_iff_ne.2 h]
/-- Scan of the two texts that every law asks. -/
theorem scan_live (w : World) (ad : Addr) (hC : ClsAt w) (hS : SynAt w ad) : Calls Tryd.prog 12 #[.string ⟨#[97, 32, 45, 98]⟩] w fun x w' => (∃ g c, x = .returned (.tuple #[.slice (some ⟨g, 0, none⟩) 4 c, .int .i64 0, .nilIface]) ∧ w'.cell? ⟨g, 0, none⟩ = some (.int .i64 1) ∧ w'.cell? ⟨g, 5, none⟩ = some (.int .i64 16) ∧ w'.cell? ⟨g, 11, none⟩ = some (.string ⟨#[98]⟩) ∧ w'.cell? ⟨g, 15, none⟩ = some (.int .i64 0)) ∧ Kept (fun _ => False) w w' := by
  refine (lscan_any [97, 32, 45, 98] w ad hC hS (by decide)).mono ?_
  intro x w' h
  unfold lxPost at h
  rw [ex_live] at h
  rcases h with ⟨_, a, c, m, rfl, hT⟩ | ⟨f, hf, _⟩
  · have hm : m = 4 := hT.len
    subst hm
    obtain ⟨g, rfl, _, hc⟩ := hT.cell (by decide)
    exact ⟨⟨g, c, rfl, (hc 0 (by decide)).1, (hc 1 (by decide)).1, (hc 2 (by decide)).2.1, (hc 3 (by decide)).1⟩, hT.gro.kept⟩
  · cases hf
theorem scan_dead (w : World) (ad : Addr) (hC : ClsAt w) (hS : SynAt w ad) : Calls Tryd.prog 12 #[.string ⟨#[97, 32, 94]⟩] w fun x w' => x = .returned (.tuple #[.slice none 0 0, .int .i64 2, .iface 120 (.pointer (some ad))]) ∧ Kept (fun _ => False) w w' := by
  refine (lscan_any [97, 32, 94] w ad hC hS (by decide)).mono ?_
  intro x w' h
  unfold lxPost at h
  rw [ex_dead] at h
  rcases h with ⟨hf, _⟩ | ⟨f, hf, rfl, hk⟩
  · cases hf
  · cases hf
    exact ⟨rfl, hk⟩
end Go.Proofs.YtiemiphlfbaojaaDoor
namespace Go.Proofs.YtiemiphlfbaojaaDoor
open Go.ChangeShapes Go.WideShapes Go.ChangeAt Go.RowKit

theorem scan_none (l : List UInt8) (w : World) (ad : Addr) (hC : ClsAt w) (hS : SynAt w ad) (hl : l.length ≤ 400000000000) (h : (scanF l).2 = none) :
    Calls Tryd.prog 12 #[.string (bq l)] w fun x w' => (∃ a c m, x = .returned (.tuple #[.slice a m c, .int .i64 0, .nilIface]) ∧ Tks w w' a c m (scanF l).1) ∧ Kept (fun _ => False) w w' := by
  refine (lscan_any l w ad hC hS hl).mono ?_
  rintro x w' (⟨_, a, c, m, rfl, hT⟩ | ⟨f, hf, _⟩)
  · exact ⟨⟨a, c, m, rfl, hT⟩, hT.gro.kept⟩
  · rw [h] at hf; cases hf
theorem scan_some (l : List UInt8) (w : World) (ad : Addr) (hC : ClsAt w) (hS : SynAt w ad) (hl : l.length ≤ 400000000000) (f : Nat) (h : (scanF l).2 = some f) :
    Calls Tryd.prog 12 #[.string (bq l)] w fun x w' => x = .returned (.tuple #[.slice none 0 0, .int .i64 (f : Int), .iface 120 (.pointer (some ad))]) ∧ Kept (fun _ => False) w w' := by
  refine (lscan_any l w ad hC hS hl).mono ?_
  rintro x w' (⟨hf, _⟩ | ⟨f', hf, rfl, hk⟩)
  · rw [h] at hf; cases hf
  · rw [h] at hf
    cases hf
    exact ⟨rfl, hk⟩
end Go.Proofs.YtiemiphlfbaojaaDoor
namespace Go.Proofs.YtiemiphlfbaojaaDoor
open Go.ChangeShapes Go.WideShapes Go.ChangeAt Go.RowKit

/-! Two texts with a space between. -/
theorem isR_32 : isR 32 = false := by decide +kernel
theorem cl_32 : cl 32 = 101 := by decide +kernel
theorem rn_app (q : List UInt8) : ∀ (n : Nat) (r : List UInt8) (z : Nat), r.length ≤ n → rnL r = some z → rnL (r ++ 32 :: q) = some z := by
  intro n
  induction n with
  | zero =>
    intro r z h e
    cases r with
    | nil => rw [rn_nil] at e; cases e; exact rn_end 32 q isR_32 (by decide)
    | cons c r => simp at h
  | succ n ih =>
    intro r z h e
    cases r with
    | nil => rw [rn_nil] at e; cases e; exact rn_end 32 q isR_32 (by decide)
    | cons c r =>
      simp only [List.length_cons] at h
      by_cases h2 : c = 92
      · subst h2
        cases r with
        | nil => rw [rn_lone] at e; cases e
        | cons d r =>
          rw [rn_esc] at e
          obtain ⟨x, hx, rfl⟩ := Option.map_eq_some_iff.1 e
          simp only [List.length_cons] at h
          show rnL (92 :: d :: (r ++ 32 :: q)) = _
          rw [rn_esc, ih r x (by omega) hx]; rfl
      · by_cases hR : isR c = true
        · rw [rn_run c r hR] at e
          obtain ⟨x, hx, rfl⟩ := Option.map_eq_some_iff.1 e
          show rnL (c :: (r ++ 32 :: q)) = _
          rw [rn_run c _ hR, ih r x (by omega) hx]; rfl
        · have hR2 : isR c = false := by simpa using hR
          rw [rn_end c r hR2 h2] at e
          cases e
          show rnL (c :: (r ++ 32 :: q)) = _
          rw [rn_end c _ hR2 h2]
theorem qo_app (q : List UInt8) : ∀ (n : Nat) (r : List UInt8) (z : Nat), r.length ≤ n → qoL r = some z → qoL (r ++ q) = some z := by
  intro n
  induction n with
  | zero =>
    intro r z h e
    cases r with
    | nil => rw [qo_nil] at e; cases e
    | cons c r => simp at h
  | succ n ih =>
    intro r z h e
    cases r with
    | nil => rw [qo_nil] at e; cases e
    | cons c r =>
      simp only [List.length_cons] at h
      by_cases h1 : c = 34
      · subst h1
        rw [qo_end] at e
        cases e
        show qoL (34 :: (r ++ q)) = _
        rw [qo_end]
      · by_cases h2 : c = 92
        · subst h2
          cases r with
          | nil => rw [qo_lone] at e; cases e
          | cons d r =>
            rw [qo_esc] at e
            obtain ⟨x, hx, rfl⟩ := Option.map_eq_some_iff.1 e
            simp only [List.length_cons] at h
            show qoL (92 :: d :: (r ++ q)) = _
            rw [qo_esc, ih r x (by omega) hx]; rfl
        · rw [qo_oth c r h1 h2] at e
          obtain ⟨x, hx, rfl⟩ := Option.map_eq_some_iff.1 e
          show qoL (c :: (r ++ q)) = _
          rw [qo_oth c _ h1 h2, ih r x (by omega) hx]; rfl
theorem dg_app (r q : List UInt8) : dgL (r ++ 32 :: q) = dgL r := by
  induction r with
  | nil => exact dg_no 32 q (by rw [cl_32]; decide)
  | cons c r ih =>
    show dgL (c :: (r ++ 32 :: q)) = _
    by_cases hc : cl c = 102
    · rw [dg_yes c _ hc, dg_yes c r hc, ih]
    · rw [dg_no c _ hc, dg_no c r hc]
theorem nm_app (r q : List UInt8) : ∀ v, nmV v (r ++ 32 :: q) = nmV v r := by
  induction r with
  | nil => intro v; rw [show ([] : List UInt8) ++ 32 :: q = 32 :: q from rfl, nm_no v 32 q (by rw [cl_32]; decide), nmV]
  | cons c r ih =>
    intro v
    show nmV v (c :: (r ++ 32 :: q)) = _
    by_cases hc : cl c = 102
    · rw [nm_yes v c _ hc, nm_yes v c r hc, ih]
    · rw [nm_no v c _ hc, nm_no v c r hc]
theorem num_app (k m : Nat) (r q : List UInt8) : numT k m (r ++ 32 :: q) = numT k m r := by unfold numT; rw [dg_app, nm_app]
theorem tok_app (c : UInt8) (r q : List UInt8) (t : Tk) (h : tokF (c :: r) = some t) : tokF (c :: (r ++ 32 :: q)) = some t := by
  cases hB : isB c with
  | true =>
    cases e : rnL (c :: r) with
    | none => rw [tok_run0 c r hB e] at h; cases h
    | some z =>
      have hz := rn_le _ _ z (Nat.le_refl _) e
      rw [tok_run c r hB z e] at h
      cases h
      have e2 : rnL (c :: (r ++ 32 :: q)) = some z := rn_app q _ (c :: r) z (Nat.le_refl _) e
      rw [tok_run c _ hB z e2]
      have e3 : (c :: (r ++ 32 :: q)).take z = (c :: r).take z := by
        show ((c :: r) ++ 32 :: q).take z = _
        rw [List.take_append_of_le_length hz]
      rw [e3]
  | false =>
    by_cases h3 : cl c = 3
    · have h34 : c = 34 := by
        have := cl_quo c
        rw [h3] at this
        exact eq_of_beq this.symm
      subst h34
      cases e : qoL r with
      | none => rw [tok_quo0 r e] at h; cases h
      | some z =>
        have hz := qo_le _ _ z (Nat.le_refl _) e
        rw [tok_quo r z e] at h
        cases h
        rw [tok_quo _ z (qo_app _ _ r z (Nat.le_refl _) e), List.take_append_of_le_length (by omega)]
    · by_cases h20 : cl c = 20
      · by_cases hd : dgL r = 0
        · rw [tok_til0 c r hB h20 hd] at h
          rw [tok_til0 c _ hB h20 (by rw [dg_app]; exact hd)]
          exact h
        · rw [tok_til c r hB h20 hd] at h
          rw [tok_til c _ hB h20 (by rw [dg_app]; exact hd), num_app]
          exact h
      · by_cases h18 : cl c = 18
        · by_cases hh : r.head? = some 61
          · obtain ⟨r', rfl⟩ : ∃ r', r = 61 :: r' := by
              cases r with
              | nil => cases hh
              | cons d r' => simp at hh; subst hh; exact ⟨r', rfl⟩
            rw [tok_const c _ hB h18 hh] at h
            show tokF (c :: 61 :: (r' ++ 32 :: q)) = _
            rw [tok_const c _ hB h18 rfl]
            show numT 19 2 (r' ++ 32 :: q) = _
            rw [num_app]
            exact h
          · rw [tok_boost c r hB h18 hh] at h
            rw [tok_boost c _ hB h18 (by
              cases r with
              | nil => exact fun x => by simp at x
              | cons d r' => exact hh), num_app]
            exact h
        · by_cases h21 : cl c = 21
          · rw [tok_least c r hB h21] at h
            rw [tok_least c _ hB h21, num_app]
            exact h
          · rw [tok_single c r hB h3 h20 h18 h21] at h
            rw [tok_single c _ hB h3 h20 h18 h21]
            exact h
def endT (k : Nat) : Lx := ⟨0, [], 0, k, k⟩
theorem sc_app : ∀ (f k : Nat) (r : List UInt8), r.length < f → (scF f k r).2 = none → ∃ A, (scF f k r).1 = A ++ [endT (k + r.length)] ∧ ∀ (q : List UInt8) (g : Nat), (r ++ 32 :: q).length < g → scF g k (r ++ 32 :: q) = cmL A (scF g (k + r.length + 1) q) := by
  intro f
  induction f with
  | zero => intro k r h; omega
  | succ f ih =>
    intro k r hf h
    cases r with
    | nil =>
      refine ⟨[], by rw [sc_nil]; rfl, fun q g hg => ?_⟩
      simp only [List.nil_append, List.length_cons] at hg
      obtain ⟨g', rfl⟩ : ∃ g', g = g' + 1 := ⟨g - 1, by omega⟩
      show scF (g' + 1) k (32 :: q) = _
      rw [sc_blank g' k 32 q cl_32, cm_nil]
      exact sc_fuel _ _ _ _ (by omega) (by omega)
    | cons c r =>
      simp only [List.length_cons] at hf
      by_cases hb : cl c = 101
      · rw [sc_blank f k c r hb] at h ⊢
        obtain ⟨A, h1, h2⟩ := ih (k + 1) r (by omega) h
        refine ⟨A, by rw [h1, List.length_cons, show k + 1 + r.length = k + (r.length + 1) by omega], fun q g hg => ?_⟩
        simp only [List.cons_append, List.length_cons] at hg
        obtain ⟨g', rfl⟩ : ∃ g', g = g' + 1 := ⟨g - 1, by omega⟩
        show scF (g' + 1) k (c :: (r ++ 32 :: q)) = _
        rw [sc_blank g' k c _ hb, h2 q g' (by omega), List.length_cons, show k + 1 + r.length + 1 = k + (r.length + 1) + 1 by omega]
        congr 1
        have : q.length < g' := by rw [List.length_append, List.length_cons] at hg; omega
        exact sc_fuel _ _ _ _ this (by omega)
      · cases ht : tokF (c :: r) with
        | none => rw [sc_bad f k c r hb ht] at h; cases h
        | some t =>
          have hz := tok_len _ t ht
          simp only [List.length_cons] at hz
          rw [sc_tok f k c r hb t ht] at h ⊢
          have h' : (scF f (k + t.z) ((c :: r).drop t.z)).2 = none := h
          obtain ⟨A, h1, h2⟩ := ih (k + t.z) _ (by rw [List.length_drop, List.length_cons]; omega) h'
          have el : k + t.z + ((c :: r).drop t.z).length = k + (c :: r).length := by rw [List.length_drop, List.length_cons]; omega
          rw [el] at h1 h2
          refine ⟨⟨t.k, t.t, t.n, k, k + t.z⟩ :: A, ?_, fun q g hg => ?_⟩
          · show [_] ++ (scF f (k + t.z) ((c :: r).drop t.z)).1 = _
            rw [h1]; rfl
          · have hg2 := hg
            simp only [List.cons_append, List.length_cons] at hg2
            obtain ⟨g', rfl⟩ : ∃ g', g = g' + 1 := ⟨g - 1, by omega⟩
            show scF (g' + 1) k (c :: (r ++ 32 :: q)) = _
            rw [sc_tok g' k c _ hb t (tok_app c r q t ht)]
            have ed : (c :: (r ++ 32 :: q)).drop t.z = (c :: r).drop t.z ++ 32 :: q := by
              show ((c :: r) ++ 32 :: q).drop t.z = _
              rw [List.drop_append_of_le_length (by rw [List.length_cons]; exact hz.2)]
            rw [ed, h2 q g' (by rw [List.length_append, List.length_drop, List.length_cons, List.length_cons]; rw [List.length_append, List.length_cons] at hg2; omega), cm_cm]
            show cmL (⟨t.k, t.t, t.n, k, k + t.z⟩ :: A) _ = _
            congr 1
            have : q.length < g' := by rw [List.length_append, List.length_cons] at hg2; omega
            exact sc_fuel _ _ _ _ this (by omega)
def shL (d : Nat) (x : Lx) : Lx := ⟨x.k, x.t, x.n, x.a + d, x.e + d⟩
theorem sc_shift (d : Nat) : ∀ (g k : Nat) (r : List UInt8), scF g (k + d) r = ((scF g k r).1.map (shL d), (scF g k r).2.map (· + d)) := by
  intro g
  induction g with
  | zero => intro k r; rw [scF, scF]; rfl
  | succ g ih =>
    intro k r
    cases r with
    | nil => rw [sc_nil, sc_nil]; rfl
    | cons c r =>
      by_cases hb : cl c = 101
      · rw [sc_blank g _ c r hb, sc_blank g _ c r hb, show k + d + 1 = k + 1 + d by omega, ih]
      · cases ht : tokF (c :: r) with
        | none => rw [sc_bad g _ c r hb ht, sc_bad g _ c r hb ht]; rfl
        | some t =>
          rw [sc_tok g _ c r hb t ht, sc_tok g _ c r hb t ht, show k + d + t.z = k + t.z + d by omega, ih]
          rfl
/-- The tokens of two texts with a space between. -/
theorem scan_beside (p q : List UInt8) (h : (scanF p).2 = none) : ∃ A, (scanF p).1 = A ++ [endT p.length] ∧ scanF (p ++ 32 :: q) = (A ++ (scanF q).1.map (shL (p.length + 1)), (scanF q).2.map (· + (p.length + 1))) := by
  obtain ⟨A, h1, h2⟩ := sc_app (p.length + 1) 0 p (by omega) h
  refine ⟨A, by rw [Nat.zero_add] at h1; exact h1, ?_⟩
  unfold scanF
  rw [h2 q _ (Nat.lt_succ_self _), show 0 + p.length + 1 = 0 + (p.length + 1) by omega, sc_shift]
  rw [sc_fuel _ (q.length + 1) 0 q (by rw [List.length_append, List.length_cons]; omega) (by omega)]
  rfl
end Go.Proofs.YtiemiphlfbaojaaDoor
namespace Go.Proofs.YtiemiphlfbaojaaDoor
open Go.ChangeShapes Go.WideShapes Go.ChangeAt Go.RowKit

theorem scan_gen (l : List UInt8) (w : World) (ad : Addr) (hC : ClsAt w) (hS : SynAt w ad) (hl : l.length ≤ 400000000000) :
    Calls Tryd.prog 12 #[.string (bq l)] w fun x w' => (∃ a c m n er, x = .returned (.tuple #[.slice a m c, .int .i64 n, er])) ∧ Kept (fun _ => False) w w' := by
  refine (lscan_any l w ad hC hS hl).mono ?_
  rintro x w' (⟨_, a, c, m, rfl, hT⟩ | ⟨f, hf, rfl, hk⟩)
  · exact ⟨⟨a, c, m, 0, _, rfl⟩, hT.gro.kept⟩
  · exact ⟨⟨none, 0, 0, f, _, rfl⟩, hk⟩
theorem bq_space (p : List UInt8) : bq p ++ (⟨#[32]⟩ : ByteArray) = bq (p ++ [32]) := bq_append p [32]
theorem bq_spaceq (p q : List UInt8) : bq (p ++ [32]) ++ bq q = bq (p ++ 32 :: q) := by rw [bq_append, List.append_assoc]; rfl
/-- A token in memory. -/
structure LxAt (w : World) (g k : Nat) (x : Lx) : Prop where
  c0 : w.cell? ⟨g, k * 5, none⟩ = some (.int .i64 (x.k : Int))
  c1 : w.cell? ⟨g, k * 5 + 1, none⟩ = some (.string (bq x.t))
  c2 : w.cell? ⟨g, k * 5 + 2, none⟩ = some (.int .i64 x.n)
  c3 : w.cell? ⟨g, k * 5 + 3, none⟩ = some (.int .i64 (x.a : Int))
  c4 : w.cell? ⟨g, k * 5 + 4, none⟩ = some (.int .i64 (x.e : Int))
theorem LxAt.later {w w' : World} {g k : Nat} {x : Lx} (h : LxAt w g k x) (kk : Kept (fun _ => False) w w') : LxAt w' g k x :=
  ⟨kk.cell h.c0 (fun f => f), kk.cell h.c1 (fun f => f), kk.cell h.c2 (fun f => f), kk.cell h.c3 (fun f => f), kk.cell h.c4 (fun f => f)⟩
theorem Tks.ats {w0 w : World} {a : Option Addr} {c m : Nat} {L : List Lx} (h : Tks w0 w a c m L) (hm : 0 < m) : ∃ g, a = some ⟨g, 0, none⟩ ∧ ∀ k (hk : k < L.length), LxAt w g k L[k] := by
  obtain ⟨g, e, _, hc⟩ := h.cell hm
  exact ⟨g, e, fun k hk => ⟨(hc k hk).1, (hc k hk).2.1, (hc k hk).2.2.1, (hc k hk).2.2.2.1, (hc k hk).2.2.2.2⟩⟩
theorem scf_pos : ∀ (f k : Nat) (r : List UInt8), r.length < f → (scF f k r).2 = none → 0 < (scF f k r).1.length ∧ (scF f k r).1.length ≤ r.length + 1 ∧ ∀ x ∈ (scF f k r).1, x.e ≤ k + r.length ∧ x.a ≤ k + r.length := by
  intro f
  induction f with
  | zero => intro k r h; omega
  | succ f ih =>
    intro k r hf h
    cases r with
    | nil => rw [sc_nil]; simp
    | cons c r =>
      simp only [List.length_cons] at hf
      by_cases hb : cl c = 101
      · rw [sc_blank f k c r hb] at h ⊢
        obtain ⟨h1, h2, h3⟩ := ih (k + 1) r (by omega) h
        refine ⟨h1, by rw [List.length_cons]; omega, fun x hx => ?_⟩
        have := h3 x hx
        rw [List.length_cons]
        omega
      · cases ht : tokF (c :: r) with
        | none => rw [sc_bad f k c r hb ht] at h; cases h
        | some t =>
          have hz := tok_len _ t ht
          simp only [List.length_cons] at hz
          rw [sc_tok f k c r hb t ht] at h ⊢
          have h' : (scF f (k + t.z) ((c :: r).drop t.z)).2 = none := h
          obtain ⟨h1, h2, h3⟩ := ih (k + t.z) _ (by rw [List.length_drop, List.length_cons]; omega) h'
          rw [List.length_drop, List.length_cons] at h2 h3
          rw [List.length_cons]
          refine ⟨by show 0 < (_ :: (scF f (k + t.z) ((c :: r).drop t.z)).1).length; simp, ?_, fun x hx => ?_⟩
          · show (_ :: (scF f (k + t.z) ((c :: r).drop t.z)).1).length ≤ _
            rw [List.length_cons]
            omega
          · have hx2 : x = ⟨t.k, t.t, t.n, k, k + t.z⟩ ∨ x ∈ (scF f (k + t.z) ((c :: r).drop t.z)).1 := List.mem_cons.1 hx
            rcases hx2 with rfl | hx2
            · simp only; omega
            · have := h3 x hx2; omega
theorem scan_pos (l : List UInt8) (h : (scanF l).2 = none) : 0 < (scanF l).1.length ∧ (scanF l).1.length ≤ l.length + 1 ∧ ∀ x ∈ (scanF l).1, x.e ≤ l.length ∧ x.a ≤ l.length := by
  have := scf_pos (l.length + 1) 0 l (by omega) h
  rw [Nat.zero_add] at this
  exact this
end Go.Proofs.YtiemiphlfbaojaaDoor
namespace Go.Proofs.YtiemiphlfbaojaaDoor
open Go.ChangeShapes Go.WideShapes Go.ChangeAt Go.RowKit

theorem scan_list (l : List UInt8) (L : List Lx) (n : Nat) (w : World) (ad : Addr) (hC : ClsAt w) (hS : SynAt w ad) (hl : l.length ≤ 400000000000) (h : scanF l = (L, none)) (hn : n = L.length) (h0 : 0 < n) :
    Calls Tryd.prog 12 #[.string (bq l)] w fun x w' => (∃ g c, x = .returned (.tuple #[.slice (some ⟨g, 0, none⟩) n c, .int .i64 0, .nilIface]) ∧ ∀ k y, L[k]? = some y → LxAt w' g k y) ∧ Kept (fun _ => False) w w' := by
  refine (scan_none l w ad hC hS hl (by rw [h])).mono ?_
  rintro x w' ⟨⟨a, c, m, rfl, hT⟩, hk⟩
  rw [h] at hT
  have hm : m = n := by rw [hn]; exact hT.len
  subst hm
  obtain ⟨g, rfl, hc⟩ := hT.ats h0
  refine ⟨⟨g, c, rfl, fun k y hy => ?_⟩, hk⟩
  obtain ⟨hk2, e⟩ := List.getElem?_eq_some_iff.1 hy
  rw [← e]
  exact hc k hk2
/-- The lists in the loop. -/
structure Bes (w4 : World) (ga gb gc : Nat) (A B : List Lx) (d : Nat) (W : World) : Prop where
  kept : Kept (fun _ => False) w4 W
  a : ∀ k y, A[k]? = some y → LxAt W ga k y
  b : ∀ k y, B[k]? = some y → LxAt W gb k y
  c : ∀ k y, (A ++ B.map (shL d))[k]? = some y → LxAt W gc k y
theorem Bes.later {w4 : World} {ga gb gc : Nat} {A B : List Lx} {d : Nat} {W W' : World} (h : Bes w4 ga gb gc A B d W) (k : Kept (fun _ => False) W W') : Bes w4 ga gb gc A B d W' :=
  ⟨h.kept.trans k (fun _ f => f.elim), fun i y e => (h.a i y e).later k, fun i y e => (h.b i y e).later k, fun i y e => (h.c i y e).later k⟩
theorem Bes.one {w4 : World} {ga gb gc : Nat} {A B : List Lx} {d : Nat} {W : World} (h : Bes w4 ga gb gc A B d W) (i : Nat) (hi : i < A.length) : ∃ x, LxAt W ga i x ∧ LxAt W gc i x ∧ x ∈ A :=
  ⟨A[i], h.a i _ (List.getElem?_eq_getElem hi), h.c i _ (by rw [List.getElem?_append_left hi, List.getElem?_eq_getElem hi]), List.getElem_mem hi⟩
theorem Bes.two {w4 : World} {ga gb gc : Nat} {A B : List Lx} {d : Nat} {W : World} (h : Bes w4 ga gb gc A B d W) (j : Nat) (hj : j < B.length) : ∃ x, LxAt W gb j x ∧ LxAt W gc (j + A.length) (shL d x) ∧ x ∈ B :=
  ⟨B[j], h.b j _ (List.getElem?_eq_getElem hj), h.c _ _ (by rw [List.getElem?_append_right (by omega), Nat.add_sub_cancel, List.getElem?_map, List.getElem?_eq_getElem hj]; rfl), List.getElem_mem hj⟩
theorem lx_new (w : World) (v0 v1 v2 v3 v4 : Value) : (w.alloc (.cells #[v0, v1, v2, v3, v4] 59)).cell? ⟨w.heap.size, 0, none⟩ = some v0 ∧ (w.alloc (.cells #[v0, v1, v2, v3, v4] 59)).cell? ⟨w.heap.size, 1, none⟩ = some v1 ∧ (w.alloc (.cells #[v0, v1, v2, v3, v4] 59)).cell? ⟨w.heap.size, 2, none⟩ = some v2 ∧ (w.alloc (.cells #[v0, v1, v2, v3, v4] 59)).cell? ⟨w.heap.size, 3, none⟩ = some v3 ∧ (w.alloc (.cells #[v0, v1, v2, v3, v4] 59)).cell? ⟨w.heap.size, 4, none⟩ = some v4 := by
  refine ⟨?_, ?_, ?_, ?_, ?_⟩ <;> (rw [World.cell?_alloc_new]; rfl)
end Go.Proofs.YtiemiphlfbaojaaDoor
namespace Go.Proofs.YtiemiphlfbaojaaDoor
open Go.ChangeShapes Go.WideShapes Go.ChangeAt Go.RowKit

theorem kdF_pos (s : List UInt8) : kdF s ≠ 0 := by
  unfold kdF rsv
  (repeat' split) <;> simp_all
theorem tok_kind (c : UInt8) (r : List UInt8) (t : Tk) (h : tokF (c :: r) = some t) : t.k ≠ 0 := by
  cases hB : isB c with
  | true =>
    cases e : rnL (c :: r) with
    | none => rw [tok_run0 c r hB e] at h; cases h
    | some z =>
      rw [tok_run c r hB z e] at h
      cases h
      exact kdF_pos _
  | false =>
    have hn := fun x => (show ¬ isB c = true by rw [hB]; decide) ((isB_iff c).2 x)
    rw [tokF, if_neg (by rw [hB]; decide)] at h
    split at h
    · obtain ⟨m, _, rfl⟩ := Option.map_eq_some_iff.1 h
      simp
    · split at h
      · split at h
        · cases h; simp
        · rw [numT_some h]; simp
      · split at h
        · split at h
          · rw [numT_some h]; simp
          · rw [numT_some h]; simp
        · split at h
          · rw [numT_some h]; simp
          · cases h
            exact fun x => hn (.inl x)
/-- The bytes of a token, scanned by themselves. -/
theorem scan_alone (c : UInt8) (r : List UInt8) (t : Tk) (hb : cl c ≠ 101) (h : tokF (c :: r) = some t) : scanF ((c :: r).take t.z) = ([⟨t.k, t.t, t.n, 0, t.z⟩, endT t.z], none) := by
  have hz := tok_len _ t h
  obtain ⟨m, hm⟩ : ∃ m, t.z = m + 1 := ⟨t.z - 1, by omega⟩
  have h2 := tok_take c r m t h (by omega)
  unfold scanF
  rw [hm]
  show scF ((c :: r.take m).length + 1) 0 (c :: r.take m) = _
  have hl : (c :: r.take m).length = t.z := by
    rw [List.length_cons, List.length_take]
    simp only [List.length_cons] at hz
    omega
  rw [sc_tok _ 0 c _ hb t h2, List.drop_of_length_le (by rw [hl]; exact Nat.le_refl _), hl, hm, sc_nil, Nat.zero_add]
  rfl
def blk (s : List UInt8) : Bool := s.all (fun c => cl c == 101)
/-- How the tokens cover a text from the place a on. -/
def Cov (l : List UInt8) : Nat → List Lx → Prop
  | _, [] => False
  | a, [x] => x = endT l.length ∧ a ≤ l.length ∧ blk ((l.drop a).take (l.length - a)) = true
  | a, x :: y :: M => a ≤ x.a ∧ x.a < x.e ∧ x.e ≤ l.length ∧ blk ((l.drop a).take (x.a - a)) = true ∧ x.k ≠ 0 ∧ scanF ((l.drop x.a).take (x.e - x.a)) = ([⟨x.k, x.t, x.n, 0, x.e - x.a⟩, endT (x.e - x.a)], none) ∧ Cov l x.e (y :: M)
theorem cov_of (l : List UInt8) : ∀ (f a k : Nat), l.length - k < f → a ≤ k → k ≤ l.length → blk ((l.drop a).take (k - a)) = true → (scF f k (l.drop k)).2 = none → Cov l a (scF f k (l.drop k)).1 := by
  intro f
  induction f with
  | zero => intro a k h; omega
  | succ f ih =>
    intro a k hf hak hk hbk h
    cases hd : l.drop k with
    | nil =>
      have hkl : k = l.length := by
        have := congrArg List.length hd
        rw [List.length_drop] at this
        simp at this
        omega
      rw [sc_nil]
      subst hkl
      exact ⟨rfl, hak, hbk⟩
    | cons c r =>
      obtain ⟨hklt, hd1⟩ := drop_next hd
      rw [hd] at h
      by_cases hb : cl c = 101
      · rw [sc_blank f k c r hb] at h ⊢
        rw [← hd1] at h ⊢
        refine ih a (k + 1) (by omega) (by omega) (by omega) ?_ h
        have e : (l.drop a).take (k + 1 - a) = (l.drop a).take (k - a) ++ [c] := by
          rw [show k + 1 - a = (k - a) + 1 by omega, List.take_succ_eq_append_getElem (by rw [List.length_drop]; omega), List.getElem_drop]
          congr 2
          rw [List.drop_eq_getElem_cons hklt] at hd
          have := (List.cons.inj hd).1
          rw [← this]
          congr 1
          omega
        rw [e, blk, List.all_append]
        show (blk ((l.drop a).take (k - a)) && _) = true
        rw [hbk]
        simp [hb]
      · cases ht : tokF (c :: r) with
        | none => rw [sc_bad f k c r hb ht] at h; cases h
        | some t =>
          have hz := tok_len _ t ht
          have hlr : (c :: r).length = l.length - k := by rw [← hd, List.length_drop]
          rw [hlr] at hz
          rw [sc_tok f k c r hb t ht] at h ⊢
          have hdz : (c :: r).drop t.z = l.drop (k + t.z) := by rw [← hd, List.drop_drop]
          rw [hdz] at h ⊢
          have h' : (scF f (k + t.z) (l.drop (k + t.z))).2 = none := h
          have hc := ih (k + t.z) (k + t.z) (by omega) (Nat.le_refl _) (by omega) (by rw [Nat.sub_self]; rfl) h'
          show Cov l a (⟨t.k, t.t, t.n, k, k + t.z⟩ :: (scF f (k + t.z) (l.drop (k + t.z))).1)
          cases hM : (scF f (k + t.z) (l.drop (k + t.z))).1 with
          | nil => rw [hM] at hc; exact hc.elim
          | cons y M =>
            rw [hM] at hc
            refine ⟨hak, by simp only; omega, by simp only; omega, hbk, tok_kind c r t ht, ?_, hc⟩
            have e : k + t.z - k = t.z := by omega
            simp only [e, hd]
            exact scan_alone c r t hb ht
theorem scan_cov (l : List UInt8) (h : (scanF l).2 = none) : Cov l 0 (scanF l).1 := by
  have := cov_of l (l.length + 1) 0 0 (by omega) (Nat.le_refl _) (by omega) (by rfl) (by rw [List.drop_zero]; exact h)
  rw [List.drop_zero] at this
  exact this
end Go.Proofs.YtiemiphlfbaojaaDoor
namespace Go.Proofs.YtiemiphlfbaojaaDoor
open Go.ChangeShapes Go.WideShapes Go.ChangeAt Go.RowKit

theorem cov_cons (l : List UInt8) (a : Nat) (M : List Lx) (h : Cov l a M) : ∃ x N, M = x :: N ∧ a ≤ x.a ∧ x.a ≤ x.e ∧ x.e ≤ l.length ∧ blk ((l.drop a).take (x.a - a)) = true := by
  cases M with
  | nil => exact h.elim
  | cons x N =>
    cases N with
    | nil =>
      obtain ⟨rfl, h1, h2⟩ := h
      exact ⟨_, _, rfl, h1, Nat.le_refl _, Nat.le_refl _, h2⟩
    | cons y N =>
      obtain ⟨h1, h2, h3, h4, _⟩ := h
      exact ⟨_, _, rfl, h1, by omega, h3, h4⟩
theorem slice_of (l : List UInt8) (i j : Nat) (h : i ≤ j) (hj : j ≤ l.length) (W : World) : (Instr.slice 9 (.string (bq l)) (some (.int .i64 (i : Int))) (some (.int .i64 (j : Int))) none).run Tryd.prog W = .ok (.string (bq ((l.drop i).take (j - i)))) W := by
  rw [run_slice_string W 9 (bq l) .i64 .i64 (i : Int) (j : Int) Tryd.underlying9 (by omega) (by omega) (by rw [bq_size]; omega), Int.toNat_natCast, Int.toNat_natCast, bq_extract]
theorem lx2_new (w : World) (x y : Lx) : ∀ k z, [x, y][k]? = some z → LxAt (w.alloc (.cells #[.int .i64 (x.k : Int), .string (bq x.t), .int .i64 x.n, .int .i64 (x.a : Int), .int .i64 (x.e : Int), .int .i64 (y.k : Int), .string (bq y.t), .int .i64 y.n, .int .i64 (y.a : Int), .int .i64 (y.e : Int)] 59)) w.heap.size k z := by
  intro k z h
  match k, h with
  | 0, h =>
    simp at h; subst h
    refine ⟨?_, ?_, ?_, ?_, ?_⟩ <;> (rw [World.cell?_alloc_new]; rfl)
  | 1, h =>
    simp at h; subst h
    refine ⟨?_, ?_, ?_, ?_, ?_⟩ <;> (rw [World.cell?_alloc_new]; rfl)
end Go.Proofs.YtiemiphlfbaojaaDoor
namespace Go.Proofs.YtiemiphlfbaojaaDoor
open Go.ChangeShapes Go.WideShapes Go.ChangeAt Go.RowKit

/-! What Word, Quote and Pattern make is scanned to what they were made of. -/
/-- A sign as it is written. -/
def wr1 (x : UInt8 × Bool) : List UInt8 := if x.2 then [92, x.1] else [x.1]
theorem wr1_t (c : UInt8) : wr1 (c, true) = [92, c] := rfl
theorem wr1_f (c : UInt8) : wr1 (c, false) = [c] := rfl
theorem sgn_wr (t : List UInt8) : ∀ (X : List (UInt8 × Bool)), (∀ x ∈ X, x.2 = true ∨ x.1 ≠ 92) → sgn (X.flatMap wr1 ++ t) = X ++ sgn t := by
  intro X
  induction X with
  | nil => intro _; rfl
  | cons x X ih =>
    intro h
    have h1 := ih (fun y hy => h y (List.mem_cons_of_mem _ hy))
    obtain ⟨c, b⟩ := x
    rw [List.flatMap_cons, List.append_assoc]
    cases b with
    | true => rw [wr1_t]; show sgn (92 :: c :: (X.flatMap wr1 ++ t)) = _; rw [sgn_esc, h1]; rfl
    | false =>
      rw [wr1_f]
      show sgn (c :: (X.flatMap wr1 ++ t)) = _
      rcases h _ (List.mem_cons_self ..) with h2 | h2
      · cases h2
      · rw [sgn_oth c _ h2, h1]; rfl
theorem sgn_wr0 (X : List (UInt8 × Bool)) (h : ∀ x ∈ X, x.2 = true ∨ x.1 ≠ 92) : sgn (X.flatMap wr1) = X := by
  have := sgn_wr [] X h
  rw [List.append_nil] at this
  rw [this]
  show X ++ sgn [] = X
  rw [show sgn [] = [] from rfl, List.append_nil]
theorem isR_not92 (c : UInt8) (h : isR c = true) : c ≠ 92 := by intro e; subst e; rw [isR_92] at h; cases h
theorem rn_wr (t : List UInt8) : ∀ (X : List (UInt8 × Bool)), (∀ x ∈ X, x.2 = true ∨ isR x.1 = true) → rnL (X.flatMap wr1 ++ t) = (rnL t).map (· + (X.flatMap wr1).length) := by
  intro X
  induction X with
  | nil =>
    intro _
    show rnL t = (rnL t).map (· + 0)
    cases rnL t <;> rfl
  | cons x X ih =>
    intro h
    have h1 := ih (fun y hy => h y (List.mem_cons_of_mem _ hy))
    obtain ⟨c, b⟩ := x
    rw [List.flatMap_cons, List.append_assoc, List.length_append]
    cases b with
    | true =>
      rw [wr1_t]
      show rnL (92 :: c :: (X.flatMap wr1 ++ t)) = _
      rw [rn_esc, h1]
      cases rnL t with
      | none => rfl
      | some z => show some (z + (X.flatMap wr1).length + 2) = some (z + (2 + (X.flatMap wr1).length)); congr 1; omega
    | false =>
      rw [wr1_f]
      show rnL (c :: (X.flatMap wr1 ++ t)) = _
      rcases h _ (List.mem_cons_self ..) with h2 | h2
      · cases h2
      · rw [rn_run c _ h2, h1]
        cases rnL t with
        | none => rfl
        | some z => show some (z + (X.flatMap wr1).length + 1) = some (z + (1 + (X.flatMap wr1).length)); congr 1; omega
theorem cl_isB (c : UInt8) (h : isB c = true) : cl c ≠ 101 := by
  have := u8_all (fun c => !(isB c) || !(cl c == 101)) (by decide +kernel) c
  simp [h] at this
  exact this
theorem isB_92 : isB 92 = true := by decide +kernel
/-- A run, scanned by itself. -/
theorem scan_run (x : UInt8 × Bool) (X : List (UInt8 × Bool)) (h0 : x.2 = true ∨ isB x.1 = true ∧ isR x.1 = true) (h : ∀ y ∈ X, y.2 = true ∨ isR y.1 = true) (T : List UInt8) (hT : T = (x :: X).flatMap wr1) : scanF T = ([⟨kdF T, txF T, 0, 0, T.length⟩, endT T.length], none) := by
  have hr : rnL T = some T.length := by
    have := rn_wr [] (x :: X) (by
      intro y hy
      rcases List.mem_cons.1 hy with rfl | hy
      · rcases h0 with h1 | ⟨_, h1⟩
        · exact .inl h1
        · exact .inr h1
      · exact h y hy)
    rw [List.append_nil, ← hT, rn_nil] at this
    rw [this]
    show some (0 + T.length) = _
    rw [Nat.zero_add]
  obtain ⟨c, r, hc, hb⟩ : ∃ c r, T = c :: r ∧ isB c = true := by
    rw [hT, List.flatMap_cons]
    obtain ⟨c, b⟩ := x
    cases b with
    | true => exact ⟨92, _, rfl, isB_92⟩
    | false =>
      rcases h0 with h1 | ⟨h1, _⟩
      · cases h1
      · exact ⟨c, _, rfl, h1⟩
  have ht : tokF (c :: r) = some ⟨kdF T, txF T, 0, T.length⟩ := by
    rw [tokF, if_pos hb, ← hc, hr]
    show some (Tk.mk (kdF (T.take T.length)) (txF (T.take T.length)) 0 T.length) = _
    rw [List.take_length]
  have := scan_alone c r _ (cl_isB c hb) ht
  rw [← hc] at this
  rw [List.take_length] at this
  exact this
theorem sgn_plain : ∀ (n : Nat) (T : List UInt8), T.length ≤ n → (sgn T).any (·.2) = false → (sgn T).map (·.1) = T := by
  intro n
  induction n with
  | zero =>
    intro T h _
    cases T with
    | nil => rfl
    | cons c T => simp at h
  | succ n ih =>
    intro T h ha
    match T with
    | [] => rfl
    | c :: T =>
      by_cases h92 : c = 92
      · subst h92
        cases T with
        | nil => rfl
        | cons d T => rw [sgn_esc] at ha; simp at ha
      · rw [sgn_oth c T h92] at ha ⊢
        simp only [List.any_cons, Bool.false_or] at ha
        simp only [List.length_cons] at h
        rw [List.map_cons, ih T (by omega) ha]
theorem rsv_letter (T : List UInt8) (h : (sgn T).any (·.2) = true) : rsv T = 1 := by
  unfold rsv
  rw [if_neg (by intro e; subst e; revert h; decide), if_neg (by intro e; subst e; revert h; decide), if_neg (by intro e; subst e; revert h; decide), if_neg (by intro e; subst e; revert h; decide)]
/-- A byte as Word and Pattern write it. -/
theorem pl_wr (f : Bool) (c : UInt8) : pl f c = wr1 (c, !plB f c) := by
  cases h : plB f c with
  | true => rw [pl_yes f c h]; rfl
  | false => rw [pl_no f c h]; rfl
theorem pl_facts (c : UInt8) : (plB true c = true → isB c = true ∧ isR c = true ∧ wdB c = false ∧ c ≠ 92) ∧ (plB false c = true → isR c = true ∧ wdB c = false ∧ c ≠ 92) ∧ (wdB c = true → isB c = true ∧ isR c = true ∧ c ≠ 92) := by
  have := u8_all (fun c => (!(plB true c) || (isB c && isR c && !(wdB c) && !(c == 92))) && (!(plB false c) || (isR c && !(wdB c) && !(c == 92))) && (!(wdB c) || (isB c && isR c && !(c == 92)))) (by decide +kernel) c
  simp only [Bool.and_eq_true, Bool.or_eq_true, Bool.not_eq_true', beq_eq_false_iff_ne] at this
  obtain ⟨⟨h1, h2⟩, h3⟩ := this
  refine ⟨fun h => ?_, fun h => ?_, fun h => ?_⟩
  · rcases h1 with q | ⟨⟨⟨q1, q2⟩, q3⟩, q4⟩
    · rw [h] at q; cases q
    · exact ⟨q1, q2, q3, q4⟩
  · rcases h2 with q | ⟨⟨q2, q3⟩, q4⟩
    · rw [h] at q; cases q
    · exact ⟨q2, q3, q4⟩
  · rcases h3 with q | ⟨⟨q1, q2⟩, q4⟩
    · rw [h] at q; cases q
    · exact ⟨q1, q2, q4⟩
def wsg (f : Bool) (c : UInt8) : UInt8 × Bool := (c, !plB f c)
theorem wlF_ne (l : List UInt8) : ∀ (o : List UInt8), o ≠ [] → wlF o l = o ++ (l.map (wsg false)).flatMap wr1 := by
  induction l with
  | nil => intro o _; show o = o ++ []; rw [List.append_nil]
  | cons c l ih =>
    intro o ho
    have he : o.isEmpty = false := by cases o <;> simp_all
    show wlF (o ++ pl o.isEmpty c) l = _
    rw [he, ih _ (by cases o <;> simp_all), List.map_cons, List.flatMap_cons, List.append_assoc, pl_wr]
    rfl
theorem wl_cons (c : UInt8) (r : List UInt8) : wl (c :: r) = (wsg true c :: r.map (wsg false)).flatMap wr1 := by
  have hn : pl true c ≠ [] := by intro e; have := pl_len true c; rw [e] at this; simp at this
  show wlF ([] ++ pl true c) r = _
  rw [List.nil_append, wlF_ne r _ hn, List.flatMap_cons, pl_wr]
  rfl
theorem wsg_sg (f : Bool) (c : UInt8) : (wsg f c).2 = true ∨ plB f c = true := by
  unfold wsg; cases plB f c <;> simp
theorem plR (f : Bool) (c : UInt8) (h : plB f c = true) : isR c = true ∧ wdB c = false ∧ c ≠ 92 := by
  cases f with
  | true => have := (pl_facts c).1 h; exact ⟨this.2.1, this.2.2.1, this.2.2.2⟩
  | false => exact (pl_facts c).2.1 h
theorem wb1 : scanF (92 :: [65, 78, 68]) = ([⟨1, [65, 78, 68], 0, 0, 4⟩, endT 4], none) := by kernel_rfl
theorem wb2 : scanF (92 :: [79, 82]) = ([⟨1, [79, 82], 0, 0, 3⟩, endT 3], none) := by kernel_rfl
theorem wb3 : scanF (92 :: [78, 79, 84]) = ([⟨1, [78, 79, 84], 0, 0, 4⟩, endT 4], none) := by kernel_rfl
theorem wb4 : scanF (92 :: [84, 79]) = ([⟨1, [84, 79], 0, 0, 3⟩, endT 3], none) := by kernel_rfl
/-- Words come back. -/
theorem word_back (s : List UInt8) (h : s ≠ []) : scanF (wordF s) = ([⟨1, s, 0, 0, (wordF s).length⟩, endT (wordF s).length], none) := by
  by_cases hr : rsv s = 1
  · have e : wordF s = wl s := by unfold wordF; rw [if_neg (by omega)]
    rw [e]
    cases s with
    | nil => exact absurd rfl h
    | cons c r =>
      have hX : ∀ y ∈ r.map (wsg false), y.2 = true ∨ isR y.1 = true := by
        intro y hy
        obtain ⟨d, _, rfl⟩ := List.mem_map.1 hy
        rcases wsg_sg false d with q | q
        · exact .inl q
        · exact .inr (plR _ _ q).1
      have h0 : (wsg true c).2 = true ∨ isB (wsg true c).1 = true ∧ isR (wsg true c).1 = true := by
        rcases wsg_sg true c with q | q
        · exact .inl q
        · exact .inr ⟨((pl_facts c).1 q).1, ((pl_facts c).1 q).2.1⟩
      have hs := sgn_wr0 (wsg true c :: r.map (wsg false)) (by
        intro y hy
        rcases List.mem_cons.1 hy with rfl | hy
        · rcases h0 with q | ⟨_, q⟩
          · exact .inl q
          · exact .inr (isR_not92 _ q)
        · rcases hX y hy with q | q
          · exact .inl q
          · exact .inr (isR_not92 _ q))
      have hl : (wsg true c :: r.map (wsg false)).map (·.1) = c :: r := by
        rw [List.map_cons, List.map_map]
        show c :: r.map (fun d => d) = _
        rw [List.map_id']
      have hw : ∀ (f : Bool) (d : UInt8), isW (wsg f d) = false := by
        intro f d
        unfold isW wsg
        cases hp : plB f d with
        | true => rw [(plR f d hp).2.1]; rfl
        | false => rfl
      have hk : rsv (wl (c :: r)) = 1 := by
        rw [wl_cons]
        cases ha : (sgn ((wsg true c :: r.map (wsg false)).flatMap wr1)).any (·.2) with
        | true => exact rsv_letter _ ha
        | false =>
          have := sgn_plain _ _ (Nat.le_refl _) ha
          rw [hs, hl] at this
          rw [← this]
          exact hr
      have hkd : kdF (wl (c :: r)) = 1 := by
        unfold kdF
        rw [if_neg (by omega), wl_cons, hs, if_neg]
        intro q
        rw [List.any_cons, hw true c, Bool.false_or] at q
        obtain ⟨y, hy, q⟩ := List.any_eq_true.1 q
        obtain ⟨d, _, rfl⟩ := List.mem_map.1 hy
        rw [hw false d] at q
        cases q
      have htx : txF (wl (c :: r)) = c :: r := by
        unfold txF
        rw [if_pos hkd]
        unfold litF
        rw [wl_cons, hs, hl]
      have := scan_run _ _ h0 hX (wl (c :: r)) (wl_cons c r)
      rw [hkd, htx] at this
      exact this
  · have e : wordF s = 92 :: s := by unfold wordF; rw [if_pos hr]
    rw [e]
    unfold rsv at hr
    by_cases h1 : s = [65, 78, 68]
    · subst h1; exact wb1
    by_cases h2 : s = [79, 82]
    · subst h2; exact wb2
    by_cases h3 : s = [78, 79, 84]
    · subst h3; exact wb3
    by_cases h4 : s = [84, 79]
    · subst h4; exact wb4
    simp [h1, h2, h3, h4] at hr
theorem word_nil : wordF [] = [] := by decide
/-- Quoted texts come back. -/
def qsg (c : UInt8) : UInt8 × Bool := (c, c == 34 || c == 92)
theorem qe_wr (c : UInt8) : qe c = wr1 (qsg c) := by unfold qe wr1 qsg; rfl
theorem qF_wr (s : List UInt8) : qF s = (s.map qsg).flatMap wr1 := by
  unfold qF
  rw [List.flatMap_map]
  congr 1
theorem qo_qF (t : List UInt8) : ∀ (s : List UInt8), qoL (qF s ++ 34 :: t) = some ((qF s).length + 1) := by
  intro s
  induction s with
  | nil => show qoL (34 :: t) = some 1; exact qo_end t
  | cons c s ih =>
    show qoL ((qe c ++ qF s) ++ 34 :: t) = some ((qe c ++ qF s).length + 1)
    rw [List.append_assoc, List.length_append]
    by_cases h : c = 34 ∨ c = 92
    · rw [qe_yes c h]
      show qoL (92 :: c :: (qF s ++ 34 :: t)) = _
      rw [qo_esc, ih]
      show some ((qF s).length + 1 + 2) = some (2 + (qF s).length + 1)
      congr 1; omega
    · rw [qe_no c (fun e => h (.inl e)) (fun e => h (.inr e))]
      show qoL (c :: (qF s ++ 34 :: t)) = _
      rw [qo_oth c _ (fun e => h (.inl e)) (fun e => h (.inr e)), ih]
      show some ((qF s).length + 1 + 1) = some (1 + (qF s).length + 1)
      congr 1; omega
theorem quote_back (s : List UInt8) : scanF (quoteF s) = ([⟨3, s, 0, 0, (quoteF s).length⟩, endT (quoteF s).length], none) := by
  have hs : sgn (qF s) = s.map qsg := by
    rw [qF_wr]
    refine sgn_wr0 _ ?_
    intro y hy
    obtain ⟨d, _, rfl⟩ := List.mem_map.1 hy
    by_cases e : d = 92
    · exact .inl (by subst e; rfl)
    · exact .inr e
  have hl : (quoteF s).length = (qF s).length + 1 + 1 := by unfold quoteF; simp
  have ht : tokF (34 :: (qF s ++ [34])) = some ⟨3, s, 0, (quoteF s).length⟩ := by
    rw [tokF, if_neg (by decide +kernel), if_pos (by decide +kernel), qo_qF, hl]
    show some (Tk.mk 3 (litF ((qF s ++ [34]).take ((qF s).length + 1 - 1))) 0 ((qF s).length + 1 + 1)) = _
    rw [Nat.add_sub_cancel, List.take_left, litF, hs, List.map_map]
    show some (Tk.mk 3 (s.map (fun d => d)) 0 _) = _
    rw [List.map_id']
  have := scan_alone 34 (qF s ++ [34]) _ (by decide +kernel) ht
  have e : (34 :: (qF s ++ [34])) = quoteF s := rfl
  rw [e] at this
  rw [List.take_length] at this
  exact this
end Go.Proofs.YtiemiphlfbaojaaDoor
