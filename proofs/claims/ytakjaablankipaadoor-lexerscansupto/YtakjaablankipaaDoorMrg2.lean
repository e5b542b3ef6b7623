import Derived.Test.YtakjaablankipaaDoorLzd
namespace Go.Proofs.YtakjaablankipaaDoor
open Go.ChangeShapes Go.WideShapes Go.ChangeAt Go.RowKit

theorem sp_plain {l : List UInt8} {G : List Sg} {i p : Nat} (h : SP l G i p) (c : UInt8) (s : List UInt8) (hd : l.drop p = c :: s) (h92 : c ≠ 92) : G[i]? = some ⟨c, false, p, 1⟩ ∧ SP l G (i + 1) (p + 1) := by
  rcases sp_cases h with ⟨h1, _⟩ | ⟨x, q, _, hx, _, hs, hh⟩
  · rw [List.drop_of_length_le (by omega)] at hd; cases hd
  · rcases hh with ⟨d, t, e, _⟩ | ⟨e, _⟩ | ⟨c', t, e, _, rfl, rfl⟩
    · rw [hd] at e; exact absurd (List.cons.inj e).1 h92
    · rw [hd] at e; exact absurd (List.cons.inj e).1 h92
    · rw [hd] at e
      obtain ⟨rfl, rfl⟩ := List.cons.inj e
      exact ⟨hx, hs⟩
theorem sp_digs (l : List UInt8) (G : List Sg) : ∀ (n i p : Nat), SP l G i p → dgL (l.drop p) = n → SP l G (i + n) (p + n) := by
  intro n
  induction n with
  | zero => intro i p h _; exact h
  | succ n ih =>
    intro i p h e
    cases hd : l.drop p with
    | nil => rw [hd] at e; cases e
    | cons c s =>
      by_cases hc : cl c = 102
      · have h1 := (sp_dig h c s hd hc).2
        rw [hd, dg_yes c s hc, ← (drop_next hd).2] at e
        have h2 := ih (i + 1) (p + 1) h1 (Nat.succ.inj e)
        rw [show i + (n + 1) = i + 1 + n by omega, show p + (n + 1) = p + 1 + n by omega]
        exact h2
      · rw [hd, dg_no c s hc] at e; cases e
/-- A byte here, not as a letter. -/
theorem spl_head {l : List UInt8} {G : List Sg} {i p : Nat} (h : SP l G i p) (c : UInt8) (h92 : c ≠ 92) : spl G i c = decide ((l.drop p).head? = some c) := by
  have h29 : (92 : UInt8) ≠ c := fun e => h92 e.symm
  rcases sp_cases h with ⟨h1, h2⟩ | ⟨x, q, _, hx, _, _, hh⟩
  · unfold spl
    rw [List.getElem?_eq_none h2, List.drop_of_length_le (by omega)]
    rfl
  · rw [spl_at hx]
    rcases hh with ⟨d, t, e, rfl, _⟩ | ⟨e, rfl, _⟩ | ⟨c', t, e, _, rfl, _⟩
    · rw [e]; simp [h29]
    · rw [e]; simp [h29]
    · rw [e]
      by_cases hc : c' = c
      · subst hc; simp
      · simp [hc]
theorem nmA_num (r : List UInt8) : (nmA r = -1 ∧ ∀ k m, numT k m r = none) ∨ (0 ≤ nmA r ∧ 0 < dgL r ∧ ∀ k m, numT k m r = some ⟨k, [], nmA r, m + dgL r⟩) := by
  by_cases h : 0 < dgL r ∧ nmV 0 r ≤ 999999999
  · have e : nmA r = (nmV 0 r : Nat) := by unfold nmA; rw [if_pos h]
    refine .inr ⟨by rw [e]; omega, h.1, fun k m => ?_⟩
    unfold numT
    rw [if_pos h, e]
  · refine .inl ⟨by unfold nmA; rw [if_neg h], fun k m => ?_⟩
    unfold numT
    rw [if_neg h]
theorem tok_64 (r : List UInt8) : tokF (64 :: r) = numT 21 1 r := by
  rw [tokF, if_neg (by decide +kernel), if_neg (by decide +kernel), if_neg (by decide +kernel), if_neg (by decide +kernel), if_pos (by decide +kernel)]
theorem tok_126 (r : List UInt8) : tokF (126 :: r) = if dgL r = 0 then some ⟨20, [], -1, 1⟩ else numT 20 1 r := by
  rw [tokF, if_neg (by decide +kernel), if_neg (by decide +kernel), if_pos (by decide +kernel)]
theorem tok_94 (r : List UInt8) : tokF (94 :: r) = if r.head? = some 61 then numT 19 2 (r.drop 1) else numT 18 1 r := by
  rw [tokF, if_neg (by decide +kernel), if_neg (by decide +kernel), if_neg (by decide +kernel), if_pos (by decide +kernel)]
/-- What numbered answers. -/
def nbPost (w : World) (l : List UInt8) (G : List Sg) (p : Nat) (x : Ending) (w' : World) : Prop :=
  ((tokF (l.drop p) = none ∧ ∃ z : Int, x = .returned (.tuple #[.int .i64 (-1), .int .i64 0, .int .i64 z])) ∨ (∃ (t : Tk) (j : Nat), tokF (l.drop p) = some t ∧ t.t = [] ∧ x = .returned (.tuple #[.int .i64 ((t.k : Nat) : Int), .int .i64 t.n, .int .i64 (j : Int)]) ∧ SP l G j (p + t.z))) ∧ w' = w
theorem nb_no {w : World} {l : List UInt8} {G : List Sg} {p : Nat} (h : tokF (l.drop p) = none) (z : Int) : nbPost w l G p (.returned (.tuple #[.int .i64 (-1), .int .i64 0, .int .i64 z])) w := ⟨.inl ⟨h, z, rfl⟩, rfl⟩
theorem nb_yes {w : World} {l : List UInt8} {G : List Sg} {p : Nat} (k : Nat) (v : Int) (m j : Nat) (h : tokF (l.drop p) = some ⟨k, [], v, m⟩) (hs : SP l G j (p + m)) : nbPost w l G p (.returned (.tuple #[.int .i64 (k : Int), .int .i64 v, .int .i64 (j : Int)])) w := ⟨.inr ⟨_, j, h, rfl, rfl, hs⟩, rfl⟩
end Go.Proofs.YtakjaablankipaaDoor
namespace Go.Proofs.YtakjaablankipaaDoor
open Go.ChangeShapes Go.WideShapes Go.ChangeAt Go.RowKit

set_option maxRecDepth 20000 in
set_option maxHeartbeats 4000000 in
theorem numbered_at (l : List UInt8) (G : List Sg) (b n cp i p : Nat) (w : World) (hn : n = G.length) (hnb : n ≤ 400000000000) (hG : SgL w b 0 G) (hS : SP l G i p) (r : List UInt8) (hd : l.drop p = 64 :: r) :
    Calls Tryd.prog 31 #[.slice (some ⟨b, 0, none⟩) n cp, .int .i64 (i : Int)] w (nbPost w l G p) := by
  obtain ⟨hx, hS1⟩ := sp_plain hS 64 r hd (by decide)
  have hr := (drop_next hd).2
  have hin : i < n := by have := (List.getElem?_eq_some_iff.1 hx).1; omega
  have hsd := sp_digs l G _ (i + 1) (p + 1) hS1 rfl
  have C1 := rnumber_any l G b n cp (i + 1) (p + 1) w hn hnb hG hS1 (by omega)
  rw [hr] at hsd C1
  rw [show ((i + 1 : Nat) : Int) = (i : Int) + 1 from rfl] at C1
  obtain ⟨x0, -, -, -⟩ := hG i _ hx
  rw [Nat.zero_add] at x0
  have x0 : w.cell? ⟨b, i * 4, none⟩ = some (.int .u8 64) := x0
  have hiz : (i : Int) < (n : Int) := by omega
  rcases nmA_num r with ⟨h1, h2⟩ | ⟨h1, _, h2⟩
  · have T0 : tokF (l.drop p) = none := by
      rw [hd, tok_64]; exact h2 _ _
    have HQ : Hid (∀ z : Int, nbPost w l G p (.returned (.tuple #[.int .i64 (-1), .int .i64 0, .int .i64 z])) w) := hideL (nb_no T0)
    clear T0
    have CN := hideL C1
    rw [h1] at CN
    generalize nbPost w l G p = Q at *
    generalize i + 1 + dgL r = j at *
    clear hn hG hS hd hx hS1 hr hsd C1 h1 h2
    go_enter Tryd.func31, Tryd.ntmps31
    go_wp2_with (go_at_call 35; refine CN.out.mono ?_; clear CN; rintro e w6 ⟨rfl, e6⟩; subst e6)
    go_ret3
    exact HQ.out _
  · have T0 : tokF (l.drop p) = some ⟨21, [], (nmA r), (1 + dgL r)⟩ := by
      rw [hd, tok_64]; exact h2 _ _
    have HQ : Hid (nbPost w l G p (.returned (.tuple #[.int .i64 ((21 : Nat) : Int), .int .i64 (nmA r), .int .i64 ((i + 1 + dgL r : Nat) : Int)])) w) := hideL (nb_yes 21 (nmA r) ((1 + dgL r)) _ T0 (by rw [← Nat.add_assoc]; exact hsd))
    clear T0
    have CN := hideL C1
    generalize nbPost w l G p = Q at *
    generalize i + 1 + dgL r = j at *
    generalize nmA r = z at *
    have hz : ¬ z < 0 := by omega
    clear hn hG hS hd hx hS1 hr hsd C1 h2
    go_enter Tryd.func31, Tryd.ntmps31
    go_wp2_with (go_at_call 35; refine CN.out.mono ?_; clear CN; rintro e w6 ⟨rfl, e6⟩; subst e6)
    go_ret3
    exact HQ.out
end Go.Proofs.YtakjaablankipaaDoor
namespace Go.Proofs.YtakjaablankipaaDoor
open Go.ChangeShapes Go.WideShapes Go.ChangeAt Go.RowKit

set_option maxRecDepth 20000 in
set_option maxHeartbeats 4000000 in
theorem numbered_tilde (l : List UInt8) (G : List Sg) (b n cp i p : Nat) (w : World) (hn : n = G.length) (hnb : n ≤ 400000000000) (hG : SgL w b 0 G) (hS : SP l G i p) (r : List UInt8) (hd : l.drop p = 126 :: r) :
    Calls Tryd.prog 31 #[.slice (some ⟨b, 0, none⟩) n cp, .int .i64 (i : Int)] w (nbPost w l G p) := by
  obtain ⟨hx, hS1⟩ := sp_plain hS 126 r hd (by decide)
  have hr := (drop_next hd).2
  have hin : i < n := by have := (List.getElem?_eq_some_iff.1 hx).1; omega
  have hsd := sp_digs l G _ (i + 1) (p + 1) hS1 rfl
  have C1 := rnumber_any l G b n cp (i + 1) (p + 1) w hn hnb hG hS1 (by omega)
  rw [hr] at hsd C1
  rw [show ((i + 1 : Nat) : Int) = (i : Int) + 1 from rfl] at C1
  obtain ⟨x0, -, -, -⟩ := hG i _ hx
  rw [Nat.zero_add] at x0
  have x0 : w.cell? ⟨b, i * 4, none⟩ = some (.int .u8 126) := x0
  have hiz : (i : Int) < (n : Int) := by omega
  rcases nmA_num r with ⟨h1, h2⟩ | ⟨h1, h3, h2⟩
  · by_cases h0 : dgL r = 0
    · have T0 : tokF (l.drop p) = some ⟨20, [], (-1), 1⟩ := by
        rw [hd, tok_126, if_pos h0]
      have HQ : Hid (nbPost w l G p (.returned (.tuple #[.int .i64 ((20 : Nat) : Int), .int .i64 (-1), .int .i64 ((i + 1 : Nat) : Int)])) w) := hideL (nb_yes 20 (-1) 1 _ T0 hS1)
      clear T0
      have CN := hideL C1
      rw [h1, h0, Nat.add_zero] at CN
      rw [show ((i + 1 : Nat) : Int) = (i : Int) + 1 from rfl] at CN HQ
      generalize nbPost w l G p = Q at *
      have hj : ¬ (i : Int) + 1 < (i : Int) + 1 := by omega
      clear hn hG hS hd hx hS1 hr hsd C1 h1 h2 h0
      go_enter Tryd.func31, Tryd.ntmps31
      go_wp2_with (go_at_call 35; refine CN.out.mono ?_; clear CN; rintro e w6 ⟨rfl, e6⟩; subst e6)
      go_ret3
      exact HQ.out
    · have T0 : tokF (l.drop p) = none := by
        rw [hd, tok_126, if_neg h0]; exact h2 _ _
      have HQ : Hid (∀ z : Int, nbPost w l G p (.returned (.tuple #[.int .i64 (-1), .int .i64 0, .int .i64 z])) w) := hideL (nb_no T0)
      clear T0
      have CN := hideL C1
      rw [h1] at CN
      generalize nbPost w l G p = Q at *
      have hj : (i : Int) + 1 < ((i + 1 + dgL r : Nat) : Int) := by omega
      generalize i + 1 + dgL r = j at *
      clear hn hG hS hd hx hS1 hr hsd C1 h1 h2 h0
      go_enter Tryd.func31, Tryd.ntmps31
      go_wp2_with (go_at_call 35; refine CN.out.mono ?_; clear CN; rintro e w6 ⟨rfl, e6⟩; subst e6)
      go_ret3
      exact HQ.out _
  · have T0 : tokF (l.drop p) = some ⟨20, [], (nmA r), (1 + dgL r)⟩ := by
      rw [hd, tok_126, if_neg (by omega)]; exact h2 _ _
    have HQ : Hid (nbPost w l G p (.returned (.tuple #[.int .i64 ((20 : Nat) : Int), .int .i64 (nmA r), .int .i64 ((i + 1 + dgL r : Nat) : Int)])) w) := hideL (nb_yes 20 (nmA r) ((1 + dgL r)) _ T0 (by rw [← Nat.add_assoc]; exact hsd))
    clear T0
    have CN := hideL C1
    generalize nbPost w l G p = Q at *
    generalize i + 1 + dgL r = j at *
    generalize nmA r = z at *
    have hz : ¬ z < 0 := by omega
    clear hn hG hS hd hx hS1 hr hsd C1 h2
    go_enter Tryd.func31, Tryd.ntmps31
    go_wp2_with (go_at_call 35; refine CN.out.mono ?_; clear CN; rintro e w6 ⟨rfl, e6⟩; subst e6)
    go_ret3
    exact HQ.out
end Go.Proofs.YtakjaablankipaaDoor
namespace Go.Proofs.YtakjaablankipaaDoor
open Go.ChangeShapes Go.WideShapes Go.ChangeAt Go.RowKit

set_option maxRecDepth 20000 in
set_option maxHeartbeats 4000000 in
theorem numbered_hat (l : List UInt8) (G : List Sg) (b n cp i p : Nat) (w : World) (hn : n = G.length) (hnb : n ≤ 400000000000) (hG : SgL w b 0 G) (hS : SP l G i p) (r : List UInt8) (hd : l.drop p = 94 :: r) :
    Calls Tryd.prog 31 #[.slice (some ⟨b, 0, none⟩) n cp, .int .i64 (i : Int)] w (nbPost w l G p) := by
  obtain ⟨hx, hS1⟩ := sp_plain hS 94 r hd (by decide)
  have hr := (drop_next hd).2
  have hin : i < n := by have := (List.getElem?_eq_some_iff.1 hx).1; omega
  have CE := hideL (plain13_any G b n cp (i + 1) 61 w hn hG)
  rw [spl_head hS1 61 (by decide), hr] at CE
  have CE : Hid (Calls Tryd.prog 36 #[.slice (some ⟨b, 0, none⟩) n cp, .int .i64 ((i : Int) + 1), .int .u8 61] w fun e w' => e = .returned (.bool (decide (r.head? = some 61))) ∧ w' = w) := CE
  obtain ⟨x0, -, -, -⟩ := hG i _ hx
  rw [Nat.zero_add] at x0
  have x0 : w.cell? ⟨b, i * 4, none⟩ = some (.int .u8 94) := x0
  have hiz : (i : Int) < (n : Int) := by omega
  by_cases h61 : r.head? = some 61
  · rw [decide_eq_true h61] at CE
    obtain ⟨s, rfl⟩ : ∃ s, r = 61 :: s := by
      cases r with
      | nil => cases h61
      | cons a s => obtain rfl := Option.some.inj h61; exact ⟨s, rfl⟩
    obtain ⟨hx2, hS2⟩ := sp_plain hS1 61 s hr (by decide)
    have hr2 : l.drop (p + 1 + 1) = s := (drop_next hr).2
    have hin2 : i + 1 < n := by have := (List.getElem?_eq_some_iff.1 hx2).1; omega
    have hsd := sp_digs l G _ (i + 1 + 1) (p + 1 + 1) hS2 rfl
    have C1 := rnumber_any l G b n cp (i + 1 + 1) (p + 1 + 1) w hn hnb hG hS2 (by omega)
    rw [hr2] at hsd C1
    rw [show ((i + 1 + 1 : Nat) : Int) = (i : Int) + 1 + 1 from rfl] at C1
    rcases nmA_num s with ⟨h1, h2⟩ | ⟨h1, _, h2⟩
    · have T0 : tokF (l.drop p) = none := by
        rw [hd, tok_94, if_pos h61]; exact h2 _ _
      have HQ : Hid (∀ z : Int, nbPost w l G p (.returned (.tuple #[.int .i64 (-1), .int .i64 0, .int .i64 z])) w) := hideL (nb_no T0)
      clear T0
      have CN := hideL C1
      rw [h1] at CN
      generalize nbPost w l G p = Q at *
      generalize i + 1 + 1 + dgL s = j at *
      clear hn hG hS hd hx hS1 hr hsd C1 h1 h2 hx2 hS2 hr2 h61
      go_enter Tryd.func31, Tryd.ntmps31
      go_wp2_with (first
        | (go_at_call 36; refine CE.out.mono ?_; clear CE; rintro e w5 ⟨rfl, e5⟩; subst e5)
        | (go_at_call 35; refine CN.out.mono ?_; clear CN; rintro e w6 ⟨rfl, e6⟩; subst e6))
      go_ret3
      exact HQ.out _
    · have T0 : tokF (l.drop p) = some ⟨19, [], (nmA s), (2 + dgL s)⟩ := by
        rw [hd, tok_94, if_pos h61]; exact h2 _ _
      have HQ : Hid (nbPost w l G p (.returned (.tuple #[.int .i64 ((19 : Nat) : Int), .int .i64 (nmA s), .int .i64 ((i + 1 + 1 + dgL s : Nat) : Int)])) w) := hideL (nb_yes 19 (nmA s) ((2 + dgL s)) _ T0 (by rw [← Nat.add_assoc]; exact hsd))
      clear T0
      have CN := hideL C1
      generalize nbPost w l G p = Q at *
      generalize i + 1 + 1 + dgL s = j at *
      generalize nmA s = z at *
      have hz : ¬ z < 0 := by omega
      clear hn hG hS hd hx hS1 hr hsd C1 h2 hx2 hS2 hr2 h61
      go_enter Tryd.func31, Tryd.ntmps31
      go_wp2_with (first
        | (go_at_call 36; refine CE.out.mono ?_; clear CE; rintro e w5 ⟨rfl, e5⟩; subst e5)
        | (go_at_call 35; refine CN.out.mono ?_; clear CN; rintro e w6 ⟨rfl, e6⟩; subst e6))
      go_ret3
      exact HQ.out
  · rw [decide_eq_false h61] at CE
    have hsd := sp_digs l G _ (i + 1) (p + 1) hS1 rfl
    have C1 := rnumber_any l G b n cp (i + 1) (p + 1) w hn hnb hG hS1 (by omega)
    rw [hr] at hsd C1
    rw [show ((i + 1 : Nat) : Int) = (i : Int) + 1 from rfl] at C1
    rcases nmA_num r with ⟨h1, h2⟩ | ⟨h1, _, h2⟩
    · have T0 : tokF (l.drop p) = none := by
        rw [hd, tok_94, if_neg h61]; exact h2 _ _
      have HQ : Hid (∀ z : Int, nbPost w l G p (.returned (.tuple #[.int .i64 (-1), .int .i64 0, .int .i64 z])) w) := hideL (nb_no T0)
      clear T0
      have CN := hideL C1
      rw [h1] at CN
      generalize nbPost w l G p = Q at *
      generalize i + 1 + dgL r = j at *
      clear hn hG hS hd hx hS1 hr hsd C1 h1 h2 h61
      go_enter Tryd.func31, Tryd.ntmps31
      go_wp2_with (first
        | (go_at_call 36; refine CE.out.mono ?_; clear CE; rintro e w5 ⟨rfl, e5⟩; subst e5)
        | (go_at_call 35; refine CN.out.mono ?_; clear CN; rintro e w6 ⟨rfl, e6⟩; subst e6))
      go_ret3
      exact HQ.out _
    · have T0 : tokF (l.drop p) = some ⟨18, [], (nmA r), (1 + dgL r)⟩ := by
        rw [hd, tok_94, if_neg h61]; exact h2 _ _
      have HQ : Hid (nbPost w l G p (.returned (.tuple #[.int .i64 ((18 : Nat) : Int), .int .i64 (nmA r), .int .i64 ((i + 1 + dgL r : Nat) : Int)])) w) := hideL (nb_yes 18 (nmA r) ((1 + dgL r)) _ T0 (by rw [← Nat.add_assoc]; exact hsd))
      clear T0
      have CN := hideL C1
      generalize nbPost w l G p = Q at *
      generalize i + 1 + dgL r = j at *
      generalize nmA r = z at *
      have hz : ¬ z < 0 := by omega
      clear hn hG hS hd hx hS1 hr hsd C1 h2 h61
      go_enter Tryd.func31, Tryd.ntmps31
      go_wp2_with (first
        | (go_at_call 36; refine CE.out.mono ?_; clear CE; rintro e w5 ⟨rfl, e5⟩; subst e5)
        | (go_at_call 35; refine CN.out.mono ?_; clear CN; rintro e w6 ⟨rfl, e6⟩; subst e6))
      go_ret3
      exact HQ.out
end Go.Proofs.YtakjaablankipaaDoor
