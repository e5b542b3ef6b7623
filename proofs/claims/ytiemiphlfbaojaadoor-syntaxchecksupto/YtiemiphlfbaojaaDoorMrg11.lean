import Derived.Test.YtiemiphlfbaojaaDoorMrg10
import Derived.Test.YtiemiphlfbaojaaDoorMrg9
import Derived.Test.YtiemiphlfbaojaaDoorMrg1
namespace Go.Proofs.YtiemiphlfbaojaaDoor
open Go.ChangeShapes Go.WideShapes Go.ChangeAt Go.RowKit

set_option maxRecDepth 20000 in
set_option maxHeartbeats 4000000 in
theorem numbered_at (l : List UInt8) (G : List Sg) (b n cp i p : Nat) (w : World) (hn : n = G.length) (hnb : n ≤ 400000000000) (hG : SgL w b 0 G) (hS : SP l G i p) (r : List UInt8) (hd : l.drop p = 64 :: r) :
    Calls Tryd.prog 72 #[.slice (some ⟨b, 0, none⟩) n cp, .int .i64 (i : Int)] w (nbPost w l G p) := by
  obtain ⟨hx, hS1⟩ := sp_plain hS 64 r hd (by decide)
  have hr := (drop_next hd).2
  have hin : i < n := by have := (List.getElem?_eq_some_iff.1 hx).1; omega
  have hsd := sp_digs l G _ (i + 1) (p + 1) hS1 rfl
  have C1 := rnumber_any l G b n cp (i + 1) (p + 1) w hn hnb hG hS1 (by omega)
  rw [hr] at hsd C1
  rw [show ((i + 1 : Nat) : Int) = (i : Int) + 1 from rfl] at C1
  obtain ⟨x0, -, -, -⟩ := hG i _ hx
  rw [Nat.zero_add] at x0
  have x0 : w.cell? ⟨b, i * 4, none⟩ = some (.int .u8 64) := x0
  have hiz : (i : Int) < (n : Int) := by omega
  rcases nmA_num r with ⟨h1, h2⟩ | ⟨h1, _, h2⟩
  · have T0 : tokF (l.drop p) = none := by
      rw [hd, tok_64]; exact h2 _ _
    have HQ : Hid (∀ z : Int, nbPost w l G p (.returned (.tuple #[.int .i64 (-1), .int .i64 0, .int .i64 z])) w) := hideL (nb_no T0)
    clear T0
    have CN := hideL C1
    rw [h1] at CN
    generalize nbPost w l G p = Q at *
    generalize i + 1 + dgL r = j at *
    clear hn hG hS hd hx hS1 hr hsd C1 h1 h2
    go_enter Tryd.func72, Tryd.ntmps72
    go_wp2_with (go_at_call 80; refine CN.out.mono ?_; clear CN; rintro e w6 ⟨rfl, e6⟩; subst e6)
    go_ret3
    exact HQ.out _
  · have T0 : tokF (l.drop p) = some ⟨21, [], (nmA r), (1 + dgL r)⟩ := by
      rw [hd, tok_64]; exact h2 _ _
    have HQ : Hid (nbPost w l G p (.returned (.tuple #[.int .i64 ((21 : Nat) : Int), .int .i64 (nmA r), .int .i64 ((i + 1 + dgL r : Nat) : Int)])) w) := hideL (nb_yes 21 (nmA r) ((1 + dgL r)) _ T0 (by rw [← Nat.add_assoc]; exact hsd))
    clear T0
    have CN := hideL C1
    generalize nbPost w l G p = Q at *
    generalize i + 1 + dgL r = j at *
    generalize nmA r = z at *
    have hz : ¬ z < 0 := by omega
    clear hn hG hS hd hx hS1 hr hsd C1 h2
    go_enter Tryd.func72, Tryd.ntmps72
    go_wp2_with (go_at_call 80; refine CN.out.mono ?_; clear CN; rintro e w6 ⟨rfl, e6⟩; subst e6)
    go_ret3
    exact HQ.out
end Go.Proofs.YtiemiphlfbaojaaDoor
namespace Go.Proofs.YtiemiphlfbaojaaDoor
open Go.ChangeShapes Go.WideShapes Go.ChangeAt Go.RowKit

set_option maxRecDepth 20000 in
set_option maxHeartbeats 4000000 in
theorem numbered_tilde (l : List UInt8) (G : List Sg) (b n cp i p : Nat) (w : World) (hn : n = G.length) (hnb : n ≤ 400000000000) (hG : SgL w b 0 G) (hS : SP l G i p) (r : List UInt8) (hd : l.drop p = 126 :: r) :
    Calls Tryd.prog 72 #[.slice (some ⟨b, 0, none⟩) n cp, .int .i64 (i : Int)] w (nbPost w l G p) := by
  obtain ⟨hx, hS1⟩ := sp_plain hS 126 r hd (by decide)
  have hr := (drop_next hd).2
  have hin : i < n := by have := (List.getElem?_eq_some_iff.1 hx).1; omega
  have hsd := sp_digs l G _ (i + 1) (p + 1) hS1 rfl
  have C1 := rnumber_any l G b n cp (i + 1) (p + 1) w hn hnb hG hS1 (by omega)
  rw [hr] at hsd C1
  rw [show ((i + 1 : Nat) : Int) = (i : Int) + 1 from rfl] at C1
  obtain ⟨x0, -, -, -⟩ := hG i _ hx
  rw [Nat.zero_add] at x0
  have x0 : w.cell? ⟨b, i * 4, none⟩ = some (.int .u8 126) := x0
  have hiz : (i : Int) < (n : Int) := by omega
  rcases nmA_num r with ⟨h1, h2⟩ | ⟨h1, h3, h2⟩
  · by_cases h0 : dgL r = 0
    · have T0 : tokF (l.drop p) = some ⟨20, [], (-1), 1⟩ := by
        rw [hd, tok_126, if_pos h0]
      have HQ : Hid (nbPost w l G p (.returned (.tuple #[.int .i64 ((20 : Nat) : Int), .int .i64 (-1), .int .i64 ((i + 1 : Nat) : Int)])) w) := hideL (nb_yes 20 (-1) 1 _ T0 hS1)
      clear T0
      have CN := hideL C1
      rw [h1, h0, Nat.add_zero] at CN
      rw [show ((i + 1 : Nat) : Int) = (i : Int) + 1 from rfl] at CN HQ
      generalize nbPost w l G p = Q at *
      have hj : ¬ (i : Int) + 1 < (i : Int) + 1 := by omega
      clear hn hG hS hd hx hS1 hr hsd C1 h1 h2 h0
      go_enter Tryd.func72, Tryd.ntmps72
      go_wp2_with (go_at_call 80; refine CN.out.mono ?_; clear CN; rintro e w6 ⟨rfl, e6⟩; subst e6)
      go_ret3
      exact HQ.out
    · have T0 : tokF (l.drop p) = none := by
        rw [hd, tok_126, if_neg h0]; exact h2 _ _
      have HQ : Hid (∀ z : Int, nbPost w l G p (.returned (.tuple #[.int .i64 (-1), .int .i64 0, .int .i64 z])) w) := hideL (nb_no T0)
      clear T0
      have CN := hideL C1
      rw [h1] at CN
      generalize nbPost w l G p = Q at *
      have hj : (i : Int) + 1 < ((i + 1 + dgL r : Nat) : Int) := by omega
      generalize i + 1 + dgL r = j at *
      clear hn hG hS hd hx hS1 hr hsd C1 h1 h2 h0
      go_enter Tryd.func72, Tryd.ntmps72
      go_wp2_with (go_at_call 80; refine CN.out.mono ?_; clear CN; rintro e w6 ⟨rfl, e6⟩; subst e6)
      go_ret3
      exact HQ.out _
  · have T0 : tokF (l.drop p) = some ⟨20, [], (nmA r), (1 + dgL r)⟩ := by
      rw [hd, tok_126, if_neg (by omega)]; exact h2 _ _
    have HQ : Hid (nbPost w l G p (.returned (.tuple #[.int .i64 ((20 : Nat) : Int), .int .i64 (nmA r), .int .i64 ((i + 1 + dgL r : Nat) : Int)])) w) := hideL (nb_yes 20 (nmA r) ((1 + dgL r)) _ T0 (by rw [← Nat.add_assoc]; exact hsd))
    clear T0
    have CN := hideL C1
    generalize nbPost w l G p = Q at *
    generalize i + 1 + dgL r = j at *
    generalize nmA r = z at *
    have hz : ¬ z < 0 := by omega
    clear hn hG hS hd hx hS1 hr hsd C1 h2
    go_enter Tryd.func72, Tryd.ntmps72
    go_wp2_with (go_at_call 80; refine CN.out.mono ?_; clear CN; rintro e w6 ⟨rfl, e6⟩; subst e6)
    go_ret3
    exact HQ.out
end Go.Proofs.YtiemiphlfbaojaaDoor
namespace Go.Proofs.YtiemiphlfbaojaaDoor
open Go.ChangeShapes Go.WideShapes Go.ChangeAt Go.RowKit

set_option maxRecDepth 20000 in
set_option maxHeartbeats 4000000 in
theorem numbered_hat (l : List UInt8) (G : List Sg) (b n cp i p : Nat) (w : World) (hn : n = G.length) (hnb : n ≤ 400000000000) (hG : SgL w b 0 G) (hS : SP l G i p) (r : List UInt8) (hd : l.drop p = 94 :: r) :
    Calls Tryd.prog 72 #[.slice (some ⟨b, 0, none⟩) n cp, .int .i64 (i : Int)] w (nbPost w l G p) := by
  obtain ⟨hx, hS1⟩ := sp_plain hS 94 r hd (by decide)
  have hr := (drop_next hd).2
  have hin : i < n := by have := (List.getElem?_eq_some_iff.1 hx).1; omega
  have CE := hideL (plain13_any G b n cp (i + 1) 61 w hn hG)
  rw [spl_head hS1 61 (by decide), hr] at CE
  have CE : Hid (Calls Tryd.prog 81 #[.slice (some ⟨b, 0, none⟩) n cp, .int .i64 ((i : Int) + 1), .int .u8 61] w fun e w' => e = .returned (.bool (decide (r.head? = some 61))) ∧ w' = w) := CE
  obtain ⟨x0, -, -, -⟩ := hG i _ hx
  rw [Nat.zero_add] at x0
  have x0 : w.cell? ⟨b, i * 4, none⟩ = some (.int .u8 94) := x0
  have hiz : (i : Int) < (n : Int) := by omega
  by_cases h61 : r.head? = some 61
  · rw [decide_eq_true h61] at CE
    obtain ⟨s, rfl⟩ : ∃ s, r = 61 :: s := by
      cases r with
      | nil => cases h61
      | cons a s => obtain rfl := Option.some.inj h61; exact ⟨s, rfl⟩
    obtain ⟨hx2, hS2⟩ := sp_plain hS1 61 s hr (by decide)
    have hr2 : l.drop (p + 1 + 1) = s := (drop_next hr).2
    have hin2 : i + 1 < n := by have := (List.getElem?_eq_some_iff.1 hx2).1; omega
    have hsd := sp_digs l G _ (i + 1 + 1) (p + 1 + 1) hS2 rfl
    have C1 := rnumber_any l G b n cp (i + 1 + 1) (p + 1 + 1) w hn hnb hG hS2 (by omega)
    rw [hr2] at hsd C1
    rw [show ((i + 1 + 1 : Nat) : Int) = (i : Int) + 1 + 1 from rfl] at C1
    rcases nmA_num s with ⟨h1, h2⟩ | ⟨h1, _, h2⟩
    · have T0 : tokF (l.drop p) = none := by
        rw [hd, tok_94, if_pos h61]; exact h2 _ _
      have HQ : Hid (∀ z : Int, nbPost w l G p (.returned (.tuple #[.int .i64 (-1), .int .i64 0, .int .i64 z])) w) := hideL (nb_no T0)
      clear T0
      have CN := hideL C1
      rw [h1] at CN
      generalize nbPost w l G p = Q at *
      generalize i + 1 + 1 + dgL s = j at *
      clear hn hG hS hd hx hS1 hr hsd C1 h1 h2 hx2 hS2 hr2 h61
      go_enter Tryd.func72, Tryd.ntmps72
      go_wp2_with (first
        | (go_at_call 81; refine CE.out.mono ?_; clear CE; rintro e w5 ⟨rfl, e5⟩; subst e5)
        | (go_at_call 80; refine CN.out.mono ?_; clear CN; rintro e w6 ⟨rfl, e6⟩; subst e6))
      go_ret3
      exact HQ.out _
    · have T0 : tokF (l.drop p) = some ⟨19, [], (nmA s), (2 + dgL s)⟩ := by
        rw [hd, tok_94, if_pos h61]; exact h2 _ _
      have HQ : Hid (nbPost w l G p (.returned (.tuple #[.int .i64 ((19 : Nat) : Int), .int .i64 (nmA s), .int .i64 ((i + 1 + 1 + dgL s : Nat) : Int)])) w) := hideL (nb_yes 19 (nmA s) ((2 + dgL s)) _ T0 (by rw [← Nat.add_assoc]; exact hsd))
      clear T0
      have CN := hideL C1
      generalize nbPost w l G p = Q at *
      generalize i + 1 + 1 + dgL s = j at *
      generalize nmA s = z at *
      have hz : ¬ z < 0 := by omega
      clear hn hG hS hd hx hS1 hr hsd C1 h2 hx2 hS2 hr2 h61
      go_enter Tryd.func72, Tryd.ntmps72
      go_wp2_with (first
        | (go_at_call 81; refine CE.out.mono ?_; clear CE; rintro e w5 ⟨rfl, e5⟩; subst e5)
        | (go_at_call 80; refine CN.out.mono ?_; clear CN; rintro e w6 ⟨rfl, e6⟩; subst e6))
      go_ret3
      exact HQ.out
  · rw [decide_eq_false h61] at CE
    have hsd := sp_digs l G _ (i + 1) (p + 1) hS1 rfl
    have C1 := rnumber_any l G b n cp (i + 1) (p + 1) w hn hnb hG hS1 (by omega)
    rw [hr] at hsd C1
    rw [show ((i + 1 : Nat) : Int) = (i : Int) + 1 from rfl] at C1
    rcases nmA_num r with ⟨h1, h2⟩ | ⟨h1, _, h2⟩
    · have T0 : tokF (l.drop p) = none := by
        rw [hd, tok_94, if_neg h61]; exact h2 _ _
      have HQ : Hid (∀ z : Int, nbPost w l G p (.returned (.tuple #[.int .i64 (-1), .int .i64 0, .int .i64 z])) w) := hideL (nb_no T0)
      clear T0
      have CN := hideL C1
      rw [h1] at CN
      generalize nbPost w l G p = Q at *
      generalize i + 1 + dgL r = j at *
      clear hn hG hS hd hx hS1 hr hsd C1 h1 h2 h61
      go_enter Tryd.func72, Tryd.ntmps72
      go_wp2_with (first
        | (go_at_call 81; refine CE.out.mono ?_; clear CE; rintro e w5 ⟨rfl, e5⟩; subst e5)
        | (go_at_call 80; refine CN.out.mono ?_; clear CN; rintro e w6 ⟨rfl, e6⟩; subst e6))
      go_ret3
      exact HQ.out _
    · have T0 : tokF (l.drop p) = some ⟨18, [], (nmA r), (1 + dgL r)⟩ := by
        rw [hd, tok_94, if_neg h61]; exact h2 _ _
      have HQ : Hid (nbPost w l G p (.returned (.tuple #[.int .i64 ((18 : Nat) : Int), .int .i64 (nmA r), .int .i64 ((i + 1 + dgL r : Nat) : Int)])) w) := hideL (nb_yes 18 (nmA r) ((1 + dgL r)) _ T0 (by rw [← Nat.add_assoc]; exact hsd))
      clear T0
      have CN := hideL C1
      generalize nbPost w l G p = Q at *
      generalize i + 1 + dgL r = j at *
      generalize nmA r = z at *
      have hz : ¬ z < 0 := by omega
      clear hn hG hS hd hx hS1 hr hsd C1 h2 h61
      go_enter Tryd.func72, Tryd.ntmps72
      go_wp2_with (first
        | (go_at_call 81; refine CE.out.mono ?_; clear CE; rintro e w5 ⟨rfl, e5⟩; subst e5)
        | (go_at_call 80; refine CN.out.mono ?_; clear CN; rintro e w6 ⟨rfl, e6⟩; subst e6))
      go_ret3
      exact HQ.out
end Go.Proofs.YtiemiphlfbaojaaDoor
namespace Go.Proofs.YtiemiphlfbaojaaDoor
open Go.ChangeShapes Go.WideShapes Go.ChangeAt Go.RowKit

/-- Signs in a piece of a row of their own. -/
structure SgO (w : World) (b off : Nat) (G : List Sg) : Prop where
  l : SgL w b off G
  h : ∃ cs fz, w.heap[b]? = some (.cells cs 85 fz)
theorem SgO.later {w w' : World} {b off : Nat} {G : List Sg} (h : SgO w b off G) (k : Kept (fun _ => False) w w') : SgO w' b off G := by
  obtain ⟨cs, fz, hb⟩ := h.h
  exact ⟨h.l.later k, cs, fz, k.heap hb (fun f => f)⟩
theorem SgO.other {w w' : World} {b off : Nat} {G : List Sg} {e : TypeId} (h : SgO w b off G) (k : KT e w w') (he : 85 ≠ e) : SgO w' b off G := by
  obtain ⟨cs, fz, hb⟩ := h.h
  have hb' := k.heap hb he
  refine ⟨fun j y ey => ?_, cs, fz, hb'⟩
  have q : ∀ a : Addr, a.block = b → w'.cell? a = w.cell? a := fun a ha => World.cell?_of_block (by rw [ha, hb', hb])
  obtain ⟨h0, h1, h2, h3⟩ := h.l j y ey
  exact ⟨by rw [q _ rfl]; exact h0, by rw [q _ rfl]; exact h1, by rw [q _ rfl]; exact h2, by rw [q _ rfl]; exact h3⟩
/-- The kind of a run that is a word of the language. -/
def kwF (R : List Sg) : Int := if R.any (·.l) then -1 else if rsv (R.map (·.c)) = 1 then -1 else (rsv (R.map (·.c)) : Nat)
theorem kw_let (R : List Sg) (h : R.any (·.l) = true) : kwF R = -1 := by unfold kwF; rw [if_pos h]
theorem kw_no (R : List Sg) (h : R.any (·.l) = false) : kwF R = (if rsv (R.map (·.c)) = 1 then (-1 : Int) else ((rsv (R.map (·.c)) : Nat) : Int)) := by unfold kwF; rw [if_neg (by rw [h]; decide)]
theorem take_next {α β : Type} (f : α → β) {R : List α} {k : Nat} {x : α} (h : R[k]? = some x) : (R.take k).map f ++ [f x] = (R.take (k + 1)).map f := by
  obtain ⟨hk, rfl⟩ := List.getElem?_eq_some_iff.1 h
  rw [List.take_succ_eq_append_getElem hk, List.map_append]
  rfl
set_option maxRecDepth 20000 in
set_option maxHeartbeats 4000000 in
theorem keyword13_any (R : List Sg) (b off n cp : Nat) (w : World) (hn : n = R.length) (hnb : n ≤ 400000000000) (hG : SgO w b off R) :
    Calls Tryd.prog 84 #[.slice (some ⟨b, off, none⟩) n cp] w fun e w' => e = .returned (.int .i64 (kwF R)) ∧ Kept (fun _ => False) w w' := by
  obtain ⟨Z, hZ⟩ : ∃ Z, Z = kwF R := ⟨_, rfl⟩
  rw [← hZ]
  have HZ := hideL hZ
  have HN := hideL hn
  have HB0 : Hid (Gb w (w.alloc (.cells #[] 5)) (some ⟨w.heap.size, 0, none⟩) 0 0 ((R.take 0).map (·.c))) := hideL (gb_empty w)
  have HG0 := hideL (hG.later (Kept.alloc w (.cells #[] 5)))
  have HA0 : Hid (R.any (·.l) = (R.drop 0).any (·.l)) := hideL rfl
  clear hG hn hZ
  go_enter Tryd.func84, Tryd.ntmps84
  go_wp2
  go_loopw [3, 9] (fun v i wr => ∃ (k : Nat) (a : Option Addr) (c : Nat), k ≤ n ∧ i = .int .i64 k ∧ v = .slice a k c ∧ Hid (Gb w wr a c k ((R.take k).map (·.c))) ∧ Hid (SgO wr b off R) ∧ Hid (R.any (·.l) = (R.drop k).any (·.l))) (fun _ i _ => n - (intOf i).toNat)
  case atStart => exact ⟨0, _, _, by omega, rfl, rfl, HB0, HG0, HA0⟩
  case round =>
    obtain ⟨k, a, c0, hk, rfl, rfl, HB, HG, HA⟩ := hrel
    clear HB0 HG0 HA0
    by_cases hlt : k < n
    · have hkR : k < R.length := by rw [← HN.out]; exact hlt
      have hx : R[k]? = some R[k] := List.getElem?_eq_getElem hkR
      obtain ⟨x0, x1, x2, x3⟩ := HG.out.l k _ hx
      have hnx := take_next (fun y : Sg => y.c) hx
      have HA2 := HA.out
      rw [List.drop_eq_getElem_cons hkR, List.any_cons] at HA2
      generalize R[k] = X at x0 x1 x2 x3 hnx HA2
      obtain ⟨xc, xl, xp, xz⟩ := X
      dsimp only at x0 x1 x2 x3 hnx HA2
      have hkz : (k : Int) < (n : Int) := by omega
      have HNX := hideL hnx
      obtain ⟨q, hq⟩ : ∃ q, q = xc.toNat := ⟨_, rfl⟩
      have hqb : q < 256 := by rw [hq]; exact xc.toNat_lt
      have HQ0 : Hid ((q : Int) = (xc.toNat : Int)) := hideL (by rw [hq])
      rw [← hq] at x0
      have HV : Hid (Gb w (nsg wr q xp xz xl) a c0 k ((R.take k).map (·.c))) := hideL (HB.out.later (Kept.alloc _ _))
      have HW := hideL (HG.out.later (Kept.alloc wr (.cells #[.int .u8 q, .bool xl, .int .i64 xp, .int .i64 xz] 85)))
      clear hq hx hnx HA HB HG
      cases xl with
      | true =>
        obtain rfl : Z = -1 := by rw [HZ.out]; exact kw_let R HA2
        have HK := hideL HV.out.gro.kept
        clear HV HW HZ HA2
        go_wp2
        go_ret
        exact ⟨rfl, HK.out⟩
      | false =>
        have HA3 : Hid (R.any (·.l) = (R.drop (k + 1)).any (·.l)) := hideL HA2
        clear HA2
        go_wp2_with (at_builtin; refine wpList_pushC rfl _ _ rfl _ _ k _ xc _ rfl HV _ (by first | rfl | simp) rfl HQ0 (by omega) ?_; intro a4 c4 W4 G4 K4; have HG4 := hideL (HW.out.other K4.out (by decide)); rw [HNX.out] at G4; clear HV HW K4)
        go_roundw
        case rel => exact ⟨k + 1, a4, c4, by omega, by go_num, rfl, G4, HG4, HA3⟩
        case measure => simp [intOf] <;> omega
    · obtain rfl : k = n := by omega
      have hA : R.any (·.l) = false := by rw [HA.out, List.drop_of_length_le (by have := HN.out; omega)]; rfl
      have HK := hideL HB.out.gro.kept
      have HB2 := HB.out
      rw [List.take_of_length_le (by have := HN.out; omega)] at HB2
      have hZ2 := HZ.out
      rw [kw_no R hA] at hZ2
      have hb2 : (convert 96 9 (.slice a k c0)).run Tryd.prog wr = .ok (.string (bq (R.map (·.c)))) wr := gro_string HB2.gro HB2.len
      generalize R.map (·.c) = L at hb2 hZ2
      have e1 := bq_list L
      generalize bq L = s at *
      clear HA HB HB2 HG HZ hA HN
      unfold rsv at hZ2
      by_cases h1 : L = [65, 78, 68]
      · rw [if_pos h1] at hZ2
        obtain rfl : Z = 4 := hZ2
        have g1 : (s.toList == [65, 78, 68]) = true := by rw [e1, h1]; rfl
        clear e1 h1
        go_wp2
        go_ret
        exact ⟨rfl, HK.out⟩
      rw [if_neg h1] at hZ2
      have g1 : (s.toList == [65, 78, 68]) = false := by rw [e1]; simpa using h1
      by_cases h2 : L = [79, 82]
      · rw [if_pos h2] at hZ2
        obtain rfl : Z = 5 := hZ2
        have g2 : (s.toList == [79, 82]) = true := by rw [e1, h2]; rfl
        clear e1 h1 h2
        go_wp2
        go_ret
        exact ⟨rfl, HK.out⟩
      rw [if_neg h2] at hZ2
      have g2 : (s.toList == [79, 82]) = false := by rw [e1]; simpa using h2
      by_cases h3 : L = [78, 79, 84]
      · rw [if_pos h3] at hZ2
        obtain rfl : Z = 6 := hZ2
        have g3 : (s.toList == [78, 79, 84]) = true := by rw [e1, h3]; rfl
        clear e1 h1 h2 h3
        go_wp2
        go_ret
        exact ⟨rfl, HK.out⟩
      rw [if_neg h3] at hZ2
      have g3 : (s.toList == [78, 79, 84]) = false := by rw [e1]; simpa using h3
      by_cases h4 : L = [84, 79]
      · rw [if_pos h4] at hZ2
        obtain rfl : Z = 7 := hZ2
        have g4 : (s.toList == [84, 79]) = true := by rw [e1, h4]; rfl
        clear e1 h1 h2 h3 h4
        go_wp2
        go_ret
        exact ⟨rfl, HK.out⟩
      rw [if_neg h4] at hZ2
      have g4 : (s.toList == [84, 79]) = false := by rw [e1]; simpa using h4
      obtain rfl : Z = -1 := hZ2
      clear e1 h1 h2 h3 h4
      go_wp2
      go_ret
      exact ⟨rfl, HK.out⟩
end Go.Proofs.YtiemiphlfbaojaaDoor
namespace Go.Proofs.YtiemiphlfbaojaaDoor
open Go.ChangeShapes Go.WideShapes Go.ChangeAt Go.RowKit

/-! A run of signs as a piece of the bytes. -/
theorem sp_uniq {l : List UInt8} {G : List Sg} {i p p' : Nat} (h : SP l G i p) (h' : SP l G i p') : p = p' := by
  have at_p : ∀ {q : Nat}, SP l G i q → (q = l.length ∧ G.length ≤ i) ∨ (i < G.length ∧ ∃ x, G[i]? = some x ∧ x.p = q) := by
    intro q hq
    rcases sp_cases hq with h1 | ⟨x, _, hi, hx, _, _, hh⟩
    · exact .inl h1
    · refine .inr ⟨hi, x, hx, ?_⟩
      rcases hh with ⟨_, _, _, rfl, _⟩ | ⟨_, rfl, _⟩ | ⟨_, _, _, _, rfl, _⟩ <;> rfl
  rcases at_p h with ⟨h1, h2⟩ | ⟨h1, x, hx, e⟩
  · rcases at_p h' with ⟨h3, _⟩ | ⟨h3, _⟩
    · rw [h1, h3]
    · omega
  · rcases at_p h' with ⟨_, h3⟩ | ⟨_, y, hy, e'⟩
    · omega
    · rw [hx] at hy
      obtain rfl := Option.some.inj hy
      rw [← e, ← e']
theorem sp_piece (l : List UInt8) (G : List Sg) : ∀ (n i p p' : Nat), SP l G i p → SP l G (i + n) p' → i + n ≤ G.length → p ≤ p' ∧ ((G.drop i).take n).map sgB = sgn ((l.drop p).take (p' - p)) := by
  intro n
  induction n with
  | zero =>
    intro i p p' h h' _
    have e := sp_uniq h h'
    subst e
    refine ⟨Nat.le_refl _, ?_⟩
    rw [Nat.sub_self, List.take_zero, List.take_zero]
    rfl
  | succ n ih =>
    intro i p p' h h' hle
    rcases sp_cases h with ⟨_, h2⟩ | ⟨x, q, hi, hx, _, hS, hh⟩
    · omega
    · rw [show i + (n + 1) = i + 1 + n by omega] at h'
      obtain ⟨h3, h4⟩ := ih (i + 1) q p' hS h' (by omega)
      have eG : (G.drop i).take (n + 1) = x :: (G.drop (i + 1)).take n := by
        rw [List.drop_eq_getElem_cons hi, List.take_succ_cons]
        rw [List.getElem?_eq_getElem hi] at hx
        rw [Option.some.inj hx]
      rw [eG, List.map_cons, h4]
      rcases hh with ⟨d, s, hd, rfl, rfl⟩ | ⟨hd, rfl, rfl⟩ | ⟨c, s, hd, h92, rfl, rfl⟩
      · refine ⟨by omega, ?_⟩
        rw [show p + 2 = p + 1 + 1 from rfl, (drop_next (drop_next hd).2).2, hd, show p' - p = (p' - (p + 1 + 1)) + 1 + 1 by omega, List.take_succ_cons, List.take_succ_cons, sgn_esc]
        rfl
      · refine ⟨by omega, ?_⟩
        rw [(drop_next hd).2, hd, show p' - p = (p' - (p + 1)) + 1 by omega, List.take_succ_cons, List.take_nil]
        rfl
      · refine ⟨by omega, ?_⟩
        rw [(drop_next hd).2, hd, show p' - p = (p' - (p + 1)) + 1 by omega, List.take_succ_cons, sgn_oth c _ h92]
        rfl
/-- Does a run go on with this sign? -/
def goS (x : Sg) : Bool := x.l || (!bkB x.c && !mkB x.c)
theorem goS_R (c : UInt8) (h : c ≠ 92) : (!bkB c && !mkB c) = isR c := by
  have := u8_all (fun c => c == 92 || ((!bkB c && !mkB c) == isR c)) (by decide +kernel) c
  simp [h] at this
  simpa using this
theorem goS_92 : (!bkB 92 && !mkB 92) = true := by decide +kernel
end Go.Proofs.YtiemiphlfbaojaaDoor
namespace Go.Proofs.YtiemiphlfbaojaaDoor
open Go.ChangeShapes Go.WideShapes Go.ChangeAt Go.RowKit

/-! A run's kind and text, by its signs. -/
theorem SgB.piece {w : World} {b : Nat} {G : List Sg} (h : SgB w b G) (i n : Nat) : SgO w b (i * 4) ((G.drop i).take n) := by
  refine ⟨fun j y ey => ?_, h.h⟩
  have e : G[i + j]? = some y := by
    rw [List.getElem?_take] at ey
    split at ey
    · rw [List.getElem?_drop] at ey; exact ey
    · cases ey
  have := h.l (i + j) y e
  rw [Nat.zero_add, Nat.add_mul] at this
  exact this
theorem kw_T (R : List Sg) (T : List UInt8) (h : R.map sgB = sgn T) : kwF R = if rsv T = 1 then (-1 : Int) else ((rsv T : Nat) : Int) := by
  have e1 : R.any (·.l) = (sgn T).any (·.2) := by rw [← h, List.any_map]; rfl
  have e2 : R.map (·.c) = (sgn T).map (·.1) := by rw [← h, List.map_map]; rfl
  cases ha : (sgn T).any (·.2) with
  | true => rw [kw_let R (by rw [e1, ha]), rsv_letter T ha, if_pos rfl]
  | false => rw [kw_no R (by rw [e1, ha]), e2, sgn_plain _ T (Nat.le_refl _) ha]
/-- The text of a run as the document makes it. -/
def txE (st : Bool) (x : Sg) : List UInt8 := if st && x.l && (wdB x.c || x.c == 92) then [92, x.c] else [x.c]
theorem tx_T (R : List Sg) (T : List UInt8) (h : R.map sgB = sgn T) (hr : rsv T = 1) (st : Bool) (hs : st = (sgn T).any isW) : R.flatMap (txE st) = txF T ∧ kdF T = if st then 2 else 1 := by
  have hk : kdF T = if st then 2 else 1 := by
    unfold kdF
    rw [if_neg (by omega), hs]
  refine ⟨?_, hk⟩
  unfold txF
  rw [hk]
  cases st with
  | true =>
    show _ = cnF T
    unfold cnF
    rw [← h, List.flatMap_map]
    rfl
  | false =>
    show _ = litF T
    unfold litF
    rw [← h, List.map_map]
    have : txE false = fun x => [x.c] := by funext x; unfold txE; rfl
    rw [this]
    clear h hr hs hk this
    induction R with
    | nil => rfl
    | cons x R ih => rw [List.flatMap_cons, List.map_cons, ih]; rfl
end Go.Proofs.YtiemiphlfbaojaaDoor
