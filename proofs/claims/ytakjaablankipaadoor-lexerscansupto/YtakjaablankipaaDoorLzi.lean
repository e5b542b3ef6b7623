import Derived.Test.YtakjaablankipaaDoorMrg2
import Derived.Test.YtakjaablankipaaDoorLxj
namespace Go.Proofs.YtakjaablankipaaDoor
open Go.ChangeShapes Go.WideShapes Go.ChangeAt Go.RowKit

/-- Signs in a piece of a row of their own. -/
structure SgO (w : World) (b off : Nat) (G : List Sg) : Prop where
  l : SgL w b off G
  h : ∃ cs fz, w.heap[b]? = some (.cells cs 47 fz)
theorem SgO.later {w w' : World} {b off : Nat} {G : List Sg} (h : SgO w b off G) (k : Kept (fun _ => False) w w') : SgO w' b off G := by
  obtain ⟨cs, fz, hb⟩ := h.h
  exact ⟨h.l.later k, cs, fz, k.heap hb (fun f => f)⟩
theorem SgO.other {w w' : World} {b off : Nat} {G : List Sg} {e : TypeId} (h : SgO w b off G) (k : KT e w w') (he : 47 ≠ e) : SgO w' b off G := by
  obtain ⟨cs, fz, hb⟩ := h.h
  have hb' := k.heap hb he
  refine ⟨fun j y ey => ?_, cs, fz, hb'⟩
  have q : ∀ a : Addr, a.block = b → w'.cell? a = w.cell? a := fun a ha => World.cell?_of_block (by rw [ha, hb', hb])
  obtain ⟨h0, h1, h2, h3⟩ := h.l j y ey
  exact ⟨by rw [q _ rfl]; exact h0, by rw [q _ rfl]; exact h1, by rw [q _ rfl]; exact h2, by rw [q _ rfl]; exact h3⟩
/-- The kind of a run that is a word of the language. -/
def kwF (R : List Sg) : Int := if R.any (·.l) then -1 else if rsv (R.map (·.c)) = 1 then -1 else (rsv (R.map (·.c)) : Nat)
theorem kw_let (R : List Sg) (h : R.any (·.l) = true) : kwF R = -1 := by unfold kwF; rw [if_pos h]
theorem kw_no (R : List Sg) (h : R.any (·.l) = false) : kwF R = (if rsv (R.map (·.c)) = 1 then (-1 : Int) else ((rsv (R.map (·.c)) : Nat) : Int)) := by unfold kwF; rw [if_neg (by rw [h]; decide)]
theorem take_next {α β : Type} (f : α → β) {R : List α} {k : Nat} {x : α} (h : R[k]? = some x) : (R.take k).map f ++ [f x] = (R.take (k + 1)).map f := by
  obtain ⟨hk, rfl⟩ := List.getElem?_eq_some_iff.1 h
  rw [List.take_succ_eq_append_getElem hk, List.map_append]
  rfl
set_option maxRecDepth 20000 in
set_option maxHeartbeats 4000000 in
theorem keyword13_any (R : List Sg) (b off n cp : Nat) (w : World) (hn : n = R.length) (hnb : n ≤ 400000000000) (hG : SgO w b off R) :
    Calls Tryd.prog 39 #[.slice (some ⟨b, off, none⟩) n cp] w fun e w' => e = .returned (.int .i64 (kwF R)) ∧ Kept (fun _ => False) w w' := by
  obtain ⟨Z, hZ⟩ : ∃ Z, Z = kwF R := ⟨_, rfl⟩
  rw [← hZ]
  have HZ := hideL hZ
  have HN := hideL hn
  have HB0 : Hid (Gb w (w.alloc (.cells #[] 5)) (some ⟨w.heap.size, 0, none⟩) 0 0 ((R.take 0).map (·.c))) := hideL (gb_empty w)
  have HG0 := hideL (hG.later (Kept.alloc w (.cells #[] 5)))
  have HA0 : Hid (R.any (·.l) = (R.drop 0).any (·.l)) := hideL rfl
  clear hG hn hZ
  go_enter Tryd.func39, Tryd.ntmps39
  go_wp2
  go_loopw [3, 9] (fun v i wr => ∃ (k : Nat) (a : Option Addr) (c : Nat), k ≤ n ∧ i = .int .i64 k ∧ v = .slice a k c ∧ Hid (Gb w wr a c k ((R.take k).map (·.c))) ∧ Hid (SgO wr b off R) ∧ Hid (R.any (·.l) = (R.drop k).any (·.l))) (fun _ i _ => n - (intOf i).toNat)
  case atStart => exact ⟨0, _, _, by omega, rfl, rfl, HB0, HG0, HA0⟩
  case round =>
    obtain ⟨k, a, c0, hk, rfl, rfl, HB, HG, HA⟩ := hrel
    clear HB0 HG0 HA0
    by_cases hlt : k < n
    · have hkR : k < R.length := by rw [← HN.out]; exact hlt
      have hx : R[k]? = some R[k] := List.getElem?_eq_getElem hkR
      obtain ⟨x0, x1, x2, x3⟩ := HG.out.l k _ hx
      have hnx := take_next (fun y : Sg => y.c) hx
      have HA2 := HA.out
      rw [List.drop_eq_getElem_cons hkR, List.any_cons] at HA2
      generalize R[k] = X at x0 x1 x2 x3 hnx HA2
      obtain ⟨xc, xl, xp, xz⟩ := X
      dsimp only at x0 x1 x2 x3 hnx HA2
      have hkz : (k : Int) < (n : Int) := by omega
      have HNX := hideL hnx
      obtain ⟨q, hq⟩ : ∃ q, q = xc.toNat := ⟨_, rfl⟩
      have hqb : q < 256 := by rw [hq]; exact xc.toNat_lt
      have HQ0 : Hid ((q : Int) = (xc.toNat : Int)) := hideL (by rw [hq])
      rw [← hq] at x0
      have HV : Hid (Gb w (nsg wr q xp xz xl) a c0 k ((R.take k).map (·.c))) := hideL (HB.out.later (Kept.alloc _ _))
      have HW := hideL (HG.out.later (Kept.alloc wr (.cells #[.int .u8 q, .bool xl, .int .i64 xp, .int .i64 xz] 47)))
      clear hq hx hnx HA HB HG
      cases xl with
      | true =>
        obtain rfl : Z = -1 := by rw [HZ.out]; exact kw_let R HA2
        have HK := hideL HV.out.gro.kept
        clear HV HW HZ HA2
        go_wp2
        go_ret
        exact ⟨rfl, HK.out⟩
      | false =>
        have HA3 : Hid (R.any (·.l) = (R.drop (k + 1)).any (·.l)) := hideL HA2
        clear HA2
        go_wp2_with (at_builtin; refine wpList_pushC rfl _ _ rfl _ _ k _ xc _ rfl HV _ (by first | rfl | simp) rfl HQ0 (by omega) ?_; intro a4 c4 W4 G4 K4; have HG4 := hideL (HW.out.other K4.out (by decide)); rw [HNX.out] at G4; clear HV HW K4)
        go_roundw
        case rel => exact ⟨k + 1, a4, c4, by omega, by go_num, rfl, G4, HG4, HA3⟩
        case measure => simp [intOf] <;> omega
    · obtain rfl : k = n := by omega
      have hA : R.any (·.l) = false := by rw [HA.out, List.drop_of_length_le (by have := HN.out; omega)]; rfl
      have HK := hideL HB.out.gro.kept
      have HB2 := HB.out
      rw [List.take_of_length_le (by have := HN.out; omega)] at HB2
      have hZ2 := HZ.out
      rw [kw_no R hA] at hZ2
      have hb2 : (convert 37 9 (.slice a k c0)).run Tryd.prog wr = .ok (.string (bq (R.map (·.c)))) wr := gro_string HB2.gro HB2.len
      generalize R.map (·.c) = L at hb2 hZ2
      have e1 := bq_list L
      generalize bq L = s at *
      clear HA HB HB2 HG HZ hA HN
      unfold rsv at hZ2
      by_cases h1 : L = [65, 78, 68]
      · rw [if_pos h1] at hZ2
        obtain rfl : Z = 4 := hZ2
        have g1 : (s.toList == [65, 78, 68]) = true := by rw [e1, h1]; rfl
        clear e1 h1
        go_wp2
        go_ret
        exact ⟨rfl, HK.out⟩
      rw [if_neg h1] at hZ2
      have g1 : (s.toList == [65, 78, 68]) = false := by rw [e1]; simpa using h1
      by_cases h2 : L = [79, 82]
      · rw [if_pos h2] at hZ2
        obtain rfl : Z = 5 := hZ2
        have g2 : (s.toList == [79, 82]) = true := by rw [e1, h2]; rfl
        clear e1 h1 h2
        go_wp2
        go_ret
        exact ⟨rfl, HK.out⟩
      rw [if_neg h2] at hZ2
      have g2 : (s.toList == [79, 82]) = false := by rw [e1]; simpa using h2
      by_cases h3 : L = [78, 79, 84]
      · rw [if_pos h3] at hZ2
        obtain rfl : Z = 6 := hZ2
        have g3 : (s.toList == [78, 79, 84]) = true := by rw [e1, h3]; rfl
        clear e1 h1 h2 h3
        go_wp2
        go_ret
        exact ⟨rfl, HK.out⟩
      rw [if_neg h3] at hZ2
      have g3 : (s.toList == [78, 79, 84]) = false := by rw [e1]; simpa using h3
      by_cases h4 : L = [84, 79]
      · rw [if_pos h4] at hZ2
        obtain rfl : Z = 7 := hZ2
        have g4 : (s.toList == [84, 79]) = true := by rw [e1, h4]; rfl
        clear e1 h1 h2 h3 h4
        go_wp2
        go_ret
        exact ⟨rfl, HK.out⟩
      rw [if_neg h4] at hZ2
      have g4 : (s.toList == [84, 79]) = false := by rw [e1]; simpa using h4
      obtain rfl : Z = -1 := hZ2
      clear e1 h1 h2 h3 h4
      go_wp2
      go_ret
      exact ⟨rfl, HK.out⟩
end Go.Proofs.YtakjaablankipaaDoor
