import Derived.Test.YtacmmclamkhpcaaDoorAue
import Derived.Test.YtacmmclamkhpcaaDoorNma
namespace Go.Proofs.YtacmmclamkhpcaaDoor
open Go.ChangeShapes Go.WideShapes Go.ChangeAt Go.RowKit

theorem psh_le (L : List Int) (e : Int) : (psh L e).length ≤ L.length + 1 := psh_len L e
theorem elsR_len : ∀ (n : Nat) (l : List UInt8) (L E : List Int), l.length ≤ n → elsR L l = some E → E.length ≤ L.length + l.length := by
  intro n
  induction n with
  | zero =>
    intro l L E hl h
    cases l with
    | nil => rw [elsRn] at h; cases h; simp
    | cons a r => simp at hl
  | succ n ih =>
    intro l L E hl h
    cases l with
    | nil => rw [elsRn] at h; cases h; simp
    | cons c r =>
      rw [List.length_cons] at hl ⊢
      by_cases h1 : c = 63
      · subst h1
        rw [elsR63] at h
        have := ih r _ E (by omega) h
        have := psh_len L 256
        omega
      · by_cases h2 : c = 42
        · subst h2
          rw [elsR42] at h
          have := ih r _ E (by omega) h
          have := psh_len L 257
          omega
        · by_cases h3 : c = 92
          · subst h3
            cases r with
            | nil => rw [elsR92n] at h; cases h
            | cons d r =>
              rw [elsR92] at h
              rw [List.length_cons] at hl ⊢
              have := ih r _ E (by omega) h
              have := psh_len L (d.toNat : Int)
              omega
          · rw [elsRo L c r h1 h2 h3] at h
            have := ih r _ E (by omega) h
            have := psh_len L (c.toNat : Int)
            omega
def wiPost (w w' : World) (pa : Addr) (l : List UInt8) : Option (List Int) → Ending → Prop
  | none, e => e = .returned (.tuple #[.pointer none, .iface 97 (.pointer (some pa))]) ∧ Kept (fun _ => False) w w'
  | some E, e => ∃ ba ea ec sa sc, e = .returned (.tuple #[.pointer (some ⟨ba, 0, none⟩), .nilIface]) ∧ WAu w' ba E ea ec (bq l) sa sc ∧ Kept (fun _ => False) w w'
set_option maxRecDepth 20000 in
set_option maxHeartbeats 4000000 in
theorem Wild_any (l : List UInt8) (pa : Addr) (w : World) (hl : l.length ≤ 137438953000) (hP : w.cell? ⟨1, 0, none⟩ = some (.iface 97 (.pointer (some pa)))) :
    Calls Tryd.prog 17 #[.string (bq l)] w fun e w' => wiPost w w' pa l (elsR [] l) e := by
  have CE := hideG (elementsOf_any l w (by omega))
  have HP := hideG hP
  cases hZ : elsR [] l with
  | none =>
    rw [hZ] at CE
    clear hP hZ
    go_enter Tryd.func17, Tryd.ntmps17
    go_wp2_with (first
      | (go_at_call 31; refine CE.out.mono ?_; clear CE; rintro e W ⟨rfl, K1⟩; have g1 := K1.cell HP.out (fun f => f))
      | go_quiet (fail))
    go_ret2
    exact ⟨rfl, K1.trans (Kept.drewA _ _) (fun _ f => f.elim)⟩
  | some E =>
    rw [hZ] at CE
    have hEl := elsR_len l.length l [] E (Nat.le_refl _) hZ
    have hEl2 : E.length ≤ 137438953000 := by simp at hEl; omega
    have hsz : (bq l).size ≤ 281474976710656 := by rw [bq_size]; omega
    have HEl := hideG hEl2
    clear hP hZ hEl hEl2
    generalize hs : bq l = s at *
    go_enter Tryd.func17, Tryd.ntmps17
    go_wp2_with (first
      | (go_at_call 31; refine CE.out.mono ?_; clear CE; rintro e W ⟨a, c, rfl, G1⟩; have HG := hideG G1; clear G1)
      | (go_at_call 28; refine (clone_any s W hsz).mono ?_; rintro e W2 ⟨rfl, K2⟩; have HK2 := hideG (HG.out.kept.trans K2 (fun _ f => f.elim)); have HNs := hideG ((NsAt.of_gro HG.out).kept K2); clear K2)
      | (go_at_call 27; refine (newAutoW_any E a c s W2 HNs.out (by have := HEl.out; omega)).mono ?_; rintro e W3 ⟨⟨ba, sa, sc, rfl, hA⟩, K3⟩; have HA := hideG hA; clear hA))
    go_ret2
    subst hs
    exact ⟨ba, a, c, sa, sc, rfl, HA.out, HK2.out.trans K3 (fun _ f => f.elim)⟩
end Go.Proofs.YtacmmclamkhpcaaDoor
