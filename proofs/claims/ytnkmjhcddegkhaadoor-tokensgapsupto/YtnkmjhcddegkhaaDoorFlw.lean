import Derived.Test.YtnkmjhcddegkhaaDoorFld
namespace Go.Proofs.YtnkmjhcddegkhaaDoor
open Go.ChangeShapes Go.WideShapes Go.ChangeAt Go.RowKit

theorem hideF {p : Prop} (h : p) : Hid p := h
theorem u8_plus (c : UInt8) (h : c.toNat + 32 < 256) : IntKind.u8.wrap ((c.toNat : Int) + 32) = ((c.toNat : Int) + 32) := by
  rw [IntKind.wrap_u8]; omega
theorem fb_yes (p c : UInt8) (h : fq p c) : ((fb p c).toNat : Int) = (c.toNat : Int) + 32 := by
  rw [fb_nat, if_pos h]; rfl
/-- What a round leaves. -/
theorem fold_set {w wr : World} {g : Nat} {l : List UInt8} {k : Nat} (h : RowAt wr g (fmid l k)) (hk : k < l.length) (p : UInt8) (hp : p = if k = 0 then 0 else l.getD (k - 1) 0) (hq : fq p l[k]) (hg : w.heap.size ≤ g) (kk : Kept (fun _ => False) w wr) :
    RowAt (wr.setCell ⟨g, k, none⟩ (.int .u8 ((l[k].toNat : Int) + 32))) g (fmid l (k + 1)) ∧ Kept (fun _ => False) w (wr.setCell ⟨g, k, none⟩ (.int .u8 ((l[k].toNat : Int) + 32))) := by
  refine ⟨?_, kk.trans (Kept.setCell _ _ _) (fun i e => .inr (by simp only at e; omega))⟩
  rw [fmid_next l k hk p hp, ← fb_yes p l[k] hq]
  exact h.set k _ (by rw [fmid_len l k (by omega)]; exact hk)
theorem fold_leave {wr : World} {g : Nat} {l : List UInt8} {k : Nat} (h : RowAt wr g (fmid l k)) (hk : k < l.length) (p : UInt8) (hp : p = if k = 0 then 0 else l.getD (k - 1) 0) (hq : ¬ fq p l[k]) : RowAt wr g (fmid l (k + 1)) := by
  have e : fmid l (k + 1) = fmid l k := by
    rw [fmid_next l k hk p hp]
    have : fb p l[k] = (fmid l k)[k]'(by rw [fmid_len l k (by omega)]; exact hk) := by
      rw [fmid_at l k hk]; unfold fb; rw [if_neg hq]
    rw [this, List.set_getElem_self]
  rw [e]
  exact h
set_option maxRecDepth 20000 in
set_option maxHeartbeats 2000000 in
theorem fold_any (s : ByteArray) (w : World) (hs : s.size ≤ 9223372036854775807) :
    Calls Tryd.prog 8 #[.string s] w fun e w' => e = .returned (.string ⟨(fl 0 s.data.toList).toArray⟩) ∧ Kept (fun _ => False) w w' := by
  obtain ⟨l, hl⟩ : ∃ l, l = s.data.toList := ⟨_, rfl⟩
  have hn : s.size = l.length := by rw [hl, Array.length_toList]; rfl
  have hconv := run_bytes_of_string (P := Tryd.prog) w 9 45 5 s Tryd.underlying9 Tryd.underlying45 Tryd.underlying5
  have hR := hideF (row_new w s 5 (grownCap w s.size 0 5))
  have hK := hideF (kept_row w (.cells (bytesRow s (grownCap w s.size 0 5)) 5 ((bytesRow s (grownCap w s.size 0 5)).size, (bytesRow s (grownCap w s.size 0 5)).size + 1)))
  rw [← hl] at hR ⊢
  obtain ⟨W0, hW0⟩ : ∃ W0, W0 = w.drew.alloc (.cells (bytesRow s (grownCap w s.size 0 5)) 5 ((bytesRow s (grownCap w s.size 0 5)).size, (bytesRow s (grownCap w s.size 0 5)).size + 1)) := ⟨_, rfl⟩
  rw [← hW0] at hR hK hconv
  obtain ⟨cp, hcp⟩ : ∃ cp, cp = grownCap w s.size 0 5 := ⟨_, rfl⟩
  rw [← hcp] at hconv
  obtain ⟨g, hg⟩ : ∃ g, g = w.heap.size := ⟨_, rfl⟩
  rw [← hg] at hconv hR
  have hge : Hid (w.heap.size ≤ g) := hideF (Nat.le_of_eq hg.symm)
  obtain ⟨n, hnn⟩ : ∃ n, n = s.size := ⟨_, rfl⟩
  rw [← hnn] at hconv hs
  rw [← hnn] at hn
  have HE := hideF hn
  clear hl hW0 hcp hg hnn hn
  go_enter Tryd.func8, Tryd.ntmps8
  go_wp2
  go_loopw [10] (fun i wr => ∃ (k : Nat), k ≤ n ∧ i = .int .i64 k ∧ Hid (RowAt wr g (fmid l k)) ∧ Hid (Kept (fun _ => False) w wr)) (fun i _ => n - (intOf i).toNat)
  case atStart => exact ⟨0, by omega, rfl, hR, hK⟩
  case round =>
    obtain ⟨k, hk, rfl, HR, HK⟩ := hrel
    clear hR hK hconv
    by_cases hlt : k < n
    · have hkl : k < l.length := by rw [← HE.out]; exact hlt
      have x0 : wr.cell? ⟨g, k, none⟩ = some (.int .u8 (l[k].toNat : Int)) := by
        have := HR.out.cell k (by rw [fmid_len l k (by omega)]; exact hkl)
        rwa [fmid_at l k hkl] at this
      have f0 : wr.frozen? ⟨g, k, none⟩ = false := HR.out.free k (by rw [fmid_len l k (by omega)]; exact hkl)
      obtain ⟨p, hp⟩ : ∃ p : UInt8, p = if k = 0 then 0 else l.getD (k - 1) 0 := ⟨_, rfl⟩
      have HP : Hid (0 < k → ∃ q : Int, wr.cell? ⟨g, k - 1, none⟩ = some (.int .u8 q) ∧ (q = 195 ↔ p.toNat = 195)) := hideF (fun h0 => by
        have a := HR.out.cell (k - 1) (by rw [fmid_len l k (by omega)]; omega)
        refine ⟨_, a, ?_⟩
        have b := fmid_pre l k hkl h0
        rw [hp, if_neg (by omega), List.getD_eq_getElem?_getD, List.getElem?_eq_getElem (by omega), Option.getD_some, ← b]
        omega)
      have HP0 : Hid (k = 0 → p.toNat ≠ 195) := hideF (fun h0 => by rw [hp, if_pos h0]; decide)
      have HS := hideF (fun hq : fq p l[k] => fold_set HR.out hkl p hp hq hge.out HK.out)
      have HL := hideF (fun hq : ¬ fq p l[k] => fold_leave HR.out hkl p hp hq)
      clear hp HR
      obtain ⟨c, hc⟩ : ∃ c, c = l[k] := ⟨_, rfl⟩
      rw [← hc] at x0 HS HL
      have hcb : c.toNat < 256 := c.toNat_lt
      clear hc hkl
      by_cases hC : 65 ≤ c.toNat ∧ c.toNat ≤ 90
      · have HQ := HS.out (Or.inl hC)
        have HQ := hideF HQ
        have c1 : capB (c.toNat : Int) = true := by unfold capB; rw [decide_eq_true (by omega), decide_eq_true (by omega)]; rfl
        have c2 : IntKind.u8.wrap ((c.toNat : Int) + 32) = (c.toNat : Int) + 32 := u8_plus c (by omega)
        have CC := fun w => hideF (capital_any (c.toNat : Int) w)
        rw [c1] at CC
        clear hC HS HL HP HP0 c1
        go_wp2_with (go_at_call 16; refine (CC _).out.mono ?_; rintro e w5 ⟨rfl, e5⟩; subst e5)
        go_roundw
        case rel => exact ⟨k + 1, by omega, by go_num, HQ.out.1, HQ.out.2⟩
        case measure => simp [intOf]; omega
      · have c1 : capB (c.toNat : Int) = false := by
          unfold capB
          rw [Bool.and_eq_false_iff, decide_eq_false_iff_not, decide_eq_false_iff_not]; omega
        have CC := fun w => hideF (capital_any (c.toNat : Int) w)
        rw [c1] at CC
        clear c1
        by_cases h0 : k = 0
        · have HQ := hideF (HL.out (by unfold fq; have := HP0.out h0; omega))
          have z0 : ¬ (0 : Int) < (k : Int) := by omega
          clear hC HS HL HP HP0 h0
          go_wp2_with (go_at_call 16; refine (CC _).out.mono ?_; rintro e w5 ⟨rfl, e5⟩; subst e5)
          go_roundw
          case rel => exact ⟨k + 1, by omega, by go_num, HQ, HK⟩
          case measure => simp [intOf]; omega
        · obtain ⟨q, y0, hq⟩ := HP.out (by omega)
          have z0 : (0 : Int) < (k : Int) := by omega
          have z1 : (0 : Int) ≤ (k : Int) - 1 := by omega
          have z2 : (k : Int) - 1 < (n : Int) := by omega
          have z3 : ((k : Int) - 1).toNat = k - 1 := by omega
          have z4 : wrap64 ((k : Int) - 1) = (k : Int) - 1 := by unfold wrap64; omega
          clear HP HP0 h0
          by_cases hq1 : q = 195
          · subst hq1
            have hp1 := hq.1 rfl
            have AC := fun w => hideF (accented_any (c.toNat : Int) w)
            by_cases hA : 128 ≤ c.toNat ∧ c.toNat ≤ 158 ∧ c.toNat ≠ 151
            · have HQ := hideF (HS.out (Or.inr ⟨hp1, hA⟩))
              have c1 : accB (c.toNat : Int) = true := by
                unfold accB
                rw [decide_eq_true (by omega), decide_eq_true (by omega), decide_eq_true (by omega)]; rfl
              have c2 : IntKind.u8.wrap ((c.toNat : Int) + 32) = (c.toNat : Int) + 32 := u8_plus c (by omega)
              rw [c1] at AC
              clear hC HS HL hq hp1 hA c1
              go_wp2_with (first | (go_at_call 16; refine (CC _).out.mono ?_; rintro e w5 ⟨rfl, e5⟩; subst e5) | (go_at_call 17; refine (AC _).out.mono ?_; rintro e w6 ⟨rfl, e6⟩; subst e6))
              go_roundw
              case rel => exact ⟨k + 1, by omega, by go_num, HQ.out.1, HQ.out.2⟩
              case measure => simp [intOf]; omega
            · have HQ := hideF (HL.out (by unfold fq; omega))
              have c1 : accB (c.toNat : Int) = false := by
                unfold accB
                rw [Bool.and_eq_false_iff, Bool.and_eq_false_iff, decide_eq_false_iff_not, decide_eq_false_iff_not, decide_eq_false_iff_not]; omega
              rw [c1] at AC
              clear hC HS HL hq hp1 hA c1
              go_wp2_with (first | (go_at_call 16; refine (CC _).out.mono ?_; rintro e w5 ⟨rfl, e5⟩; subst e5) | (go_at_call 17; refine (AC _).out.mono ?_; rintro e w6 ⟨rfl, e6⟩; subst e6))
              go_roundw
              case rel => exact ⟨k + 1, by omega, by go_num, HQ, HK⟩
              case measure => simp [intOf]; omega
          · have hp1 : p.toNat ≠ 195 := fun x => hq1 (hq.2 x)
            have HQ := hideF (HL.out (by unfold fq; omega))
            have hq2 : (q == 195) = false := by simp [hq1]
            clear hC HS HL hq hp1 hq1
            go_wp2_with (go_at_call 16; refine (CC _).out.mono ?_; rintro e w5 ⟨rfl, e5⟩; subst e5)
            go_roundw
            case rel => exact ⟨k + 1, by omega, by go_num, HQ, HK⟩
            case measure => simp [intOf]; omega
    · obtain rfl : k = n := by omega
      have hb : (convert 45 9 (.slice (some ⟨g, 0, none⟩) k cp)).run Tryd.prog wr = .ok (.string ⟨(fl 0 l).toArray⟩) wr := by
        have := row_back HR.out cp
        rw [HE.out, fmid_end] at this
        rw [HE.out]
        rwa [fl_len] at this
      go_wp2
      go_ret
      exact ⟨rfl, HK.out⟩
end Go.Proofs.YtnkmjhcddegkhaaDoor
