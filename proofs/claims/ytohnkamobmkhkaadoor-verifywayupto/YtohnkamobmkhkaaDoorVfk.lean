import Derived.Test.YtohnkamobmkhkaaDoorVfj
namespace Go.Proofs.YtohnkamobmkhkaaDoor
open Go.ChangeShapes Go.WideShapes Go.ChangeAt Go.RowKit

set_option maxRecDepth 20000 in
set_option maxHeartbeats 8000000 in
theorem skips_any (p : Pg) (L : List In) (aL aH : Option Addr) (cL cH : Nat) (w : World) (hL' : InsAt w aL L) (hH : IntsAt w aH (hL L)) (hl : L.length ≤ 1099511627776) (hpa : PaOk p L) (v : Bool) (hv : v = true ↔ SkOk L) :
    Calls Tryd.prog 28 #[.slice aL L.length cL, .slice aH L.length cH] w fun e w' => e = .returned (.bool v) ∧ Kept (fun _ => False) w w' := by
  have HL := hideI hL'
  have HH := hideI hH
  have HPA := hideI hpa
  have HV := hideI hv
  clear hL' hH hpa hv
  obtain ⟨n, hn⟩ : ∃ n, n = L.length := ⟨_, rfl⟩
  have HN := hideI hn
  rw [← hn] at hl ⊢
  clear hn
  go_enter Tryd.func28, Tryd.ntmps28
  go_wp2
  go_loopw [9] (fun v9 wr => ∃ k : Nat, k ≤ n ∧ v9 = .int .i64 k ∧ Hid (∀ i (hi : i < L.length), i < k → (L[i].op = 15 ∨ L[i].op = 16) → hA L (i + 1 + L[i].a) = hA L i) ∧ Hid (Kept (fun _ => False) w wr)) (fun v9 _ => n - (intOf v9).toNat)
  case atStart => exact ⟨0, by omega, rfl, hideI (fun i _ h => by omega), hideI (Kept.refl _ _)⟩
  case round =>
    obtain ⟨k, hk, rfl, HA, HK⟩ := hrel
    by_cases hlt : k < n
    · have hkl : k < L.length := by rw [← HN.out]; exact hlt
      have hkk : (k : Int) < (n : Int) := by omega
      obtain ⟨b, off, rfl, hc⟩ := HL.out (by intro e; rw [e] at hkl; simp at hkl)
      obtain ⟨x0, x1, x2⟩ := hc k hkl
      have y0 := HK.out.cell x0 (fun f => f)
      have y1 := HK.out.cell x1 (fun f => f)
      have y2 := HK.out.cell x2 (fun f => f)
      have HS : Hid (((L[k].op = 15 ∨ L[k].op = 16) → hA L (k + 1 + L[k].a) = hA L k) → ∀ i (hi : i < L.length), i < k + 1 → (L[i].op = 15 ∨ L[i].op = 16) → hA L (i + 1 + L[i].a) = hA L i) := hideI (fun e i hi hik => by
        by_cases hkj : i = k
        · subst hkj; exact e
        · exact HA.out i hi (by omega))
      have HB : Hid ((L[k].op = 15 ∨ L[k].op = 16) → ¬ hA L (k + 1 + L[k].a) = hA L k → v = false) := hideI (fun e1 e2 => isB_f HV.out (fun f => e2 (f k hkl e1)))
      have HC : Hid ((L[k].op = 15 ∨ L[k].op = 16) → k + 1 + L[k].a < n) := hideI (fun e => by
        have q := HPA.out k hkl
        rcases e with e | e
        · have := q.2.2.2.2.1 e; have := HN.out; omega
        · have := q.2.2.2.2.2 e; have := HN.out; omega)
      have HHA : Hid (∀ j, j < n → ∃ hb ho, aH = some ⟨hb, ho, none⟩ ∧ w.cell? ⟨hb, ho + j, none⟩ = some (.int .i64 (hA L j : Nat))) := hideI (fun j hj => by
        obtain ⟨hb, ho, e, q⟩ := HH.out.get (k := j) (by rw [hL_len, ← HN.out]; exact hj)
        refine ⟨hb, ho, e, ?_⟩
        rw [q, hL_at L (by rw [← HN.out]; exact hj)]; rfl)
      generalize L[k] = x at *
      have HKx := hideI (HK.out.trans (Kept.alloc wr (.cells #[.int .i64 x.op, .int .u64 (x.a : Int), .int .u64 (x.b : Int)] 56)) (fun _ f => f.elim))
      obtain ⟨op, xa, xb⟩ := x
      simp only at y0 y1 y2 HS HB HC HKx
      clear HA x0 x1 x2 hc HV
      by_cases hsk : op = 15 ∨ op = 16
      · have hin := HC.out hsk
        obtain ⟨hb, ho, rfl, q1⟩ := HHA.out (k + 1 + xa) hin
        obtain ⟨hb', ho', e', q2⟩ := HHA.out k hlt
        cases e'
        have q1 := HKx.out.cell q1 (fun f => f)
        have q2 := HKx.out.cell q2 (fun f => f)
        have hw2 : IntKind.i64.wrap (xa : Int) = (xa : Int) := by rw [IntKind.wrap_i64]; omega
        have hin2 : (k : Int) + 1 + (xa : Int) < (n : Int) := by omega
        have hin3 : ((k : Int) + 1 + (xa : Int)).toNat = k + 1 + xa := by omega
        have HS2 : Hid (hA L (k + 1 + xa) = hA L k → _) := hideI (fun e => HS.out (fun _ => e))
        have HB2 := hideI (HB.out hsk)
        clear HS HB HC HHA
        generalize hA L (k + 1 + xa) = u1 at *
        generalize hA L k = u2 at *
        have hop : (op != 15) = true ∧ (op != 16) = false ∧ (op == 16) = true ∧ (op == 15) = false ∨ (op != 15) = false ∧ (op == 15) = true ∧ op = 15 := by
          rcases hsk with rfl | rfl
          · exact .inr ⟨rfl, rfl, rfl⟩
          · exact .inl ⟨rfl, rfl, rfl, rfl⟩
        clear hsk
        by_cases hu : u1 = u2
        · have HS3 := hideI (HS2.out hu)
          subst hu
          have hne : ((u1 : Int) != (u1 : Int)) = false := by simp
          clear HS2 HB2
          rcases hop with ⟨o1, o2, o3, o4⟩ | ⟨o1, o2, rfl⟩
          all_goals
            go_wp2
            go_quiet (fail)
            go_wp2
            go_roundw
            case rel => exact ⟨k + 1, hlt, by go_num, HS3, hideI (HKx.out.trans (Kept.drewN _ _) (fun _ f => f.elim))⟩
            case measure => simp [intOf]; omega
        · have hf := HB2.out hu
          subst hf
          have hne : ((u1 : Int) != (u2 : Int)) = true := by rw [bne_iff_ne]; omega
          clear HS2 HB2
          rcases hop with ⟨o1, o2, o3, o4⟩ | ⟨o1, o2, rfl⟩
          all_goals
            go_wp2
            go_quiet (fail)
            go_wp2
            go_ret
            exact ⟨rfl, HKx.out.trans (Kept.drewN _ _) (fun _ f => f.elim)⟩
      · have HS3 := hideI (HS.out (fun e => absurd e hsk))
        have o1 : (op != 15) = true := by rw [bne_iff_ne]; exact fun e => hsk (.inl e)
        have o2 : (op != 16) = true := by rw [bne_iff_ne]; exact fun e => hsk (.inr e)
        have o3 : ¬ op = 15 := fun e => hsk (.inl e)
        have o4 : ¬ op = 16 := fun e => hsk (.inr e)
        clear HS HB HC HHA hsk
        go_wp2
        go_roundw
        case rel => exact ⟨k + 1, hlt, by go_num, HS3, HKx⟩
        case measure => simp [intOf]; omega
    · have hkk : ¬ (k : Int) < (n : Int) := by omega
      have ht := isB_t HV.out (fun i hi => HA.out i hi (by have := HN.out; omega))
      subst ht
      clear HV
      go_wp2
      go_ret
      exact ⟨rfl, HK.out⟩
end Go.Proofs.YtohnkamobmkhkaaDoor
