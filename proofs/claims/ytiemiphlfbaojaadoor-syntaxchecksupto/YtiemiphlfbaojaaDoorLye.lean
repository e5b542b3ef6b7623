import Derived.Test.YtiemiphlfbaojaaDoorLyd
namespace Go.Proofs.YtiemiphlfbaojaaDoor
open Go.ChangeShapes Go.WideShapes Go.ChangeAt Go.RowKit

theorem wp_minL {P : Program} {W : World} {o : Oper} {act : Act} {K : Act → World → Prop} {Q : Exit → Act → World → Prop} {ts : Array TypeId} (s t : Operand)
    (ho : o.op = .call { callee := .builtin .min, args := #[s, t], argTypes := ts }) (x y m : Int) (hs : act.eval s = .int .i64 x) (ht : act.eval t = .int .i64 y) (hm : m = if y < x then y else x)
    (h : K (act.put o.dst (.int .i64 m)) W) : o.wp P act W K Q := by
  have hr : ∀ ty, (Builtin.min_ ts ty #[.int .i64 x, .int .i64 y]).run P W = .ok (.int .i64 m) W := fun ty => by rw [hm]; simp [Builtin.min_, Builtin.min2]
  unfold Oper.wp execOp
  simp only [ho, resolve, invoke, builtin, Sem.run_bind, Sem.run_pure, Result.andThen_ok, List.map_toArray, List.map_cons, List.map_nil, hs, ht, hr]
  exact h
theorem dig_range (c : UInt8) (h : cl c = 102) : 48 ≤ c.toNat ∧ c.toNat ≤ 57 := by
  have := u8_all (fun c => !(cl c == 102) || (decide (48 ≤ c.toNat) && decide (c.toNat ≤ 57))) (by decide +kernel) c
  simp [h] at this
  exact this
theorem dg_yes (c : UInt8) (r : List UInt8) (h : cl c = 102) : dgL (c :: r) = dgL r + 1 := by rw [dgL, if_pos h]
theorem dg_no (c : UInt8) (r : List UInt8) (h : cl c ≠ 102) : dgL (c :: r) = 0 := by rw [dgL, if_neg h]
theorem nm_yes (v : Nat) (c : UInt8) (r : List UInt8) (h : cl c = 102) : nmV v (c :: r) = nmV (min (10 * v + (c.toNat - 48)) 1000000000) r := by rw [nmV, if_pos h]
theorem nm_no (v : Nat) (c : UInt8) (r : List UInt8) (h : cl c ≠ 102) : nmV v (c :: r) = v := by rw [nmV, if_neg h]
theorem nm_le : ∀ (r : List UInt8) (v : Nat), v ≤ 1000000000 → nmV v r ≤ 1000000000 := by
  intro r
  induction r with
  | nil => intro v h; rw [nmV]; exact h
  | cons c r ih =>
    intro v h
    rw [nmV]
    split
    · exact ih _ (Nat.min_le_right _ _)
    · exact h
/-- The place that a scanner holds. -/
def atW (w : World) (b : Nat) : Nat := match w.cell? ⟨b, 1, none⟩ with
  | some (.int _ z) => z.toNat
  | _ => 0
variable {w0 w w' : World} {b : Nat} {l : List UInt8} {p k : Nat} {t : List UInt8} {n : Int} {a e : Nat} {v : Value} {m : Nat} {L : List Lx}
theorem Sc.atW (h : Sc w0 w b l p k t n a e v m L) : atW w b = p := by
  unfold Go.Proofs.YtiemiphlfbaojaaDoor.atW
  rw [h.cells.2.1]
  simp
/-- The text and the place. -/
def S2 (b : Nat) (s : ByteArray) (p : Nat) (V : World) : Prop := V.cell? ⟨b, 0, none⟩ = some (.string s) ∧ V.cell? ⟨b, 1, none⟩ = some (.int .i64 (p : Int))
theorem s2 (h : Sc w0 w b l p k t n a e v m L) : S2 b (bq l) p w := ⟨h.cells.1, h.cells.2.1⟩
set_option maxRecDepth 20000 in
set_option maxHeartbeats 4000000 in
theorem number_any (n0 : Nat) (h : Sc w0 w b l p k t (n0 : Int) a e v m L) (hC : ClsAt w0) (hp : p ≤ l.length) (hl : l.length ≤ 400000000000) (hn0 : n0 ≤ 1000000000) :
    Calls Tryd.prog 50 #[.pointer (some ⟨b, 0, none⟩)] w fun x w' => x = .returned (.bool (decide (0 < dgL (l.drop p)) && decide (nmV n0 (l.drop p) ≤ 999999999))) ∧ Sc w0 w' b l (p + dgL (l.drop p)) k t (nmV n0 (l.drop p) : Nat) a e v m L := by
  have CC := hideL (fun (W : World) (q : Nat) (n : Int) (hs : Sc w0 W b l q k t n a e v m L) (hq : q ≤ l.length) => class_any hs (hC.later hs.kept) hq hl)
  have x1 := h.cells.2.1
  have HS : Hid (Sc w0 w b l (p + 0) k t (n0 : Int) a e v m L) := hideL h
  obtain ⟨ZN, hZN⟩ : ∃ Z, Z = nmV n0 (l.drop p) := ⟨_, rfl⟩
  obtain ⟨ZD, hZD⟩ : ∃ Z, Z = dgL (l.drop p) := ⟨_, rfl⟩
  rw [← hZN, ← hZD]
  have HN : Hid (ZN = nmV n0 (l.drop (p + 0))) := hideL hZN
  have HD : Hid (ZD = 0 + dgL (l.drop (p + 0))) := hideL (by rw [hZD]; simp)
  clear h hZN hZD hC
  go_enter Tryd.func50, Tryd.ntmps50
  go_wp2_with fail
  clear x1
  go_loopw [8] (fun _ wr => ∃ (j n : Nat), p + j ≤ l.length ∧ n ≤ 1000000000 ∧ Hid (Sc w0 wr b l (p + j) k t (n : Int) a e v m L) ∧ Hid (ZN = nmV n (l.drop (p + j))) ∧ Hid (ZD = j + dgL (l.drop (p + j)))) (fun _ wr => l.length - atW wr b)
  case atStart => exact ⟨0, n0, by omega, hn0, HS, HN, HD⟩
  case round =>
    obtain ⟨j, n, hj, hn, HR, HN2, HD2⟩ := hrel
    clear HS HN HD
    have C1 := hideL (CC.out _ _ _ HR.out hj)
    have hat := HR.out.atW
    by_cases hdig : ∃ (c : UInt8) (r : List UInt8), l.drop (p + j) = c :: r ∧ cl c = 102
    · obtain ⟨c, r, hd, hc⟩ := hdig
      have hlt : p + j < l.length := by
        rcases Nat.lt_or_ge (p + j) l.length with q | q
        · exact q
        · rw [List.drop_of_length_le q] at hd; cases hd
      rw [List.drop_eq_getElem_cons hlt] at hd
      obtain ⟨hc0, hr0⟩ := List.cons.inj hd
      have hcl : clA (l.drop (p + j)) = 102 := by rw [List.drop_eq_getElem_cons hlt, hc0]; exact hc
      rw [hcl] at C1
      obtain ⟨hd1, hd2⟩ := dig_range c hc
      have HN3 := HN2.out
      have HD3 := HD2.out
      rw [List.drop_eq_getElem_cons hlt, hc0, hr0, nm_yes _ _ _ hc] at HN3
      rw [List.drop_eq_getElem_cons hlt, hc0, hr0, dg_yes _ _ hc] at HD3
      obtain ⟨s, hs⟩ : ∃ s, s = bq l := ⟨_, rfl⟩
      have hz : s.size = l.length := by rw [hs]; exact bq_size l
      have hps : p + j < s.size := by rw [hz]; exact hlt
      have y9 : ∀ (i : Nat) (hi : i < s.size), i = p + j → s[i].toNat = c.toNat := by
        rintro i hi rfl
        subst hs
        exact congrArg UInt8.toNat hc0
      have hsb : s.size ≤ 400000000000 := by omega
      obtain ⟨q, hq⟩ : ∃ q, q = c.toNat := ⟨_, rfl⟩
      rw [← hq] at y9 hd1 hd2 HN3
      obtain ⟨N2, hN2⟩ : ∃ N2, N2 = min (10 * n + (q - 48)) 1000000000 := ⟨_, rfl⟩
      have hN2b : N2 ≤ 1000000000 := by rw [hN2]; exact Nat.min_le_right _ _
      rw [← hN2] at HN3
      have hmin : (N2 : Int) = if (1000000000 : Int) < 10 * (n : Int) + ((q : Int) - 48) then 1000000000 else 10 * (n : Int) + ((q : Int) - 48) := by
        rw [hN2, Nat.min_def]
        split <;> split <;> omega
      have HM := hideL hmin
      have HN4 : Hid (ZN = nmV N2 (l.drop (p + (j + 1)))) := hideL (by rw [HN3, ← hr0]; rfl)
      have HD4 : Hid (ZD = (j + 1) + dgL (l.drop (p + (j + 1)))) := hideL (by rw [HD3, ← hr0]; show j + (dgL (l.drop (p + j + 1)) + 1) = _; rw [Nat.add_assoc p j 1]; omega)
      have hpj : ((p + j : Nat) : Int) < (s.size : Int) := by omega
      obtain ⟨pj, hpe⟩ : ∃ pj, pj = p + j := ⟨_, rfl⟩
      have HR2 : Hid (Sc w0 wr b l pj k t (n : Int) a e v m L) := hideL (by rw [hpe]; exact HR.out)
      have HPJ := hideL hpe
      rw [← hpe] at hps hpj
      have y0 := y9 pj hps hpe
      have hat2 := hat
      rw [← hpe] at hat2
      have hlt2 : pj < l.length := by omega
      clear y9 HN2 HD2 HN3 HD3 hd hc0 hr0 hc hcl hq hN2 hmin CC hat HR hlt hj hpe
      go_wp2_with (go_at_call 47; refine C1.out.mono ?_; clear C1; rintro x W1 ⟨rfl, k1⟩; have H1 := hideL (HR2.out.later k1); clear HR2 k1)
      refine wp_region_held (S := S2 b s pj) (by kernel_rfl) ?_
      change wpAnyH _ _ _ _ _ _ _ _ (World.drew _)
      have HV := hideL (H1.out.later (Kept.drew W1))
      clear H1
      generalize W1.drew = V0 at *
      have hS : S2 b s pj V0 := by rw [hs]; exact s2 HV.out
      have HHS := hideL hs
      clear hs
      refine takeZ (i := 0) (d := 11) (v := .pointer (some ⟨b, 0, none⟩)) rfl rfl (by kernel_rfl) (by kernel_rfl) (by kernel_rfl) (fun _ _ _ h => h) (Or.inl ⟨by rfl, fun W hW => ?_⟩) hS ?_
      · (go_simp)
      simp only [Act.put, List.setIfInBounds_toArray, List.set_cons_zero, List.set_cons_succ]
      refine takeZ (i := 1) (d := 12) (v := .pointer (some ⟨b, 0, none⟩)) rfl rfl (by kernel_rfl) (by kernel_rfl) (by kernel_rfl) (fun _ _ _ h => h) (Or.inl ⟨by rfl, fun W hW => ?_⟩) hS ?_
      · (go_simp)
      simp only [Act.put, List.setIfInBounds_toArray, List.set_cons_zero, List.set_cons_succ]
      refine takeZ (i := 2) (d := 13) (v := .pointer (some ⟨b, 0, none⟩)) rfl rfl (by kernel_rfl) (by kernel_rfl) (by kernel_rfl) (fun _ _ _ h => h) (Or.inl ⟨by rfl, fun W hW => ?_⟩) hS ?_
      · (go_simp)
      simp only [Act.put, List.setIfInBounds_toArray, List.set_cons_zero, List.set_cons_succ]
      refine takeZ (i := 3) (d := 14) (v := .pointer (some ⟨b, 2, none⟩)) rfl rfl (by kernel_rfl) (by kernel_rfl) (by kernel_rfl) (fun _ _ _ h => h) (Or.inl ⟨by rfl, fun W hW => ?_⟩) hS ?_
      · (go_simp)
      simp only [Act.put, List.setIfInBounds_toArray, List.set_cons_zero, List.set_cons_succ]
      refine takeZ (i := 4) (d := 15) (v := .pointer (some ⟨b, 4, none⟩)) rfl rfl (by kernel_rfl) (by kernel_rfl) (by kernel_rfl) (fun _ _ _ h => h) (Or.inl ⟨by rfl, fun W hW => ?_⟩) hS ?_
      · (go_simp)
      simp only [Act.put, List.setIfInBounds_toArray, List.set_cons_zero, List.set_cons_succ]
      refine takeZ (i := 7) (d := 18) (v := .pointer (some ⟨b, 0, none⟩)) rfl rfl (by kernel_rfl) (by kernel_rfl) (by kernel_rfl) (fun _ _ _ h => h) (Or.inl ⟨by rfl, fun W hW => ?_⟩) hS ?_
      · (go_simp)
      simp only [Act.put, List.setIfInBounds_toArray, List.set_cons_zero, List.set_cons_succ]
      refine takeZ (i := 8) (d := 19) (v := .pointer (some ⟨b, 0, none⟩)) rfl rfl (by kernel_rfl) (by kernel_rfl) (by kernel_rfl) (fun _ _ _ h => h) (Or.inl ⟨by rfl, fun W hW => ?_⟩) hS ?_
      · (go_simp)
      simp only [Act.put, List.setIfInBounds_toArray, List.set_cons_zero, List.set_cons_succ]
      refine takeZ (i := 9) (d := 20) (v := .pointer (some ⟨b, 0, none⟩)) rfl rfl (by kernel_rfl) (by kernel_rfl) (by kernel_rfl) (fun _ _ _ h => h) (Or.inl ⟨by rfl, fun W hW => ?_⟩) hS ?_
      · (go_simp)
      simp only [Act.put, List.setIfInBounds_toArray, List.set_cons_zero, List.set_cons_succ]
      refine takeZ (i := 10) (d := 21) (v := .string s) rfl rfl (by kernel_rfl) (by kernel_rfl) (by kernel_rfl) (fun _ _ _ h => h) (Or.inl ⟨by rfl, fun W hW => ?_⟩) hS ?_
      · (obtain ⟨x0, x1⟩ := hW; go_simp)
      simp only [Act.put, List.setIfInBounds_toArray, List.set_cons_zero, List.set_cons_succ]
      refine takeZ (i := 11) (d := 22) (v := .pointer (some ⟨b, 0, none⟩)) rfl rfl (by kernel_rfl) (by kernel_rfl) (by kernel_rfl) (fun _ _ _ h => h) (Or.inl ⟨by rfl, fun W hW => ?_⟩) hS ?_
      · (go_simp)
      simp only [Act.put, List.setIfInBounds_toArray, List.set_cons_zero, List.set_cons_succ]
      refine takeZ (i := 12) (d := 23) (v := .pointer (some ⟨b, 0, none⟩)) rfl rfl (by kernel_rfl) (by kernel_rfl) (by kernel_rfl) (fun _ _ _ h => h) (Or.inl ⟨by rfl, fun W hW => ?_⟩) hS ?_
      · (go_simp)
      simp only [Act.put, List.setIfInBounds_toArray, List.set_cons_zero, List.set_cons_succ]
      refine takeZ (i := 13) (d := 24) (v := .pointer (some ⟨b, 1, none⟩)) rfl rfl (by kernel_rfl) (by kernel_rfl) (by kernel_rfl) (fun _ _ _ h => h) (Or.inl ⟨by rfl, fun W hW => ?_⟩) hS ?_
      · (go_simp)
      simp only [Act.put, List.setIfInBounds_toArray, List.set_cons_zero, List.set_cons_succ]
      refine takeZ (i := 14) (d := 25) (v := .int .i64 (pj : Int)) rfl rfl (by kernel_rfl) (by kernel_rfl) (by kernel_rfl) (fun _ _ _ h => h) (Or.inl ⟨by rfl, fun W hW => ?_⟩) hS ?_
      · (obtain ⟨x0, x1⟩ := hW; go_simp)
      simp only [Act.put, List.setIfInBounds_toArray, List.set_cons_zero, List.set_cons_succ]
      refine takeZ (i := 15) (d := 26) (v := .int .u8 (q : Int)) rfl rfl (by kernel_rfl) (by kernel_rfl) (by kernel_rfl) (fun _ _ _ h => h) (Or.inl ⟨by rfl, fun W hW => ?_⟩) hS ?_
      · (go_simp)
      simp only [Act.put, List.setIfInBounds_toArray, List.set_cons_zero, List.set_cons_succ]
      refine takeZ (i := 16) (d := 27) (v := .int .u8 ((q : Int) - 48)) rfl rfl (by kernel_rfl) (by kernel_rfl) (by kernel_rfl) (fun _ _ _ h => h) (Or.inl ⟨by rfl, fun W hW => ?_⟩) hS ?_
      · (go_simp; first | done | (rw [IntKind.wrap_u8]; omega))
      simp only [Act.put, List.setIfInBounds_toArray, List.set_cons_zero, List.set_cons_succ]
      refine takeZ (i := 17) (d := 28) (v := .int .i64 ((q : Int) - 48)) rfl rfl (by kernel_rfl) (by kernel_rfl) (by kernel_rfl) (fun _ _ _ h => h) (Or.inl ⟨by rfl, fun W hW => ?_⟩) hS ?_
      · (go_simp; first | done | (rw [IntKind.wrap_i64]; omega))
      simp only [Act.put, List.setIfInBounds_toArray, List.set_cons_zero, List.set_cons_succ]
      refine wpAnyH_all (rs := [5]) (by kernel_rfl) (by simp) ?_
      intro i' hi'
      obtain rfl : i' = 5 := by simpa using hi'
      have c4 := HV.out.cells.2.2.2.2.1
      unfold wpOp
      go_simp
      first | refine Or.inl ⟨hS, ?_⟩ | refine ⟨hS, ?_⟩ | (change wpAnyH _ _ _ _ _ _ _ _ _) | refine Or.inl ?_
      clear c4
      refine takeZ (i := 6) (d := 17) (v := .int .i64 (10 * (n : Int))) rfl rfl (by kernel_rfl) (by kernel_rfl) (by kernel_rfl) (fun _ _ _ h => h) (Or.inl ⟨by rfl, fun W hW => ?_⟩) hS ?_
      · (go_simp; first | done | (rw [IntKind.wrap_i64]; omega))
      simp only [Act.put, List.setIfInBounds_toArray, List.set_cons_zero, List.set_cons_succ]
      refine takeZ (i := 18) (d := 29) (v := .int .i64 (10 * (n : Int) + ((q : Int) - 48))) rfl rfl (by kernel_rfl) (by kernel_rfl) (by kernel_rfl) (fun _ _ _ h => h) (Or.inl ⟨by rfl, fun W hW => ?_⟩) hS ?_
      · (go_simp; first | done | (rw [IntKind.wrap_i64]; omega))
      simp only [Act.put, List.setIfInBounds_toArray, List.set_cons_zero, List.set_cons_succ]
      refine wpAnyH_all (rs := [19]) (by kernel_rfl) (by simp) ?_
      intro i' hi'
      obtain rfl : i' = 19 := by simpa using hi'
      refine wpOp_inL rfl rfl ?_
      refine wp_minL (.tmp 29) (.const (.int .i64 1000000000)) rfl (10 * (n : Int) + ((q : Int) - 48)) 1000000000 (N2 : Int) rfl rfl HM.out ?_
      refine ⟨hS, ?_⟩
      simp only [Act.put, List.setIfInBounds_toArray]
      refine takeZ (i := 20) (d := 31) (v := .pointer (some ⟨b, 0, none⟩)) rfl rfl (by kernel_rfl) (by kernel_rfl) (by kernel_rfl) (fun _ _ _ h => h) (Or.inl ⟨by rfl, fun W hW => ?_⟩) hS ?_
      · (go_simp)
      simp only [Act.put]
      refine takeZ (i := 21) (d := 32) (v := .pointer (some ⟨b, 2, none⟩)) rfl rfl (by kernel_rfl) (by kernel_rfl) (by kernel_rfl) (fun _ _ _ h => h) (Or.inl ⟨by rfl, fun W hW => ?_⟩) hS ?_
      · (go_simp)
      simp only [Act.put]
      refine takeZ (i := 22) (d := 33) (v := .pointer (some ⟨b, 4, none⟩)) rfl rfl (by kernel_rfl) (by kernel_rfl) (by kernel_rfl) (fun _ _ _ h => h) (Or.inl ⟨by rfl, fun W hW => ?_⟩) hS ?_
      · (go_simp)
      simp only [Act.put]
      refine wpAnyH_all (rs := [23]) (by kernel_rfl) (by simp) ?_
      intro i' hi'
      obtain rfl : i' = 23 := by simpa using hi'
      have c4 := HV.out.cells.2.2.2.2.1
      have f4 := HV.out.free 4
      have HF := hideL (HV.out.setN (N2 : Int))
      have hSF : S2 b s pj (V0.setCell ⟨b, 4, none⟩ (.int .i64 (N2 : Int))) := by rw [HHS.out]; exact s2 HF.out
      clear HV hS
      unfold wpOp
      go_simp
      first | refine Or.inl ⟨hSF, ?_⟩ | refine ⟨hSF, ?_⟩ | (change wpAnyH _ _ _ _ _ _ _ _ _) | refine Or.inl ?_
      refine wpAnyH_done (by kernel_rfl) ?_ _
      generalize V0.setCell ⟨b, 4, none⟩ (.int .i64 (N2 : Int)) = V3 at *
      have x1 := HF.out.cells.2.1
      have f1 := HF.out.free 1
      have HG := hideL (HF.out.setP (pj + 1) ((pj : Int) + 1) (by omega))
      have HAT := hideL HG.out.atW
      have HGo : Hid (Sc w0 (V3.setCell ⟨b, 1, none⟩ (.int .i64 ((pj : Int) + 1))) b l (p + (j + 1)) k t (N2 : Int) a e v m L) := hideL (by rw [← Nat.add_assoc, ← HPJ.out]; exact HG.out)
      have hle : p + (j + 1) ≤ l.length := by have := HPJ.out; omega
      have hpb : pj ≤ 400000000000 := by omega
      have hw1 : wrap64 ((pj : Int) + 1) = (pj : Int) + 1 := by unfold wrap64; omega
      have HLE := hideL hle
      have HNB := hideL hN2b
      have HA2 := hideL hat2
      have HLT := hideL hlt2
      clear HF hSF HG c4 f4 hle hN2b hat2 y0 hps hpj hz hsb hd1 hd2 hn hlt2 HHS HM HPJ
      go_wp2_with fail
      go_roundw
      case rel => exact ⟨j + 1, N2, HLE.out, HNB.out, HGo, HN4, HD4⟩
      case measure =>
        have e1 := HAT.out
        have e2 := HA2.out
        have e3 := HLT.out
        rw [e1, e2]
        omega
    · have hcl : clA (l.drop (p + j)) ≠ 102 := by
        intro x
        cases hd : l.drop (p + j) with
        | nil => rw [hd] at x; cases x
        | cons c r => rw [hd] at x; exact hdig ⟨c, r, hd, x⟩
      have hN3 : ZN = n := by
        rw [HN2.out]
        cases hd : l.drop (p + j) with
        | nil => rw [nmV]
        | cons c r => rw [nm_no _ _ _ (fun x => hdig ⟨c, r, hd, x⟩)]
      have hD3 : ZD = j := by
        rw [HD2.out]
        cases hd : l.drop (p + j) with
        | nil => rw [dgL]; rfl
        | cons c r => rw [dg_no _ _ (fun x => hdig ⟨c, r, hd, x⟩)]; rfl
      subst hN3 hD3
      have hle := clA_le (l.drop (p + ZD))
      generalize clA (l.drop (p + ZD)) = cc at *
      have q1 : ((cc : Int) == 102) = false := by rw [beq_eq_false_iff_ne]; omega
      clear CC hat HN2 HD2 hdig hcl hle
      by_cases hz : 0 < ZD
      · have z1 : (p : Int) < (p : Int) + (ZD : Int) := by omega
        have z3 : (p : Int) < ((p + ZD : Nat) : Int) := by omega
        have HZ := hideL hz
        by_cases hn9 : ZN ≤ 999999999
        · have z2 : (ZN : Int) ≤ 999999999 := by omega
          have HY := hideL hn9
          clear hz hn9
          go_wp2_with (go_at_call 47; refine C1.out.mono ?_; clear C1; rintro x W1 ⟨rfl, k1⟩; have H1 := hideL (HR.out.later k1); have x1 := H1.out.cells.2.1; have x4 := H1.out.cells.2.2.2.2.1; clear HR k1)
          go_ret
          exact ⟨by rw [decide_eq_true HZ.out, decide_eq_true HY.out]; rfl, H1.out⟩
        · have z2 : ¬ (ZN : Int) ≤ 999999999 := by omega
          have z4 : decide ((ZN : Int) ≤ 999999999) = false := decide_eq_false z2
          have HY := hideL hn9
          clear hz hn9
          go_wp2_with (go_at_call 47; refine C1.out.mono ?_; clear C1; rintro x W1 ⟨rfl, k1⟩; have H1 := hideL (HR.out.later k1); have x1 := H1.out.cells.2.1; have x4 := H1.out.cells.2.2.2.2.1; clear HR k1)
          go_ret
          exact ⟨by rw [decide_eq_true HZ.out, decide_eq_false HY.out]; rfl, H1.out⟩
      · have hz0 : ZD = 0 := by omega
        subst hz0
        have HZ := hideL hz
        have z1 : ¬ (p : Int) < (p : Int) := by omega
        clear hz
        go_wp2_with (go_at_call 47; refine C1.out.mono ?_; clear C1; rintro x W1 ⟨rfl, k1⟩; have H1 := hideL (HR.out.later k1); have x1 := H1.out.cells.2.1; have x4 := H1.out.cells.2.2.2.2.1; clear HR k1)
        go_ret
        exact ⟨by rw [decide_eq_false HZ.out]; rfl, H1.out⟩
end Go.Proofs.YtiemiphlfbaojaaDoor
