import Derived.Test.YtbhoplmbiomogaaDoorRgn
namespace Go.Proofs.YtbhoplmbiomogaaDoor
open Go.ChangeShapes Go.WideShapes Go.ChangeAt Go.RowKit Go.Maps

theorem Kept.drewN (w : World) (n : Nat) : Kept (fun _ => False) w (w.drewN n) := ⟨rfl, rfl, rfl, Nat.le_refl _, fun _ _ _ => rfl⟩
/-- The number that the document's Check answers. -/
def chkN (l : List Fd) : Int := if gschema l then 0 else 11
theorem chkN_bad {l : List Fd} (h : gschema l = false) : chkN l = 11 := by rw [chkN, h]; rfl
theorem chkN_good {l : List Fd} (h : gschema l = true) : chkN l = 0 := by rw [chkN, h]; rfl
theorem ret_n {x y : Int} (h : y = x) : Ending.returned (.int .i64 x) = .returned (.int .i64 y) := by rw [h]
theorem among_next {l : List Fd} {j : Nat} (h : j < l.length) {s : ByteArray} (ha : among (l.take j) s = false) (hn : ¬ l[j].n = s) : among (l.take (j + 1)) s = false := by
  rw [names_next h, among_append, ha, Bool.false_or]
  unfold among
  rw [List.any_cons, List.any_nil, Bool.or_false]
  exact decide_eq_false hn
theorem apart_take {l : List Fd} (k : Nat) (h : apartN (l.take k) = false) : apartN l = false := by
  have e : ∀ (b a : List Fd), apartN a = false → apartN (a ++ b) = false := by
    intro b
    induction b with
    | nil => intro a ha; rw [List.append_nil]; exact ha
    | cons x r ih =>
      intro a ha
      rw [show a ++ x :: r = (a ++ [x]) ++ r by simp]
      exact ih _ (by rw [apartN_snoc, ha]; rfl)
  have := e (l.drop k) (l.take k) h
  rwa [List.take_append_drop] at this
theorem twin {l : List Fd} {k j : Nat} (hk : k < l.length) (hj : j < k) (e : l[j].n = l[k].n) : gschema l = false := by
  refine gs_names (apart_take (k + 1) ?_)
  rw [names_next hk, apartN_snoc]
  have : among (l.take k) l[k].n = true := by
    unfold among
    rw [List.any_eq_true]
    refine ⟨l[j], ?_, decide_eq_true e⟩
    rw [List.mem_take_iff_getElem]
    exact ⟨j, by omega, rfl⟩
  rw [this, Bool.not_true, Bool.and_false]
theorem apart_next {l : List Fd} {k : Nat} (h : k < l.length) (ha : apartN (l.take k) = true) (hm : among (l.take k) l[k].n = false) : apartN (l.take (k + 1)) = true := by
  rw [names_next h, apartN_snoc, ha, hm]; rfl
theorem gk_low {f : Fd} (h : f.k < 1 ∨ 3 < f.k) : gkind f = false := by
  unfold gkind
  rw [decide_eq_false (by omega), decide_eq_false (by omega)]; rfl
theorem gk_flag {f : Fd} (h : ¬ f.k = 1) (hb : (f.fo || f.st || f.se) = true) : gkind f = false := by
  unfold gkind
  rw [decide_eq_false h]
  revert hb
  cases f.fo <;> cases f.st <;> cases f.se <;> simp
theorem gk_one {f : Fd} (h : f.k = 1) : gkind f = true := by unfold gkind; rw [decide_eq_true h]; rfl
theorem gk_two {f : Fd} (h : f.k = 2 ∨ f.k = 3) (h1 : f.fo = false) (h2 : f.st = false) (h3 : f.se = false) : gkind f = true := by
  unfold gkind
  rw [decide_eq_true h, h1, h2, h3]
  simp
theorem gf_kind {f : Fd} (h : gkind f = false) : gfield f = false := by rw [gfield, h, Bool.and_false]
theorem gf_all {f : Fd} (h : gname f.n.data.toList = true) (h2 : gkind f = true) : gfield f = true := by rw [gfield, h, h2]; rfl

set_option maxRecDepth 20000 in
set_option maxHeartbeats 4000000 in
/-- The document's Check. -/
theorem rcheck_any (l : List Fd) (a : Option Addr) (c : Nat) (w : World) (hF : FsAt w a l) (hO : ∀ f ∈ l, f.Ok) :
    Calls Tryd.prog 22 #[.agg #[.slice a l.length c]] w fun e w' => e = .returned (.int .i64 (chkN l)) ∧ Kept (fun _ => False) w w' := by
  by_cases hc1 : (l.length : Int) < 1
  · have HX := hideW (chkN_bad (gs_count (l := l) (by omega)))
    go_enter Tryd.func22, Tryd.ntmps22
    go_wp2
    go_ret
    exact ⟨ret_n HX.out, Kept.alloc _ _⟩
  · by_cases hc2 : 16 < (l.length : Int)
    · have HX := hideW (chkN_bad (gs_count (l := l) (by omega)))
      go_enter Tryd.func22, Tryd.ntmps22
      go_wp2
      go_ret
      exact ⟨ret_n HX.out, Kept.alloc _ _⟩
    · have HF := hideW hF
      have HO := hideW hO
      clear hF hO
      obtain ⟨A0, hA0⟩ : ∃ A0, A0 = w.alloc (.cells #[.slice a l.length c] 24) := ⟨_, rfl⟩
      have KA : Kept (fun _ => False) w A0 := by rw [hA0]; exact Kept.alloc _ _
      have hbox : A0.cell? ⟨w.heap.size, 0, none⟩ = some (.slice a l.length c) := by rw [hA0]; simp
      have HA := hideW KA
      have HB := hideW hbox
      clear KA hbox
      go_enter Tryd.func22, Tryd.ntmps22
      go_wp2
      rw [← hA0]
      clear hA0
      go_loopw [20] (fun i wr => ∃ (k : Nat), k ≤ l.length ∧ i = .int .i64 k ∧ Hid ((l.take k).all gfield = true) ∧ Hid (apartN (l.take k) = true) ∧ Hid (Kept (fun _ => False) A0 wr)) (fun i _ => l.length - (intOf i).toNat)
      case atStart => exact ⟨0, by omega, rfl, hideW rfl, hideW rfl, hideW (Kept.refl _ _)⟩
      case round =>
        obtain ⟨k, hk, rfl, hA, hP, hK⟩ := hrel
        obtain ⟨W0, hW0⟩ : ∃ W0, W0 = wr := ⟨_, rfl⟩
        rw [← hW0] at hK ⊢
        clear hW0
        have hKw := hideW (HA.out.trans hK.out (fun _ f => f.elim))
        have hBr := hK.out.cell HB.out (fun f => f)
        have hbr := World.block_lt_of_cell? W0 _ hBr
        by_cases hlt : k < l.length
        · obtain ⟨b, off, rfl, hc⟩ := HF.out (by intro e; rw [e] at hlt; simp at hlt)
          obtain ⟨x0, x1, x2, x3, x4⟩ := hc k hlt
          have hOk := HO.out _ (List.getElem_mem hlt)
          have hmem := List.getElem_mem hlt
          have hsn := all_snoc hlt hA.out
          have hap := fun h => apart_next hlt hP.out h
          have htw : ∀ j (h : j < k), l[j].n = l[k].n → gschema l = false := fun j h e => twin hlt h e
          obtain ⟨f, hf⟩ : ∃ f, f = l[k] := ⟨_, rfl⟩
          rw [← hf] at x0 x1 x2 x3 x4 hOk hsn hmem hap htw
          have y0 := hKw.out.cell x0 (fun f => f)
          have y1 := hKw.out.cell x1 (fun f => f)
          have y2 := hKw.out.cell x2 (fun f => f)
          have y3 := hKw.out.cell x3 (fun f => f)
          have y4 := hKw.out.cell x4 (fun f => f)
          have hn := hOk.n
          have hi : ((k : Nat) : Int) < (l.length : Int) := by omega
          have SN := hideW hsn
          have AP := hideW hap
          have TW := hideW htw
          have HM := hideW (gs_field hmem)
          have HC := hideW hc
          clear x0 x1 x2 x3 x4 hc hOk hf hsn hmem hap htw hA hP
          cases hG : gname f.n.data.toList with
          | false =>
            have HX := hideW (chkN_bad (HM.out (by rw [gfield, hG]; rfl)))
            go_wp2_with (go_at_call 39; refine (rgname_any _ _ hn).mono ?_; rintro e W1 ⟨rfl, e1⟩; subst e1)
            go_ret
            exact ⟨ret_n HX.out, hKw.out.trans (Kept.alloc _ _) (fun _ f => f.elim)⟩
          | true =>
            by_cases b1 : f.k < 1
            · have HX := hideW (chkN_bad (HM.out (gf_kind (gk_low (Or.inl b1)))))
              go_wp2_with (go_at_call 39; refine (rgname_any _ _ hn).mono ?_; rintro e W1 ⟨rfl, e1⟩; subst e1)
              go_ret
              exact ⟨ret_n HX.out, hKw.out.trans (Kept.alloc _ _) (fun _ f => f.elim)⟩
            · by_cases b2 : 3 < f.k
              · have HX := hideW (chkN_bad (HM.out (gf_kind (gk_low (Or.inr b2)))))
                go_wp2_with (go_at_call 39; refine (rgname_any _ _ hn).mono ?_; rintro e W1 ⟨rfl, e1⟩; subst e1)
                go_ret
                exact ⟨ret_n HX.out, hKw.out.trans (Kept.alloc _ _) (fun _ f => f.elim)⟩
              · by_cases b3 : ¬ f.k = 1 ∧ (f.fo || f.st || f.se) = true
                · have HX := hideW (chkN_bad (HM.out (gf_kind (gk_flag b3.1 b3.2))))
                  have b4 := b3.1
                  have b5 := b3.2
                  clear b3
                  cases e1 : f.fo <;> cases e2 : f.st <;> cases e3 : f.se
                  · rw [e1, e2, e3] at b5; cases b5
                  all_goals
                    rw [e1] at y2
                    rw [e2] at y3
                    rw [e3] at y4
                    clear b5
                    go_wp2_with (go_at_call 39; refine (rgname_any _ _ hn).mono ?_; rintro e W1 ⟨rfl, e1⟩; subst e1)
                    go_ret
                    exact ⟨ret_n HX.out, hKw.out.trans (Kept.alloc _ _) (fun _ f => f.elim)⟩
                · have hgk : gkind f = true := by
                    by_cases e : f.k = 1
                    · exact gk_one e
                    · have e2 : (f.fo || f.st || f.se) = false := by
                        cases q : (f.fo || f.st || f.se) with
                        | false => rfl
                        | true => exact absurd ⟨e, q⟩ b3
                      simp only [Bool.or_eq_false_iff] at e2
                      exact gk_two (by omega) e2.1.1 e2.1.2 e2.2
                  have HS := hideW (SN.out (gf_all hG hgk))
                  clear hgk SN HM
                  by_cases e1 : f.k = 1
                  · clear b3
                    rw [e1] at y1
                    clear e1 b1 b2
                    obtain ⟨B1, hB1⟩ : ∃ B1, B1 = W0.alloc (.cells #[.string f.n, .int .i64 1, .bool f.fo, .bool f.st, .bool f.se] 46) := ⟨_, rfl⟩
                    have K1 : Hid (Kept (fun _ => False) W0 B1) := hideW (by rw [hB1]; exact Kept.alloc _ _)
                    have z0 : Hid (B1.cell? ⟨W0.heap.size, 0, none⟩ = some (.string f.n)) := hideW (by rw [hB1]; simp)
                    have BX := hideW hBr
                    go_wp2_with (go_at_call 39; refine (rgname_any _ _ hn).mono ?_; rintro e W1 ⟨rfl, e1⟩; subst e1)
                    rw [← hB1]
                    clear hB1 y0 y1 y2 y3 y4 hBr
                    go_loopw [6] (fun i wr => ∃ (j : Nat), j ≤ k ∧ i = .int .i64 j ∧ Hid (among (l.take j) f.n = false) ∧ Hid (Kept (fun _ => False) B1 wr)) (fun i _ => k - (intOf i).toNat)
                    case atStart => exact ⟨0, by omega, rfl, hideW rfl, hideW (Kept.refl _ _)⟩
                    case round =>
                      obtain ⟨j, hj, rfl, hM, hK2⟩ := hrel
                      have hKj := hideW ((hKw.out.trans K1.out (fun _ f => f.elim)).trans hK2.out (fun _ f => f.elim))
                      by_cases hjl : j < k
                      · have x0 := (HC.out j (by omega)).1
                        have hjl2 : j < l.length := by omega
                        have hmn : (¬ l[j].n = f.n → among (l.take (j + 1)) f.n = false) := fun h => among_next hjl2 hM.out h
                        have htw := TW.out j hjl
                        obtain ⟨g, hg⟩ : ∃ g, g = l[j] := ⟨_, rfl⟩
                        rw [← hg] at x0 hmn htw
                        have y0 := hKj.out.cell x0 (fun f => f)
                        have yb := hK2.out.cell (K1.out.cell BX.out (fun f => f)) (fun f => f)
                        have yf := hK2.out.cell z0.out (fun f => f)
                        have hq := str_eqb g.n f.n
                        have hi2 : ((j : Nat) : Int) < (l.length : Int) := by omega
                        have hi3 : ((j : Nat) : Int) < (k : Int) := by omega
                        have MN := hideW hmn
                        have TW2 := hideW htw
                        clear hmn htw hg x0
                        by_cases he : g.n = f.n
                        · rw [show decide (g.n = f.n) = true from decide_eq_true he] at hq
                          have HX := hideW (chkN_bad (TW2.out he))
                          clear he
                          go_wp2
                          go_quiet (fail)
                          go_wp2
                          go_ret
                          exact ⟨ret_n HX.out, hKj.out.trans (Kept.drewN _ _) (fun _ f => f.elim)⟩
                        · rw [show decide (g.n = f.n) = false from decide_eq_false he] at hq
                          have HX := hideW (MN.out he)
                          clear he
                          go_wp2
                          go_quiet (fail)
                          go_wp2
                          go_roundw
                          case rel => exact ⟨j + 1, by omega, by go_num, HX, hideW (hK2.out.trans (Kept.drewN _ _) (fun _ f => f.elim))⟩
                          case measure => simp [intOf]; omega
                      · obtain rfl : j = k := by omega
                        have HX := hideW (AP.out hM.out)
                        go_wp2
                        go_roundw
                        case rel => exact ⟨j + 1, by omega, by go_num, HS, HX, hideW ((hK.out.trans K1.out (fun _ f => f.elim)).trans hK2.out (fun _ f => f.elim))⟩
                        case measure => simp [intOf]; omega
                  · obtain ⟨e2, e3, e4⟩ : f.fo = false ∧ f.st = false ∧ f.se = false := by
                      cases q1 : f.fo <;> cases q2 : f.st <;> cases q3 : f.se <;> first | exact ⟨rfl, rfl, rfl⟩ | exact absurd ⟨e1, by simp [q1, q2, q3]⟩ b3
                    clear b3
                    rw [e2] at y2
                    rw [e3] at y3
                    rw [e4] at y4
                    clear e2 e3 e4
                    obtain ⟨B1, hB1⟩ : ∃ B1, B1 = W0.alloc (.cells #[.string f.n, .int .i64 f.k, .bool false, .bool false, .bool false] 46) := ⟨_, rfl⟩
                    have K1 : Hid (Kept (fun _ => False) W0 B1) := hideW (by rw [hB1]; exact Kept.alloc _ _)
                    have z0 : Hid (B1.cell? ⟨W0.heap.size, 0, none⟩ = some (.string f.n)) := hideW (by rw [hB1]; simp)
                    have BX := hideW hBr
                    go_wp2_with (go_at_call 39; refine (rgname_any _ _ hn).mono ?_; rintro e W1 ⟨rfl, e1⟩; subst e1)
                    rw [← hB1]
                    clear hB1 y0 y1 y2 y3 y4 hBr
                    go_loopw [6] (fun i wr => ∃ (j : Nat), j ≤ k ∧ i = .int .i64 j ∧ Hid (among (l.take j) f.n = false) ∧ Hid (Kept (fun _ => False) B1 wr)) (fun i _ => k - (intOf i).toNat)
                    case atStart => exact ⟨0, by omega, rfl, hideW rfl, hideW (Kept.refl _ _)⟩
                    case round =>
                      obtain ⟨j, hj, rfl, hM, hK2⟩ := hrel
                      have hKj := hideW ((hKw.out.trans K1.out (fun _ f => f.elim)).trans hK2.out (fun _ f => f.elim))
                      by_cases hjl : j < k
                      · have x0 := (HC.out j (by omega)).1
                        have hjl2 : j < l.length := by omega
                        have hmn : (¬ l[j].n = f.n → among (l.take (j + 1)) f.n = false) := fun h => among_next hjl2 hM.out h
                        have htw := TW.out j hjl
                        obtain ⟨g, hg⟩ : ∃ g, g = l[j] := ⟨_, rfl⟩
                        rw [← hg] at x0 hmn htw
                        have y0 := hKj.out.cell x0 (fun f => f)
                        have yb := hK2.out.cell (K1.out.cell BX.out (fun f => f)) (fun f => f)
                        have yf := hK2.out.cell z0.out (fun f => f)
                        have hq := str_eqb g.n f.n
                        have hi2 : ((j : Nat) : Int) < (l.length : Int) := by omega
                        have hi3 : ((j : Nat) : Int) < (k : Int) := by omega
                        have MN := hideW hmn
                        have TW2 := hideW htw
                        clear hmn htw hg x0
                        by_cases he : g.n = f.n
                        · rw [show decide (g.n = f.n) = true from decide_eq_true he] at hq
                          have HX := hideW (chkN_bad (TW2.out he))
                          clear he
                          go_wp2
                          go_quiet (fail)
                          go_wp2
                          go_ret
                          exact ⟨ret_n HX.out, hKj.out.trans (Kept.drewN _ _) (fun _ f => f.elim)⟩
                        · rw [show decide (g.n = f.n) = false from decide_eq_false he] at hq
                          have HX := hideW (MN.out he)
                          clear he
                          go_wp2
                          go_quiet (fail)
                          go_wp2
                          go_roundw
                          case rel => exact ⟨j + 1, by omega, by go_num, HX, hideW (hK2.out.trans (Kept.drewN _ _) (fun _ f => f.elim))⟩
                          case measure => simp [intOf]; omega
                      · obtain rfl : j = k := by omega
                        have HX := hideW (AP.out hM.out)
                        go_wp2
                        go_roundw
                        case rel => exact ⟨j + 1, by omega, by go_num, HS, HX, hideW ((hK.out.trans K1.out (fun _ f => f.elim)).trans hK2.out (fun _ f => f.elim))⟩
                        case measure => simp [intOf]; omega
        · obtain rfl : k = l.length := by omega
          have hA2 := hideW (show l.all gfield = true by have e := hA.out; rwa [List.take_length] at e)
          have hP2 := hideW (show apartN l = true by have e := hP.out; rwa [List.take_length] at e)
          have HX := hideW (chkN_good (gs_all ⟨by omega, by omega⟩ hA2.out hP2.out))
          go_wp2
          go_ret
          exact ⟨ret_n HX.out, hKw.out⟩
end Go.Proofs.YtbhoplmbiomogaaDoor
