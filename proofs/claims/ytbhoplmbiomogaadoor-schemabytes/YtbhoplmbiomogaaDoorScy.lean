import Derived.Test.YtbhoplmbiomogaaDoorScx
namespace Go.Proofs.YtbhoplmbiomogaaDoor
open Go.ChangeShapes Go.WideShapes Go.ChangeAt Go.RowKit Go.Maps Go.WideMaps

/-- What Check answers: nil or the error. -/
def chkV (E : Value) (l : List Fd) : Value := if gschema l then .nilIface else E
theorem chk_bad (E : Value) {l : List Fd} (h : gschema l = false) : chkV E l = E := by rw [chkV, h]; rfl
theorem chk_good (E : Value) {l : List Fd} (h : gschema l = true) : chkV E l = .nilIface := by rw [chkV, h]; rfl
theorem ret_v {u v : Value} (h : v = u) : Ending.returned u = .returned v := by rw [h]
theorem gs_count {l : List Fd} (h : ¬ (1 ≤ l.length ∧ l.length ≤ 16)) : gschema l = false := by rw [gschema, show decide (1 ≤ l.length ∧ l.length ≤ 16) = false from decide_eq_false h]; rfl
theorem gs_field {l : List Fd} {f : Fd} (hf : f ∈ l) (h : gfield f = false) : gschema l = false := by
  have : l.all gfield = false := List.all_eq_false.2 ⟨f, hf, by rw [h]; decide⟩
  rw [gschema, this, Bool.and_false]; rfl
theorem gs_names {l : List Fd} (h : apartN l = false) : gschema l = false := by rw [gschema, h, Bool.and_false]
theorem gs_all {l : List Fd} (h : 1 ≤ l.length ∧ l.length ≤ 16) (hf : l.all gfield = true) (hn : apartN l = true) : gschema l = true := by
  rw [gschema, show decide (1 ≤ l.length ∧ l.length ≤ 16) = true from decide_eq_true h, hf, hn]; rfl
theorem all_snoc {l : List Fd} {k : Nat} (h : k < l.length) (ha : (l.take k).all gfield = true) (hf : gfield l[k] = true) : (l.take (k + 1)).all gfield = true := by
  rw [names_next h, List.all_append, ha, List.all_cons, List.all_nil, hf]; rfl

set_option maxRecDepth 20000 in
set_option maxHeartbeats 2000000 in
theorem check_any (l : List Fd) (a : Option Addr) (c : Nat) (te : TypeId) (pe : Value) (w : World) (hF : FsAt w a l) (hO : ∀ f ∈ l, f.Ok) (hl : l.length ≤ 4398046511104) (hE : w.cell? ⟨0, 0, none⟩ = some (.iface te pe)) :
    Calls Tryd.prog 12 #[.agg #[.slice a l.length c]] w fun e w' => e = .returned (chkV (.iface te pe) l) ∧ Kept (fun _ => False) w w' := by
  by_cases hc1 : (l.length : Int) < 1
  · have HX := hideW (chk_bad (.iface te pe) (gs_count (l := l) (by omega)))
    have hgl := World.block_lt_of_cell? w _ hE
    go_enter Tryd.func12, Tryd.ntmps12
    go_wp2
    go_ret
    exact ⟨ret_v HX.out, Kept.alloc _ _⟩
  · by_cases hc2 : 16 < (l.length : Int)
    · have HX := hideW (chk_bad (.iface te pe) (gs_count (l := l) (by omega)))
      have hgl := World.block_lt_of_cell? w _ hE
      go_enter Tryd.func12, Tryd.ntmps12
      go_wp2
      go_ret
      exact ⟨ret_v HX.out, Kept.alloc _ _⟩
    · have hgl := World.block_lt_of_cell? w _ hE
      have HF := hideW hF
      have HO := hideW hO
      clear hF hO
      have hwl : w.heap.size < (w.alloc (.cells #[.slice a l.length c] 24)).heap.size := by simp
      have KA := Kept.alloc w (.cells #[.slice a l.length c] 24)
      have hbox : (w.alloc (.cells #[.slice a l.length c] 24)).cell? ⟨w.heap.size, 0, none⟩ = some (.slice a l.length c) := by simp
      have HA := hideW KA
      have HB := hideW hbox
      clear KA hbox
      go_enter Tryd.func12, Tryd.ntmps12
      go_wp2
      go_loopw [19] (fun i wr => ∃ (k : Nat), k ≤ l.length ∧ i = .int .i64 k ∧ Hid ((l.take k).all gfield = true) ∧ Hid (Kept (fun _ => False) (w.alloc (.cells #[.slice a l.length c] 24)) wr)) (fun i _ => l.length - (intOf i).toNat)
      case atStart => exact ⟨0, by omega, rfl, rfl, hideW (Kept.refl _ _)⟩
      case round =>
        obtain ⟨k, hk, rfl, hA, hK⟩ := hrel
        have hKw := hideW (HA.out.trans hK.out (fun _ f => f.elim))
        have hEr := hKw.out.cell hE (fun f => f)
        have hBr := hK.out.cell HB.out (fun f => f)
        have hgr := World.block_lt_of_cell? wr _ hEr
        have HE0 : Hid (∀ o, (wr.alloc o).cell? ⟨0, 0, none⟩ = some (.iface te pe)) := hideW (fun o => (Kept.alloc wr o).cell hEr (fun f => f))
        have hbr := World.block_lt_of_cell? wr _ hBr
        by_cases hlt : k < l.length
        · obtain ⟨b, off, rfl, hc⟩ := HF.out (by intro e; rw [e] at hlt; simp at hlt)
          obtain ⟨x0, x1, x2, x3, x4⟩ := hc k hlt
          have hOk := HO.out _ (List.getElem_mem hlt)
          have hmem := List.getElem_mem hlt
          have hsn := all_snoc hlt hA.out
          obtain ⟨f, hf⟩ : ∃ f, f = l[k] := ⟨_, rfl⟩
          rw [← hf] at x0 x1 x2 x3 x4 hOk hsn hmem
          have y0 := hKw.out.cell x0 (fun f => f)
          have y1 := hKw.out.cell x1 (fun f => f)
          have y2 := hKw.out.cell x2 (fun f => f)
          have y3 := hKw.out.cell x3 (fun f => f)
          have y4 := hKw.out.cell x4 (fun f => f)
          have hn := hOk.n
          have hi : ((k : Nat) : Int) < (l.length : Int) := by omega
          have SN := hideW hsn
          have HM := hideW (gs_field hmem)
          clear x0 x1 x2 x3 x4 hc hOk hf hsn hmem
          cases hG : gname f.n.data.toList with
          | false =>
            have HX := hideW (chk_bad (.iface te pe) (HM.out (by rw [gfield, hG]; rfl)))
            go_wp2_with (first
              | (go_at_call 31; refine (gname_any _ _ hn).mono ?_; rintro e W1 ⟨rfl, e1⟩; subst e1)
              | (go_at_call 32; refine (gkind_any f _).mono ?_; rintro e W2 ⟨rfl, hk2⟩))
            go_ret
            exact ⟨ret_v HX.out, hKw.out.trans (Kept.alloc _ _) (fun _ f => f.elim)⟩
          | true =>
            cases hG2 : gkind f with
            | false =>
              have HX := hideW (chk_bad (.iface te pe) (HM.out (by rw [gfield, hG, hG2]; rfl)))
              go_wp2_with (first
              | (go_at_call 31; refine (gname_any _ _ hn).mono ?_; rintro e W1 ⟨rfl, e1⟩; subst e1)
              | (go_at_call 32; refine (gkind_any f _).mono ?_; rintro e W2 ⟨rfl, hk2⟩; have hE2 := hk2.cell (HE0.out _) (fun f => f)))
              go_ret
              exact ⟨ret_v HX.out, (hKw.out.trans (Kept.alloc _ _) (fun _ f => f.elim)).trans hk2 (fun _ f => f.elim)⟩
            | true =>
              have HX := hideW (SN.out (by rw [gfield, hG, hG2]; rfl))
              go_wp2_with (first
              | (go_at_call 31; refine (gname_any _ _ hn).mono ?_; rintro e W1 ⟨rfl, e1⟩; subst e1)
              | (go_at_call 32; refine (gkind_any f _).mono ?_; rintro e W2 ⟨rfl, hk2⟩; have hE2 := hk2.cell (HE0.out _) (fun f => f)))
              go_roundw
              case rel => exact ⟨k + 1, by omega, by go_num, HX, hideW ((hK.out.trans (Kept.alloc _ _) (fun _ f => f.elim)).trans hk2 (fun _ f => f.elim))⟩
              case measure => simp [intOf]; omega
        · obtain rfl : k = l.length := by omega
          have hA2 := hideW (show l.all gfield = true by have e := hA.out; rwa [List.take_length] at e)
          have hNb := numbers_any l a c wr (HF.out.kept hKw.out) HO.out hl
          cases hP : apartN l with
          | false =>
            have HX := hideW (chk_bad (.iface te pe) (gs_names hP))
            go_wp2_with (first
              | (go_at_call 33; refine hNb.mono ?_; clear hNb; rintro e W3 ⟨B, D, rfl, hm, hN, hk3, hB⟩; have hE3 := hk3.cell hEr (fun f => f); have hs3 : (Maps.size D : Int) < (l.length : Int) := (by have h1 := hN.le; have h2 := hN.all; rw [hP] at h2; have h3 : Maps.size D ≠ l.length := (fun e => by have := h2.1 e; cases this); omega))
              | (at_len; refine wpList_len_own _ rfl _ 70 rfl 9 3 Tryd.underlying70 _ B l.length D rfl hm ?_)
              | go_in)
            go_ret
            exact ⟨ret_v HX.out, hKw.out.trans hk3 (fun _ f => f.elim)⟩
          | true =>
            have HX := hideW (chk_good (.iface te pe) (gs_all ⟨by omega, by omega⟩ hA2.out hP))
            go_wp2_with (first
              | (go_at_call 33; refine hNb.mono ?_; clear hNb; rintro e W3 ⟨B, D, rfl, hm, hN, hk3, hB⟩; have hs3 : ¬ (Maps.size D : Int) < (l.length : Int) := (by have h2 := hN.all.2 hP; omega))
              | (at_len; refine wpList_len_own _ rfl _ 70 rfl 9 3 Tryd.underlying70 _ B l.length D rfl hm ?_)
              | go_in)
            go_ret
            exact ⟨ret_v HX.out, hKw.out.trans hk3 (fun _ f => f.elim)⟩
end Go.Proofs.YtbhoplmbiomogaaDoor
