import Derived.Test.YtccchbadapdagaaDoorSts
namespace Go.Proofs.YtccchbadapdagaaDoor
open Go.ChangeShapes Go.WideShapes Go.ChangeAt Go.RowKit

/-- One place of a list of single cells written over. -/
theorem Gro.set {w0 w : World} {e : TypeId} {g c n : Nat} {xs : List Value} (h : Gro w0 w e 1 (.slice (some ⟨g, 0, none⟩) n c) n xs) (k : Nat) (v : Value) :
    Gro w0 (w.setCell ⟨g, k, none⟩ v) e 1 (.slice (some ⟨g, 0, none⟩) n c) n (xs.set k v) ∧ w.frozen? ⟨g, k, none⟩ = false := by
  rcases h.own.2 with ⟨e1, e2⟩ | ⟨g', cap, cur, e1, hg, hh, hn, hm, hs, ht⟩
  · cases e1
  · simp only [Value.slice.injEq, Option.some.injEq, Addr.mk.injEq, and_true, true_and] at e1
    obtain ⟨rfl, rfl⟩ := e1
    refine ⟨⟨⟨by rw [List.length_set]; exact h.own.1, .inr ⟨g, c, cur.setIfInBounds k v, rfl, hg, heap_setCell_same w g k cur e v hh, hn, hm, by rw [Array.size_setIfInBounds]; exact hs, ?_⟩⟩, h.kept.trans (Kept.setCell _ _ _) (fun i e => .inr (by simp only at e; omega))⟩, ?_⟩
    · rw [Array.toList_setIfInBounds, List.take_set, ht]
    · simp [World.frozen?, hh]
def xs0 (k : Nat) : List Value := List.replicate k (.string ⟨#[120]⟩) ++ stV.drop k
theorem xs0_zero : xs0 0 = stV := rfl
theorem xs0_len (k : Nat) (h : k ≤ 42) : (xs0 k).length = 42 := by
  unfold xs0
  rw [List.length_append, List.length_replicate, List.length_drop, stV_len]; omega
theorem xs0_at (k : Nat) (h : k < 42) : (xs0 k)[k]? = some (.string (stB k)) := by
  unfold xs0
  rw [List.getElem?_append_right (by rw [List.length_replicate]; exact Nat.le_refl _), List.length_replicate, Nat.sub_self, List.getElem?_drop, Nat.add_zero, stV_at k h]
theorem xs0_next (k : Nat) (h : k < 42) : (xs0 k).set k (.string ⟨#[120]⟩) = xs0 (k + 1) := by
  unfold xs0
  rw [List.set_append_right _ _ (by rw [List.length_replicate]; exact Nat.le_refl _), List.length_replicate, Nat.sub_self, List.drop_eq_getElem_cons (show k < stV.length from h), List.set_cons_zero, List.replicate_succ', List.append_assoc]
  rfl
def inS (x : ByteArray) (k : Nat) : Bool := (stL.take k).any (fun s => s == x.data.toList)
theorem inS_next (x : ByteArray) (k : Nat) (h : k < 42) : inS x (k + 1) = (inS x k || ((stB k).toList == x.toList)) := by
  unfold inS
  rw [List.take_succ_eq_append_getElem (show k < stL.length from h), List.any_append, List.any_cons, List.any_nil, Bool.or_false, stB_list, ByteArray.toList_eq, List.getD_eq_getElem?_getD, List.getElem?_eq_getElem (show k < stL.length from h), Option.getD_some]
theorem inS_all (x : ByteArray) : inS x 42 = isSt x := rfl
theorem st_are : ∀ k : Fin 42, isSt (stB k.val) = true := by decide +kernel
/-- The world in the loop. -/
structure Tsw (w wr : World) (ga c gb k : Nat) : Prop where
  a : Gro w wr 9 1 (.slice (some ⟨ga, 0, none⟩) 42 c) 42 (xs0 k)
  b : ∀ j, j < 42 → wr.cell? ⟨gb, j, none⟩ = some (.string (stB j))
  ne : ga ≠ gb
theorem Tsw.ca {w wr : World} {ga c gb k : Nat} (h : Tsw w wr ga c gb k) (hk : k < 42) : wr.cell? ⟨ga, k, none⟩ = some (.string (stB k)) := by
  obtain ⟨g, e, _, hc⟩ := h.a.cell (by decide)
  simp only [Option.some.injEq, Addr.mk.injEq, and_true] at e
  subst e
  exact hc k _ (xs0_at k hk)
theorem Tsw.later {w wr wr' : World} {ga c gb k : Nat} (h : Tsw w wr ga c gb k) (kk : Kept (fun _ => False) wr wr') : Tsw w wr' ga c gb k :=
  ⟨h.a.later kk, fun j hj => kk.cell (h.b j hj) (fun f => f), h.ne⟩
theorem Tsw.next {w wr : World} {ga c gb k : Nat} (h : Tsw w wr ga c gb k) (hk : k < 42) : Tsw w (wr.setCell ⟨ga, k, none⟩ (.string ⟨#[120]⟩)) ga c gb (k + 1) ∧ wr.frozen? ⟨ga, k, none⟩ = false := by
  obtain ⟨q1, q2⟩ := h.a.set k (.string ⟨#[120]⟩)
  rw [xs0_next k hk] at q1
  exact ⟨⟨q1, fun j hj => by rw [World.cell?_setCell_other _ _ _ _ (fun x => h.ne (by injection x))]; exact h.b j hj, h.ne⟩, q2⟩
set_option maxRecDepth 20000 in
set_option maxHeartbeats 4000000 in
theorem stops_walk (x : ByteArray) (w : World) (hS : StopsAt w) :
    Calls Tryd.prog 3 #[.string x] w fun e w' => e = .returned (.bool true) ∧ Kept (fun _ => False) w w' := by
  obtain ⟨i0, hi, hz0, hz1, hz2⟩ := info_parts Tryd.infoS
  have C1 := hideS (fun W (h : StopsAt W) => stops_any W h)
  have C2 : ∀ W, Hid (Calls Tryd.prog 5 #[] W fun e w' => e = .returned (.slice (some ⟨W.heap.size, 0, none⟩) 42 42) ∧ Hid (w' = W.alloc (.cells stV.toArray 9))) := fun W => rstops_any W
  have C3 := hideS (fun y W (h : StopsAt W) => isStop_any y W h)
  have HS := hideS hS
  clear hS
  go_enter Tryd.func3, Tryd.ntmps3
  go_wp2_with (first
    | (go_at_call 4; refine (C1.out _ HS.out).mono ?_; rintro e W1 ⟨a1, c1, rfl, G1⟩; have G1 := hideS G1)
    | (go_at_call 5; refine (C2 _).out.mono ?_; rintro e W2 ⟨rfl, e2⟩))
  obtain ⟨ga, rfl, hga, -⟩ := G1.out.cell (by decide)
  have HT : Hid (Tsw w W2 ga c1 W1.heap.size 0) := hideS (by
    have k2 : Kept (fun _ => False) W1 W2 := by rw [e2.out]; exact Kept.alloc _ _
    refine ⟨G1.out.later k2, fun j hj => ?_, ?_⟩
    · rw [e2.out, World.cell?_alloc_new, List.getElem?_toArray]; exact stV_at j hj
    · obtain ⟨g, e, _, hc⟩ := G1.out.cell (by decide)
      simp only [Option.some.injEq, Addr.mk.injEq, and_true] at e
      subst e
      have := World.block_lt_of_cell? W1 _ (hc 0 _ (stV_at 0 (by decide)))
      simp only at this
      omega)
  generalize W1.heap.size = gb at HT ⊢
  clear G1 e2 hga
  go_loopw [5, 18] (fun v i wr => ∃ (k : Nat) (b : Bool), k ≤ 42 ∧ i = .int .i64 k ∧ v = .bool b ∧ Hid (b = inS x k) ∧ Hid (Tsw w wr ga c1 gb k)) (fun _ i _ => 42 - (intOf i).toNat)
  case atStart => exact ⟨0, false, by omega, rfl, rfl, hideS rfl, HT⟩
  case round =>
    obtain ⟨k, b, hk, rfl, rfl, HB, HR⟩ := hrel
    clear HT
    by_cases hlt : k < 42
    · have ST : Hid (StopsAt wr) := hideS (HS.out.kept HR.out.a.kept (fun f => f))
      have C4 := hideS (isStop_any (stB k) wr ST.out)
      rw [st_are ⟨k, hlt⟩] at C4
      have HX := hideS (fun W (kk : Kept (fun _ => False) wr W) => (HR.out.later kk).next hlt)
      have HY := hideS (fun W (kk : Kept (fun _ => False) wr W) => (⟨(HR.out.later kk).ca hlt, (HR.out.later kk).b k hlt⟩ : _ ∧ _))
      have x0 := HR.out.ca hlt
      have HN := hideS (inS_next x k hlt)
      rw [← HB.out] at HN
      have hkz : (k : Int) < 42 := by omega
      generalize stB k = s at C4 HY x0 HN
      clear C1 C2 C3 HR ST HB
      go_wp2_with (go_at_call 6; refine C4.out.mono ?_; clear C4; rintro e W3 ⟨rfl, k3⟩; have y0 := HX.out W3.drew (k3.trans (Kept.drew _) (fun _ f => f.elim)); have y1 := HY.out W3 k3; clear HX HY x0)
      have f0 : W3.frozen? ⟨ga, k, none⟩ = false := y0.2
      obtain ⟨z0, z1⟩ := y1
      have HZ := hideS y0.1
      clear y0
      have hno : (s.toList != s.toList) = false := by simp
      cases b with
      | true =>
        go_region
        all_goals go_wp2
        all_goals go_roundw
        all_goals first
          | exact ⟨k + 1, true, by omega, by go_num, rfl, hideS (by rw [HN.out]; rfl), HZ⟩
          | (simp [intOf]; omega)
      | false =>
        generalize hq : (s.toList == x.toList) = q at HN
        go_region
        all_goals go_wp2
        all_goals go_roundw
        all_goals first
          | exact ⟨k + 1, q, by omega, by go_num, rfl, hideS (by rw [HN.out]; rfl), HZ⟩
          | (simp [intOf]; omega)
    · obtain rfl : k = 42 := by omega
      have hb := HB.out
      rw [inS_all] at hb
      have ST : Hid (StopsAt wr) := hideS (HS.out.kept HR.out.a.kept (fun f => f))
      have HG := hideS HR.out.a
      have HBl := HR.out.b
      have C5 := fun W (kk : Kept (fun _ => False) w W) => hideS (isStop_any x W (HS.out.kept kk (fun f => f)))
      rw [← hb] at C5
      have hbb : (b != b) = false := by simp
      clear HR HB hb hlt hk ST HBl
      go_wp2_with (first
        | (at_builtin; refine wpList_push rfl _ _ 22 rfl 9 i0 (.string ⟨#[]⟩) 1 16 Tryd.underlying22 hi hz0 hz1 hz2 rfl (by decide) _ 42 _ [.string ⟨#[121]⟩] rfl HG rfl rfl (one_str _) (hideS (by omega)) (hideS (by unfold maxLen; omega)) ?_; intro a' c' W4 HG'; obtain ⟨g', rfl, -, hc'⟩ := HG'.out.cell (by decide); have u4 := hideS (hc' 0 (.string ⟨#[120]⟩) rfl); clear hc')
        | (go_at_call 6; refine (C5 _ HG'.out.kept).out.mono ?_; clear C5; rintro e W5 ⟨rfl, k5⟩; have u0 := k5.cell u4.out (fun f => f); have S5 := hideS (HS.out.kept (HG'.out.kept.trans k5 (fun _ f => f.elim)) (fun f => f)); have K5 := hideS (HG'.out.kept.trans k5 (fun _ f => f.elim)); clear HG' k5)
        | (go_at_call 4; refine (C1.out _ S5.out).mono ?_; rintro e W6 ⟨a6, c6, rfl, G6⟩; obtain ⟨g6, rfl, -, hc6⟩ := G6.cell (by decide); have v0 : W6.cell? ⟨g6, 0, none⟩ = some (.string ⟨#[97]⟩) := hc6 0 _ rfl; have v1 : W6.cell? ⟨g6, 41, none⟩ = some (.string ⟨#[121, 111, 117]⟩) := hc6 41 _ rfl; have K6 := hideS (K5.out.trans G6.kept (fun _ f => f.elim)); clear G6 hc6))
      go_ret
      exact ⟨rfl, K6.out⟩
end Go.Proofs.YtccchbadapdagaaDoor
