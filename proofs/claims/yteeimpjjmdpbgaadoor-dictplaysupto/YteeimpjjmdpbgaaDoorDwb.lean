import Derived.Test.YteeimpjjmdpbgaaDoorDwa
import Derived.Test.YteeimpjjmdpbgaaDoorRgb
namespace Go.Proofs.YteeimpjjmdpbgaaDoor
open Go.ChangeShapes Go.WideShapes Go.ChangeAt Go.RowKit Go.Shelf
attribute [local go_sem] Oper.semAt_some

theorem run_equalIn_funcD {P : Program} (w : World) (d : Nat) {t : TypeId} {ps rs : Array TypeId} {v : Bool} (f : Fn) (ts lb : Array Value) (h : P.underlying t = some (.func ps rs v)) : (Op.equalIn (d + 1) t (.func f ts lb) .nilFunc).run P w = .ok false w := by
  simp [Op.equalIn, run_underlying h]
theorem run_eql_funcD {P : Program} (w : World) {t : TypeId} {ps rs : Array TypeId} {v : Bool} (f : Fn) (ts lb : Array Value) (h : P.underlying t = some (.func ps rs v)) : (binOp .eql t (.func f ts lb) .nilFunc).run P w = .ok (.bool false) w := by
  simp only [binOp]
  simp [Op.equal, Op.maxDepth, run_equalIn_funcD w 9999 f ts lb h]
theorem lt_of_cellD {w : World} {b o : Nat} {v : Value} (h : w.cell? ⟨b, o, none⟩ = some v) : b < w.heap.size := by
  unfold World.cell? at h
  cases hx : w.heap[b]? with
  | none => simp [hx] at h
  | some y => exact (Array.getElem?_eq_some_iff.1 hx).1
/-- Where the loop of 'walked' stands. -/
structure WdI (b : Nat) (Wc : World) (f : Nat) (pre : List Nat) (A : World) : Prop where
  k : Kept (fun j => j = b) Wc A
  i : A.heap[b]? = some (.cells #[.int .i64 ((f + pre.length : Nat) : Int)] 3 (0, 0))
theorem WdI.same {b : Nat} {Wc A B : World} {f : Nat} {pre : List Nat} (h : WdI b Wc f pre A) (k : Kept (fun _ => False) A B) : WdI b Wc f pre B :=
  ⟨h.k.trans k (fun _ f => f.elim), k.heap h.i (fun f => f)⟩
set_option maxRecDepth 20000 in
set_option maxHeartbeats 4000000 in
theorem walked_any (hC : ClnOk) (i : Int) (w : World) (ws bd : Nat) (va : Value) (E : List En) (a : Option Addr) (c : Nat) (h : Dct w ws bd va E) (hE : EsAt w a E) (hn : E.length ≤ 1099511627776) (hk : ∀ e ∈ E, e.k.size ≤ 281474976710656) (hi1 : -9223372036854775808 ≤ i) (hi2 : i ≤ 9223372036854775807) :
    Calls Tryd.prog 32 #[.pointer (some ⟨bd, 0, none⟩), .slice a E.length c, .int .i64 i] w fun e w' => e = .returned (.bool true) ∧ Kept (fun _ => False) w w' := by
  refine (callsIn_wide (n := 9)).1 ?_
  have CW : Hid (∀ W, Kept (fun _ => False) w W → Calls Tryd.prog 56 #[.pointer (some ⟨bd, 0, none⟩), .int .i64 i] W fun e w' => ∃ bf bp, e = .returned (.func (.func 63) #[] #[.pointer (some ⟨bf, 0, none⟩), .pointer (some ⟨bp, 0, none⟩)]) ∧ Hid (WkK E ws bd va bf bp i.toNat w') ∧ Hid (W.heap.size ≤ bf ∧ W.heap.size ≤ bp) ∧ Hid (Kept (fun _ => False) W w')) := hideQ (fun W k => (walk_any i W ws bd va E (h.kept k) hi1 hi2).mono (fun e w' ⟨⟨bf, bp, he, h1, h2, h3⟩, k'⟩ => ⟨bf, bp, he, hideQ h1, hideQ ⟨h2, h3⟩, hideQ k'⟩))
  have EF := fun (W : World) (f : Fn) (ts lb : Array Value) => run_eql_funcD (P := Tryd.prog) W f ts lb Tryd.underlying96
  have HE := hideQ hE
  have HKs := hideQ hk
  have HCl := hideQ hC
  have HBd : Hid (bd < w.heap.size ∧ ∀ k, va.ownBlock = some k → k < w.heap.size) := hideQ ⟨lt_of_block h.blk, fun k hk => (h.own.lt k hk).2⟩
  obtain ⟨n, hne⟩ : ∃ n, n = E.length := ⟨_, rfl⟩
  rw [← hne] at hn ⊢
  have HN := hideQ hne
  clear hne hE hk hC h
  refine callsIn_of_wp_marks Tryd.func32 rfl trivial ?_ rfl
  simp only [Tryd.ntmps32, List.size_toArray, List.length_cons, List.length_nil, Nat.reduceAdd, Nat.reduceSub, Array.replicate_succ, Array.replicate_zero, List.push_toArray, List.append_toArray, List.nil_append, List.cons_append]
  by_cases hneg : i < 0
  · have d0 : decide (i < 0) = true := decide_eq_true hneg
    have fz : (0 : Int) = ((i.toNat : Nat) : Int) := by omega
    have A1 := Kept.alloc w (.cells #[.slice a n c] 22)
    have A2 := Kept.alloc (w.alloc (.cells #[.slice a n c] 22)) (.cells #[.bool false] 4)
    have A3 := Kept.alloc ((w.alloc (.cells #[.slice a n c] 22)).alloc (.cells #[.bool false] 4)) (.cells #[.int .i64 0] 3)
    have KA := A1.trans (A2.trans A3 (fun _ f => f.elim)) (fun _ f => f.elim)
    have b4 := A3.heap (A2.heap (heap_alloc_new w (.cells #[.slice a n c] 22)) (fun f => f)) (fun f => f)
    have b6 := A3.heap (heap_alloc_new (w.alloc (.cells #[.slice a n c] 22)) (.cells #[.bool false] 4)) (fun f => f)
    have b7 := heap_alloc_new ((w.alloc (.cells #[.slice a n c] 22)).alloc (.cells #[.bool false] 4)) (.cells #[.int .i64 0] 3)
    have e1 : (w.alloc (.cells #[.slice a n c] 22)).heap.size = w.heap.size + 1 := by simp
    have e2 : ((w.alloc (.cells #[.slice a n c] 22)).alloc (.cells #[.bool false] 4)).heap.size = w.heap.size + 1 + 1 := by simp
    rw [e1] at b6
    rw [e2] at b7
    have HFz := hideQ fz
    have HKA := hideQ KA
    have H4 := hideQ b4
    have H6 := hideQ b6
    have H7 := hideQ b7
    clear A1 A2 A3 KA b4 b6 b7 e1 e2 fz
    gi_wp2_with (refine ⟨trivial, ?_⟩; gi_at_call 56; refine Stp.go ?_)
    refine ⟨?_⟩
    refine (callsIn_wide.2 (CW.out _ HKA.out)).mono ?_
    rintro e Wc ⟨bf, bp, rfl, HW, HBf, K1⟩
    have G4 := hideQ (K1.out.heap H4.out (fun f => f))
    have G6 := hideQ (K1.out.heap H6.out (fun f => f))
    have G7 := K1.out.heap H7.out (fun f => f)
    rw [HFz.out] at G7
    have G7 := hideQ G7
    have HKc := hideQ (HKA.out.trans K1.out (fun _ f => f.elim))
    have hbf : w.heap.size + 3 ≤ bf ∧ w.heap.size + 3 ≤ bp := by have := HBf.out; simp at this; omega
    have hWc : w.heap.size + 3 ≤ Wc.heap.size := by have := K1.out.size; simp at this; omega
    clear H4 H6 H7 HKA K1 HBf CW d0
    gi_wp2
    have SQ := walk_seq HCl.out 8 (by decide) E ws bd va bf bp i.toNat (by rw [← HN.out]; exact hn) HKs.out
    refine' range_mf (α := Nat) rfl (by decide) (gf := 63) (lb := #[.pointer (some ⟨bf, 0, none⟩), .pointer (some ⟨bp, 0, none⟩)]) rfl trivial (enters_of Tryd.func63 (by kernel_rfl) rfl) SQ (fun _ => rfl)
      (fun p A => WdI (w.heap.size + 1 + 1) Wc i.toNat p A) (fun _ _ _ => False) ?hK ?hI ?hIx ?hM ?h0 (fun x => .cells #[.string (eat E x).k, .int .i64 (eat E x).d, .int .i64 (eat E x).t, .int .i64 (eat E x).p, .int .i64 (eat E x).s] 62 (0, 0)) (fun x r e => by cases e) _ ?assign ?body ?done ?stop
    case hK =>
      intro p A h
      have q1 := HBd.out
      exact ⟨⟨h.k.heap HW.out.dct.blk (fun e => by omega), h.k.row HW.out.dct.own (fun k hk e => by have := q1.2 k hk; omega), HW.out.dct.new⟩, h.k.cell HW.out.fst (fun e => by simp only at e; omega), h.k.cell HW.out.ptr (fun e => by simp only at e; omega)⟩
    case hI => exact fun p A r r' h _ => ⟨h.k.trans (kept_put1 A _ _) (fun j hj => .inr (by omega)), (kept_put1 A _ _).heap h.i (fun e => by omega)⟩
    case hIx => exact fun _ _ _ _ _ h _ => h
    case hM => exact fun pre x s B B' r h _ _ => h
    case h0 =>
      intro r
      have kk : Kept (fun _ => False) Wc ((Wc.alloc (.deferred (some []))).alloc (.loop r)) := (Kept.alloc _ _).trans (Kept.alloc _ _) (fun _ f => f.elim)
      exact ⟨kk.mono fun _ f => f.elim, kk.heap G7.out (fun f => f)⟩
    case assign =>
      intro l s x B K hs hK
      have hX := heap_alloc_new B (.cells #[.string (eat E x).k, .int .i64 (eat E x).d, .int .i64 (eat E x).t, .int .i64 (eat E x).p, .int .i64 (eat E x).s] 62)
      simp only [encW, enV]
      gi_wp2
      generalize B.heap.size = Bx at hX hs ⊢
      exact hK Bx _ hs (Kept.alloc _ _) hX
    case body =>
      rintro l p x Bx A B hI kAB hM hlt hBx hX
      obtain ⟨hx, hxE⟩ := hM
      have hB := hI.same kAB
      have r7 := hB.i
      rw [← hx] at r7
      have c7 := cell_of_one r7
      have z7 := free_of_one r7
      have c4 := cell_of_one (hB.k.heap G4.out (fun e => by omega))
      obtain ⟨bE, oE, rfl, hcE⟩ := HE.out (by intro e; rw [e] at hxE; simp at hxE)
      obtain ⟨w0, w1, w2, w3, w4⟩ := hcE x hxE
      have hbE : bE < w.heap.size := lt_of_cellD w0
      have y0 := hB.k.cell (HKc.out.cell w0 (fun f => f)) (fun e => by simp only at e; omega)
      have y1 := hB.k.cell (HKc.out.cell w1 (fun f => f)) (fun e => by simp only at e; omega)
      have y2 := hB.k.cell (HKc.out.cell w2 (fun f => f)) (fun e => by simp only at e; omega)
      have y3 := hB.k.cell (HKc.out.cell w3 (fun f => f)) (fun e => by simp only at e; omega)
      have y4 := hB.k.cell (HKc.out.cell w4 (fun f => f)) (fun e => by simp only at e; omega)
      have x0 : B.cell? ⟨Bx, 0, none⟩ = some (.string (eat E x).k) := cell_of_row _ _ 0 _ _ _ hX
      have x1 : B.cell? ⟨Bx, 1, none⟩ = some (.int .i64 (eat E x).d) := cell_of_row _ _ 1 _ _ _ hX
      have x2 : B.cell? ⟨Bx, 2, none⟩ = some (.int .i64 (eat E x).t) := cell_of_row _ _ 2 _ _ _ hX
      have x3 : B.cell? ⟨Bx, 3, none⟩ = some (.int .i64 (eat E x).p) := cell_of_row _ _ 3 _ _ _ hX
      have x4 : B.cell? ⟨Bx, 4, none⟩ = some (.int .i64 (eat E x).s) := cell_of_row _ _ 4 _ _ _ hX
      rw [eat_at hxE] at x0 x1 x2 x3 x4
      have hxn : x < n := by rw [HN.out]; exact hxE
      have FIN : Hid (∀ j, Still Wc.heap.size B ((B.drewN j).setCell ⟨w.heap.size + 1 + 1, 0, none⟩ (.int .i64 ((x : Int) + 1))) ∧ WdI (w.heap.size + 1 + 1) Wc i.toNat (p ++ [x]) ((B.drewN j).setCell ⟨w.heap.size + 1 + 1, 0, none⟩ (.int .i64 ((x : Int) + 1)))) := hideQ (by
        intro j
        have ks := ((Kept.drewN B j).mono fun _ f => f.elim (C := _ ∨ _)).trans (Kept.setCell (B.drewN j) ⟨w.heap.size + 1 + 1, 0, none⟩ (.int .i64 ((x : Int) + 1))) (fun k hk => .inl hk)
        refine ⟨Still.of_kept ks (by have := kAB.size; omega) (fun k hk h => by simp only at h; omega), hB.k.trans ks (fun k hk => .inl hk), ?_⟩
        have := one_setCell (w := B.drewN j) (u := .int .i64 ((x : Int) + 1)) r7
        rw [show ((i.toNat + (p ++ [x]).length : Nat) : Int) = (x : Int) + 1 by rw [List.length_append]; simp; omega]
        exact this)
      generalize E[x] = en at *
      obtain ⟨k, d, t, p', s⟩ := en
      simp only at x0 x1 x2 x3 x4 y0 y1 y2 y3 y4
      have i1 : (x : Int) < (n : Int) := by omega
      have i2 : decide (n ≤ x) = false := decide_eq_false (by omega)
      have i3 : decide ((n : Int) ≤ (x : Int)) = false := decide_eq_false (by omega)
      clear hI kAB hB r7 hX hcE w0 w1 w2 w3 w4 hxE hx hlt hBx SQ HE
      gi_wp2
      refine quiet_round rfl (by kernel_rfl) (by kernel_rfl) (by kernel_rfl) ?_
      repeat (gi_big_quiet_step (fail))
      refine wpQuietIn_nil ?_
      intro _ hw'
      obtain ⟨nq, hw''⟩ := hw'
      subst hw''
      gi_wp2
      all_goals exact FIN.out nq
    case done =>
      intro xs A W5 hS hI k hD
      have hB := hI.same k
      obtain ⟨z, hz⟩ : ∃ z, z = i.toNat + xs.length := ⟨_, rfl⟩
      have r7 := hB.i
      rw [← hz] at r7
      have hzn : n ≤ z := by rw [HN.out]; omega
      have c7 := cell_of_one r7
      have c4 := cell_of_one (hB.k.heap G4.out (fun e => by omega))
      have r6 := hB.k.heap G6.out (fun e => by omega)
      have c6 := cell_of_one r6
      have z6 := free_of_one r6
      have i1 : (n : Int) ≤ (z : Int) := by omega
      have i2 : decide ((n : Int) ≤ (z : Int)) = true := decide_eq_true i1
      have i3 : decide (n ≤ z) = true := decide_eq_true hzn
      have HK5 : Hid (Kept (fun j => j = w.heap.size + 1 + 1) Wc W5) := hideQ hB.k
      have HD5 := hideQ hD
      have R6 := hideQ r6
      clear hB hI k hS hz r7 r6 SQ HE hD
      gi_wp2
      have hD2 : (W5.setCell ⟨w.heap.size + 1, 0, none⟩ (.bool true)).heap[Wc.heap.size]? = some (.deferred (some [])) := (Kept.setCell W5 ⟨w.heap.size + 1, 0, none⟩ (.bool true)).heap HD5.out (fun e => by simp only at e; omega)
      have r6 := one_setCell (u := .bool true) R6.out
      refine ⟨by simp, .inl ⟨_, _, rfl, run_takeDeferred hD2, ?_⟩⟩
      have c9 : ((W5.setCell ⟨w.heap.size + 1, 0, none⟩ (.bool true)).putObj Wc.heap.size (.deferred none)).cell? ⟨w.heap.size + 1, 0, none⟩ = some (.bool true) := cell_of_one ((kept_put1 _ _ _).heap r6 (fun e => by omega))
      refine ⟨.bool true, by simp [results, Tryd.results32, go_sem, c9], rfl, ?_⟩
      exact ((HKc.out.trans HK5.out (fun j hj => .inr (by omega))).trans (Kept.setCell W5 ⟨w.heap.size + 1, 0, none⟩ (.bool true)) (fun j hj => .inr (by simp only at hj; omega))).trans (kept_put1 _ _ _) (fun j hj => .inr (by omega))
    case stop => exact fun _ _ _ _ h _ _ => h.elim
  · have d0 : decide (i < 0) = false := decide_eq_false hneg
    have fz : (i : Int) = ((i.toNat : Nat) : Int) := by omega
    have A1 := Kept.alloc w (.cells #[.slice a n c] 22)
    have A2 := Kept.alloc (w.alloc (.cells #[.slice a n c] 22)) (.cells #[.bool false] 4)
    have A3 := Kept.alloc ((w.alloc (.cells #[.slice a n c] 22)).alloc (.cells #[.bool false] 4)) (.cells #[.int .i64 i] 3)
    have KA := A1.trans (A2.trans A3 (fun _ f => f.elim)) (fun _ f => f.elim)
    have b4 := A3.heap (A2.heap (heap_alloc_new w (.cells #[.slice a n c] 22)) (fun f => f)) (fun f => f)
    have b6 := A3.heap (heap_alloc_new (w.alloc (.cells #[.slice a n c] 22)) (.cells #[.bool false] 4)) (fun f => f)
    have b7 := heap_alloc_new ((w.alloc (.cells #[.slice a n c] 22)).alloc (.cells #[.bool false] 4)) (.cells #[.int .i64 i] 3)
    have e1 : (w.alloc (.cells #[.slice a n c] 22)).heap.size = w.heap.size + 1 := by simp
    have e2 : ((w.alloc (.cells #[.slice a n c] 22)).alloc (.cells #[.bool false] 4)).heap.size = w.heap.size + 1 + 1 := by simp
    rw [e1] at b6
    rw [e2] at b7
    have HFz := hideQ fz
    have HKA := hideQ KA
    have H4 := hideQ b4
    have H6 := hideQ b6
    have H7 := hideQ b7
    clear A1 A2 A3 KA b4 b6 b7 e1 e2 fz
    gi_wp2_with (refine ⟨trivial, ?_⟩; gi_at_call 56; refine Stp.go ?_)
    refine ⟨?_⟩
    refine (callsIn_wide.2 (CW.out _ HKA.out)).mono ?_
    rintro e Wc ⟨bf, bp, rfl, HW, HBf, K1⟩
    have G4 := hideQ (K1.out.heap H4.out (fun f => f))
    have G6 := hideQ (K1.out.heap H6.out (fun f => f))
    have G7 := K1.out.heap H7.out (fun f => f)
    rw [HFz.out] at G7
    have G7 := hideQ G7
    have HKc := hideQ (HKA.out.trans K1.out (fun _ f => f.elim))
    have hbf : w.heap.size + 3 ≤ bf ∧ w.heap.size + 3 ≤ bp := by have := HBf.out; simp at this; omega
    have hWc : w.heap.size + 3 ≤ Wc.heap.size := by have := K1.out.size; simp at this; omega
    clear H4 H6 H7 HKA K1 HBf CW d0
    gi_wp2
    have SQ := walk_seq HCl.out 8 (by decide) E ws bd va bf bp i.toNat (by rw [← HN.out]; exact hn) HKs.out
    refine' range_mf (α := Nat) rfl (by decide) (gf := 63) (lb := #[.pointer (some ⟨bf, 0, none⟩), .pointer (some ⟨bp, 0, none⟩)]) rfl trivial (enters_of Tryd.func63 (by kernel_rfl) rfl) SQ (fun _ => rfl)
      (fun p A => WdI (w.heap.size + 1 + 1) Wc i.toNat p A) (fun _ _ _ => False) ?hK ?hI ?hIx ?hM ?h0 (fun x => .cells #[.string (eat E x).k, .int .i64 (eat E x).d, .int .i64 (eat E x).t, .int .i64 (eat E x).p, .int .i64 (eat E x).s] 62 (0, 0)) (fun x r e => by cases e) _ ?assign ?body ?done ?stop
    case hK =>
      intro p A h
      have q1 := HBd.out
      exact ⟨⟨h.k.heap HW.out.dct.blk (fun e => by omega), h.k.row HW.out.dct.own (fun k hk e => by have := q1.2 k hk; omega), HW.out.dct.new⟩, h.k.cell HW.out.fst (fun e => by simp only at e; omega), h.k.cell HW.out.ptr (fun e => by simp only at e; omega)⟩
    case hI => exact fun p A r r' h _ => ⟨h.k.trans (kept_put1 A _ _) (fun j hj => .inr (by omega)), (kept_put1 A _ _).heap h.i (fun e => by omega)⟩
    case hIx => exact fun _ _ _ _ _ h _ => h
    case hM => exact fun pre x s B B' r h _ _ => h
    case h0 =>
      intro r
      have kk : Kept (fun _ => False) Wc ((Wc.alloc (.deferred (some []))).alloc (.loop r)) := (Kept.alloc _ _).trans (Kept.alloc _ _) (fun _ f => f.elim)
      exact ⟨kk.mono fun _ f => f.elim, kk.heap G7.out (fun f => f)⟩
    case assign =>
      intro l s x B K hs hK
      have hX := heap_alloc_new B (.cells #[.string (eat E x).k, .int .i64 (eat E x).d, .int .i64 (eat E x).t, .int .i64 (eat E x).p, .int .i64 (eat E x).s] 62)
      simp only [encW, enV]
      gi_wp2
      generalize B.heap.size = Bx at hX hs ⊢
      exact hK Bx _ hs (Kept.alloc _ _) hX
    case body =>
      rintro l p x Bx A B hI kAB hM hlt hBx hX
      obtain ⟨hx, hxE⟩ := hM
      have hB := hI.same kAB
      have r7 := hB.i
      rw [← hx] at r7
      have c7 := cell_of_one r7
      have z7 := free_of_one r7
      have c4 := cell_of_one (hB.k.heap G4.out (fun e => by omega))
      obtain ⟨bE, oE, rfl, hcE⟩ := HE.out (by intro e; rw [e] at hxE; simp at hxE)
      obtain ⟨w0, w1, w2, w3, w4⟩ := hcE x hxE
      have hbE : bE < w.heap.size := lt_of_cellD w0
      have y0 := hB.k.cell (HKc.out.cell w0 (fun f => f)) (fun e => by simp only at e; omega)
      have y1 := hB.k.cell (HKc.out.cell w1 (fun f => f)) (fun e => by simp only at e; omega)
      have y2 := hB.k.cell (HKc.out.cell w2 (fun f => f)) (fun e => by simp only at e; omega)
      have y3 := hB.k.cell (HKc.out.cell w3 (fun f => f)) (fun e => by simp only at e; omega)
      have y4 := hB.k.cell (HKc.out.cell w4 (fun f => f)) (fun e => by simp only at e; omega)
      have x0 : B.cell? ⟨Bx, 0, none⟩ = some (.string (eat E x).k) := cell_of_row _ _ 0 _ _ _ hX
      have x1 : B.cell? ⟨Bx, 1, none⟩ = some (.int .i64 (eat E x).d) := cell_of_row _ _ 1 _ _ _ hX
      have x2 : B.cell? ⟨Bx, 2, none⟩ = some (.int .i64 (eat E x).t) := cell_of_row _ _ 2 _ _ _ hX
      have x3 : B.cell? ⟨Bx, 3, none⟩ = some (.int .i64 (eat E x).p) := cell_of_row _ _ 3 _ _ _ hX
      have x4 : B.cell? ⟨Bx, 4, none⟩ = some (.int .i64 (eat E x).s) := cell_of_row _ _ 4 _ _ _ hX
      rw [eat_at hxE] at x0 x1 x2 x3 x4
      have hxn : x < n := by rw [HN.out]; exact hxE
      have FIN : Hid (∀ j, Still Wc.heap.size B ((B.drewN j).setCell ⟨w.heap.size + 1 + 1, 0, none⟩ (.int .i64 ((x : Int) + 1))) ∧ WdI (w.heap.size + 1 + 1) Wc i.toNat (p ++ [x]) ((B.drewN j).setCell ⟨w.heap.size + 1 + 1, 0, none⟩ (.int .i64 ((x : Int) + 1)))) := hideQ (by
        intro j
        have ks := ((Kept.drewN B j).mono fun _ f => f.elim (C := _ ∨ _)).trans (Kept.setCell (B.drewN j) ⟨w.heap.size + 1 + 1, 0, none⟩ (.int .i64 ((x : Int) + 1))) (fun k hk => .inl hk)
        refine ⟨Still.of_kept ks (by have := kAB.size; omega) (fun k hk h => by simp only at h; omega), hB.k.trans ks (fun k hk => .inl hk), ?_⟩
        have := one_setCell (w := B.drewN j) (u := .int .i64 ((x : Int) + 1)) r7
        rw [show ((i.toNat + (p ++ [x]).length : Nat) : Int) = (x : Int) + 1 by rw [List.length_append]; simp; omega]
        exact this)
      generalize E[x] = en at *
      obtain ⟨k, d, t, p', s⟩ := en
      simp only at x0 x1 x2 x3 x4 y0 y1 y2 y3 y4
      have i1 : (x : Int) < (n : Int) := by omega
      have i2 : decide (n ≤ x) = false := decide_eq_false (by omega)
      have i3 : decide ((n : Int) ≤ (x : Int)) = false := decide_eq_false (by omega)
      clear hI kAB hB r7 hX hcE w0 w1 w2 w3 w4 hxE hx hlt hBx SQ HE
      gi_wp2
      refine quiet_round rfl (by kernel_rfl) (by kernel_rfl) (by kernel_rfl) ?_
      repeat (gi_big_quiet_step (fail))
      refine wpQuietIn_nil ?_
      intro _ hw'
      obtain ⟨nq, hw''⟩ := hw'
      subst hw''
      gi_wp2
      all_goals exact FIN.out nq
    case done =>
      intro xs A W5 hS hI k hD
      have hB := hI.same k
      obtain ⟨z, hz⟩ : ∃ z, z = i.toNat + xs.length := ⟨_, rfl⟩
      have r7 := hB.i
      rw [← hz] at r7
      have hzn : n ≤ z := by rw [HN.out]; omega
      have c7 := cell_of_one r7
      have c4 := cell_of_one (hB.k.heap G4.out (fun e => by omega))
      have r6 := hB.k.heap G6.out (fun e => by omega)
      have c6 := cell_of_one r6
      have z6 := free_of_one r6
      have i1 : (n : Int) ≤ (z : Int) := by omega
      have i2 : decide ((n : Int) ≤ (z : Int)) = true := decide_eq_true i1
      have i3 : decide (n ≤ z) = true := decide_eq_true hzn
      have HK5 : Hid (Kept (fun j => j = w.heap.size + 1 + 1) Wc W5) := hideQ hB.k
      have HD5 := hideQ hD
      have R6 := hideQ r6
      clear hB hI k hS hz r7 r6 SQ HE hD
      gi_wp2
      have hD2 : (W5.setCell ⟨w.heap.size + 1, 0, none⟩ (.bool true)).heap[Wc.heap.size]? = some (.deferred (some [])) := (Kept.setCell W5 ⟨w.heap.size + 1, 0, none⟩ (.bool true)).heap HD5.out (fun e => by simp only at e; omega)
      have r6 := one_setCell (u := .bool true) R6.out
      refine ⟨by simp, .inl ⟨_, _, rfl, run_takeDeferred hD2, ?_⟩⟩
      have c9 : ((W5.setCell ⟨w.heap.size + 1, 0, none⟩ (.bool true)).putObj Wc.heap.size (.deferred none)).cell? ⟨w.heap.size + 1, 0, none⟩ = some (.bool true) := cell_of_one ((kept_put1 _ _ _).heap r6 (fun e => by omega))
      refine ⟨.bool true, by simp [results, Tryd.results32, go_sem, c9], rfl, ?_⟩
      exact ((HKc.out.trans HK5.out (fun j hj => .inr (by omega))).trans (Kept.setCell W5 ⟨w.heap.size + 1, 0, none⟩ (.bool true)) (fun j hj => .inr (by simp only at hj; omega))).trans (kept_put1 _ _ _) (fun j hj => .inr (by omega))
    case stop => exact fun _ _ _ _ h _ _ => h.elim
end Go.Proofs.YteeimpjjmdpbgaaDoor
