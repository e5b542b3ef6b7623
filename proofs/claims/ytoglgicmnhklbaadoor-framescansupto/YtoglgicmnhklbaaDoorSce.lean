import Derived.Test.YtoglgicmnhklbaaDoorScd
import Derived.Sort.QuietIn
namespace Go.Proofs.YtoglgicmnhklbaaDoor
open Go.ChangeShapes Go.WideShapes Go.ChangeAt Go.RowKit Go.Shelf
attribute [local go_sem] Oper.semAt_some

theorem run_equalIn_func {P : Program} (w : World) (d : Nat) {t : TypeId} {ps rs : Array TypeId} {v : Bool} (f : Fn) (ts lb : Array Value) (h : P.underlying t = some (.func ps rs v)) : (Op.equalIn (d + 1) t (.func f ts lb) .nilFunc).run P w = .ok false w := by
  simp [Op.equalIn, run_underlying h]
theorem run_eql_func {P : Program} (w : World) {t : TypeId} {ps rs : Array TypeId} {v : Bool} (f : Fn) (ts lb : Array Value) (h : P.underlying t = some (.func ps rs v)) : (binOp .eql t (.func f ts lb) .nilFunc).run P w = .ok (.bool false) w := by
  simp only [binOp]
  simp [Op.equal, Op.maxDepth, run_equalIn_func w 9999 f ts lb h]
theorem scn_len : ∀ (f p : Nat) (l : List Int), IsBytes l → 6 * (scn f p l).length ≤ l.length
  | 0, _, _, _ => by simp [scn]
  | f + 1, p, l, hb => by
    cases hd : decR l with
    | error e => rw [scn_err hd]; simp
    | ok tbn =>
      obtain ⟨t, b, n⟩ := tbn
      obtain ⟨_, _, h6, hn, _⟩ := decR_ok hb hd
      have := scn_len f (p + n) (l.drop n) (fun y hy => hb y (List.mem_of_mem_drop hy))
      rw [scn_ok hd, List.length_cons]
      rw [List.length_drop] at this
      omega
theorem scan_len (L : List Int) (hb : IsBytes L) : 6 * (scan L).length ≤ L.length := scn_len _ _ _ hb
theorem Tryd.infoInt : (Tryd.prog.info? 3).map (fun i => (i.zero, i.size, i.bytes)) = some (some (.int .i64 0), 1, 8) := by kernel_rfl
theorem nw_one (B : World) (v : Value) (t : TypeId) : ∀ j u, ([v] : List Value)[j]? = some u → (B.alloc (.cells #[v] t)).cell? ((⟨B.heap.size, 0, none⟩ : Addr).add j) = some u := by
  intro j u hj
  match j, hj with
  | 0, hj =>
    have e : u = v := by simpa using hj.symm
    rw [e]
    exact cell_of_one (heap_alloc_new B _)
theorem one_cell_int {k : IntKind} {n : Int} : ∀ u ∈ ([.int k n] : List Value), u.oneCell' = true := by
  intro u hu
  rw [List.mem_singleton] at hu
  subst hu
  rfl
theorem nw_two (B : World) (x : BkD) (t : TypeId) : ∀ j u, x.cells[j]? = some u → (B.alloc (.cells #[.int .u8 x.t, .slice x.a x.B.length x.c] t)).cell? ((⟨B.heap.size, 0, none⟩ : Addr).add j) = some u := by
  intro j u hj
  match j, hj with
  | 0, hj => exact (cell_of_row _ _ 0 _ _ _ (heap_alloc_new B _)).trans hj
  | 1, hj => exact (cell_of_row _ _ 1 _ _ _ (heap_alloc_new B _)).trans hj
theorem two_cell (x : BkD) : ∀ u ∈ x.cells, u.oneCell' = true := by
  intro u hu
  simp only [BkD.cells, List.mem_cons, List.not_mem_nil, or_false] at hu
  rcases hu with rfl | rfl <;> rfl
/-- The memory of 'scanned' ahead of its loop. -/
structure Wp5 (w : World) (most : Int) (W : World) : Prop where
  h0 : W.heap[w.heap.size]? = some (.cells #[.int .i64 most] 3 (0, 0))
  h1 : W.heap[w.heap.size + 1]? = some (.cells #[] 3 (0, 0))
  h2 : W.heap[w.heap.size + 1 + 1]? = some (.cells #[.slice (some ⟨w.heap.size + 1, 0, none⟩) 0 0] 24 (0, 0))
  h3 : W.heap[w.heap.size + 1 + 1 + 1]? = some (.cells #[] 35 (0, 0))
  h4 : W.heap[w.heap.size + 1 + 1 + 1 + 1]? = some (.cells #[.slice (some ⟨w.heap.size + 1 + 1 + 1, 0, none⟩) 0 0] 25 (0, 0))
  k : Kept (fun _ => False) w W
theorem Wp5.kept {w W W' : World} {most : Int} (h : Wp5 w most W) (k : Kept (fun _ => False) W W') : Wp5 w most W' :=
  ⟨k.heap h.h0 (fun f => f), k.heap h.h1 (fun f => f), k.heap h.h2 (fun f => f), k.heap h.h3 (fun f => f), k.heap h.h4 (fun f => f), h.k.trans k (fun _ f => f.elim)⟩
theorem wp5_new (w : World) (most : Int) : Wp5 w most (((((w.alloc (.cells #[.int .i64 most] 3)).alloc (.cells #[] 3)).alloc (.cells #[.slice (some ⟨w.heap.size + 1, 0, none⟩) 0 0] 24)).alloc (.cells #[] 35)).alloc (.cells #[.slice (some ⟨w.heap.size + 1 + 1 + 1, 0, none⟩) 0 0] 25)) := by
  have at_ : ∀ (W : World) (o : Obj) (k : Nat), W.heap.size = k → (W.alloc o).heap[k]? = some o := fun W o k e => by rw [← e]; exact heap_alloc_new W o
  have up : ∀ (W : World) (o o' : Obj) (k : Nat), W.heap[k]? = some o → (W.alloc o').heap[k]? = some o := fun W o o' k h => (Kept.alloc W o').heap h (fun f => f)
  refine ⟨?_, ?_, ?_, ?_, ?_, ((((Kept.alloc _ _).trans (Kept.alloc _ _) (fun _ f => f.elim)).trans (Kept.alloc _ _) (fun _ f => f.elim)).trans (Kept.alloc _ _) (fun _ f => f.elim)).trans (Kept.alloc _ _) (fun _ f => f.elim)⟩
  · exact up _ _ _ _ (up _ _ _ _ (up _ _ _ _ (up _ _ _ _ (at_ _ _ _ rfl))))
  · exact up _ _ _ _ (up _ _ _ _ (up _ _ _ _ (at_ _ _ _ (by simp))))
  · exact up _ _ _ _ (up _ _ _ _ (at_ _ _ _ (by simp)))
  · exact up _ _ _ _ (at_ _ _ _ (by simp))
  · exact at_ _ _ _ (by simp)
set_option maxRecDepth 100000 in
set_option maxHeartbeats 8000000 in
theorem scanned_any (L : List Int) (a : Option Addr) (n c : Nat) (most : Int) (w : World) {a0 a1 a5 a6 : Addr} (hn : n = L.length) (hB : BytesAt w a L) (hb : IsBytes L) (ha : a = none → c = 0) (hl : n ≤ 1099511627776) (hT : TabAt w) (hE : Errs4 w a0 a1 a5 a6) :
    Calls Tryd.prog 8 #[.slice a n c, .int .i64 most] w fun e W => ∃ (pre : List Sx) (e1 e2 : Option Addr) (c1 c2 : Nat), e = .returned (.tuple #[.slice e1 pre.length c1, .slice e2 pre.length c2]) ∧ PlacesAt W e1 (pre.map Sx.p) ∧ Bl w W (.slice e2 pre.length c2) (pre.map Sx.D) ∧ pre.map Sx.dat = (scan L).take most.toNat := by
  refine (callsIn_wide (n := 9)).1 ?_
  have SC : Hid (∀ W, Kept (fun _ => False) w W → Calls Tryd.prog 11 #[.slice a n c] W fun e W' => ∃ bk a' c', e = .returned (.func (.func 21) #[] #[.pointer (some ⟨bk, 0, none⟩)]) ∧ Hid (W.heap.size ≤ bk) ∧ Hid (W'.cell? ⟨bk, 0, none⟩ = some (.slice a' n c')) ∧ Hid (OwnB W W' (.slice a' n c') L)) := fun W q => scan_any L a n c W hn (bytes_keptF hB q) ha (by omega)
  have K0 := hideC (wp5_new w most)
  have EF := fun (W : World) (f : Fn) (ts lb : Array Value) => run_eql_func (P := Tryd.prog) W f ts lb Tryd.underlying32
  have HN := hideC hn
  have HB := hideC hb
  have HT := hideC hT
  have HE := hideC hE
  clear hn hb hT hE hB ha
  refine callsIn_of_wp_marks Tryd.func8 rfl trivial ?_ rfl
  simp only [Tryd.ntmps8, List.size_toArray, List.length_cons, List.length_nil, Nat.reduceAdd, Nat.reduceSub, Array.replicate_succ, Array.replicate_zero, List.push_toArray, List.append_toArray, List.nil_append, List.cons_append]
  gi_wp2_with (refine ⟨trivial, ?_⟩; gi_at_call 11; refine (callsIn_wide.2 (SC.out _ K0.out.k)).mono ?_; rintro e Wc ⟨bk, ac, cc, rfl, H1, H2, H3⟩; have KC := hideC (K0.out.kept H3.out.kept); clear SC)
  have lo : w.heap.size + 5 ≤ Wc.heap.size := by have := size_of_some KC.out.h4; omega
  obtain ⟨hac, hcc, hab⟩ := own_scan H3.out
  have SK : Hid (∀ pre A v1 v2, ScI w Wc L most v1 v2 pre A → ScK L bk ac cc a0 a1 a5 a6 A) := by
    intro pre A v1 v2 h
    have kw := h.two.r2.kept
    have hb1 : w.heap.size + 5 ≤ bk := by have := H1.out; simp at this; omega
    refine ⟨HT.out.kept kw, HE.out.kept kw, ?_, fun hne => ?_⟩
    · rw [← HN.out]
      exact h.kc.cell H2.out (fun f => by simp only at f; omega)
    · obtain ⟨a2, c2, e2, hb2, _⟩ := H3.out.at
      simp only [Value.slice.injEq] at e2
      obtain ⟨rfl, _, rfl⟩ := e2
      obtain ⟨b', off', e', hc⟩ := hb2 hne
      refine ⟨b', off', e', fun j hj => h.kc.cell (hc j hj) (fun f => ?_)⟩
      have := hab _ e'
      simp at this f
      omega
  have SQ := scan_seq 8 (by decide) L ac bk n cc a0 a1 a5 a6 HB.out HN.out hac hcc (by omega)
  refine range_m (α := Sx) rfl (by decide) (gf := 21) (lb := #[.pointer (some ⟨bk, 0, none⟩)]) rfl trivial (enters_of Tryd.func21 (by kernel_rfl) rfl) SQ (fun _ => rfl)
    (fun pre W => ∃ v1 v2, ScI w Wc L most v1 v2 pre W) (fun cd _ W => cd = .exit 0 ∧ ∃ pre v1 v2, ScI w Wc L most v1 v2 pre W ∧ most.toNat ≤ pre.length)
    (fun pre A ⟨v1, v2, h⟩ => SK.out pre A v1 v2 h) ?_ ?_ ?_ ?_
    (fun x s a' W => ∃ Bx, s ≤ Bx ∧ W.heap[Bx]? = some (.cells #[.int .u8 x.D.t, .slice x.D.a x.D.B.length x.D.c] 35 (0, 0)) ∧ a' = { tmps := #[.slice a n c, .int .i64 most, undef, .pointer (some ⟨w.heap.size, 0, none⟩), .slice none 0 0, .slice none 0 0, .pointer (some ⟨w.heap.size + 1 + 1, 0, none⟩), .pointer (some ⟨w.heap.size + 1 + 1 + 1 + 1, 0, none⟩), .func (.func 21) #[] #[.pointer (some ⟨bk, 0, none⟩)], .int .i64 x.p, .pointer (some ⟨Bx, 0, none⟩), .slice (some ⟨w.heap.size + 1, 0, none⟩) 0 0, .slice (some ⟨w.heap.size + 1 + 1 + 1, 0, none⟩) 0 0, .slice a n c, .func (.func 21) #[] #[.pointer (some ⟨bk, 0, none⟩)], .func (.func 21) #[] #[.pointer (some ⟨bk, 0, none⟩)], .bool false, undef, .func (.func 21) #[] #[.pointer (some ⟨bk, 0, none⟩)], .int .i64 x.p, .agg #[.int .u8 x.D.t, .slice x.D.a x.D.B.length x.D.c], undef, undef, undef, undef, undef, undef, undef, undef, undef, undef, undef, undef, undef, undef], defers := [] })
    ?_ ?_ ?_ ?_ ?_
  · rintro pre A r r' ⟨v1, v2, h⟩ _
    exact ⟨v1, v2, h.keptX (kept_put1 A _ _) (fun i hi => by omega)⟩
  · rintro cd pre A r r' ⟨e, pre', v1, v2, h, hle⟩ _
    exact ⟨e, pre', v1, v2, h.keptX (kept_put1 A _ _) (fun i hi => by omega), hle⟩
  · intro pre x s B B' r hm hr k
    refine ⟨k.row hm.row (fun i hi hx => ?_), hm.t0, hm.t2, hm.isb, hm.come⟩
    rcases hm.row.2 with ⟨e, _⟩ | ⟨g, cap, cur, e, _, hg, _⟩
    · rw [e] at hi
      cases hi
    · rw [e] at hi
      have hi : g = i := Option.some.inj hi
      rw [← hx, ← hi, hg] at hr
      cases hr
  · intro r
    have kk : Kept (fun _ => False) Wc ((Wc.alloc (.deferred (some []))).alloc (.loop r)) := (Kept.alloc _ _).trans (Kept.alloc _ _) (fun _ f => f.elim)
    have q := KC.out.kept kk
    refine ⟨.slice (some ⟨w.heap.size + 1, 0, none⟩) 0 0, .slice (some ⟨w.heap.size + 1 + 1 + 1, 0, none⟩) 0 0, ⟨⟨?_, ⟨?_, fun x hx => (by cases hx), fun x hx => (by cases hx), q.k⟩, fun i hi => .inl (Option.some.inj hi).symm, fun i hi => .inl (Option.some.inj hi).symm, fun i hi he => ?_, fun x hx => (by cases hx)⟩, q.h0, q.h2, q.h4, kk.mono (fun _ f => f.elim), Nat.zero_le _, ⟨_, rfl⟩, by simp, lo⟩⟩
    · exact ⟨rfl, .inr ⟨w.heap.size + 1, 0, #[], rfl, by omega, q.h1, Nat.le_refl _, Nat.zero_le _, rfl, rfl⟩⟩
    · exact ⟨rfl, .inr ⟨w.heap.size + 1 + 1 + 1, 0, #[], rfl, by omega, q.h3, Nat.le_refl _, Nat.zero_le _, rfl, rfl⟩⟩
    · have h1 : w.heap.size + 1 = i := Option.some.inj hi
      have h2 : w.heap.size + 1 + 1 + 1 = i := Option.some.inj he
      omega
  · rintro x s a' B r r' ⟨Bx, h1, h2, rfl⟩ hr
    refine ⟨Bx, h1, ?_, rfl⟩
    rw [World.putObj_heap_other (fun e => by rw [e, hr] at h2; cases h2)]
    exact h2
  · intro l s x B K hs hK
    simp only [Sx.encs]
    gi_wp2
    exact hK _ _ (Kept.alloc _ _) ⟨B.heap.size, hs, heap_alloc_new B _, rfl⟩
  · rintro l pre x a' A B ⟨v1, v2, hI⟩ kAB hM hlt ⟨Bx, hBx, hX, rfl⟩
    have hB := hI.same kAB
    obtain ⟨e1, c1, hv1, _⟩ := hB.two.places
    rw [List.length_map] at hv1
    obtain ⟨d, hd⟩ : ∃ d, d = pre.length := ⟨_, rfl⟩
    rw [← hd] at hv1
    subst hv1
    obtain ⟨e2, c2, hv2, _⟩ := hB.two.r2.at
    rw [List.length_map, ← hd] at hv2
    subst hv2
    have q0 := cell_of_one hB.b0
    have q1 := cell_of_one hB.b1
    have HB2 := hideC hB
    have HI := hideC hI
    have KAB := hideC kAB
    have HM := hideC hM
    have HX := hideC hX
    have HD := hideC hd
    clear hB hI kAB hM hX hd
    by_cases hmost : most ≤ (d : Int)
    · gi_wp2
      exact ⟨fun _ _ => rfl, rfl, pre, _, _, HB2.out, by rw [← HD.out]; omega⟩
    · obtain ⟨i0, hi, hz0, hz1, hz2⟩ := info_parts Tryd.infoInt
      obtain ⟨j0, hj, hy0, hy1, hy2⟩ := info_parts Tryd.infoBk
      have hdl : d ≤ 1099511627776 := by
        obtain ⟨rest, hr⟩ := HB2.out.come
        have h1 := scan_len L HB.out
        rw [hr, List.length_append, List.length_map, ← HD.out, ← HN.out] at h1
        omega
      have R1 : Hid ((B.alloc (.cells #[.int .i64 x.p] 3)).ownsRow w.heap.size 3 1 (.slice e1 d c1) d (pls (pre.map Sx.p))) := by
        have := (HB2.out.two.same (Kept.alloc B (.cells #[.int .i64 x.p] 3))).r1
        rw [List.length_map, ← HD.out] at this
        exact this
      have S1 : Hid (∀ g cap W1, W1.ownsRow w.heap.size 3 1 (.slice (some ⟨g, 0, none⟩) (d + 1) cap) (d + 1) (pls (pre.map Sx.p) ++ [.int .i64 x.p]) → (B.alloc (.cells #[.int .i64 x.p] 3)).grownBy W1 (Value.slice e1 d c1).ownBlock → ((Value.slice e1 d c1).ownBlock = some g ∨ g = (B.alloc (.cells #[.int .i64 x.p] 3)).heap.size) →
          W1.cell? ⟨w.heap.size + 1 + 1, 0, none⟩ = some (.slice e1 d c1) ∧ W1.frozen? ⟨w.heap.size + 1 + 1, 0, none⟩ = false ∧ (W1.setCell ⟨w.heap.size + 1 + 1, 0, none⟩ (.slice (some ⟨g, 0, none⟩) (d + 1) cap)).cell? ⟨w.heap.size + 1 + 1 + 1 + 1, 0, none⟩ = some (.slice e2 d c2) ∧ (W1.setCell ⟨w.heap.size + 1 + 1, 0, none⟩ (.slice (some ⟨g, 0, none⟩) (d + 1) cap)).cell? ⟨Bx, 0, none⟩ = some (.int .u8 x.D.t) ∧ (W1.setCell ⟨w.heap.size + 1 + 1, 0, none⟩ (.slice (some ⟨g, 0, none⟩) (d + 1) cap)).cell? ⟨Bx, 1, none⟩ = some (.slice x.D.a x.D.B.length x.D.c) ∧
          Hid (ScH w Wc B (.slice (some ⟨g, 0, none⟩) (d + 1) cap) (.slice e2 d c2) (pre.map Sx.p ++ [x.p]) (pre.map Sx.D) x (W1.setCell ⟨w.heap.size + 1 + 1, 0, none⟩ (.slice (some ⟨g, 0, none⟩) (d + 1) cap)))) := by
        intro g cap W1 h1 h2 h3
        obtain ⟨r1, r2, r3⟩ := sc_first HI.out KAB.out HM.out hBx HX.out (m := d + 1) (by rw [List.length_append, List.length_map, ← HD.out]; rfl) h1 h2 h3
        exact ⟨cell_of_one r1, free_of_one r1, cell_of_one r3.b2, cell_of_row _ _ 0 _ _ _ r2, cell_of_row _ _ 1 _ _ _ r2, r3⟩
      have S2 : Hid (∀ v1' W2, ScH w Wc B v1' (.slice e2 d c2) (pre.map Sx.p ++ [x.p]) (pre.map Sx.D) x W2 → ∀ g cap W4, W4.ownsRow w.heap.size 35 2 (.slice (some ⟨g, 0, none⟩) (d + 1) cap) (d + 1) (rowsB (pre.map Sx.D) ++ x.D.cells) → (W2.alloc (.cells #[.int .u8 x.D.t, .slice x.D.a x.D.B.length x.D.c] 35)).grownBy W4 (Value.slice e2 d c2).ownBlock → ((Value.slice e2 d c2).ownBlock = some g ∨ g = (W2.alloc (.cells #[.int .u8 x.D.t, .slice x.D.a x.D.B.length x.D.c] 35)).heap.size) →
          W4.cell? ⟨w.heap.size + 1 + 1 + 1 + 1, 0, none⟩ = some (.slice e2 d c2) ∧ W4.frozen? ⟨w.heap.size + 1 + 1 + 1 + 1, 0, none⟩ = false ∧
          Hid (Still Wc.heap.size B (W4.setCell ⟨w.heap.size + 1 + 1 + 1 + 1, 0, none⟩ (.slice (some ⟨g, 0, none⟩) (d + 1) cap)) ∧ ScI w Wc L most v1' (.slice (some ⟨g, 0, none⟩) (d + 1) cap) (pre ++ [x]) (W4.setCell ⟨w.heap.size + 1 + 1 + 1 + 1, 0, none⟩ (.slice (some ⟨g, 0, none⟩) (d + 1) cap)))) := by
        intro v1' W2 hH g cap W4 h1 h2 h3
        obtain ⟨r1, r2, r3⟩ := sc_second HI.out KAB.out HM.out hH (by rw [← HD.out]; omega) (m := d + 1) (by rw [List.length_append, List.length_map, ← HD.out]; rfl) h1 h2 h3
        exact ⟨cell_of_one r1, free_of_one r1, r2, r3⟩
      have R2 : Hid (∀ v1' W2, ScH w Wc B v1' (.slice e2 d c2) (pre.map Sx.p ++ [x.p]) (pre.map Sx.D) x W2 → (W2.alloc (.cells #[.int .u8 x.D.t, .slice x.D.a x.D.B.length x.D.c] 35)).ownsRow w.heap.size 35 2 (.slice e2 d c2) d (rowsB (pre.map Sx.D)) ∧ w.heap.size ≤ (W2.alloc (.cells #[.int .u8 x.D.t, .slice x.D.a x.D.B.length x.D.c] 35)).heap.size) := by
        intro v1' W2 hH
        have q := (hH.two.same (Kept.alloc W2 (.cells #[.int .u8 x.D.t, .slice x.D.a x.D.B.length x.D.c] 35))).r2
        have h1 := q.row
        rw [List.length_map, ← HD.out] at h1
        exact ⟨h1, q.kept.size⟩
      have i1 : ¬ (most ≤ (d : Int)) := hmost
      gi_wp2_with (first
        | (gi_at_builtin; refine wpListIn_lies _ rfl _ _ 24 rfl w.heap.size 3 i0 (.int .i64 0) 1 8 Tryd.underlying24 hi hz0 hz1 hz2 rfl (by decide) _ d (pls (pre.map Sx.p)) rfl R1.out ⟨B.heap.size, 0, none⟩ 1 1 [.int .i64 x.p] rfl rfl (nw_one B _ _) one_cell_int (by decide) (by unfold maxLen; omega) (by omega) (Nat.le_trans HB2.out.two.r2.kept.size (Kept.alloc B _).size) ?_; intro g1 cap1 W1 ho1 hg1 hat1; obtain ⟨u1, u2, u3, u4, u5, U6⟩ := S1.out g1 cap1 W1 ho1 hg1 hat1; clear ho1 hg1 hat1 R1 S1 q1 q0; have HC2 := hideC (nw_two (W1.setCell ⟨w.heap.size + 1 + 1, 0, none⟩ (.slice (some ⟨g1, 0, none⟩) (d + 1) cap1)) x.D 35); rw [World.size_setCell] at HC2)
        | (gi_at_builtin; refine wpListIn_lies _ rfl _ _ 25 rfl w.heap.size 35 j0 (.agg #[.int .u8 0, .slice none 0 0]) 2 32 Tryd.underlying25 hj hy0 hy1 hy2 rfl (by decide) _ d (rowsB (pre.map Sx.D)) rfl (R2.out _ _ U6.out).1 ⟨W1.heap.size, 0, none⟩ 1 1 x.D.cells rfl rfl HC2.out (two_cell x.D) (by decide) (by unfold maxLen; omega) (by omega) (R2.out _ _ U6.out).2 ?_; intro g2 cap2 W4 ho2 hg2 hat2; obtain ⟨y1, y2, Y3⟩ := S2.out _ _ U6.out g2 cap2 W4 ho2 hg2 hat2; clear ho2 hg2 hat2 R2 S2 HC2 U6 u1 u2 u3 u4 u5))
      exact ⟨Y3.out.1, _, _, Y3.out.2⟩
  · rintro xs A W hS ⟨v1, v2, hI⟩ k hD
    have HI := hideC (hI.same k)
    obtain ⟨e1, c1, hv1, _⟩ := hI.two.places
    obtain ⟨e2, c2, hv2, _⟩ := hI.two.r2.at
    rw [List.length_map] at hv1 hv2
    subst hv1 hv2
    have q1 := cell_of_one HI.out.b1
    have q2 := cell_of_one HI.out.b2
    have HS := hideC hS
    clear hS hI k
    gi_wp2
    gi_quiet (fail)
    gi_wp2
    have hD2 : (W.drewN nq).heap[Wc.heap.size]? = some (.deferred (some [])) := hD
    refine ⟨by simp, .inl ⟨_, _, rfl, run_takeDeferred hD2, ?_⟩⟩
    have K5 : Kept (fun i => i = Wc.heap.size) W ((W.drewN nq).putObj Wc.heap.size (.deferred none)) := ((Kept.drewN W nq).mono fun _ f => f.elim).trans (kept_put1 _ _ _) (fun i hi => .inl hi)
    have h5 := HI.out.keptX K5 (fun i hi => by omega)
    refine ⟨_, results_tmp2 rfl _ _ _, xs, e1, e2, c1, c2, rfl, ?_, ?_, ?_⟩
    · obtain ⟨a', c', e, hp⟩ := h5.two.places
      simp only [Value.slice.injEq] at e
      obtain ⟨rfl, _, _⟩ := e
      exact hp
    · exact h5.two.r2
    · rw [HS.out, List.take_of_length_le]
      have := HI.out.le
      rw [← HS.out, List.length_map]
      exact this
  · rintro cd pre A W ⟨rfl, xs, v1, v2, hI, hle⟩ k hD
    have HI := hideC (hI.same k)
    obtain ⟨e1, c1, hv1, _⟩ := hI.two.places
    obtain ⟨e2, c2, hv2, _⟩ := hI.two.r2.at
    rw [List.length_map] at hv1 hv2
    subst hv1 hv2
    have q1 := cell_of_one HI.out.b1
    have q2 := cell_of_one HI.out.b2
    have HS := hideC hle
    clear hle hI k
    gi_wp2
    gi_quiet (fail)
    gi_wp2
    have hD2 : (W.drewN nq).heap[Wc.heap.size]? = some (.deferred (some [])) := hD
    refine ⟨by simp, .inl ⟨_, _, rfl, run_takeDeferred hD2, ?_⟩⟩
    have K5 : Kept (fun i => i = Wc.heap.size) W ((W.drewN nq).putObj Wc.heap.size (.deferred none)) := ((Kept.drewN W nq).mono fun _ f => f.elim).trans (kept_put1 _ _ _) (fun i hi => .inl hi)
    have h5 := HI.out.keptX K5 (fun i hi => by omega)
    refine ⟨_, results_tmp2 rfl _ _ _, xs, e1, e2, c1, c2, rfl, ?_, ?_, ?_⟩
    · obtain ⟨a', c', e, hp⟩ := h5.two.places
      simp only [Value.slice.injEq] at e
      obtain ⟨rfl, _, _⟩ := e
      exact hp
    · exact h5.two.r2
    · obtain ⟨rest, hr⟩ := HI.out.come
      have h1 := HI.out.le
      have h2 := HS.out
      rw [hr, List.take_append_of_le_length (by rw [List.length_map]; omega), List.take_of_length_le (by rw [List.length_map]; omega)]
end Go.Proofs.YtoglgicmnhklbaaDoor
