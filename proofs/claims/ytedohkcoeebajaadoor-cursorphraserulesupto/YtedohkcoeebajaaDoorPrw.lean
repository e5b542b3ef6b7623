import Derived.Test.YtedohkcoeebajaaDoorMrg13
import Derived.Deep.DeepCutAuto
namespace Go.Proofs.YtedohkcoeebajaaDoor
open Go.ChangeShapes Go.WideShapes Go.ChangeAt Go.RowKit

theorem ints_takeO {W : World} {a : Option Addr} {l : List Int} (h : IntsAt W a l) (m : Nat) : IntsAt W a (l.take m) := by
  intro hne
  obtain ⟨b, off, rfl, hc⟩ := h (fun e => hne (by rw [e]; simp))
  exact ints_takeU hc m hne
/-- The law's own lists so far. -/
structure Lmd (L : List Il) (i : Nat) (M : List Il) : Prop where
  len : M.length = i
  each : ∀ j (hj : j < M.length) (hl : j < L.length), M[j].l.length = L[j].l.length ∧ ∀ y ∈ M[j].l, 0 ≤ y ∧ y < 61
theorem lmd_zero (L : List Il) : Lmd L 0 [] := ⟨rfl, fun j hj => (by simp at hj)⟩
theorem Lmd.step {L : List Il} {i : Nat} {M : List Il} (h : Lmd L i M) (hi : i < L.length) (x : Il) (hx : x.l.length = L[i].l.length) (hy : ∀ y ∈ x.l, 0 ≤ y ∧ y < 61) : Lmd L (i + 1) (M ++ [x]) := by
  refine ⟨by rw [List.length_append, h.len]; rfl, fun j hj hjl => ?_⟩
  rcases Nat.lt_or_ge j M.length with q | q
  · rw [List.getElem_append_left q]
    exact h.each j q hjl
  · have : j = M.length := by rw [List.length_append] at hj; simp at hj; omega
    subst this
    rw [List.getElem_append_right (Nat.le_refl _)]
    simp only [Nat.sub_self, List.getElem_cons_zero]
    have e := h.len
    subst e
    exact ⟨hx, hy⟩
theorem Lmd.all {L : List Il} {n : Nat} {M : List Il} (h : Lmd L n M) (hn : n ≤ L.length) {B : Nat} (hb : ∀ x ∈ L, x.l.length ≤ B) : ∀ x ∈ M, x.l.length ≤ B ∧ ∀ y ∈ x.l, 0 ≤ y ∧ y < 61 := by
  intro x hx
  obtain ⟨j, hj, rfl⟩ := List.mem_iff_getElem.1 hx
  have hl := h.len
  have hjl : j < L.length := by omega
  obtain ⟨h1, h2⟩ := h.each j hj hjl
  exact ⟨by rw [h1]; exact hb _ (List.getElem_mem hjl), h2⟩
/-- Three lists that grow side by side: of lists, and two of numbers. -/
structure Bk3 (w0 W : World) (vb vx vy : Value) (n1 n2 n3 : Nat) (B : List Il) (X Y : List Int) : Prop where
  gb : Gro w0 W 23 1 vb n1 (svl B)
  gx : Gro w0 W 3 1 vx n2 (is X)
  gy : Gro w0 W 3 1 vy n3 (is Y)
  bx : Apa vb vx
  yb : Apa vb vy
  xy : Apa vx vy
theorem apa_none (u : Value) : Apa (.slice none 0 0) u := fun k hk => by simp [Value.ownBlock] at hk
theorem bk3_zero (W : World) : Bk3 W W (.slice none 0 0) (.slice none 0 0) (.slice none 0 0) 0 0 0 [] [] [] := ⟨gro_nil W _ _, gro_nil W _ _, gro_nil W _ _, apa_none _, apa_none _, apa_none _⟩
theorem Bk3.later {w0 W W' : World} {vb vx vy : Value} {n1 n2 n3 : Nat} {B : List Il} {X Y : List Int} (h : Bk3 w0 W vb vx vy n1 n2 n3 B X Y) (k : Kept (fun _ => False) W W') : Bk3 w0 W' vb vx vy n1 n2 n3 B X Y := ⟨h.gb.later k, h.gx.later k, h.gy.later k, h.bx, h.yb, h.xy⟩
theorem Bk3.pushB {w0 W W' : World} {vb vx vy vb' : Value} {n1 n2 n3 m : Nat} {B B' : List Il} {X Y : List Int} (h : Bk3 w0 W vb vx vy n1 n2 n3 B X Y) (g : Gro w0 W' 23 1 vb' m (svl B')) (s : GStep W W' vb vb') : Bk3 w0 W' vb' vx vy m n2 n3 B' X Y :=
  have a := h.gx.other h.gb s h.bx
  have b := h.gy.other h.gb s h.yb
  ⟨g, a.1, b.1, a.2, b.2, h.xy⟩
theorem Bk3.pushX {w0 W W' : World} {vb vx vy vx' : Value} {n1 n2 n3 m : Nat} {B : List Il} {X X' Y : List Int} (h : Bk3 w0 W vb vx vy n1 n2 n3 B X Y) (g : Gro w0 W' 3 1 vx' m (is X')) (s : GStep W W' vx vx') : Bk3 w0 W' vb vx' vy n1 m n3 B X' Y :=
  have a := h.gb.other h.gx s h.bx.symm
  have b := h.gy.other h.gx s h.xy
  ⟨a.1, g, b.1, a.2.symm, h.yb, b.2⟩
theorem Bk3.pushY {w0 W W' : World} {vb vx vy vy' : Value} {n1 n2 n3 m : Nat} {B : List Il} {X Y Y' : List Int} (h : Bk3 w0 W vb vx vy n1 n2 n3 B X Y) (g : Gro w0 W' 3 1 vy' m (is Y')) (s : GStep W W' vy vy') : Bk3 w0 W' vb vx vy' n1 n2 m B X Y' :=
  have a := h.gb.other h.gy s h.yb.symm
  have b := h.gx.other h.gy s h.xy.symm
  ⟨a.1, b.1, g, h.bx, a.2.symm, b.2.symm⟩
theorem gro_li {w0 W : World} {a : Option Addr} {n c : Nat} {L : List Il} (h : Gro w0 W 23 1 (.slice a n c) n (svl L)) (hi : ∀ x ∈ L, IntsAt W x.a x.l) : LiAt W a L := by
  intro hne
  have hn : n = L.length := by
    have := h.own.1
    rw [svl_len] at this
    omega
  obtain ⟨g, rfl, _, hc⟩ := h.cell (by rw [hn]; exact List.length_pos_iff.2 hne)
  refine ⟨g, 0, rfl, fun k hk => ⟨?_, hi _ (List.getElem_mem hk)⟩⟩
  rw [Nat.zero_add]
  exact hc k _ (by unfold svl; rw [List.getElem?_map, List.getElem?_eq_getElem hk]; rfl)
/-- 'append(s, x)' of one slice value. -/
theorem wpList_pushSl {w0 W : World} {ops : Array Oper} {rest : List Oper} {o : Oper} {act : Act} {Q : Exit → Act → World → Prop} (hgd : o.guard = none) (s x : Operand)
    (ho : o.op = .call { callee := .builtin .append, args := #[s, x], argTypes := #[22, 22] }) (v : Value) (n : Nat) (L : List Il) (y : Il) (ya : Option Addr) (yn yc : Nat) (hs : act.eval s = v) (hG : Hid (Gro w0 W 23 1 v n (svl L))) (b : Nat) (hbb : b = W.heap.size) (hx : act.eval x = .slice (some ⟨b, 0, none⟩) 1 1) (hb : n ≤ 1099511627776)
    (hy : Hid (ya = y.a ∧ yn = y.l.length ∧ yc = y.c))
    (h : ∀ g c' W', Hid (Gro w0 W' 23 1 (.slice (some ⟨g, 0, none⟩) (n + 1) c') (n + 1) (svl (L ++ [y]))) → Hid (GStep W W' v (.slice (some ⟨g, 0, none⟩) (n + 1) c')) → wpList Tryd.prog ops Q rest (act.put o.dst (.slice (some ⟨g, 0, none⟩) (n + 1) c')) W') : wpList Tryd.prog ops Q (o :: rest) act (W.alloc (.cells #[.slice ya yn yc] 23)) := by
  subst hbb
  obtain ⟨i0, hi0, hz0, hz1, hz2⟩ := info_partsP Tryd.infoLi
  obtain ⟨rfl, rfl, rfl⟩ := hy.out
  rw [svl_app] at h
  refine wpList_catX hgd s x 22 ho 23 i0 (.slice none 0 0) 1 24 Tryd.underlying22 hi0 hz0 hz1 hz2 rfl (by decide) v n (svl L) [.slice y.a y.l.length y.c] hs (hideP (hG.out.later (Kept.alloc W _))) ⟨W.heap.size, 0, none⟩ 1 1 hx (by simp) (row_news W [.slice y.a y.l.length y.c] 23) (by intro u hu; simp at hu; subst hu; rfl) (by decide) (by omega) (by unfold maxLen; omega) ?_
  intro g c' W' hG2 hS
  exact h g c' W' hG2 (hideP (GStep.ahead (Kept.alloc W _) hS.out))
/-- 'append(s, x...)' of what lies elsewhere, as one operation. -/
theorem wp_catX {w0 W : World} {o : Oper} {act : Act} {K : Act → World → Prop} {Q : Exit → Act → World → Prop} (s x : Operand) (t : TypeId)
    (ho : o.op = .call { callee := .builtin .append, args := #[s, x], argTypes := #[t, t] }) (e : TypeId) (i : TypeInfo) (z : Value) (size bytes : Nat)
    (ht : Tryd.prog.underlying t = some (.slice e)) (hi : Tryd.prog.info? e = some i) (hz : i.zero = some z) (hsize : i.size = size) (hby : i.bytes = bytes) (hzs : z.cells.size = size) (hsz : 0 < size)
    (v : Value) (n : Nat) (xs news : List Value) (hs : act.eval s = v) (hG : Gro w0 W e size v n xs) (a : Addr) (m c : Nat) (hx : act.eval x = .slice (some a) m c)
    (hl : news.length = m * size) (hc : ∀ j u, news[j]? = some u → W.cell? (a.add j) = some u) (h1 : ∀ u ∈ news, u.oneCell' = true) (hm : 0 < m) (hb : (n + m) * bytes ≤ 140737488355328) (h63 : n + m ≤ maxLen)
    (h : ∀ g c' W', Gro w0 W' e size (.slice (some ⟨g, 0, none⟩) (n + m) c') (n + m) (xs ++ news) → GStep W W' v (.slice (some ⟨g, 0, none⟩) (n + m) c') → K (act.put o.dst (.slice (some ⟨g, 0, none⟩) (n + m) c')) W') : o.wp Tryd.prog act W K Q := by
  refine wp_append_lies W s x t ho w0.heap.size e i z size bytes ht hi hz hsize hby hzs hsz v n xs hs hG.own a m c news hx hl hc h1 hm h63 hb hG.kept.size _ rfl ?_
  intro g c' W' ho2 hg2 hat _
  refine h g c' W' ⟨ho2, hG.kept.trans (Kept.grown hg2) (fun i hi => .inr (hG.own.lt i hi).1)⟩ ⟨Kept.grown hg2, fun k hk => ?_⟩
  simp [Value.ownBlock] at hk
  subst hk
  exact hat.imp id (fun e => by rw [e]; exact Nat.le_refl _)
/-- 'append(s, x...)' of numbers, none or more, as one operation. -/
theorem wp_catI {w0 W : World} {o : Oper} {act : Act} {K : Act → World → Prop} {Q : Exit → Act → World → Prop} (s x : Operand)
    (ho : o.op = .call { callee := .builtin .append, args := #[s, x], argTypes := #[23, 23] })
    (v : Value) (n : Nat) (xs : List Int) (hs : act.eval s = v) (hG : Gro w0 W 3 1 v n (is xs)) (a : Option Addr) (m c : Nat) (hx : act.eval x = .slice a m c) (ys : List Int) (hm : m = ys.length) (hI : IntsAt W a ys) (hb : n + m ≤ 1099511627776) (N : Nat) (hN : n + m = N)
    (h : ∀ (va : Option Addr) (vc : Nat) W', Gro w0 W' 3 1 (.slice va N vc) N (is (xs ++ ys)) → GStep W W' v (.slice va N vc) → K (act.put o.dst (.slice va N vc)) W') : o.wp Tryd.prog act W K Q := by
  subst hN
  obtain ⟨i0, hi, hz0, hz1, hz2⟩ := info_partsP Tryd.infoI
  by_cases h0 : m = 0
  · obtain rfl : ys = [] := List.length_eq_zero_iff.1 (by omega)
    subst h0
    obtain ⟨sa, sc, rfl⟩ := hG.shape
    have hrun := run_append_nothing (P := Tryd.prog) W 23 23 o.type 3 i0 Tryd.underlying23 hi sa n sc hG.room (.slice a 0 c) ⟨.inl ⟨_, Tryd.underlying23⟩, fun _ => rfl, by cases a <;> simp [Builtin.firstCells, loadCells, loadCellsFrom], by cases a <;> simp [Builtin.firstCells, loadCells, loadCellsFrom], by simp, by simp⟩
    have h9 := h sa sc W (by rw [List.append_nil]; exact hG) (GStep.refl _ _)
    unfold Oper.wp
    simp [execOp, ho, resolve, invoke, builtin, hs, hx, hrun, Result.andThen]
    exact h9
  · obtain ⟨b, off, rfl, hc⟩ := hI (by intro e; rw [e] at hm; simp at hm; omega)
    refine wp_catX s x 23 ho 3 i0 (.int .i64 0) 1 8 Tryd.underlying23 hi hz0 hz1 hz2 rfl (by decide) v n (is xs) (is ys) hs hG ⟨b, off, none⟩ m c hx (by unfold is; rw [List.length_map]; omega) (fun j u hu => ?_) (by intro u hu; obtain ⟨y, _, rfl⟩ := List.mem_map.1 hu; rfl) (by omega) (by omega) (by unfold maxLen; omega) ?_
    · unfold is at hu
      rw [List.getElem?_map] at hu
      rcases Nat.lt_or_ge j ys.length with q | q
      · rw [List.getElem?_eq_getElem q, Option.map_some, Option.some.injEq] at hu
        subst hu
        have := hc j q
        rw [List.getElem?_eq_getElem q] at this
        rw [Go.WideShapes.add_plain]
        exact this
      · rw [List.getElem?_eq_none q] at hu
        cases hu
    · intro g c' W' g2 s2
      exact h _ _ W' (by unfold is at g2 ⊢; rw [List.map_append]; exact g2) s2
/-- The laid lists so far. -/
structure Lad (M : List Il) (O : List Int) (k : Int) (i : Nat) (D : List Il) : Prop where
  len : D.length = i
  each : ∀ j (hd : j < D.length) (hj : j < M.length) (ho : j < O.length), D[j].l = M[j].l ++ [100 + k + O[j]]
theorem lad_zero (M : List Il) (O : List Int) (k : Int) : Lad M O k 0 [] := ⟨rfl, fun j hj => (by simp at hj)⟩
theorem Lad.step {M : List Il} {O : List Int} {k : Int} {i : Nat} {D : List Il} (h : Lad M O k i D) (hi : i < M.length) (hio : i < O.length) (x : Il) (hx : x.l = M[i].l ++ [100 + k + O[i]]) : Lad M O k (i + 1) (D ++ [x]) := by
  refine ⟨by rw [List.length_append, h.len]; rfl, fun j hj hjl hjo => ?_⟩
  rcases Nat.lt_or_ge j D.length with q | q
  · rw [List.getElem_append_left q]
    exact h.each j q hjl hjo
  · have : j = D.length := by rw [List.length_append] at hj; simp at hj; omega
    subst this
    rw [List.getElem_append_right (Nat.le_refl _)]
    simp only [Nat.sub_self, List.getElem_cons_zero]
    have e := h.len
    subst e
    exact hx
theorem rev_step {α : Type} {l : List α} {n j t : Nat} (hj : j < n) (ht : t = n - 1 - j) (h : t < l.length) : (l.drop (n - (j + 1))).reverse = (l.drop (n - j)).reverse ++ [l[t]] := by
  have e : n - (j + 1) = t := by omega
  have e2 : n - j = t + 1 := by omega
  rw [e, e2, List.drop_eq_getElem_cons h, List.reverse_cons]
theorem take_map_step {l : List Int} {j : Nat} (k : Int) (h : j < l.length) : (l.take (j + 1)).map (fun o => o + k) = (l.take j).map (fun o => o + k) ++ [l[j] + k] := by
  rw [List.take_succ_eq_append_getElem h, List.map_append]
  rfl
theorem LiAt.one {W : World} {b off : Nat} {L : List Il} (h : ∀ k (hk : k < L.length), W.cell? ⟨b, off + k, none⟩ = some (.slice L[k].a L[k].l.length L[k].c) ∧ IntsAt W L[k].a L[k].l) (h0 : 0 < L.length) : LiAt W (some ⟨b, off, none⟩) [L[0]] := by
  intro _
  refine ⟨b, off, rfl, fun k hk => ?_⟩
  obtain rfl : k = 0 := by simp at hk; omega
  exact h 0 h0
set_option maxRecDepth 40000 in
set_option maxHeartbeats 32000000 in
/-- The law CursorPhraseRules. -/
theorem rules_walk (L : List Il) (O : List Int) (a oa : Option Addr) (c oc : Nat) (sp bz : Int) (ad : Nat → Addr) (W : World) (hL : LiAt W a L) (hO : IntsAt W oa O) (hlc : L.length ≤ c) (hoc : O.length ≤ oc) (hll : L.length ≤ 1048576) (htl : ltot L ≤ 1048575) (hE : ErQ W ad) :
    Calls Tryd.prog 4 #[.slice a L.length c, .slice oa O.length oc, .int .i64 sp, .int .i64 bz] W fun e w' => e = .returned (.bool true) ∧ Kept (fun _ => False) W w' := by
  have CF := hideP (fixed_any ad W hE)
  have HL := hideP hL
  have HO := hideP hO
  have HLX : Hid (∀ x ∈ L, x.l.length ≤ 1048575) := hideP (fun x hx => Nat.le_trans (ltot_mem hx) htl)
  obtain ⟨n, hnL, hnO, hn1, hn2⟩ : ∃ n, n ≤ L.length ∧ n ≤ O.length ∧ (O.length < L.length → n = O.length) ∧ (¬ O.length < L.length → n = L.length) := ⟨min L.length O.length, by omega, by omega, by omega, by omega⟩
  have HNL := hideP hnL
  have HNO := hideP hnO
  have HN1 := hideP hn1
  have HN2 := hideP hn2
  have hnb : n ≤ 1048576 := by omega
  have hnc : n ≤ c := by omega
  have hnoc : n ≤ oc := by omega
  obtain ⟨ll, hlle⟩ : ∃ ll, ll = L.length := ⟨_, rfl⟩
  obtain ⟨ol, hole⟩ : ∃ ol, ol = O.length := ⟨_, rfl⟩
  rw [← hlle] at hll hlc HNL HN1 HN2 ⊢
  rw [← hole] at hoc HNO HN1 HN2 ⊢
  have HLE := hideP hlle
  have HOE := hideP hole
  clear hL hO htl hE hnL hnO hn1 hn2 hlle hole
  go_enter Tryd.func4, Tryd.ntmps4
  go_wp2_with (go_at_call 5; refine StpQ.go ?_)
  refine ⟨?_⟩
  refine CF.out.mono ?_
  clear CF
  rintro e W1 ⟨rfl, k1⟩
  have HL1 := hideP (HL.out.kept k1)
  have HO1 := hideP (HO.out.kept k1)
  have HK1 := hideP k1
  clear k1 HL HO
  go_upto_if 35 with fail
  go_cut [9] (fun s9 w => s9 = .int .i64 n ∧ W1 = w)
  case first =>
    by_cases h : ol < ll
    · have h1 : (ol : Int) < (ll : Int) := by omega
      have h2 := HN1.out h
      go_wp2
      go_meet
      case rel => exact ⟨by rw [h2], rfl⟩
    · have h1 : ¬ (ol : Int) < (ll : Int) := by omega
      have h2 := HN2.out h
      go_wp2
      go_meet
      case rel => exact ⟨by rw [h2], rfl⟩
  case rest =>
  obtain ⟨rfl, rfl⟩ := hcut
  go_wp2
  go_loopw [10, 42] (fun s10 s42 wr => ∃ (i : Nat) (vl : Value) (LM : List Il), i ≤ n ∧ vl = s10 ∧ s42 = .int .i64 i ∧ Hid (Gli W1 wr vl i LM) ∧ Hid (Lmd L i LM)) (fun _ s42 _ => n - (intOf s42).toNat)
  case atStart => exact ⟨0, _, [], by omega, rfl, rfl, hideP (gli_nil _), hideP (lmd_zero L)⟩
  case round =>
  obtain ⟨i, vl, LM, hi, rfl, rfl, HG, HM⟩ := hrel
  obtain ⟨W2, hW2⟩ : ∃ W2, W2 = wr := ⟨_, rfl⟩
  rw [← hW2] at HG ⊢
  clear hW2
  by_cases hlt : i < n
  · have hil : i < L.length := by rw [← HLE.out]; have := HNL.out; omega
    obtain ⟨b, off, rfl, hc⟩ := HL1.out (by intro e; rw [e] at hil; simp at hil)
    obtain ⟨z1, z2⟩ := hc i hil
    have p1 := HG.out.gro.kept.cell z1 (fun f => f)
    have hxm := List.getElem_mem hil
    have CI := hideP (ints60_any L[i].l L[i].a L[i].c W2 (z2.kept HG.out.gro.kept) (by have := HLX.out _ hxm; omega))
    obtain ⟨x, hx⟩ : ∃ x, x = L[i] := ⟨_, rfl⟩
    rw [← hx] at p1 CI
    have HX := hideP hx
    generalize x.a = xa at *
    generalize x.c = xc at *
    have hii : (i : Int) < (n : Int) := by omega
    obtain ⟨xl, hxl⟩ : ∃ xl, xl = x.l.length := ⟨_, rfl⟩
    rw [← hxl] at p1 CI
    have HXN := hideP hxl
    clear hx hc z1 z2 hxm hxl
    go_wp2_with (go_at_call 8; refine StpQ.go ?_)
    refine ⟨?_⟩
    refine CI.out.mono ?_
    clear CI
    rintro e W3 ⟨ra, rc, R, rfl, hI, hR1, hR2, hR3, hN, hK⟩
    have HG3 := hideP (HG.out.later hK)
    have HF3 : Hid (R ≠ [] → ∀ b off, ra = some ⟨b, off, none⟩ → vl.ownBlock ≠ some b) := hideP (fun _ => HG.out.gro.old hN)
    have HI3 := hideP hI
    have HR1 := hideP hR1
    have HM3 := hideP (HM.out.step hil ⟨ra, rc, R⟩ (by rw [← HX.out, ← HXN.out]; exact hR1) hR2)
    clear HG hI hR1 hR2 hR3 hN hK HM
    go_wp2_with (at_builtin; refine StpQ.go ?_)
    refine ⟨?_⟩
    refine wpList_pushL rfl (.tmp 46) (.tmp 49) rfl vl i LM ⟨ra, rc, R⟩ ra xl rc rfl HG3 W3.heap.size rfl (by rfl) (by omega) (hideP ⟨rfl, HR1.out.symm⟩) HI3 HF3 ?_
    intro g5 c5 W5 HG5 HS5
    clear HG3 HI3 HF3
    go_wp2
    go_roundw
    case rel => exact ⟨i + 1, _, LM ++ [⟨ra, rc, R⟩], by omega, rfl, by go_num, HG5, HM3⟩
    case measure => simp [intOf]; omega
  obtain rfl : i = n := by omega
  have hii : ¬ (i : Int) < (i : Int) := by omega
  clear hlt hi
  obtain ⟨al, cl, rfl⟩ := HG.out.gro.shape
  have hcl := HG.out.gro.room
  have HLI := hideP HG.out.li
  have HK2 := hideP HG.out.gro.kept
  have HMA := hideP (HM.out.all (by rw [← HLE.out]; exact HNL.out) HLX.out)
  have HML := hideP HM.out.len
  have CI := hideP (ints9_any (O.take i) oa oc W2 ((ints_takeO HO1.out i).kept HK2.out) (by rw [List.length_take]; omega))
  rw [List.length_take, Nat.min_eq_left (by rw [← HOE.out]; exact HNO.out)] at CI
  clear HG HM
  go_wp2_with (go_at_call 8; refine StpQ.go ?_)
  refine ⟨?_⟩
  refine CI.out.mono ?_
  clear CI
  rintro e W3 ⟨ao, co, OM, rfl, hI, hR1, hR2, hR3, -, hK⟩
  have HLI3 := hideP (HLI.out.kept hK)
  have HOI3 := hideP hI
  have HOL := hideP hR1
  have HOB := hideP hR2
  have HK3 := hideP ((HK1.out.trans HK2.out (fun _ f => f.elim)).trans hK (fun _ f => f.elim))
  clear HLI hI hR1 hR2 hK HK1 HK2 HL1 HO1
  obtain ⟨s, hs⟩ : ∃ s, s = brt 20 sp := ⟨_, rfl⟩
  have s1 := brt_lo (m := 20) (by decide) sp
  have s2 := brt_hi (m := 20) (by decide) sp
  have s3 : sp % 18446744073709551616 % 20 = s := by rw [hs]; exact brt_eq2 20 sp
  have s4 : (sp % 18446744073709551616).tmod 20 = s := by rw [Int.tmod_eq_emod_of_nonneg (by omega)]; exact s3
  have s5 : (IntKind.u64.wrap sp).tmod 20 = s := by rw [IntKind.wrap_u64]; exact s4
  obtain ⟨k, hk⟩ : ∃ k, k = brt 50 bz := ⟨_, rfl⟩
  have k1 := brt_lo (m := 50) (by decide) bz
  have k2 := brt_hi (m := 50) (by decide) bz
  have k3 : bz % 18446744073709551616 % 50 = k := by rw [hk]; exact brt_eq2 50 bz
  have k4 : (bz % 18446744073709551616).tmod 50 = k := by rw [Int.tmod_eq_emod_of_nonneg (by omega)]; exact k3
  have k5 : (IntKind.u64.wrap bz).tmod 50 = k := by rw [IntKind.wrap_u64]; exact k4
  rw [← hs] at s1 s2
  rw [← hk] at k1 k2
  clear hs hk
  have CP : Hid (∀ V (sl : Int), Kept (fun _ => False) W3 V → 0 ≤ sl → sl ≤ 1000 → Calls Tryd.prog 6 #[.slice al i cl, .slice ao i co, .int .i64 sl] V fun e w' => e = .returned (.int .i64 (cntP (prs LM OM) sl : Nat)) ∧ Kept (fun _ => False) V w') := hideP (fun V sl kv h1 h2 => pf_cnt LM OM al ao cl co i sl V (HLI3.out.kept kv) (HOI3.out.kept kv) HML.out HOL.out hnb (fun x hx => ⟨by have := (HMA.out x hx).1; omega, fun y hy => by have := (HMA.out x hx).2 y hy; omega⟩) (fun o ho => by have := HOB.out o ho; omega) ⟨h1, h2⟩)
  by_cases hi0 : i = 0
  · subst hi0
    have CP0 := hideP (CP.out W3 s (Kept.refl _ _) s1 (by omega))
    rw [List.length_eq_zero_iff.1 HML.out, show cntP (prs [] OM) s = 0 from rfl] at CP0
    clear CP
    simp only [Int.natCast_zero] at *
    go_wp2_with (go_at_call 6; refine StpQ.go ?_)
    refine ⟨?_⟩
    refine CP0.out.mono ?_
    clear CP0
    rintro e W4 ⟨rfl, k9⟩
    have HK4 := hideP (HK3.out.trans k9 (fun _ f => f.elim))
    clear k9
    go_wp2
    go_ret
    exact ⟨rfl, HK4.out⟩
  have hip : 0 < i := by omega
  have hz0 : ((i : Int) == 0) = false := by rw [beq_eq_false_iff_ne]; omega
  have hlo : LM.length = OM.length := by rw [HML.out, HOL.out]
  have HB : Hid (∀ sl, cntP (prs LM OM) sl ≤ 1099511627776) := hideP (fun sl => cntP_bnd hlo (by rw [HML.out]; omega) (fun x hx => by have := (HMA.out x hx).1; omega) sl)
  have HLO := hideP hlo
  have CP1 := hideP (CP.out W3 s (Kept.refl _ _) s1 (by omega))
  have hFb := HB.out s
  obtain ⟨F, hF⟩ : ∃ F, F = cntP (prs LM OM) s := ⟨_, rfl⟩
  rw [← hF] at CP1 hFb
  have HF := hideP hF
  clear hF hlo hi0 s3 s4 k3 k4
  go_wp2_with (go_at_call 6; refine StpQ.go ?_)
  refine ⟨?_⟩
  refine CP1.out.mono ?_
  clear CP1
  rintro e W4 ⟨rfl, k4⟩
  have CP2 := hideP (CP.out W4 (s + 1) k4 (by omega) (by omega))
  have hFb2 := HB.out (s + 1)
  have hF12 : F ≤ cntP (prs LM OM) (s + 1) := by rw [HF.out]; exact cntP_mono _ (by omega)
  generalize cntP (prs LM OM) (s + 1) = F1 at *
  have f1 : ¬ (F : Int) < 0 := by omega
  have f2 : decide ((F : Int) < 0) = false := decide_eq_false f1
  have f3 : ¬ (F1 : Int) < (F : Int) := by omega
  have f4 : decide ((F1 : Int) < (F : Int)) = false := decide_eq_false f3
  have f5 : decide (F1 < F) = false := decide_eq_false (by omega)
  have HKA := hideP k4
  clear k4
  go_wp2_with (go_at_call 6; refine StpQ.go ?_)
  refine ⟨?_⟩
  refine CP2.out.mono ?_
  clear CP2
  rintro e W5 ⟨rfl, k5x⟩
  have HKB := hideP (HKA.out.trans k5x (fun _ f => f.elim))
  clear k5x HKA
  have HLI5 := hideP (HLI3.out.kept HKB.out)
  have HOI5 := hideP (HOI3.out.kept HKB.out)
  have HK5 := hideP (HK3.out.trans HKB.out (fun _ f => f.elim))
  have w1 : IntKind.i64.wrap ((i : Int) - 1) = (i : Int) - 1 := by rw [IntKind.wrap_i64]; omega
  go_wp2
  go_loopw [17, 18, 19, 20] (fun s17 s18 s19 s20 wr => ∃ (j : Nat) (vb vx vy : Value) (z : Int), j ≤ i ∧ vb = s17 ∧ vx = s18 ∧ vy = s19 ∧ s20 = .int .i64 z ∧ -1 ≤ z ∧ z ≤ 1048576 ∧ Hid (z = (i : Int) - 1 - j) ∧ Hid (Bk3 W5 wr vb vx vy j j j (LM.drop (i - j)).reverse (OM.drop (i - j)).reverse ((OM.take j).map (fun o => o + k)))) (fun _ _ _ s20 _ => (intOf s20 + 1).toNat)
  case atStart => exact ⟨0, _, _, _, (i : Int) - 1, by omega, rfl, rfl, rfl, by first | rfl | go_num, by omega, by omega, hideP (by omega), hideP (by
    rw [Nat.sub_zero, List.drop_of_length_le (by rw [HML.out]; exact Nat.le_refl _), List.drop_of_length_le (by rw [HOL.out]; exact Nat.le_refl _)]
    exact bk3_zero W5)⟩
  case round =>
  obtain ⟨j, vb, vx, vy, z, hj, rfl, rfl, rfl, rfl, z1, z2, HZ, HBK⟩ := hrel
  obtain ⟨W6, hW6⟩ : ∃ W6, W6 = wr := ⟨_, rfl⟩
  rw [← hW6] at HBK ⊢
  clear hW6
  by_cases hlt : j < i
  · obtain ⟨t, ht⟩ : ∃ t, t = i - 1 - j := ⟨_, rfl⟩
    obtain rfl : z = (t : Int) := by have := HZ.out; omega
    have hti : t < i := by omega
    have htL : t < LM.length := by rw [HML.out]; exact hti
    have htO : t < OM.length := by rw [HOL.out]; exact hti
    have hjO : j < OM.length := by rw [HOL.out]; exact hlt
    obtain ⟨b, off, rfl, hc⟩ := HLI5.out (by intro e; rw [e] at htL; simp at htL)
    obtain ⟨y1, y2⟩ := hc t htL
    have p1 := HBK.out.gb.kept.cell y1 (fun f => f)
    obtain ⟨ob, oo, rfl, q1⟩ := ints_cell HOI5.out htO
    obtain ⟨ob2, oo2, e2, q2⟩ := ints_cell HOI5.out hjO
    simp only [Option.some.injEq, Addr.mk.injEq, and_true] at e2
    obtain ⟨rfl, rfl⟩ := e2
    have HQ1 : Hid (∀ V, Kept (fun _ => False) W5 V → V.cell? ⟨ob, oo + t, none⟩ = some (.int .i64 OM[t])) := hideP (fun V kv => kv.cell q1 (fun f => f))
    have HQ2 : Hid (∀ V, Kept (fun _ => False) W5 V → V.cell? ⟨ob, oo + j, none⟩ = some (.int .i64 OM[j])) := hideP (fun V kv => kv.cell q2 (fun f => f))
    have HS1 := hideP (rev_step hlt ht htL)
    have HS2 := hideP (rev_step hlt ht htO)
    have HS3 := hideP (take_map_step k hjO)
    have b1 := HOB.out _ (List.getElem_mem hjO)
    have HGB := hideP HBK.out.gb
    obtain ⟨x, hx⟩ : ∃ x, x = LM[t] := ⟨_, rfl⟩
    rw [← hx] at p1 HS1
    obtain ⟨xa, hxa⟩ : ∃ xa, xa = x.a := ⟨_, rfl⟩
    obtain ⟨xc, hxc⟩ : ∃ xc, xc = x.c := ⟨_, rfl⟩
    obtain ⟨xl, hxl⟩ : ∃ xl, xl = x.l.length := ⟨_, rfl⟩
    rw [← hxa, ← hxc, ← hxl] at p1
    have HY : Hid (xa = x.a ∧ xl = x.l.length ∧ xc = x.c) := hideP ⟨hxa, hxl, hxc⟩
    generalize OM[t] = ot at *
    generalize OM[j] = oj at *
    have g0 : (0 : Int) ≤ (t : Int) := by omega
    have g1 : (i : Int) - 1 - (t : Int) = (j : Int) := by omega
    have g2 : IntKind.i64.wrap ((i : Int) - 1 - (t : Int)) = (j : Int) := by rw [IntKind.wrap_i64]; omega
    have g3 : IntKind.i64.wrap (oj + k) = oj + k := by rw [IntKind.wrap_i64]; omega
    have g4 : (t : Int) < (i : Int) := by omega
    have g5 : (j : Int) < (i : Int) := by omega
    clear ht hc y1 y2 q1 q2 hx hxa hxc hxl
    go_wp2_with (at_builtin; refine StpQ.go ?_)
    refine ⟨?_⟩
    refine wpList_pushSl rfl (.tmp 92) (.tmp 97) rfl vb j _ x xa xl xc rfl HGB W6.heap.size rfl (by rfl) (by omega) HY ?_
    intro g7 c7 W7 HG7 HS7
    have HBK7 := hideP (HBK.out.pushB HG7.out HS7.out)
    clear HBK HGB HG7 HS7 p1
    rw [← HS1.out] at HBK7
    have p2 := HQ1.out _ HBK7.out.gb.kept
    have HGX := hideP HBK7.out.gx
    go_wp2_with (at_builtin; refine StpQ.go ?_)
    refine ⟨?_⟩
    refine wpList_pushN rfl (.tmp 99) (.tmp 104) rfl vx j _ ot rfl HGX W7.heap.size rfl (by rfl) (by omega) ?_
    intro g8 c8 W8 HG8 HS8
    have HBK8 := hideP (HBK7.out.pushX HG8.out HS8.out)
    clear HBK7 HGX HG8 HS8 p2
    rw [← HS2.out] at HBK8
    have p3 := HQ2.out _ HBK8.out.gb.kept
    have HGY := hideP HBK8.out.gy
    go_wp2_with (at_builtin; refine StpQ.go ?_)
    refine ⟨?_⟩
    refine wpList_pushN rfl (.tmp 106) (.tmp 116) rfl vy j _ (oj + k) rfl HGY W8.heap.size rfl (by rfl) (by omega) ?_
    intro g9 c9 W9 HG9 HS9
    have HBK9 := hideP (HBK8.out.pushY HG9.out HS9.out)
    clear HBK8 HGY HG9 HS9 p3
    rw [← HS3.out] at HBK9
    go_wp2
    go_roundw
    case rel => exact ⟨j + 1, _, _, _, (t : Int) - 1, by omega, rfl, rfl, rfl, by first | rfl | go_num, by omega, by omega, hideP (by omega), HBK9⟩
    case measure => first | (simp [intOf]; done) | (simp [intOf]; omega)
  obtain rfl : j = i := by omega
  have hzz : z = -1 := by have := HZ.out; omega
  subst hzz
  have hBK := HBK.out
  rw [Nat.sub_self, List.drop_zero, List.drop_zero, List.take_of_length_le (by rw [HOL.out]; exact Nat.le_refl _)] at hBK
  obtain ⟨ab, cb, rfl⟩ := hBK.gb.shape
  obtain ⟨ax, cx, rfl⟩ := hBK.gx.shape
  obtain ⟨ay, cy, rfl⟩ := hBK.gy.shape
  have kW : Kept (fun _ => False) W5 W6 := hBK.gb.kept
  have HLB := hideP (gro_li hBK.gb (fun x hx => by
    rw [List.mem_reverse] at hx
    obtain ⟨m, hm, rfl⟩ := List.mem_iff_getElem.1 hx
    obtain ⟨_, _, _, hc⟩ := HLI5.out (by intro e; rw [e] at hm; simp at hm)
    exact (hc m hm).2.kept kW))
  have HOX : Hid (IntsAt W6 ax OM.reverse) := hideP (by
    obtain ⟨a9, c9, e9, hI9⟩ := gro_intsU hBK.gx (by rw [List.length_reverse, HOL.out])
    injection e9 with e9 e8 e7
    subst e9
    exact hI9)
  have HOY : Hid (IntsAt W6 ay (OM.map (fun o => o + k))) := hideP (by
    obtain ⟨a9, c9, e9, hI9⟩ := gro_intsU hBK.gy (by rw [List.length_map, HOL.out])
    injection e9 with e9 e8 e7
    subst e9
    exact hI9)
  have HKC := hideP kW
  have HK6 := hideP (HK5.out.trans kW (fun _ f => f.elim))
  have CPB := hideP (pf_cnt LM.reverse OM.reverse ab ax cb cx j s W6 HLB.out HOX.out (by rw [List.length_reverse, HML.out]) (by rw [List.length_reverse, HOL.out]) hnb (fun x hx => by
    rw [List.mem_reverse] at hx
    exact ⟨by have := (HMA.out x hx).1; omega, fun y hy => by have := (HMA.out x hx).2 y hy; omega⟩) (fun o ho => by
    rw [List.mem_reverse] at ho
    have := HOB.out o ho
    omega) ⟨s1, by omega⟩)
  rw [prs_rev HLO.out, ← HF.out] at CPB
  have CPM : Hid (∀ V, Kept (fun _ => False) W6 V → Calls Tryd.prog 6 #[.slice al j cl, .slice ay j cy, .int .i64 s] V fun e w' => e = .returned (.int .i64 (F : Nat)) ∧ Kept (fun _ => False) V w') := hideP (fun V kv => by
    have h := pf_cnt LM (OM.map (fun o => o + k)) al ay cl cy j s V ((HLI5.out.kept HKC.out).kept kv) (HOY.out.kept kv) HML.out (by rw [List.length_map, HOL.out]) hnb (fun x hx => ⟨by have := (HMA.out x hx).1; omega, fun y hy => by have := (HMA.out x hx).2 y hy; omega⟩) (fun o ho => by
      obtain ⟨o', ho', rfl⟩ := List.mem_map.1 ho
      have := HOB.out o' ho'
      omega) ⟨s1, by omega⟩
    rw [prs_moved, ← HF.out] at h
    exact h)
  clear hBK HBK HLB HOX HOY kW hlt hj
  have n1 : ((F : Int) != (F : Int)) = false := by simp
  have n2 : ((F : Int) == (F : Int)) = true := by simp
  have gz : ¬ (0 : Int) ≤ -1 := by omega
  go_wp2_with (go_at_call 6; refine StpQ.go ?_)
  refine ⟨?_⟩
  refine CPB.out.mono ?_
  clear CPB
  rintro e W7 ⟨rfl, k7⟩
  have CPM2 := hideP (CPM.out W7 k7)
  have HK7 := hideP k7
  clear k7 CPM
  go_wp2_with (go_at_call 6; refine StpQ.go ?_)
  refine ⟨?_⟩
  refine CPM2.out.mono ?_
  clear CPM2
  rintro e W8 ⟨rfl, k8⟩
  have HK58 := hideP ((HKC.out.trans HK7.out (fun _ f => f.elim)).trans k8 (fun _ f => f.elim))
  clear k8 HK7 HKC HK6
  have HLI8 := hideP (HLI5.out.kept HK58.out)
  have HOI8 := hideP (HOI5.out.kept HK58.out)
  have HK8 := hideP (HK5.out.trans HK58.out (fun _ f => f.elim))
  have HK38 := hideP (HKB.out.trans HK58.out (fun _ f => f.elim))
  clear HLI5 HOI5 HK5 HKB HK58 HLI3 HOI3
  have h0L : 0 < LM.length := by rw [HML.out]; exact hip
  have h0O : 0 < OM.length := by rw [HOL.out]; exact hip
  obtain ⟨lb, lo, rfl, hc⟩ := HLI8.out (by intro e; rw [e] at h0L; simp at h0L)
  obtain ⟨ob, oo, rfl, hoc0⟩ := ints_cell HOI8.out h0O
  obtain ⟨y1, y2⟩ := hc 0 h0L
  have HI0 := hideP y2
  have CP3 := hideP (pf_cnt [LM[0]] [OM[0]] (some ⟨lb, lo, none⟩) (some ⟨ob, oo, none⟩) cl co 1 s W8.drew ((LiAt.one hc h0L).kept (Kept.drew W8)) (IntsAt.kept (fun _ => ⟨ob, oo, rfl, fun k hk => by
    obtain rfl : k = 0 := by simp at hk; omega
    exact hoc0⟩) (Kept.drew W8)) rfl rfl (by decide) (fun x hx => by
    rw [List.mem_singleton] at hx
    subst hx
    have hm := HMA.out _ (List.getElem_mem h0L)
    exact ⟨by have := hm.1; omega, fun y hy => by have := hm.2 y hy; omega⟩) (fun o ho => by
    rw [List.mem_singleton] at ho
    subst ho
    have := HOB.out _ (List.getElem_mem h0O)
    omega) ⟨s1, by omega⟩)
  rw [show prs [LM[0]] [OM[0]] = [(LM[0].l, OM[0])] from rfl, unl_all _ _ _ s1] at CP3
  have hx0b := (HMA.out _ (List.getElem_mem h0L)).1
  obtain ⟨x, hx⟩ : ∃ x, x = LM[0] := ⟨_, rfl⟩
  rw [← hx] at y1 HI0 CP3 hx0b
  rw [Nat.add_zero] at y1
  obtain ⟨xl, hxl⟩ : ∃ xl, xl = x.l.length := ⟨_, rfl⟩
  rw [← hxl] at y1 CP3 hx0b
  have HXN := hideP hxl
  have HC0 := hideP hc
  clear hx hxl hc y2 hoc0
  generalize x.a = xa at *
  generalize x.c = xc at *
  have gi : (0 : Int) < (j : Int) := by omega
  go_wp2
  go_loopw [21, 136] (fun s21 s136 wr => ∃ m : Nat, m ≤ xl ∧ s21 = .int .i64 (unl x.l m : Nat) ∧ s136 = .int .i64 m ∧ W8 = wr) (fun _ s136 _ => xl - (intOf s136).toNat)
  case atStart => exact ⟨0, by omega, rfl, rfl, rfl⟩
  case round =>
  obtain ⟨m, hm, rfl, rfl, rfl⟩ := hrel
  have hub := unl_le x.l m
  obtain ⟨U, hU⟩ : ∃ U, U = unl x.l m := ⟨_, rfl⟩
  rw [← hU] at hub ⊢
  have HU := hideP hU
  clear hU
  by_cases hlt : m < xl
  · have hmx : m < x.l.length := by rw [← HXN.out]; exact hlt
    obtain ⟨xb, xo, rfl, hxc⟩ := ints_cell HI0.out hmx
    obtain ⟨y, hy⟩ : ∃ y, y = x.l[m] := ⟨_, rfl⟩
    rw [← hy] at hxc
    have HS : Hid (unl x.l (m + 1) = if y ∈ x.l.take m then U else U + 1) := hideP (by rw [unl, List.getElem?_eq_getElem hmx, HU.out, hy])
    have hmm : (m : Int) < (xl : Int) := by omega
    clear hy HU
    go_wp2
    go_loopw [24, 25] (fun s24 s25 wr => ∃ (t : Nat) (B : Bool), t ≤ m ∧ s24 = .bool B ∧ s25 = .int .i64 t ∧ W8 = wr ∧ Hid (B = !decide (y ∈ x.l.take t))) (fun _ s25 _ => m - (intOf s25).toNat)
    case atStart => exact ⟨0, true, by omega, rfl, rfl, rfl, hideP (by simp)⟩
    case round =>
      obtain ⟨t, B, ht, rfl, rfl, rfl, HB1⟩ := hrel
      by_cases htm : t < m
      · have htx : t < x.l.length := by omega
        obtain ⟨xb', xo', e', hxt⟩ := ints_cell HI0.out htx
        simp only [Option.some.injEq, Addr.mk.injEq, and_true] at e'
        obtain ⟨rfl, rfl⟩ := e'
        obtain ⟨v, hv⟩ : ∃ v, v = x.l[t] := ⟨_, rfl⟩
        rw [← hv] at hxt
        have hmem : (y ∈ x.l.take (t + 1)) ↔ (y ∈ x.l.take t ∨ y = v) := by rw [List.take_succ_eq_append_getElem htx, List.mem_append, List.mem_singleton, hv]
        have htt : (t : Int) < (m : Int) := by omega
        have htl : (t : Int) < (xl : Int) := by omega
        by_cases hvy : v = y
        · have v1 : (v == y) = true := by simp [hvy]
          have HB2 : Hid (false = !decide (y ∈ x.l.take (t + 1))) := hideP (by rw [decide_eq_true (hmem.2 (.inr hvy.symm))]; rfl)
          have HVY := hideP hvy
          clear hmem hv hvy HB1
          go_wp2
          go_roundw
          case rel => exact ⟨t + 1, false, by omega, by first | rfl | trivial, by go_num, by first | rfl | trivial, HB2⟩
          case measure => simp [intOf]; omega
        · have v1 : (v == y) = false := by rw [beq_eq_false_iff_ne]; exact hvy
          have HB2 : Hid (B = !decide (y ∈ x.l.take (t + 1))) := hideP (by
            rw [HB1.out]
            congr 1
            rw [decide_eq_decide, hmem]
            exact ⟨.inl, fun q => q.resolve_right (fun e => hvy e.symm)⟩)
          clear hmem hv HB1
          go_wp2
          go_roundw
          case rel => exact ⟨t + 1, B, by omega, by first | rfl | trivial, by go_num, by first | rfl | trivial, HB2⟩
          case measure => simp [intOf]; omega
      · obtain rfl : t = m := by omega
        have htt : ¬ (t : Int) < (t : Int) := by omega
        cases B with
        | false =>
          have HS2 : Hid (U = unl x.l (t + 1)) := hideP (by
            have h9 : y ∈ x.l.take t := by
              have := HB1.out
              simpa using this
            rw [HS.out, if_pos h9])
          clear HB1
          go_wp2
          go_roundw
          case rel => exact ⟨t + 1, by omega, by rw [← HS2.out], by go_num, by first | rfl | trivial⟩
          case measure => simp [intOf]; omega
        | true =>
          have HS2 : Hid (U + 1 = unl x.l (t + 1)) := hideP (by
            have h9 : ¬ y ∈ x.l.take t := by
              have := HB1.out
              simpa using this
            rw [HS.out, if_neg h9])
          clear HB1
          go_wp2
          go_roundw
          case rel => exact ⟨t + 1, by omega, by rw [← HS2.out]; go_num, by go_num, by first | rfl | trivial⟩
          case measure => simp [intOf]; omega
  obtain rfl : m = xl := by omega
  have hmm : ¬ (m : Int) < (m : Int) := by omega
  rw [← HU.out] at CP3
  have u1 : ((U : Int) != (U : Int)) = false := by simp
  have u2 : ((U : Int) == (U : Int)) = true := by simp
  have hS6 : Kept (fun _ => False) W8 W8.drew := Kept.drew W8
  have c1 : 1 ≤ cl := by omega
  have c2 : 1 ≤ co := by omega
  go_wp2_with fail
  refine wp_region_held (S := fun V => Kept (fun _ => False) W8 V) (by kernel_rfl) ?_
  change wpAnyH _ _ _ _ _ _ _ _ (World.drew _)
  refine takeZ (i := 0) (d := 158) (v := .slice (some ⟨lb, lo, none⟩) j cl) rfl rfl (by kernel_rfl) (by kernel_rfl) (by kernel_rfl) (fun _ _ _ h => h) (Or.inl ⟨by rfl, fun W hW => ?_⟩) hS6 ?_
  · (go_simp)
  simp only [Act.put, List.setIfInBounds_toArray, List.set_cons_zero, List.set_cons_succ]
  refine takeZ (i := 1) (d := 159) (v := .slice (some ⟨lb, lo, none⟩) 1 cl) rfl rfl (by kernel_rfl) (by kernel_rfl) (by kernel_rfl) (fun _ _ _ h => h) (Or.inl ⟨by rfl, fun W hW => ?_⟩) hS6 ?_
  · (go_simp; first | done | (intro h; omega))
  simp only [Act.put, List.setIfInBounds_toArray, List.set_cons_zero, List.set_cons_succ]
  refine takeZ (i := 2) (d := 160) (v := .slice (some ⟨ob, oo, none⟩) j co) rfl rfl (by kernel_rfl) (by kernel_rfl) (by kernel_rfl) (fun _ _ _ h => h) (Or.inl ⟨by rfl, fun W hW => ?_⟩) hS6 ?_
  · (go_simp)
  simp only [Act.put, List.setIfInBounds_toArray, List.set_cons_zero, List.set_cons_succ]
  refine takeZ (i := 3) (d := 161) (v := .slice (some ⟨ob, oo, none⟩) 1 co) rfl rfl (by kernel_rfl) (by kernel_rfl) (by kernel_rfl) (fun _ _ _ h => h) (Or.inl ⟨by rfl, fun W hW => ?_⟩) hS6 ?_
  · (go_simp; first | done | (intro h; omega))
  simp only [Act.put, List.setIfInBounds_toArray, List.set_cons_zero, List.set_cons_succ]
  refine takeZ (i := 4) (d := 162) (v := .int .i64 s) rfl rfl (by kernel_rfl) (by kernel_rfl) (by kernel_rfl) (fun _ _ _ h => h) (Or.inl ⟨by rfl, fun W hW => ?_⟩) hS6 ?_
  · (go_simp)
  simp only [Act.put, List.setIfInBounds_toArray, List.set_cons_zero, List.set_cons_succ]
  refine takeZ (i := 6) (d := 164) (v := .int .i64 (U : Nat)) rfl rfl (by kernel_rfl) (by kernel_rfl) (by kernel_rfl) (fun _ _ _ h => h) (Or.inl ⟨by rfl, fun W hW => ?_⟩) hS6 ?_
  · (go_simp)
  simp only [Act.put, List.setIfInBounds_toArray, List.set_cons_zero, List.set_cons_succ]
  refine wpAnyH_all (rs := [5]) (by kernel_rfl) (by simp) ?_
  intro i hi
  obtain rfl : i = 5 := by simpa using hi
  unfold wpOp
  go_simp
  first | refine CP3.out.mono ?_ | refine Or.inl (CP3.out.mono ?_)
  clear CP3
  rintro e W9 ⟨rfl, k9⟩
  have hS7 : Kept (fun _ => False) W8 W9 := hS6.trans k9 (fun _ f => f.elim)
  refine ⟨hS7, ?_⟩
  refine takeZ (i := 7) (d := 165) (v := .bool false) rfl rfl (by kernel_rfl) (by kernel_rfl) (by kernel_rfl) (fun _ _ _ h => h) (Or.inl ⟨by rfl, fun W hW => ?_⟩) hS7 ?_
  · (go_simp; first | done | simp [u1])
  simp only [Act.put, List.setIfInBounds_toArray, List.set_cons_zero, List.set_cons_succ]
  refine wpAnyH_done (by kernel_rfl) ?_ _
  have HK89 := hideP hS7
  have HLI9 := hideP (HLI8.out.kept hS7)
  have HOI9 := hideP (HOI8.out.kept hS7)
  have HK9 := hideP (HK8.out.trans hS7 (fun _ f => f.elim))
  have HK39 := hideP (HK38.out.trans hS7 (fun _ f => f.elim))
  clear hS6 hS7 k9 HLI8 HOI8 HK8 HK38 HC0 HI0 HXN HU y1 hub hmm hm hx0b
  go_wp2
  go_loopw [26, 168] (fun s26 s168 wr => ∃ (t : Nat) (vd : Value) (D : List Il), t ≤ j ∧ vd = s26 ∧ s168 = .int .i64 t ∧ Hid (Gli W9 wr vd t D) ∧ Hid (Lad LM OM k t D)) (fun _ s168 _ => j - (intOf s168).toNat)
  case atStart => exact ⟨0, _, [], by omega, rfl, rfl, hideP (gli_nil _), hideP (lad_zero LM OM k)⟩
  case round =>
  obtain ⟨t, vd, D, ht, rfl, rfl, HG, HD⟩ := hrel
  obtain ⟨Wa, hWa⟩ : ∃ Wa, Wa = wr := ⟨_, rfl⟩
  rw [← hWa] at HG ⊢
  clear hWa
  by_cases hlt : t < j
  · have htL : t < LM.length := by rw [HML.out]; exact hlt
    have htO : t < OM.length := by rw [HOL.out]; exact hlt
    obtain ⟨lb', lo', e', hc⟩ := HLI9.out (by intro e; rw [e] at htL; simp at htL)
    simp only [Option.some.injEq, Addr.mk.injEq, and_true] at e'
    obtain ⟨rfl, rfl⟩ := e'
    obtain ⟨ob', oo', e', hoc1⟩ := ints_cell HOI9.out htO
    simp only [Option.some.injEq, Addr.mk.injEq, and_true] at e'
    obtain ⟨rfl, rfl⟩ := e'
    have kG := HG.out.gro.kept
    have hown : ∀ b, b < W9.heap.size → ¬ vd.ownBlock = some b := fun b hb hv => by
      have := (HG.out.gro.own.lt b hv).1
      omega
    obtain ⟨y1, y2⟩ := hc t htL
    have HQ1 : Hid (∀ V, Kept (fun b => vd.ownBlock = some b) Wa V → V.cell? ⟨lb, lo + t, none⟩ = some (.slice LM[t].a LM[t].l.length LM[t].c)) := hideP (fun V kv => kv.cell (kG.cell y1 (fun f => f)) (hown _ (World.block_lt_of_cell? W9 _ y1)))
    have HQ2 : Hid (∀ V, Kept (fun b => vd.ownBlock = some b) Wa V → V.cell? ⟨ob, oo + t, none⟩ = some (.int .i64 OM[t])) := hideP (fun V kv => kv.cell (kG.cell hoc1 (fun f => f)) (hown _ (World.block_lt_of_cell? W9 _ hoc1)))
    have HQ3 : Hid (IntsAt Wa LM[t].a LM[t].l) := hideP (y2.kept kG)
    have b1 := HOB.out _ (List.getElem_mem htO)
    have HXB := hideP (HMA.out _ (List.getElem_mem htL)).1
    have HSt : Hid (∀ x : Il, x.l = LM[t].l ++ [100 + k + OM[t]] → Lad LM OM k (t + 1) (D ++ [x])) := hideP (fun x hx => HD.out.step htL htO x hx)
    obtain ⟨x, hx⟩ : ∃ x, x = LM[t] := ⟨_, rfl⟩
    rw [← hx] at HQ1 HQ3 HXB HSt
    generalize OM[t] = ot at *
    obtain ⟨xl, hxl⟩ : ∃ xl, xl = x.l.length := ⟨_, rfl⟩
    rw [← hxl] at HQ1 HXB
    have HXN := hideP hxl
    have hxb := HXB.out
    have hxll : x.l.length = xl := hxl.symm
    generalize x.a = xa at *
    generalize x.c = xc at *
    generalize x.l = xs at *
    have HXL := hideP hxll
    have gt : (t : Int) < (j : Int) := by omega
    have w2 : IntKind.i64.wrap (100 + k) = 100 + k := by rw [IntKind.wrap_i64]; omega
    have w3 : IntKind.i64.wrap (100 + k + ot) = 100 + k + ot := by rw [IntKind.wrap_i64]; omega
    have hS0 : Kept (fun _ => False) Wa Wa.drew := Kept.drew Wa
    have hS6 : Kept (fun b => vd.ownBlock = some b) Wa Wa.drew := hS0.mono (fun _ f => f.elim)
    clear hx hxl hc y1 y2 hoc1 kG HD hxll hown
    go_wp2_with fail
    refine wp_region_held (S := fun V => Kept (fun b => vd.ownBlock = some b) Wa V) (by kernel_rfl) ?_
    change wpAnyH _ _ _ _ _ _ _ _ (World.drew _)
    refine takeZ (i := 0) (d := 171) (v := vd) rfl rfl (by kernel_rfl) (by kernel_rfl) (by kernel_rfl) (fun _ _ _ h => h) (Or.inl ⟨by rfl, fun W hW => ?_⟩) hS6 ?_
    · (go_simp)
    simp only [Act.put, List.setIfInBounds_toArray, List.set_cons_zero, List.set_cons_succ]
    refine takeZ (i := 2) (d := 173) (v := .slice (some ⟨lb, lo, none⟩) j cl) rfl rfl (by kernel_rfl) (by kernel_rfl) (by kernel_rfl) (fun _ _ _ h => h) (Or.inl ⟨by rfl, fun W hW => ?_⟩) hS6 ?_
    · (go_simp)
    simp only [Act.put, List.setIfInBounds_toArray, List.set_cons_zero, List.set_cons_succ]
    refine takeZ (i := 3) (d := 174) (v := .int .i64 t) rfl rfl (by kernel_rfl) (by kernel_rfl) (by kernel_rfl) (fun _ _ _ h => h) (Or.inl ⟨by rfl, fun W hW => ?_⟩) hS6 ?_
    · (go_simp)
    simp only [Act.put, List.setIfInBounds_toArray, List.set_cons_zero, List.set_cons_succ]
    refine takeZ (i := 4) (d := 175) (v := .pointer (some ⟨lb, lo + t, none⟩)) rfl rfl (by kernel_rfl) (by kernel_rfl) (by kernel_rfl) (fun _ _ _ h => h) (Or.inl ⟨by rfl, fun W hW => ?_⟩) hS6 ?_
    · (go_simp)
    simp only [Act.put, List.setIfInBounds_toArray, List.set_cons_zero, List.set_cons_succ]
    refine takeZ (i := 5) (d := 176) (v := .slice xa xl xc) rfl rfl (by kernel_rfl) (by kernel_rfl) (by kernel_rfl) (fun _ _ _ h => h) (Or.inl ⟨by rfl, fun W hW => ?_⟩) hS6 ?_
    · (have q1 := HQ1.out _ hW; go_simp)
    simp only [Act.put, List.setIfInBounds_toArray, List.set_cons_zero, List.set_cons_succ]
    refine takeZ (i := 7) (d := 178) (v := .int .i64 k) rfl rfl (by kernel_rfl) (by kernel_rfl) (by kernel_rfl) (fun _ _ _ h => h) (Or.inl ⟨by rfl, fun W hW => ?_⟩) hS6 ?_
    · (go_simp)
    simp only [Act.put, List.setIfInBounds_toArray, List.set_cons_zero, List.set_cons_succ]
    refine takeZ (i := 8) (d := 179) (v := .int .i64 (100 + k)) rfl rfl (by kernel_rfl) (by kernel_rfl) (by kernel_rfl) (fun _ _ _ h => h) (Or.inl ⟨by rfl, fun W hW => ?_⟩) hS6 ?_
    · (go_simp; first | done | simp [w2])
    simp only [Act.put, List.setIfInBounds_toArray, List.set_cons_zero, List.set_cons_succ]
    refine takeZ (i := 9) (d := 180) (v := .slice (some ⟨ob, oo, none⟩) j co) rfl rfl (by kernel_rfl) (by kernel_rfl) (by kernel_rfl) (fun _ _ _ h => h) (Or.inl ⟨by rfl, fun W hW => ?_⟩) hS6 ?_
    · (go_simp)
    simp only [Act.put, List.setIfInBounds_toArray, List.set_cons_zero, List.set_cons_succ]
    refine takeZ (i := 10) (d := 181) (v := .int .i64 t) rfl rfl (by kernel_rfl) (by kernel_rfl) (by kernel_rfl) (fun _ _ _ h => h) (Or.inl ⟨by rfl, fun W hW => ?_⟩) hS6 ?_
    · (go_simp)
    simp only [Act.put, List.setIfInBounds_toArray, List.set_cons_zero, List.set_cons_succ]
    refine takeZ (i := 11) (d := 182) (v := .pointer (some ⟨ob, oo + t, none⟩)) rfl rfl (by kernel_rfl) (by kernel_rfl) (by kernel_rfl) (fun _ _ _ h => h) (Or.inl ⟨by rfl, fun W hW => ?_⟩) hS6 ?_
    · (go_simp)
    simp only [Act.put, List.setIfInBounds_toArray, List.set_cons_zero, List.set_cons_succ]
    refine takeZ (i := 12) (d := 183) (v := .int .i64 ot) rfl rfl (by kernel_rfl) (by kernel_rfl) (by kernel_rfl) (fun _ _ _ h => h) (Or.inl ⟨by rfl, fun W hW => ?_⟩) hS6 ?_
    · (have q1 := HQ2.out _ hW; go_simp)
    simp only [Act.put, List.setIfInBounds_toArray, List.set_cons_zero, List.set_cons_succ]
    refine takeZ (i := 13) (d := 184) (v := .int .i64 (100 + k + ot)) rfl rfl (by kernel_rfl) (by kernel_rfl) (by kernel_rfl) (fun _ _ _ h => h) (Or.inl ⟨by rfl, fun W hW => ?_⟩) hS6 ?_
    · (go_simp; first | done | simp [w3])
    simp only [Act.put, List.setIfInBounds_toArray, List.set_cons_zero, List.set_cons_succ]
    refine wpAnyH_all (rs := [1, 14]) (by kernel_rfl) (by simp) ?_
    intro i' hi'
    obtain rfl | rfl : i' = 1 ∨ i' = 14 := by simpa using hi'
    · unfold wpOp
      go_simp
      have k1 : Kept (fun _ => False) Wa (Wa.alloc (.cells #[] 3)).drew := (Kept.alloc _ _).trans (Kept.drew _) (fun _ f => f.elim)
      have gE := (gro_empty Wa Wa 3 1 (Kept.refl _ _)).later (Kept.drew _)
      first | refine Or.inl ⟨(k1.mono (fun _ f => f.elim)), ?_⟩ | refine ⟨(k1.mono (fun _ f => f.elim)), ?_⟩
      generalize (Wa.alloc (.cells #[] 3)).drew = V1 at *
      refine wpAnyH_all (rs := [6, 14]) (by kernel_rfl) (by simp) ?_
      intro i' hi'
      obtain rfl | rfl : i' = 6 ∨ i' = 14 := by simpa using hi'
      · refine wpOp_in rfl rfl ?_
        refine wp_catI (w0 := Wa) (.tmp 172) (.tmp 176) rfl (.slice (some ⟨Wa.heap.size, 0, none⟩) 0 0) 0 [] rfl gE xa xl xc rfl xs HXL.out.symm (HQ3.out.kept k1) (by omega) xl (Nat.zero_add _) ?_
        intro va vc V2 gT sT
        have k2 := gT.kept
        refine ⟨(k2.mono (fun _ f => f.elim)), ?_⟩
        simp only [Act.put, List.setIfInBounds_toArray]
        refine wpAnyH_all (rs := [14]) (by kernel_rfl) (by simp) ?_
        intro i' hi'
        obtain rfl : i' = 14 := by simpa using hi'
        unfold wpOp
        go_simp
        have s3 : Kept (fun _ => False) V2 (V2.alloc (.cells #[.int .i64 (100 + k + ot)] 3)) := Kept.alloc _ _
        have k3 : Kept (fun _ => False) Wa (V2.alloc (.cells #[.int .i64 (100 + k + ot)] 3)) := k2.trans s3 (fun _ f => f.elim)
        have iR := ints_oneU V2 (100 + k + ot)
        first | refine Or.inl ⟨(k3.mono (fun _ f => f.elim)), ?_⟩ | refine ⟨(k3.mono (fun _ f => f.elim)), ?_⟩
        generalize V2.alloc (.cells #[.int .i64 (100 + k + ot)] 3) = V3 at *
        have gT := gT.later s3
        refine wpAnyH_all (rs := [15]) (by kernel_rfl) (by simp) ?_
        intro i' hi'
        obtain rfl : i' = 15 := by simpa using hi'
        refine wpOp_in rfl rfl ?_
        refine wp_catI (w0 := Wa) (.tmp 177) (.tmp 185) rfl (.slice va xl vc) xl ([] ++ xs) rfl gT (some ⟨V2.heap.size, 0, none⟩) 1 1 rfl [100 + k + ot] rfl iR (by omega) (xl + 1) rfl ?_
        intro ga gc V4 gY sY
        have k4 := gY.kept
        refine ⟨(k4.mono (fun _ f => f.elim)), ?_⟩
        simp only [Act.put, List.setIfInBounds_toArray]
        refine wpAnyH_all (rs := [16]) (by kernel_rfl) (by simp) ?_
        intro i' hi'
        obtain rfl : i' = 16 := by simpa using hi'
        unfold wpOp
        go_simp
        have sZ : Kept (fun _ => False) V4 (V4.alloc (.cells #[.slice ga (xl + 1) gc] 23)) := Kept.alloc _ _
        have kZ := k4.trans sZ (fun _ f => f.elim)
        have rZ := row_news V4 [.slice ga (xl + 1) gc] 23
        first | refine Or.inl ⟨(kZ.mono (fun _ f => f.elim)), ?_⟩ | refine ⟨(kZ.mono (fun _ f => f.elim)), ?_⟩
        change ∀ (q : Nat) (u : Value), [Value.slice ga (xl + 1) gc][q]? = some u → (V4.alloc (.cells #[.slice ga (xl + 1) gc] 23)).cell? _ = some u at rZ
        generalize V4.alloc (.cells #[.slice ga (xl + 1) gc] 23) = VZ at *
        obtain ⟨i0, hi0, hz0', hz1', hz2'⟩ := info_partsP Tryd.infoLi
        refine wpAnyH_all (rs := [17]) (by kernel_rfl) (by simp) ?_
        intro i' hi'
        obtain rfl : i' = 17 := by simpa using hi'
        refine wpOp_in rfl rfl ?_
        have gD := HG.out.later kZ
        refine wp_catX (w0 := W9) (.tmp 171) (.tmp 187) 22 rfl 23 i0 (.slice none 0 0) 1 24 Tryd.underlying22 hi0 hz0' hz1' hz2' rfl (by decide) vd t (svl D) [.slice ga (xl + 1) gc] rfl gD.gro ⟨V4.heap.size, 0, none⟩ 1 1 rfl rfl rZ (by intro u hu; simp at hu; subst hu; rfl) (by decide) (by omega) (by unfold maxLen; omega) ?_
        intro g7 c7 V7 gF sF
        have kF : Kept (fun b => vd.ownBlock = some b) Wa V7 := (kZ.mono (fun _ f => f.elim)).trans sF.kept (fun i hi => .inl hi)
        refine ⟨kF, ?_⟩
        simp only [Act.put, List.setIfInBounds_toArray]
        have iY : IntsAt VZ ga (xs ++ [100 + k + ot]) := by
          obtain ⟨a9, c9, e9, hI9⟩ := gro_intsU (gY.later sZ) (by rw [List.length_append, List.nil_append, HXL.out]; simp)
          injection e9 with e9 e8 e7
          subst e9
          exact hI9
        have HGF : Hid (Gli W9 V7 (.slice (some ⟨g7, 0, none⟩) (t + 1) c7) (t + 1) (D ++ [⟨ga, gc, xs ++ [100 + k + ot]⟩])) := hideP (gD.more ⟨ga, gc, xs ++ [100 + k + ot]⟩ iY (fun _ => HG.out.gro.old gY.newa) (by rw [svl_app]; simp only [List.length_append, List.length_singleton, HXL.out]; exact gF) sF)
        have HSF := hideP (HSt.out ⟨ga, gc, xs ++ [100 + k + ot]⟩ rfl)
        refine takeZ (i := 18) (d := 26) (v := .slice (some ⟨g7, 0, none⟩) (t + 1) c7) rfl rfl (by kernel_rfl) (by kernel_rfl) (by kernel_rfl) (fun _ _ _ h => h) (Or.inl ⟨by rfl, fun W hW => ?_⟩) kF ?_
        · (go_simp)
        simp only [Act.put]
        refine wpAnyH_done (by kernel_rfl) ?_ _
        clear kF sF gF gD iY rZ kZ sZ gY sY gT sT iR gE
        go_wp2
        go_roundw
        case rel => exact ⟨t + 1, _, D ++ [⟨ga, gc, xs ++ [100 + k + ot]⟩], by omega, rfl, by go_num, HGF, HSF⟩
        case measure => simp [intOf]; omega
      · have hsz1 := (gE.own.lt Wa.heap.size rfl).2
        unfold wpOp
        go_simp
        have s2 : Kept (fun _ => False) V1 (V1.alloc (.cells #[.int .i64 (100 + k + ot)] 3)) := Kept.alloc _ _
        have k2 : Kept (fun _ => False) Wa (V1.alloc (.cells #[.int .i64 (100 + k + ot)] 3)) := k1.trans s2 (fun _ f => f.elim)
        have iR := ints_oneU V1 (100 + k + ot)
        first | refine Or.inl ⟨(k2.mono (fun _ f => f.elim)), ?_⟩ | refine ⟨(k2.mono (fun _ f => f.elim)), ?_⟩
        generalize V1.alloc (.cells #[.int .i64 (100 + k + ot)] 3) = V2 at *
        have gE := gE.later s2
        refine wpAnyH_all (rs := [6]) (by kernel_rfl) (by simp) ?_
        intro i' hi'
        obtain rfl : i' = 6 := by simpa using hi'
        refine wpOp_in rfl rfl ?_
        refine wp_catI (w0 := Wa) (.tmp 172) (.tmp 176) rfl (.slice (some ⟨Wa.heap.size, 0, none⟩) 0 0) 0 [] rfl gE xa xl xc rfl xs HXL.out.symm (HQ3.out.kept k2) (by omega) xl (Nat.zero_add _) ?_
        intro va vc V3 gT sT
        have k3 := gT.kept
        have iR := ints_far iR sT (fun _ b off e hv => by simp only [Option.some.injEq, Addr.mk.injEq, and_true] at e; simp [Value.ownBlock] at hv; omega)
        refine ⟨(k3.mono (fun _ f => f.elim)), ?_⟩
        simp only [Act.put, List.setIfInBounds_toArray]
        refine wpAnyH_all (rs := [15]) (by kernel_rfl) (by simp) ?_
        intro i' hi'
        obtain rfl : i' = 15 := by simpa using hi'
        refine wpOp_in rfl rfl ?_
        refine wp_catI (w0 := Wa) (.tmp 177) (.tmp 185) rfl (.slice va xl vc) xl ([] ++ xs) rfl gT (some ⟨V1.heap.size, 0, none⟩) 1 1 rfl [100 + k + ot] rfl iR (by omega) (xl + 1) rfl ?_
        intro ga gc V4 gY sY
        have k4 := gY.kept
        refine ⟨(k4.mono (fun _ f => f.elim)), ?_⟩
        simp only [Act.put]
        refine wpAnyH_all (rs := [16]) (by kernel_rfl) (by simp) ?_
        intro i' hi'
        obtain rfl : i' = 16 := by simpa using hi'
        unfold wpOp
        go_simp
        have sZ : Kept (fun _ => False) V4 (V4.alloc (.cells #[.slice ga (xl + 1) gc] 23)) := Kept.alloc _ _
        have kZ := k4.trans sZ (fun _ f => f.elim)
        have rZ := row_news V4 [.slice ga (xl + 1) gc] 23
        first | refine Or.inl ⟨(kZ.mono (fun _ f => f.elim)), ?_⟩ | refine ⟨(kZ.mono (fun _ f => f.elim)), ?_⟩
        change ∀ (q : Nat) (u : Value), [Value.slice ga (xl + 1) gc][q]? = some u → (V4.alloc (.cells #[.slice ga (xl + 1) gc] 23)).cell? _ = some u at rZ
        generalize V4.alloc (.cells #[.slice ga (xl + 1) gc] 23) = VZ at *
        obtain ⟨i0, hi0, hz0', hz1', hz2'⟩ := info_partsP Tryd.infoLi
        refine wpAnyH_all (rs := [17]) (by kernel_rfl) (by simp) ?_
        intro i' hi'
        obtain rfl : i' = 17 := by simpa using hi'
        refine wpOp_in rfl rfl ?_
        have gD := HG.out.later kZ
        refine wp_catX (w0 := W9) (.tmp 171) (.tmp 187) 22 rfl 23 i0 (.slice none 0 0) 1 24 Tryd.underlying22 hi0 hz0' hz1' hz2' rfl (by decide) vd t (svl D) [.slice ga (xl + 1) gc] rfl gD.gro ⟨V4.heap.size, 0, none⟩ 1 1 rfl rfl rZ (by intro u hu; simp at hu; subst hu; rfl) (by decide) (by omega) (by unfold maxLen; omega) ?_
        intro g7 c7 V7 gF sF
        have kF : Kept (fun b => vd.ownBlock = some b) Wa V7 := (kZ.mono (fun _ f => f.elim)).trans sF.kept (fun i hi => .inl hi)
        refine ⟨kF, ?_⟩
        simp only [Act.put, List.setIfInBounds_toArray]
        have iY : IntsAt VZ ga (xs ++ [100 + k + ot]) := by
          obtain ⟨a9, c9, e9, hI9⟩ := gro_intsU (gY.later sZ) (by rw [List.length_append, List.nil_append, HXL.out]; simp)
          injection e9 with e9 e8 e7
          subst e9
          exact hI9
        have HGF : Hid (Gli W9 V7 (.slice (some ⟨g7, 0, none⟩) (t + 1) c7) (t + 1) (D ++ [⟨ga, gc, xs ++ [100 + k + ot]⟩])) := hideP (gD.more ⟨ga, gc, xs ++ [100 + k + ot]⟩ iY (fun _ => HG.out.gro.old gY.newa) (by rw [svl_app]; simp only [List.length_append, List.length_singleton, HXL.out]; exact gF) sF)
        have HSF := hideP (HSt.out ⟨ga, gc, xs ++ [100 + k + ot]⟩ rfl)
        refine takeZ (i := 18) (d := 26) (v := .slice (some ⟨g7, 0, none⟩) (t + 1) c7) rfl rfl (by kernel_rfl) (by kernel_rfl) (by kernel_rfl) (fun _ _ _ h => h) (Or.inl ⟨by rfl, fun W hW => ?_⟩) kF ?_
        · (go_simp)
        simp only [Act.put]
        refine wpAnyH_done (by kernel_rfl) ?_ _
        clear kF sF gF gD iY rZ kZ sZ gY sY gT sT iR gE
        go_wp2
        go_roundw
        case rel => exact ⟨t + 1, _, D ++ [⟨ga, gc, xs ++ [100 + k + ot]⟩], by omega, rfl, by go_num, HGF, HSF⟩
        case measure => simp [intOf]; omega
    · unfold wpOp
      go_simp
      have k1 : Kept (fun _ => False) Wa (Wa.alloc (.cells #[.int .i64 (100 + k + ot)] 3)).drew := (Kept.alloc _ _).trans (Kept.drew _) (fun _ f => f.elim)
      have iR := (ints_oneU Wa (100 + k + ot)).kept (Kept.drew _)
      first | refine Or.inl ⟨(k1.mono (fun _ f => f.elim)), ?_⟩ | refine ⟨(k1.mono (fun _ f => f.elim)), ?_⟩
      generalize (Wa.alloc (.cells #[.int .i64 (100 + k + ot)] 3)).drew = V1 at *
      have hsz1 := ints_lt iR (by simp) rfl
      refine wpAnyH_all (rs := [1]) (by kernel_rfl) (by simp) ?_
      intro i' hi'
      obtain rfl : i' = 1 := by simpa using hi'
      unfold wpOp
      go_simp
      have s2 : Kept (fun _ => False) V1 (V1.alloc (.cells #[] 3)) := Kept.alloc _ _
      have k2 : Kept (fun _ => False) Wa (V1.alloc (.cells #[] 3)) := k1.trans s2 (fun _ f => f.elim)
      have gE := (gro_empty Wa V1 3 1 k1)
      first | refine Or.inl ⟨(k2.mono (fun _ f => f.elim)), ?_⟩ | refine ⟨(k2.mono (fun _ f => f.elim)), ?_⟩
      generalize V1.alloc (.cells #[] 3) = V2 at *
      have iR := iR.kept s2
      refine wpAnyH_all (rs := [6]) (by kernel_rfl) (by simp) ?_
      intro i' hi'
      obtain rfl : i' = 6 := by simpa using hi'
      refine wpOp_in rfl rfl ?_
      refine wp_catI (w0 := Wa) (.tmp 172) (.tmp 176) rfl (.slice (some ⟨V1.heap.size, 0, none⟩) 0 0) 0 [] rfl gE xa xl xc rfl xs HXL.out.symm (HQ3.out.kept k2) (by omega) xl (Nat.zero_add _) ?_
      intro va vc V3 gT sT
      have k3 := gT.kept
      have iR := ints_far iR sT (fun _ b off e hv => by simp only [Option.some.injEq, Addr.mk.injEq, and_true] at e; simp [Value.ownBlock] at hv; omega)
      refine ⟨(k3.mono (fun _ f => f.elim)), ?_⟩
      simp only [Act.put, List.setIfInBounds_toArray]
      refine wpAnyH_all (rs := [15]) (by kernel_rfl) (by simp) ?_
      intro i' hi'
      obtain rfl : i' = 15 := by simpa using hi'
      refine wpOp_in rfl rfl ?_
      refine wp_catI (w0 := Wa) (.tmp 177) (.tmp 185) rfl (.slice va xl vc) xl ([] ++ xs) rfl gT (some ⟨Wa.heap.size, 0, none⟩) 1 1 rfl [100 + k + ot] rfl iR (by omega) (xl + 1) rfl ?_
      intro ga gc V4 gY sY
      have k4 := gY.kept
      refine ⟨(k4.mono (fun _ f => f.elim)), ?_⟩
      simp only [Act.put]
      refine wpAnyH_all (rs := [16]) (by kernel_rfl) (by simp) ?_
      intro i' hi'
      obtain rfl : i' = 16 := by simpa using hi'
      unfold wpOp
      go_simp
      have sZ : Kept (fun _ => False) V4 (V4.alloc (.cells #[.slice ga (xl + 1) gc] 23)) := Kept.alloc _ _
      have kZ := k4.trans sZ (fun _ f => f.elim)
      have rZ := row_news V4 [.slice ga (xl + 1) gc] 23
      first | refine Or.inl ⟨(kZ.mono (fun _ f => f.elim)), ?_⟩ | refine ⟨(kZ.mono (fun _ f => f.elim)), ?_⟩
      change ∀ (q : Nat) (u : Value), [Value.slice ga (xl + 1) gc][q]? = some u → (V4.alloc (.cells #[.slice ga (xl + 1) gc] 23)).cell? _ = some u at rZ
      generalize V4.alloc (.cells #[.slice ga (xl + 1) gc] 23) = VZ at *
      obtain ⟨i0, hi0, hz0', hz1', hz2'⟩ := info_partsP Tryd.infoLi
      refine wpAnyH_all (rs := [17]) (by kernel_rfl) (by simp) ?_
      intro i' hi'
      obtain rfl : i' = 17 := by simpa using hi'
      refine wpOp_in rfl rfl ?_
      have gD := HG.out.later kZ
      refine wp_catX (w0 := W9) (.tmp 171) (.tmp 187) 22 rfl 23 i0 (.slice none 0 0) 1 24 Tryd.underlying22 hi0 hz0' hz1' hz2' rfl (by decide) vd t (svl D) [.slice ga (xl + 1) gc] rfl gD.gro ⟨V4.heap.size, 0, none⟩ 1 1 rfl rfl rZ (by intro u hu; simp at hu; subst hu; rfl) (by decide) (by omega) (by unfold maxLen; omega) ?_
      intro g7 c7 V7 gF sF
      have kF : Kept (fun b => vd.ownBlock = some b) Wa V7 := (kZ.mono (fun _ f => f.elim)).trans sF.kept (fun i hi => .inl hi)
      refine ⟨kF, ?_⟩
      simp only [Act.put, List.setIfInBounds_toArray]
      have iY : IntsAt VZ ga (xs ++ [100 + k + ot]) := by
        obtain ⟨a9, c9, e9, hI9⟩ := gro_intsU (gY.later sZ) (by rw [List.length_append, List.nil_append, HXL.out]; simp)
        injection e9 with e9 e8 e7
        subst e9
        exact hI9
      have HGF : Hid (Gli W9 V7 (.slice (some ⟨g7, 0, none⟩) (t + 1) c7) (t + 1) (D ++ [⟨ga, gc, xs ++ [100 + k + ot]⟩])) := hideP (gD.more ⟨ga, gc, xs ++ [100 + k + ot]⟩ iY (fun _ => HG.out.gro.old gY.newa) (by rw [svl_app]; simp only [List.length_append, List.length_singleton, HXL.out]; exact gF) sF)
      have HSF := hideP (HSt.out ⟨ga, gc, xs ++ [100 + k + ot]⟩ rfl)
      refine takeZ (i := 18) (d := 26) (v := .slice (some ⟨g7, 0, none⟩) (t + 1) c7) rfl rfl (by kernel_rfl) (by kernel_rfl) (by kernel_rfl) (fun _ _ _ h => h) (Or.inl ⟨by rfl, fun W hW => ?_⟩) kF ?_
      · (go_simp)
      simp only [Act.put]
      refine wpAnyH_done (by kernel_rfl) ?_ _
      clear kF sF gF gD iY rZ kZ sZ gY sY gT sT iR gE
      go_wp2
      go_roundw
      case rel => exact ⟨t + 1, _, D ++ [⟨ga, gc, xs ++ [100 + k + ot]⟩], by omega, rfl, by go_num, HGF, HSF⟩
      case measure => simp [intOf]; omega
  obtain rfl : t = j := by omega
  have gtt : ¬ (t : Int) < (t : Int) := by omega
  obtain ⟨ad9, cd9, rfl⟩ := HG.out.gro.shape
  have HLD := hideP HG.out.li
  have hlD := HD.out.len
  have hkG := HG.out.gro.kept
  have h0L : 0 < LM.length := by rw [HML.out]; exact hip
  have CPD := hideP (pf_cnt D OM ad9 (some ⟨ob, oo, none⟩) cd9 co t 0 Wa HLD.out (HOI9.out.kept hkG) hlD HOL.out hnb (fun x hx => by
    obtain ⟨m, hm, rfl⟩ := List.mem_iff_getElem.1 hx
    have hmL : m < LM.length := by rw [HML.out]; omega
    have hmO : m < OM.length := by rw [HOL.out]; omega
    have hb := HMA.out _ (List.getElem_mem hmL)
    have ho := HOB.out _ (List.getElem_mem hmO)
    rw [HD.out.each m hm hmL hmO]
    refine ⟨by rw [List.length_append, List.length_singleton]; have := hb.1; omega, fun y hy => ?_⟩
    rcases List.mem_append.1 hy with q | q
    · have := hb.2 y q
      omega
    · rw [List.mem_singleton] at q
      omega) (fun o ho => by have := HOB.out o ho; omega) ⟨by decide, by decide⟩)
  rw [prs_laid k HLO.out (by rw [hlD, HML.out]) (fun m h1 h2 h3 => HD.out.each m h2 h1 h3) (by intro e; rw [e] at h0L; simp at h0L) (fun x hx y hy => by have := (HMA.out x hx).2 y hy; omega) (fun o ho => (HOB.out o ho).1)] at CPD
  have hFb0 := HB.out 0
  have HKa := hideP (HK9.out.trans hkG (fun _ f => f.elim))
  have HK3a := hideP (HK39.out.trans hkG (fun _ f => f.elim))
  clear HG HD HLD hkG hlD hlt ht h0L
  go_wp2_with (go_at_call 6; refine StpQ.go ?_)
  refine ⟨?_⟩
  refine CPD.out.mono ?_
  clear CPD
  rintro e Wb ⟨rfl, kb⟩
  have CPL := hideP (CP.out Wb 0 (HK3a.out.trans kb (fun _ f => f.elim)) (by decide) (by decide))
  have HKb := hideP (HKa.out.trans kb (fun _ f => f.elim))
  generalize cntP (prs LM OM) 0 = F0 at *
  clear kb CP HK3a HKa
  have f9 : (((F0 + 1 : Nat) : Int) == (F0 : Int) + 1) = true := by simp
  have fw : IntKind.i64.wrap ((F0 : Int) + 1) = (F0 : Int) + 1 := by rw [IntKind.wrap_i64]; omega
  go_wp2_with (go_at_call 6; refine StpQ.go ?_)
  refine ⟨?_⟩
  refine CPL.out.mono ?_
  clear CPL
  rintro e Wc ⟨rfl, kc⟩
  have HKc := hideP (HKb.out.trans kc (fun _ f => f.elim))
  clear kc HKb
  go_wp2
  go_ret
  exact ⟨by first | rfl | simp, HKc.out⟩
end Go.Proofs.YtedohkcoeebajaaDoor
