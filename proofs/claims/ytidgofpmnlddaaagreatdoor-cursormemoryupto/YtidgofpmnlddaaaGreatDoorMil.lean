import Derived.Test.YtidgofpmnlddaaaGreatDoorMij
import Derived.Test.YtidgofpmnlddaaaGreatDoorMrg9
import Derived.Test.YtidgofpmnlddaaaGreatDoorRfx
namespace Go.Proofs.YtidgofpmnlddaaaGreatDoor
open Go.ChangeShapes Go.WideShapes Go.ChangeAt Go.RowKit

/-- Only the first N cells of the block g are other ones. -/
structure Kc (g N : Nat) (W W' : World) : Prop where
  kept : Kept (fun k => k = g) W W'
  rest : ∀ o v, N ≤ o → W.cell? ⟨g, o, none⟩ = some v → W'.cell? ⟨g, o, none⟩ = some v
theorem Kc.refl (g N : Nat) (W : World) : Kc g N W W := ⟨Kept.refl _ _, fun _ _ _ h => h⟩
theorem Kc.set {g N : Nat} {W W' : World} (h : Kc g N W W') {k : Nat} (hk : k < N) (u : Value) : Kc g N W (W'.setCell ⟨g, k, none⟩ u) := by
  refine ⟨h.kept.trans (Kept.setCell W' ⟨g, k, none⟩ u) (fun i hi => .inl hi), fun o v ho hc => ?_⟩
  have hne : (⟨g, k, none⟩ : Addr) ≠ ⟨g, o, none⟩ := by
    intro e
    injection e with e1 e2
    omega
  exact (World.cell?_setCell_other (h := hne) ..).trans (h.rest o v ho hc)
theorem Kc.cell {g N : Nat} {W W' : World} (h : Kc g N W W') (hb : ∀ o, o < N → ∃ x, W.cell? ⟨g, o, none⟩ = some (.int .u8 x)) {b o : Nat} {v : Value} (hc : W.cell? ⟨b, o, none⟩ = some v) (hv : ∀ x, v ≠ .int .u8 x) : W'.cell? ⟨b, o, none⟩ = some v := by
  by_cases e : b = g
  · subst e
    rcases Nat.lt_or_ge o N with q | q
    · obtain ⟨x, hx⟩ := hb o q
      rw [hx] at hc
      injection hc with hc
      exact (hv x hc.symm).elim
    · exact h.rest o v q hc
  · exact h.kept.cell hc e
theorem SkAt.kc {g N : Nat} {W W' : World} (k : Kc g N W W') (hb : ∀ o, o < N → ∃ x, W.cell? ⟨g, o, none⟩ = some (.int .u8 x)) {a : Option Addr} {S : List Sk} {p0 : Nat} (h : SkAt W a S p0) : SkAt W' a S p0 := by
  intro hne
  obtain ⟨b, off, e, hc⟩ := h hne
  refine ⟨b, off, e, fun j hj => ?_⟩
  obtain ⟨x0, x1, x2, x3⟩ := hc j hj
  exact ⟨k.cell hb x0 (fun _ e => by cases e), k.cell hb x1 (fun _ e => by cases e), k.cell hb x2 (fun _ e => by cases e), k.cell hb x3 (fun _ e => by cases e)⟩
theorem OpdG.kc {g N : Nat} {W W' : World} {bl gi : Nat} {L : List Po} (h : OpdG W bl gi L) (k : Kc g N W W') (hb : ∀ o, o < N → ∃ x, W.cell? ⟨g, o, none⟩ = some (.int .u8 x)) (hne : gi ≠ g) : OpdG W' bl gi L := by
  obtain ⟨sa, sc, h⟩ := h
  refine ⟨sa, sc, k.cell hb h.c0 (fun _ e => by cases e), k.cell hb h.c1 (fun _ e => by cases e), k.cell hb h.c2 (fun _ e => by cases e), k.cell hb h.c3 (fun _ e => by cases e), fun he => ?_, h.cp, h.sk.kc k hb⟩
  obtain ⟨b, off, e, hc⟩ := h.im he
  injection e with e
  injection e with e1 e2
  subst e1 e2
  exact ⟨gi, 0, rfl, fun j hj => k.kept.cell (hc j hj) hne⟩
/-- W0 with the block c as it is in W. -/
def wsetM (W0 W : World) (c : Nat) : World := { W0 with heap := match W.heap[c]? with | some o => W0.heap.setIfInBounds c o | none => W0.heap }
theorem wsetM_size (W0 W : World) (c : Nat) : (wsetM W0 W c).heap.size = W0.heap.size := by
  unfold wsetM
  split <;> simp
theorem wsetM_kept (W0 W : World) (c : Nat) : Kept (fun i => i = c) W0 (wsetM W0 W c) := by
  refine ⟨rfl, rfl, rfl, Nat.le_of_eq (wsetM_size W0 W c).symm, fun i hi hne => ?_⟩
  unfold wsetM
  split
  · simp only [Array.getElem?_setIfInBounds]
    rw [if_neg (fun e => hne e.symm)]
  · rfl
theorem wsetM_at {W0 W : World} {c : Nat} (h0 : c < W0.heap.size) (h : c < W.heap.size) : (wsetM W0 W c).heap[c]? = W.heap[c]? := by
  unfold wsetM
  rw [Array.getElem?_eq_getElem h]
  simp [h0]
theorem wsetM_to {W0 W W' : World} {c : Nat} (h : Kept (fun _ => False) W0 W) (k : Kept (fun i => i = c) W W') (hl : c < W0.heap.size) : Kept (fun _ => False) (wsetM W0 W' c) W' := by
  have hs := Nat.le_trans h.size k.size
  refine ⟨k.os.trans h.os, k.tape.trans h.tape, k.output.trans h.output, by rw [wsetM_size]; exact hs, fun i hi _ => ?_⟩
  rw [wsetM_size] at hi
  by_cases e : i = c
  · subst e
    exact (wsetM_at hl (by omega)).symm
  · rw [(wsetM_kept W0 W' c).block i hi e, k.block i (by have := h.size; omega) e, h.block i hi (fun f => f)]
/-- The bytes that a cursor was opened over are written over: it stays. -/
theorem CuAt.spoil {X W W' : World} {F : Nat → Prop} {cb bl gi g N : Nat} {P : List Po} {nb : Int} {bv : Value} {pc : Nat} (h : CuAt ⟨X, F⟩ W cb bl P 0 0 nb bv none pc false) (ho : OpdG X bl gi P) (hg : g < X.heap.size) (k : Kc g N W W') (hb : ∀ o, o < N → ∃ x, X.cell? ⟨g, o, none⟩ = some (.int .u8 x)) (hgi : gi ≠ g) (hcb : cb ≠ g) : CuAt ⟨wsetM X W' g, F⟩ W' cb bl P 0 0 nb bv none pc false := by
  have hgW : g < W'.heap.size := Nat.lt_of_lt_of_le hg (Nat.le_trans h.kept.size k.kept.size)
  have kc : Kc g N X (wsetM X W' g) := ⟨wsetM_kept X W' g, fun o v hoN hc => (World.cell?_of_block (show (wsetM X W' g).heap[(⟨g, o, none⟩ : Addr).block]? = W'.heap[(⟨g, o, none⟩ : Addr).block]? from wsetM_at hg hgW)).trans (k.rest o v hoN (h.kept.cell hc (fun f => f)))⟩
  exact ⟨by show (wsetM X W' g).heap.size ≤ cb; rw [wsetM_size]; exact h.new, wsetM_to h.kept k.kept hg, (ho.kc kc hb hgi).opd, k.kept.heap h.obj hcb, fun e => (e rfl).elim, fun e => (e rfl).elim, fun j hj => h.low j (Nat.le_trans k.kept.size hj)⟩
set_option maxRecDepth 20000 in
set_option maxHeartbeats 2000000 in
theorem copen_goodG (P : List Po) (a : Option Addr) (n c : Nat) (ad : Nat → Addr) (w : World) (hn : n = (img P).length) (hA : BytesAt w a (img P)) (hg : gdl (-1) P) (hl : (img P).length ≤ 1073741824) (hE : ErQ w ad) :
    Calls Tryz.prog 7 #[.slice a n c] w fun e w' => ∃ cb bl gi W0, e = .returned (.tuple #[.pointer (some ⟨cb, 0, none⟩), .nilIface]) ∧ CuAt ⟨W0, allB⟩ w' cb bl P 0 0 (-1) (.slice none 0 0) none 0 false ∧ OpdG W0 bl gi P ∧ w.heap.size ≤ gi ∧ w.heap.size ≤ cb ∧ Kept (fun _ => False) w W0 ∧ Kept (fun _ => False) w w' := by
  subst hn
  have CO := hideP (popen_goodG P a c ad w hA hg hl hE)
  generalize (img P).length = N at *
  clear hA hg hl hE
  go_enter Tryz.func7, Tryz.ntmps7
  go_wp2_with (go_at_call 26; refine CO.out.mono ?_; clear CO; rintro e W1 ⟨bl, gi, rfl, ho, hgi, k1⟩; have HO := hideP ho; have HK1 := hideP k1; have HGI := hideP hgi; clear ho k1 hgi)
  go_ret2
  have kA := Kept.alloc W1 (.cells #[.int .i64 (-1), .int .i64 (-1), .int .i64 0] 50)
  have kB := Kept.alloc (W1.alloc (.cells #[.int .i64 (-1), .int .i64 (-1), .int .i64 0] 50)) (.cells #[.int .i64 (-1), .int .i64 (-1), .int .i64 0, .pointer (some ⟨bl, 0, none⟩), .int .i64 (-1), .slice none 0 0, .slice none 0 0, .bool false] 53)
  have gB := heap_alloc_new (W1.alloc (.cells #[.int .i64 (-1), .int .i64 (-1), .int .i64 0] 50)) (.cells #[.int .i64 (-1), .int .i64 (-1), .int .i64 0, .pointer (some ⟨bl, 0, none⟩), .int .i64 (-1), .slice none 0 0, .slice none 0 0, .bool false] 53)
  have z1 : (W1.alloc (.cells #[.int .i64 (-1), .int .i64 (-1), .int .i64 0] 50)).heap.size = W1.heap.size + 1 := by simp
  rw [z1] at gB
  have hs := HK1.out.size
  exact ⟨W1.heap.size + 1, bl, gi, _, rfl, ⟨Nat.le_of_eq z1, kB, (HO.out.kept kA).opd, gB, fun e => (e rfl).elim, fun e => (e rfl).elim, fun _ _ => trivial⟩, HO.out.kept kA, HGI.out, by omega, HK1.out.trans kA (fun _ f => f.elim), (HK1.out.trans kA (fun _ f => f.elim)).trans kB (fun _ f => f.elim)⟩
/-- A cursor stays where blocks that it has not read are written; new blocks it has not read. -/
theorem CuS.cut {X : World} {F G : Nat → Prop} {W W' : World} {cb bl : Nat} {P : List Po} {u mv : Nat} {ask : Bool} (h : CuS ⟨X, F⟩ W cb bl P u mv ask) (k : Kept G W W') (hG : ∀ i, G i → X.heap.size ≤ i ∧ i ≠ cb ∧ ¬ F i) : CuS ⟨X, fun k => (F k ∧ k < W.heap.size) ∨ W'.heap.size ≤ k⟩ W' cb bl P u mv ask := by
  obtain ⟨nb, bv, pa, pc, h, hb, hn⟩ := h
  have step : ∀ {a : Option Addr} {l : List Int}, IntsAt W a l → (l ≠ [] → ∃ b off, a = some ⟨b, off, none⟩ ∧ b ≠ cb ∧ F b) → IntsAt W' a l ∧ (l ≠ [] → ∃ b off, a = some ⟨b, off, none⟩ ∧ b ≠ cb ∧ ((F b ∧ b < W.heap.size) ∨ W'.heap.size ≤ b)) := fun hi hf =>
    ⟨ints_step hi k (fun hne => by
      obtain ⟨b, off, e, _, hF⟩ := hf hne
      exact ⟨b, off, e, fun g => (hG b g).2.2 hF⟩), fun hne => by
      obtain ⟨b, off, e, h1, hF⟩ := hf hne
      exact ⟨b, off, e, h1, .inl ⟨hF, ints_lt hi hne e⟩⟩⟩
  refine ⟨nb, bv, pa, pc, ⟨h.new, h.kept.trans k (fun i hi => .inr (hG i hi).1), h.opd, k.heap h.obj (fun g => (hG _ g).2.1 rfl), (step h.pos h.far).1, (step h.pos h.far).2, fun j hj => .inr hj⟩, fun hu j hj => ?_, hn⟩
  obtain ⟨FL, a, c, e1, e2, e3, e4⟩ := hb hu j hj
  refine ⟨FL, a, c, e1, e2, fun hne => ?_, fun g hg hne => ?_, fun hne => ?_⟩
  · obtain ⟨b, off, e, hc⟩ := e3 hne
    obtain ⟨b', e', hb1, hF⟩ := e4.2 hne
    rw [e] at e'
    injection e' with e'
    injection e' with e5 e6
    subst e5
    refine ⟨b, off, e, fun i hi => ?_⟩
    obtain ⟨x0, x1, x2⟩ := hc i hi
    exact ⟨k.cell x0 (fun g => (hG _ g).2.2 hF), k.cell x1 (fun g => (hG _ g).2.2 hF), (step x2 (e4.1 _ (List.getElem_mem hi))).1⟩
  · obtain ⟨i, hi, rfl⟩ := List.mem_iff_getElem.1 hg
    obtain ⟨b, off, e, hc⟩ := e3 (by rintro rfl; simp at hi)
    exact (step (hc i hi).2.2 (e4.1 _ (List.getElem_mem hi))).2 hne
  · obtain ⟨b, off, e, hc⟩ := e3 hne
    obtain ⟨b', e', hb1, hF⟩ := e4.2 hne
    refine ⟨b', e', hb1, .inl ⟨hF, ?_⟩⟩
    rw [e] at e'
    injection e' with e'
    injection e' with e5 e6
    subst e5
    exact World.block_lt_of_cell? W _ (hc 0 (List.length_pos_iff.2 hne)).1
/-- A list in a row of lists. -/
def svx (x : Il) : Value := .slice x.a x.l.length x.c
/-- A list of lists, each in memory of its own. -/
structure Rws (lo : Nat) (W : World) (v : Value) (n : Nat) (S : List Il) : Prop where
  own : W.ownsRow lo 24 1 v n (svl S)
  row : ∀ x ∈ S, W.ownsRow lo 3 1 (svx x) x.l.length (is x.l)
  two : S.Pairwise (fun x y => Apa (svx x) (svx y))
  far : ∀ x ∈ S, Apa v (svx x)
theorem Rws.nil (lo : Nat) (W : World) : Rws lo W (.slice none 0 0) 0 [] := ⟨⟨rfl, .inl ⟨rfl, rfl⟩⟩, fun _ h => (by cases h), List.Pairwise.nil, fun _ h => (by cases h)⟩
theorem Rws.step {F : Nat → Prop} {lo : Nat} {W W' : World} {v : Value} {n : Nat} {S : List Il} (h : Rws lo W v n S) (k : Kept F W W') (hF : ∀ i, F i → i < lo) : Rws lo W' v n S :=
  ⟨k.row h.own (fun j hj f => by have := hF j f; have := (h.own.lt j hj).1; omega), fun x hx => k.row (h.row x hx) (fun j hj f => by have := hF j f; have := ((h.row x hx).lt j hj).1; omega), h.two, h.far⟩
theorem Rws.len {lo : Nat} {W : World} {v : Value} {n : Nat} {S : List Il} (h : Rws lo W v n S) : n = S.length := by
  have := h.own.1
  rw [svl_len] at this
  omega
theorem Rws.lt {lo : Nat} {W : World} {v : Value} {n : Nat} {S : List Il} (h : Rws lo W v n S) {k : Nat} (hk : v.ownBlock = some k) : lo ≤ k ∧ k < W.heap.size := h.own.lt k hk
theorem Rws.more {lo : Nat} {W W' : World} {v v' : Value} {n m : Nat} {S Y : List Il} (h : Rws lo W v n S) (hrow : ∀ y ∈ Y, W.ownsRow lo 3 1 (svx y) y.l.length (is y.l)) (htwo : (S ++ Y).Pairwise (fun x y => Apa (svx x) (svx y))) (hfar : ∀ y ∈ Y, Apa v (svx y)) (g : W'.ownsRow lo 24 1 v' m (svl (S ++ Y))) (k : Kept (fun k => v.ownBlock = some k) W W') (hn : ∀ k, v'.ownBlock = some k → v.ownBlock = some k ∨ W.heap.size ≤ k) : Rws lo W' v' m (S ++ Y) := by
  have hr : ∀ x ∈ S ++ Y, W.ownsRow lo 3 1 (svx x) x.l.length (is x.l) := fun x hx => (List.mem_append.1 hx).elim (h.row x) (hrow x)
  have hf : ∀ x ∈ S ++ Y, Apa v (svx x) := fun x hx => (List.mem_append.1 hx).elim (h.far x) (hfar x)
  exact ⟨g, fun x hx => k.row (hr x hx) (fun j hj f => hf x hx j f hj), htwo, fun x hx j hj hx' => (hn j hj).elim (fun q => hf x hx j q hx') (fun q => by have := ((hr x hx).lt j hx').2; omega)⟩
/-- 'append(s, x..)' of lists that lie in memory of their own. -/
theorem wpList_pushRw {W : World} {ops : Array Oper} {rest : List Oper} {o : Oper} {act : Act} {Q : Exit → Act → World → Prop} (hgd : o.guard = none) (s x : Operand)
    (ho : o.op = .call { callee := .builtin .append, args := #[s, x], argTypes := #[23, 23] }) (lo : Nat) (v : Value) (n : Nat) (S Y : List Il) (hs : act.eval s = v) (hR : Hid (Rws lo W v n S)) (hrow : Hid (∀ y ∈ Y, W.ownsRow lo 3 1 (svx y) y.l.length (is y.l))) (htwo : Hid ((S ++ Y).Pairwise (fun x y => Apa (svx x) (svx y)))) (hfar : Hid (∀ y ∈ Y, Apa v (svx y))) (b m : Nat) (hm : m = Y.length) (hbb : b = W.heap.size) (hx : act.eval x = .slice (some ⟨b, 0, none⟩) m m) (hm0 : 0 < m) (hlo : lo ≤ W.heap.size) (hb : n + m ≤ 1099511627776) (cs : Array Value) (hcs : cs = (svl Y).toArray)
    (h : ∀ g c' W', Hid (Rws lo W' (.slice (some ⟨g, 0, none⟩) (n + m) c') (n + m) (S ++ Y)) → Hid (Kept (fun k => v.ownBlock = some k) W W') → Hid (v.ownBlock = some g ∨ W.heap.size ≤ g) → wpList Tryz.prog ops Q rest (act.put o.dst (.slice (some ⟨g, 0, none⟩) (n + m) c')) W') : wpList Tryz.prog ops Q (o :: rest) act (W.alloc (.cells cs 24)) := by
  subst hbb hcs hm
  obtain ⟨i0, hi0, hz0, hz1, hz2⟩ := info_partsP Tryz.infoLi
  have kA := Kept.alloc W (.cells (svl Y).toArray 24)
  refine wpList_append_lies _ hgd s x 23 ho lo 24 i0 (.slice none 0 0) 1 24 Tryz.underlying23 hi0 hz0 hz1 hz2 rfl (by decide) v n (svl S) hs (kA.row hR.out.own (fun _ _ f => f)) ⟨W.heap.size, 0, none⟩ Y.length Y.length (svl Y) hx (by rw [svl_len]; omega) (row_news W (svl Y) 24) (by
    intro u hu
    obtain ⟨y, _, rfl⟩ := List.mem_map.1 hu
    rfl) hm0 (by unfold maxLen; omega) (by omega) (Nat.le_trans hlo kA.size) _ rfl ?_
  intro g c' W' ho2 hg2 hat _
  have kk : Kept (fun k => v.ownBlock = some k) W W' := (kA.mono (fun _ f => f.elim)).trans (Kept.grown hg2) (fun i hi => .inl hi)
  have hat2 : v.ownBlock = some g ∨ W.heap.size ≤ g := hat.imp id (fun e => by rw [e]; exact kA.size)
  refine h g c' W' (hideP (hR.out.more hrow.out htwo.out hfar.out ?_ kk ?_)) (hideP kk) (hideP hat2)
  · have e : svl (S ++ Y) = svl S ++ svl Y := List.map_append
    rw [e]
    exact ho2
  · intro k hk
    simp only [Value.ownBlock, Option.some.injEq] at hk
    subst hk
    exact hat2
end Go.Proofs.YtidgofpmnlddaaaGreatDoor
