import Derived.Test.YtbdhmibiggpomaaDoorPol
import Derived.OrdersHeld
namespace Go.Proofs.YtbdhmibiggpomaaDoor
open Go.ChangeShapes Go.WideShapes Go.ChangeAt Go.RowKit

theorem Tryd.infoPo : (Tryd.prog.info? 42).map (fun i => (i.zero, i.size, i.bytes)) = some (some (.agg #[.int .i64 0, .slice none 0 0]), 2, 32) := by kernel_rfl
def pgc (g : Pg) : List Value := [.int .i64 g.d, .slice g.a g.ps.length g.c]
def pcs (L : List Pg) : List Value := (L.map pgc).flatten
theorem pcs_append (L M : List Pg) : pcs (L ++ M) = pcs L ++ pcs M := by simp [pcs]
theorem pcs_length (L : List Pg) : (pcs L).length = L.length * 2 := by
  induction L with
  | nil => rfl
  | cons g L ih => unfold pcs at ih ⊢; rw [List.map_cons, List.flatten_cons, List.length_append, ih, List.length_cons]; simp [pgc]; omega
theorem pcs_at : ∀ (L : List Pg) (k j : Nat) (h : k < L.length), j < 2 → (pcs L)[k * 2 + j]? = (pgc L[k])[j]?
  | g :: L, 0, j, _, hj => by
    unfold pcs
    rw [List.map_cons, List.flatten_cons, List.getElem?_append_left (by simp [pgc]; omega)]
    simp
  | g :: L, k + 1, j, h, hj => by
    have i := pcs_at L k j (by simpa using h) hj
    unfold pcs at i ⊢
    rw [List.map_cons, List.flatten_cons, List.getElem?_append_right (by simp [pgc]; omega)]
    simp only [List.getElem_cons_succ]
    rw [← i]
    congr 1
    simp [pgc]
    omega
theorem pcs_one (L : List Pg) : ∀ u ∈ pcs L, u.oneCell' = true := by
  intro u hu
  unfold pcs at hu
  rw [List.mem_flatten] at hu
  obtain ⟨r, hr, hu⟩ := hu
  obtain ⟨g, _, rfl⟩ := List.mem_map.1 hr
  simp [pgc] at hu
  rcases hu with rfl | rfl <;> rfl
/-- Postings in a list that grows, in memory younger than w0. -/
structure Gps (F : Nat → Prop) (w0 W : World) (v : Value) (n : Nat) (L : List Pg) : Prop where
  own : W.ownsRow w0.heap.size 42 2 v n (pcs L)
  kept : Kept F w0 W
  ints : ∀ g ∈ L, IntsAt W g.a g.ps
  far : ∀ g ∈ L, g.ps ≠ [] → ∃ b off, g.a = some ⟨b, off, none⟩ ∧ w0.heap.size ≤ b ∧ b < W.heap.size ∧ v.ownBlock ≠ some b
theorem ints_step {W W' : World} {G : Nat → Prop} {a : Option Addr} {ps : List Int} (h : IntsAt W a ps) (k : Kept G W W') (hf : ps ≠ [] → ∃ b off, a = some ⟨b, off, none⟩ ∧ ¬ G b) : IntsAt W' a ps := by
  intro hne
  obtain ⟨b, off, e, hc⟩ := h hne
  obtain ⟨b', off', e', hb⟩ := hf hne
  rw [e] at e'
  simp only [Option.some.injEq, Addr.mk.injEq, and_true] at e'
  obtain ⟨rfl, rfl⟩ := e'
  exact ⟨b, off, e, fun j hj => k.cell (hc j hj) hb⟩
theorem Gps.step {F G : Nat → Prop} {w0 W W' : World} {v : Value} {n : Nat} {L : List Pg} (h : Gps F w0 W v n L) (k : Kept G W W') (hG : ∀ i, G i → F i ∧ i < w0.heap.size) : Gps F w0 W' v n L := by
  refine ⟨k.row h.own (fun j hj g => by have := (h.own.lt j hj).1; have := (hG j g).2; omega), h.kept.trans k (fun i hi => .inl (hG i hi).1), fun g hg => ?_, fun g hg hne => ?_⟩
  · refine ints_step (h.ints g hg) k (fun hne => ?_)
    obtain ⟨b, off, e, h1, _, _⟩ := h.far g hg hne
    exact ⟨b, off, e, fun f => by have := (hG b f).2; omega⟩
  · obtain ⟨b, off, e, h1, h2, h3⟩ := h.far g hg hne
    exact ⟨b, off, e, h1, Nat.lt_of_lt_of_le h2 k.size, h3⟩
theorem Gps.more {F : Nat → Prop} {w0 W W' : World} {v : Value} {n n' gb c' : Nat} {L M : List Pg} (h : Gps F w0 W v n L) (o : W'.ownsRow w0.heap.size 42 2 (.slice (some ⟨gb, 0, none⟩) n' c') n' (pcs L ++ pcs M)) (k : Kept (fun i => v.ownBlock = some i) W W') (hat : v.ownBlock = some gb ∨ W.heap.size ≤ gb)
    (hi : ∀ g ∈ M, IntsAt W g.a g.ps) (hf : ∀ g ∈ M, g.ps ≠ [] → ∃ b off, g.a = some ⟨b, off, none⟩ ∧ w0.heap.size ≤ b ∧ b < W.heap.size ∧ v.ownBlock ≠ some b) : Gps F w0 W' (.slice (some ⟨gb, 0, none⟩) n' c') n' (L ++ M) := by
  have hi2 : ∀ g ∈ L ++ M, IntsAt W g.a g.ps := fun g hg => (List.mem_append.1 hg).elim (h.ints g) (hi g)
  have hf2 : ∀ g ∈ L ++ M, g.ps ≠ [] → ∃ b off, g.a = some ⟨b, off, none⟩ ∧ w0.heap.size ≤ b ∧ b < W.heap.size ∧ v.ownBlock ≠ some b := fun g hg => (List.mem_append.1 hg).elim (h.far g) (hf g)
  refine ⟨by rw [pcs_append]; exact o, h.kept.trans k (fun i hi => .inr (h.own.lt i hi).1), fun g hg => ?_, fun g hg hne => ?_⟩
  · refine ints_step (hi2 g hg) k (fun hne => ?_)
    obtain ⟨b, off, e, _, _, h3⟩ := hf2 g hg hne
    exact ⟨b, off, e, h3⟩
  · obtain ⟨b, off, e, h1, h2, h3⟩ := hf2 g hg hne
    refine ⟨b, off, e, h1, Nat.lt_of_lt_of_le h2 k.size, fun f => ?_⟩
    simp [Value.ownBlock] at f
    subst f
    rcases hat with q | q
    · exact h3 q
    · omega
theorem Gps.at {F : Nat → Prop} {w0 W : World} {a : Option Addr} {n c : Nat} {L : List Pg} (h : Gps F w0 W (.slice a n c) n L) : PsAt W a L ∧ n = L.length ∧ n ≤ c := by
  have hn : n = L.length := by have := h.own.1; rw [pcs_length] at this; omega
  rcases h.own.2 with ⟨e1, e2⟩ | ⟨g, cap, cur, e1, hg, hh, hnc, _⟩
  · simp only [Value.slice.injEq] at e1
    obtain ⟨rfl, rfl, rfl⟩ := e1
    exact ⟨fun hne => absurd (List.eq_nil_of_length_eq_zero hn.symm) hne, hn, Nat.le_refl _⟩
  · simp only [Value.slice.injEq] at e1
    obtain ⟨rfl, _, rfl⟩ := e1
    refine ⟨fun _ => ⟨g, 0, rfl, fun k hk => ?_⟩, hn, hnc⟩
    have hp : ∀ j, (⟨g, 0, none⟩ : Addr).add j = ⟨g, j, none⟩ := fun j => by unfold Addr.add; split <;> simp_all
    have q0 := h.own.cells (g := g) rfl (k * 2 + 0) (.int .i64 L[k].d) (by rw [pcs_at L k 0 hk (by decide)]; rfl)
    have q1 := h.own.cells (g := g) rfl (k * 2 + 1) (.slice L[k].a L[k].ps.length L[k].c) (by rw [pcs_at L k 1 hk (by decide)]; rfl)
    rw [hp] at q0 q1
    rw [Nat.zero_add]
    exact ⟨q0, q1, h.ints _ (List.getElem_mem hk)⟩
/-- 'append' of one posting. -/
theorem wpList_pushG {base : Nat} {W : World} {ops : Array Oper} {rest : List Oper} {o : Oper} {act : Act} {Q : Exit → Act → World → Prop} (hgd : o.guard = none) (s x : Operand)
    (ho : o.op = .call { callee := .builtin .append, args := #[s, x], argTypes := #[24, 24] }) (v : Value) (n : Nat) (xs : List Value) (g : Pg) (pn : Nat) (hpn : pn = g.ps.length) (hs : act.eval s = v) (hG : Hid (W.ownsRow base 42 2 v n xs)) (hb0 : base ≤ W.heap.size) (b : Nat) (hb : b = W.heap.size) (hx : act.eval x = .slice (some ⟨b, 0, none⟩) 1 1) (hn : n ≤ 1099511627776)
    (h : ∀ gb c' W', Hid (W'.ownsRow base 42 2 (.slice (some ⟨gb, 0, none⟩) (n + 1) c') (n + 1) (xs ++ pcs [g])) → Hid (Kept (fun k => v.ownBlock = some k) W W') → Hid (v.ownBlock = some gb ∨ W.heap.size ≤ gb) → wpList Tryd.prog ops Q rest (act.put o.dst (.slice (some ⟨gb, 0, none⟩) (n + 1) c')) W') : wpList Tryd.prog ops Q (o :: rest) act (W.alloc (.cells #[.int .i64 g.d, .slice g.a pn g.c] 42)) := by
  subst hb hpn
  obtain ⟨i0, hi, hz0, hz1, hz2⟩ := info_partsP Tryd.infoPo
  refine wpList_append_lies _ hgd s x 24 ho base 42 i0 (.agg #[.int .i64 0, .slice none 0 0]) 2 32 Tryd.underlying24 hi hz0 hz1 hz2 rfl (by decide) v n xs hs (hG.out.alloc _) ⟨W.heap.size, 0, none⟩ 1 1 (pcs [g]) hx (by simp [pcs, pgc]) (row_news W [.int .i64 g.d, .slice g.a g.ps.length g.c] 42) (pcs_one _) (by decide) (by unfold maxLen; omega) (by omega) (by simp; omega) _ rfl ?_
  intro gb c' W' ho2 hg2 hat _
  refine h gb c' W' ho2 (hideP (((Kept.alloc W _).mono (fun _ f => f.elim)).trans (Kept.grown hg2) (fun i hi => .inl hi))) (hideP (hat.imp id (fun e => by rw [e]; simp)))
def SkAt (w : World) (a : Option Addr) (S : List Sk) (p0 : Nat) : Prop :=
  S ≠ [] → ∃ b off, a = some ⟨b, off, none⟩ ∧ ∀ k (h : k < S.length), w.cell? ⟨b, off + k * 4, none⟩ = some (.int .i64 S[k].last) ∧ w.cell? ⟨b, off + k * 4 + 1, none⟩ = some (.int .i64 S[k].n) ∧ w.cell? ⟨b, off + k * 4 + 2, none⟩ = some (.int .i64 ((p0 + szs (S.take k) : Nat) : Int)) ∧ w.cell? ⟨b, off + k * 4 + 3, none⟩ = some (.int .i64 S[k].z)
theorem SkAt.kept {w w' : World} {a : Option Addr} {S : List Sk} {p0 : Nat} (h : SkAt w a S p0) (k : Kept (fun _ => False) w w') : SkAt w' a S p0 := by
  intro hne
  obtain ⟨b, off, e, hc⟩ := h hne
  refine ⟨b, off, e, fun j hj => ?_⟩
  obtain ⟨x0, x1, x2, x3⟩ := hc j hj
  exact ⟨k.cell x0 (fun f => f), k.cell x1 (fun f => f), k.cell x2 (fun f => f), k.cell x3 (fun f => f)⟩
/-- An opened list. -/
structure LsAt (w : World) (bl : Nat) (ia : Option Addr) (ic : Nat) (l : List Int) (n t : Nat) (sa : Option Addr) (sc : Nat) (S : List Sk) (p0 : Nat) : Prop where
  c0 : w.cell? ⟨bl, 0, none⟩ = some (.slice ia l.length ic)
  c1 : w.cell? ⟨bl, 1, none⟩ = some (.int .i64 n)
  c2 : w.cell? ⟨bl, 2, none⟩ = some (.int .i64 t)
  c3 : w.cell? ⟨bl, 3, none⟩ = some (.slice sa S.length sc)
  im : BytesAt w ia l
  cp : l.length ≤ ic
  sk : SkAt w sa S p0
theorem BytesAt.kept {w w' : World} {a : Option Addr} {l : List Int} (h : BytesAt w a l) (k : Kept (fun _ => False) w w') : BytesAt w' a l := by
  intro hne
  obtain ⟨b, off, e, hc⟩ := h hne
  exact ⟨b, off, e, fun j hj => k.cell (hc j hj) (fun f => f)⟩
theorem LsAt.kept {w w' : World} {bl : Nat} {ia : Option Addr} {ic : Nat} {l : List Int} {n t : Nat} {sa : Option Addr} {sc : Nat} {S : List Sk} {p0 : Nat} (h : LsAt w bl ia ic l n t sa sc S p0) (k : Kept (fun _ => False) w w') : LsAt w' bl ia ic l n t sa sc S p0 :=
  ⟨k.cell h.c0 (fun f => f), k.cell h.c1 (fun f => f), k.cell h.c2 (fun f => f), k.cell h.c3 (fun f => f), h.im.kept k, h.cp, h.sk.kept k⟩
/-- The document ahead of block k. -/
def bas (S : List Sk) (k : Nat) : Int := if k = 0 then -1 else match S[k - 1]? with | some s => s.last | none => -1
theorem dcs_len {last : Int} : ∀ {G : List Int} {b : Int} {D : List Int}, dcs last b G = some D → D.length = G.length
  | [], b, D, h => by
    rw [dcs] at h
    split at h
    · injection h with h; subst h; rfl
    · cases h
  | g :: G, b, D, h => by
    rw [dcs_step] at h
    split at h
    · cases hd : dcs last (b + (g + 1)) G with
      | none => rw [hd] at h; cases h
      | some D' =>
        rw [hd] at h
        injection h with h
        subst h
        simp [dcs_len hd]
    · cases h
theorem rdd_len {l : List Int} {b last : Int} {n p q : Nat} {D : List Int} (h : rdd l b last n p = some (D, q)) : D.length = n := by
  unfold rdd at h
  split at h
  · cases h
  · split at h
    · rename_i G q' _ hn
      cases hd : dcs last b G with
      | none => rw [hd] at h; cases h
      | some D' =>
        rw [hd] at h
        simp only [pairO, Option.some.injEq, Prod.mk.injEq] at h
        rw [← h.1, dcs_len hd, hn]
    · cases h
def finB (sub : List Int) : Option (List Po × Nat) → Option (List Po)
  | none => none
  | some (F, r) => if r = sub.length then some F else none
def rbM (sub D : List Int) (n q : Nat) : Option (List Po) := match pkn n sub q with
  | none => none
  | some (M, q2) => if M.length = n then finB sub (rpl sub D M q2) else none
theorem rbk_eq (sub : List Int) (b last : Int) (n : Nat) : rbk sub b last n = match rdd sub b last n 0 with
  | none => none
  | some (D, q) => rbM sub D n q := by
  unfold rbk rdd
  cases pkn n sub 0 with
  | none => rfl
  | some Gq =>
    obtain ⟨G, q⟩ := Gq
    simp only
    split
    · cases dcs last b G with
      | none => rfl
      | some D =>
        simp only [pairO]
        unfold rbM
        cases pkn n sub q with
        | none => rfl
        | some Mq =>
          obtain ⟨M, q2⟩ := Mq
          simp only
          split
          · cases rpl sub D M q2 with
            | none => rfl
            | some Fr => obtain ⟨F, r⟩ := Fr; rfl
          · rfl
    · rfl
def apP (acc : List Po) : Option (List Po × Nat) → Option (List Po × Nat)
  | none => none
  | some (F, r) => some (acc ++ F, r)
def conP (x : Po) : Option (List Po × Nat) → Option (List Po × Nat)
  | none => none
  | some (F, r) => some (x :: F, r)
theorem apP_step (acc : List Po) (x : Po) (r : Option (List Po × Nat)) : apP acc (conP x r) = apP (acc ++ [x]) r := by
  cases r with
  | none => rfl
  | some D => obtain ⟨F, q⟩ := D; simp [apP, conP]
theorem rpl_n {l D M : List Int} {d m : Int} {p : Nat} (h : rps l m.toNat p = none) : rpl l (d :: D) (m :: M) p = none := by rw [rpl, h]
theorem rpl_s {l D M xs : List Int} {d m : Int} {p q : Nat} (h : rps l m.toNat p = some (xs, q)) : rpl l (d :: D) (m :: M) p = conP ⟨d, xs⟩ (rpl l D M q) := by
  rw [rpl, h]
  simp only
  cases rpl l D M q with
  | none => rfl
  | some D => obtain ⟨F, q⟩ := D; rfl
/-- Postings in memory younger than w. -/
def Far (w w' : World) (a : Option Addr) (FL : List Pg) : Prop := (∀ g ∈ FL, g.ps ≠ [] → ∃ b off, g.a = some ⟨b, off, none⟩ ∧ w.heap.size ≤ b ∧ b < w'.heap.size) ∧ (FL ≠ [] → ∃ b, a = some ⟨b, 0, none⟩ ∧ w.heap.size ≤ b)
/-- What readBlock leaves. -/
def rbPost (w : World) (e : Ending) (w' : World) : Option (List Po) → Prop
  | none => (∃ u, e = .returned (.tuple #[u, .bool false])) ∧ Kept (fun _ => False) w w'
  | some F => ∃ (FL : List Pg) (a : Option Addr) (c : Nat), pol FL = F ∧ e = .returned (.tuple #[.slice a FL.length c, .bool true]) ∧ PsAt w' a FL ∧ FL.length ≤ c ∧ Far w w' a FL ∧ Kept (fun _ => False) w w'
end Go.Proofs.YtbdhmibiggpomaaDoor
