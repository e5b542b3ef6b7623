import Derived.Test.YtnkmjhcddegkhaaDoorChgb
import Derived.Test.YtnkmjhcddegkhaaDoorVls
import Derived.Maps.AppendAt
namespace Go.Proofs.YtnkmjhcddegkhaaDoor
open Go.ChangeShapes Go.WideShapes Go.ChangeAt Go.RowKit

/-- A token of the value number i, moved by b. -/
def shT (i b : Nat) (x : Tk) : Tk := ⟨x.t, i, x.p + b, x.s, x.e⟩
/-- The tokens of the values so far. -/
structure Fs where
  i : Nat
  b : Nat
  L : List Tk
def mine (TT : Nat → ByteArray) (f : Fd) (v : Vl) : List Tk := ofL TT f.k f.fo f.st f.se v.t.data.toList
def wrds (f : Fd) (v : Vl) : Nat := ofN f.k v.t.data.toList
def fstep (TT : Nat → ByteArray) (f : Fd) (s : Fs) (v : Vl) : Fs := if v.n = f.n then ⟨s.i + 1, s.b + wrds f v + 16, s.L ++ (mine TT f v).map (shT s.i s.b)⟩ else ⟨s.i + 1, s.b, s.L⟩
def frun (TT : Nat → ByteArray) (f : Fd) (xs : List Vl) : Fs := xs.foldl (fstep TT f) ⟨0, 0, []⟩
theorem frun_next (TT : Nat → ByteArray) (f : Fd) (xs : List Vl) (k : Nat) (h : k < xs.length) : frun TT f (xs.take (k + 1)) = fstep TT f (frun TT f (xs.take k)) xs[k] := by
  unfold frun
  rw [List.take_succ_eq_append_getElem h, List.foldl_append]
  rfl
theorem fstep_i (TT : Nat → ByteArray) (f : Fd) (s : Fs) (v : Vl) : (fstep TT f s v).i = s.i + 1 := by unfold fstep; split <;> rfl
theorem frun_i (TT : Nat → ByteArray) (f : Fd) (xs : List Vl) (k : Nat) (h : k ≤ xs.length) : (frun TT f (xs.take k)).i = k := by
  induction k with
  | zero => rfl
  | succ k ih => rw [frun_next TT f xs k h, fstep_i, ih (by omega)]
theorem shT_take (M : List Tk) (i b j : Nat) (h : j < M.length) : tkvs ((M.take (j + 1)).map (shT i b)) = tkvs ((M.take j).map (shT i b)) ++ [.string M[j].t, .int .i64 i, .int .i64 (M[j].p + b), .int .i64 M[j].s, .int .i64 M[j].e] := by
  rw [List.take_succ_eq_append_getElem h, List.map_append, tkvs_append]; rfl
/-- What the two stores leave of the rest. -/
theorem gro_puts {w W : World} {e : TypeId} {sz : Nat} {v : Value} {n : Nat} {xs : List Value} (h : Gro w W e sz v n xs) (o : Obj) (u1 u2 : Value) : Gro w (((W.alloc o).setCell ⟨W.heap.size, 1, none⟩ u1).setCell ⟨W.heap.size, 2, none⟩ u2) e sz v n xs :=
  (((h.later (Kept.alloc W o)).put W.heap.size 1 u1 h.below h.kept.size).put W.heap.size 2 u2 h.below h.kept.size)
theorem kept_puts {w W : World} (k : Kept (fun _ => False) w W) (o : Obj) (u1 u2 : Value) : Kept (fun _ => False) w (((W.alloc o).setCell ⟨W.heap.size, 1, none⟩ u1).setCell ⟨W.heap.size, 2, none⟩ u2) :=
  ((k.trans (Kept.alloc W o) (fun _ f => f.elim)).trans (Kept.setCell _ _ _) (fun i e => .inr (by simp only at e; have := k.size; omega))).trans (Kept.setCell _ _ _) (fun i e => .inr (by simp only at e; have := k.size; omega))
theorem beq_l (a b : ByteArray) : (a.toList == b.toList) = decide (a = b) := by
  rw [ByteArray.toList_eq, ByteArray.toList_eq, Bool.eq_iff_iff]
  simp only [beq_iff_eq, decide_eq_true_eq]
  exact ⟨fun h => by cases a; cases b; simp only at h; congr 1; exact Array.toList_inj.1 h, fun h => by rw [h]⟩
/-- A list of tokens that lies beside the list that is grown. -/
def Bes (W : World) (v u : Value) (nl : Nat) (M : List Tk) : Prop := W.ownsRow 0 29 5 u nl (tkvs M) ∧ ∀ g, u.ownBlock = some g → v.ownBlock ≠ some g
theorem row0 {w : World} {base : Nat} {e : TypeId} {sz : Nat} {v : Value} {n : Nat} {xs : List Value} (h : w.ownsRow base e sz v n xs) : w.ownsRow 0 e sz v n xs := by
  refine ⟨h.1, ?_⟩
  rcases h.2 with hn | ⟨g, cap, cur, e1, _, rest⟩
  · exact .inl hn
  · exact .inr ⟨g, cap, cur, e1, Nat.zero_le _, rest⟩
theorem bes_new {w wr W1 W3 : World} {v u : Value} {m nl : Nat} {xs : List Value} {M : List Tk} (h : Gro w wr 29 5 v m xs) (k : Kept (fun _ => False) wr W1) (g3 : Gro W1 W3 29 5 u nl (tkvs M)) : Bes W3 v u nl M := by
  refine ⟨row0 g3.own, fun g hg hv => ?_⟩
  have h1 := (g3.own.lt g hg).1
  have h2 := (h.own.lt g hv).2
  have h3 := k.size
  omega
theorem Bes.tok {W : World} {v : Value} {a : Option Addr} {c nl : Nat} {M : List Tk} (h : Bes W v (.slice a nl c) nl M) {j : Nat} (hj : j < M.length) (hn : nl = M.length) :
    ∃ g, a = some ⟨g, 0, none⟩ ∧ W.cell? ⟨g, j * 5, none⟩ = some (.string M[j].t) ∧ W.cell? ⟨g, j * 5 + 1, none⟩ = some (.int .i64 M[j].v) ∧ W.cell? ⟨g, j * 5 + 2, none⟩ = some (.int .i64 M[j].p) ∧ W.cell? ⟨g, j * 5 + 3, none⟩ = some (.int .i64 M[j].s) ∧ W.cell? ⟨g, j * 5 + 4, none⟩ = some (.int .i64 M[j].e) := by
  rcases h.1.2 with ⟨_, e2⟩ | ⟨g, cap, cur, e1, hg, _⟩
  · omega
  · have ea : a = some ⟨g, 0, none⟩ := by injection e1
    subst ea
    have q : ∀ i u, (tkvs M)[i]? = some u → W.cell? ⟨g, i, none⟩ = some u := fun i u hu => by
      have := h.1.cells (g := g) rfl i u hu
      have hplain : (⟨g, 0, none⟩ : Addr).add i = ⟨g, i, none⟩ := by unfold Addr.add; split <;> simp_all
      rwa [hplain] at this
    exact ⟨g, rfl, q _ _ (tkvs_at M j 0 hj (by decide)), q _ _ (tkvs_at M j 1 hj (by decide)), q _ _ (tkvs_at M j 2 hj (by decide)), q _ _ (tkvs_at M j 3 hj (by decide)), q _ _ (tkvs_at M j 4 hj (by decide))⟩
theorem Bes.kept {F : Nat → Prop} {W W' : World} {v u : Value} {nl : Nat} {M : List Tk} (h : Bes W v u nl M) (k : Kept F W W') (hF : ∀ g, u.ownBlock = some g → ¬ F g) : Bes W' v u nl M := ⟨k.row h.1 hF, h.2⟩
theorem Bes.puts {W : World} {v u : Value} {nl : Nat} {M : List Tk} (h : Bes W v u nl M) (o : Obj) (u1 u2 : Value) : Bes (((W.alloc o).setCell ⟨W.heap.size, 1, none⟩ u1).setCell ⟨W.heap.size, 2, none⟩ u2) v u nl M := by
  have q : ∀ g, u.ownBlock = some g → ¬ g = W.heap.size := fun g hg e => by have := (h.1.lt g hg).2; omega
  exact ((h.kept (Kept.alloc W o) (fun _ _ f => f)).kept (Kept.setCell _ _ _) q).kept (Kept.setCell _ _ _) q
theorem wpList_push2 {w0 W : World} {ops : Array Oper} {rest : List Oper} {o : Oper} {act : Act} {Q : Exit → Act → World → Prop} (hgd : o.guard = none) (s x : Operand)
    (ho : o.op = .call { callee := .builtin .append, args := #[s, x], argTypes := #[25, 25] }) (v : Value) (n m : Nat) (xs ys : List Value) (t : ByteArray) (a b c d : Int) (hs : act.eval s = v) (hG : Hid (Gro w0 W 29 5 v n xs)) (u : Value) (nl : Nat) (M : List Tk) (hB : Hid (Bes W v u nl M)) (bb : Nat) (hbb : bb = W.heap.size) (hx : act.eval x = .slice (some ⟨bb, 0, none⟩) 1 1)
    (hl : Hid (ys = xs ++ [.string t, .int .i64 a, .int .i64 b, .int .i64 c, .int .i64 d])) (hm : m = n + 1) (hb : n ≤ 2199023255552)
    (h : ∀ a' c' W', Hid (Gro w0 W' 29 5 (.slice a' m c') m ys) → Hid (Bes W' (.slice a' m c') u nl M) → wpList Tryd.prog ops Q rest (act.put o.dst (.slice a' m c')) W') : wpList Tryd.prog ops Q (o :: rest) act (W.alloc (.cells #[.string t, .int .i64 a, .int .i64 b, .int .i64 c, .int .i64 d] 29)) := by
  subst hbb
  obtain ⟨i0, hi, hz0, hz1, hz2⟩ := info_parts Tryd.infoTk
  have e1 := hl.out
  subst e1 hm
  refine wpList_append_own_at _ hgd s x 25 ho w0.heap.size 29 i0 _ 5 48 Tryd.underlying25 hi hz0 hz1 hz2 rfl (by decide) v n xs hs (hG.out.own.alloc _) ⟨W.heap.size, 0, none⟩ 1 1 [.string t, .int .i64 a, .int .i64 b, .int .i64 c, .int .i64 d] hx rfl (row_news W [.string t, .int .i64 a, .int .i64 b, .int .i64 c, .int .i64 d] 29) (tkC_one t a b c d) (by unfold maxLen; omega) (by omega) (by have := hG.out.kept.size; simp; omega) ?_
  intro v' W' ho2 hg2 _ hat
  have q : Gro w0 W' 29 5 v' (n + 1) (xs ++ [.string t, .int .i64 a, .int .i64 b, .int .i64 c, .int .i64 d]) := ⟨ho2, (hG.out.kept.trans (Kept.alloc _ _) (fun _ f => f.elim)).trans (Kept.grown hg2) (fun i hi => .inr (hG.out.own.lt i hi).1)⟩
  have qb : Bes W' v' u nl M := by
    refine ⟨((hB.out.kept (Kept.alloc W _) (fun _ _ f => f)).kept (Kept.grown hg2) (fun g hg e => hB.out.2 g hg e)).1, fun g hg e => ?_⟩
    rcases hat with h1 | h1
    · exact hB.out.2 g hg (h1.symm.trans e)
    · have h2 := (hB.out.1.lt g hg).2
      rw [h1] at e
      have e3 : (W.alloc (.cells [Value.string t, .int .i64 a, .int .i64 b, .int .i64 c, .int .i64 d].toArray 29)).heap.size = g := Option.some.inj e
      simp at e3
      omega
  obtain ⟨a', c', rfl⟩ := q.shape
  exact h a' c' W' q qb
end Go.Proofs.YtnkmjhcddegkhaaDoor
