import Derived.Test.YtjmmdklgkcbihaaDoorHna
import Derived.BigQuiet
import Derived.OrdersHeld
import Derived.Deep.RegionWith
namespace Go.Proofs.YtjmmdklgkcbihaaDoor
open Go.ChangeShapes Go.WideShapes Go.ChangeAt Go.RowKit

/-- What byteMark answers hangs on its two numbers alone. -/
def BmI (bm : Nat → Nat → Int) : Prop := ∀ (i j : Nat), i < 281474976710656 → j < 281474976710656 → ∀ w, Calls Tryd.prog 76 #[.int .i64 i, .int .i64 j] w fun e w' => e = .returned (.int .u8 (bm i j)) ∧ w' = w
set_option maxRecDepth 20000 in
set_option maxHeartbeats 1000000 in
theorem bm_one (i j : Nat) (hi : i < 281474976710656) (hj : j < 281474976710656) : ∃ m : Int, ∀ w, Calls Tryd.prog 76 #[.int .i64 i, .int .i64 j] w fun e w' => e = .returned (.int .u8 m) ∧ w' = w := by
  apply Exists.intro
  case h =>
    intro w
    go_enter Tryd.func76, Tryd.ntmps76
    go_wp2
    go_ret
    exact ⟨rfl, rfl⟩
theorem bm_fun : ∃ bm, BmI bm := by
  have h : ∀ i j : Nat, ∃ m : Int, i < 281474976710656 → j < 281474976710656 → ∀ w, Calls Tryd.prog 76 #[.int .i64 i, .int .i64 j] w fun e w' => e = .returned (.int .u8 m) ∧ w' = w := by
    intro i j
    by_cases hi : i < 281474976710656
    · by_cases hj : j < 281474976710656
      · obtain ⟨m, hm⟩ := bm_one i j hi hj
        exact ⟨m, fun _ _ => hm⟩
      · exact ⟨0, fun _ h => (hj h).elim⟩
    · exact ⟨0, fun h => (hi h).elim⟩
  exact ⟨fun i j => Classical.choose (h i j), fun i j hi hj w => Classical.choose_spec (h i j) hi hj w⟩
/-- The first m marks of list t. -/
def bms (bm : Nat → Nat → Int) (t m : Nat) : List Int := (List.range m).map (bm t)
theorem bms_length (bm : Nat → Nat → Int) (t m : Nat) : (bms bm t m).length = m := by simp [bms]
theorem bms_succ (bm : Nat → Nat → Int) (t m : Nat) : bms bm t (m + 1) = bms bm t m ++ [bm t m] := by simp [bms, List.range_succ]
theorem bms_get (bm : Nat → Nat → Int) (t m j : Nat) (h : j < m) : (bms bm t m)[j]?.getD 0 = bm t j := by simp [bms, h]
/-- The marks from n on. -/
def bmf (bm : Nat → Nat → Int) (t n m : Nat) : List Int := (List.range m).map (fun q => bm t (n + q))
theorem bmf_length (bm : Nat → Nat → Int) (t n m : Nat) : (bmf bm t n m).length = m := by simp [bmf]
theorem bmf_succ (bm : Nat → Nat → Int) (t n m : Nat) : bmf bm t n (m + 1) = bmf bm t n m ++ [bm t (n + m)] := by simp [bmf, List.range_succ]
theorem bms_bmf (bm : Nat → Nat → Int) (t n : Nat) : ∀ m, bms bm t n ++ bmf bm t n m = bms bm t (n + m)
  | 0 => by simp [bmf]
  | m + 1 => by rw [bmf_succ, ← List.append_assoc, bms_bmf bm t n m, ← Nat.add_assoc, bms_succ]
/-- The first j places marked, the others as they were. -/
def bmd (bm : Nat → Nat → Int) (t j : Nat) (l : List Int) : List Int := bms bm t j ++ l.drop j
theorem bmd_zero (bm : Nat → Nat → Int) (t : Nat) (l : List Int) : bmd bm t 0 l = l := by simp [bmd, bms]
theorem bmd_all (bm : Nat → Nat → Int) (t : Nat) (l : List Int) : bmd bm t l.length l = bms bm t l.length := by simp [bmd]
theorem bmd_length (bm : Nat → Nat → Int) (t j : Nat) (l : List Int) (h : j ≤ l.length) : (bmd bm t j l).length = l.length := by
  rw [bmd, List.length_append, bms_length, List.length_drop]; omega
theorem bmd_set (bm : Nat → Nat → Int) (t j : Nat) (l : List Int) (h : j < l.length) : (bmd bm t j l).set j (bm t j) = bmd bm t (j + 1) l := by
  have hm := bms_length bm t j
  have e := List.drop_eq_getElem_cons h
  rw [bmd, List.set_append_right _ _ (by omega), hm, Nat.sub_self, bmd, bms_succ, List.append_assoc, e]
  rfl
/-- A list of lists as it lies. -/
def VAt (W : World) (ga : Option Addr) (V : List Value) : Prop :=
  V ≠ [] → ∃ b off, ga = some ⟨b, off, none⟩ ∧ ∀ k (h : k < V.length), W.cell? ⟨b, off + k, none⟩ = some V[k]
theorem VAt.kept {F : Nat → Prop} {W W' : World} {ga : Option Addr} {V : List Value} (h : VAt W ga V) (k : Kept F W W') (hF : ∀ p : Addr, ga = some p → ¬ F p.block) : VAt W' ga V := by
  intro hne
  obtain ⟨b, off, e, hc⟩ := h hne
  have hb : ¬ F b := hF _ e
  exact ⟨b, off, e, fun j hj => k.cell (hc j hj) hb⟩
/-- Lists of bytes, each in a block that is told to be its own. -/
structure Bkv (W : World) (o : Nat → Nat) (V : List Value) (X : Nat → List Int) : Prop where
  lib : ∀ t (h : t < V.length), Lib W V[t] (X t)
  own : ∀ t (h : t < V.length) k, V[t].ownBlock = some k → o k = t
theorem Bkv.later {W W' : World} {o : Nat → Nat} {V : List Value} {X : Nat → List Int} (h : Bkv W o V X) (k : Kept (fun _ => False) W W') : Bkv W' o V X :=
  ⟨fun t ht => (h.lib t ht).later k, h.own⟩
theorem Bkv.congr {W : World} {o : Nat → Nat} {V : List Value} {X X' : Nat → List Int} (h : Bkv W o V X) (e : ∀ t, t < V.length → X t = X' t) : Bkv W o V X' :=
  ⟨fun t ht => by rw [← e t ht]; exact h.lib t ht, h.own⟩
theorem Bkv.put {W : World} {o : Nat → Nat} {V : List Value} {X X' : Nat → List Int} {i j b : Nat} {x : Int} (h : Bkv W o V X) (hi : i < V.length) (hb : V[i].ownBlock = some b) (hj : j < (X i).length) (hX : X' i = (X i).set j x) (hX2 : ∀ t, t ≠ i → X' t = X t) : Bkv (W.setCell ⟨b, j, none⟩ (.int .u8 x)) o V X' := by
  refine ⟨fun t ht => ?_, h.own⟩
  by_cases e : t = i
  · subst e
    rw [hX]
    exact (h.lib t ht).set hb hj x
  · rw [hX2 t e]
    refine (h.lib t ht).kept (Kept.setCell W ⟨b, j, none⟩ _) (fun k hk f => e ?_)
    have h1 := h.own t ht k hk
    have h2 := h.own i hi b hb
    have h3 : k = b := f
    rw [h3] at h1
    omega
theorem lib_none {W : World} {v : Value} {l : List Int} (h : Lib W v l) (e : v.ownBlock = none) : l = [] := by
  rcases h with ⟨rfl, rfl⟩ | ⟨b, c, cur, rfl, _⟩
  · rfl
  · cases e
/-- The lists while they are grown. -/
structure Gw (bm : Nat → Nat → Int) (W0 W : World) (o0 : Nat → Nat) (V : List Value) (ns : Nat → Nat) (G : List Value) (vg : Value) (i : Nat) (v : Value) (m : Nat) (o : Nat → Nat) : Prop where
  ext : ∀ k, k < W0.heap.size → o k = o0 k
  vs : Bkv W o V (fun t => bms bm t (ns t))
  gs : Bkv W o G (fun t => bms bm t (ns t + 96))
  glen : G.length = i
  out : W.ownsRow W0.heap.size 26 1 vg i G
  outo : ∀ k, vg.ownBlock = some k → V.length ≤ o k
  cur : Lib W v (bms bm i m)
  curo : ∀ k, v.ownBlock = some k → o k = i
  kept : Kept (fun k => o0 k < V.length) W0 W
theorem Gw.later {bm : Nat → Nat → Int} {W0 W W' : World} {o0 : Nat → Nat} {V : List Value} {ns : Nat → Nat} {G : List Value} {vg : Value} {i : Nat} {v : Value} {m : Nat} {o : Nat → Nat} (h : Gw bm W0 W o0 V ns G vg i v m o) (k : Kept (fun _ => False) W W') : Gw bm W0 W' o0 V ns G vg i v m o :=
  ⟨h.ext, h.vs.later k, h.gs.later k, h.glen, k.row h.out (fun _ _ f => f), h.outo, h.cur.later k, h.curo, h.kept.trans k (fun _ f => f.elim)⟩
/-- The list at hand. -/
theorem Gw.take {bm : Nat → Nat → Int} {W0 W : World} {o0 : Nat → Nat} {V : List Value} {ns : Nat → Nat} {G : List Value} {vg : Value} {i : Nat} {v : Value} {m : Nat} {o : Nat → Nat} (h : Gw bm W0 W o0 V ns G vg i v m o) (hi : i < V.length) : Gw bm W0 W o0 V ns G vg i V[i] (ns i) o :=
  ⟨h.ext, h.vs, h.gs, h.glen, h.out, h.outo, h.vs.lib i hi, fun k hk => h.vs.own i hi k hk, h.kept⟩
theorem Gw.step {bm : Nat → Nat → Int} {W0 W W' : World} {o0 : Nat → Nat} {V : List Value} {ns : Nat → Nat} {G : List Value} {vg : Value} {i : Nat} {v v' : Value} {m m' : Nat} {o : Nat → Nat} (h : Gw bm W0 W o0 V ns G vg i v m o) (hi : i < V.length) (hle : ns i ≤ m) (s : LStep W W' v v' m) (hl : Lib W' v' (bms bm i m')) : ∃ o', Gw bm W0 W' o0 V ns G vg i v' m' o' := by
  have hs0 := h.kept.size
  have hold : ∀ q, q < W.heap.size → v'.ownBlock = some q → o q = i := by
    intro q hq e
    rcases s.new q e with e2 | e2
    · exact h.curo q e2
    · omega
  have key : ∀ q, q < W.heap.size → (if v'.ownBlock = some q then i else o q) = o q := by
    intro q hq
    split
    · next e => exact (hold q hq e).symm
    · rfl
  refine ⟨fun q => if v'.ownBlock = some q then i else o q, ?_⟩
  refine ⟨fun k hk => ?_, ⟨fun t ht => ?_, fun t ht k hk => ?_⟩, ⟨fun t ht => ?_, fun t ht k hk => ?_⟩, h.glen, ?_, fun k hk => ?_, hl, fun k hk => ?_, ?_⟩
  · show (if v'.ownBlock = some k then i else o k) = o0 k
    rw [key k (by omega)]
    exact h.ext k hk
  · refine s.pre _ _ (fun e => ?_) (h.vs.lib t ht)
    show (bms bm t (ns t)).length ≤ m
    cases hv : v.ownBlock with
    | none => rw [hv] at e; rw [lib_none (h.vs.lib t ht) e]; exact Nat.zero_le _
    | some k =>
      rw [hv] at e
      have h1 := h.vs.own t ht k e
      have h2 := h.curo k hv
      have h3 : t = i := by omega
      rw [bms_length, h3]
      exact hle
  · show (if v'.ownBlock = some k then i else o k) = t
    rw [key k ((h.vs.lib t ht).lt hk)]
    exact h.vs.own t ht k hk
  · refine s.pre _ _ (fun e => ?_) (h.gs.lib t ht)
    show (bms bm t (ns t + 96)).length ≤ m
    cases hv : v.ownBlock with
    | none => rw [hv] at e; rw [lib_none (h.gs.lib t ht) e]; exact Nat.zero_le _
    | some k =>
      rw [hv] at e
      have h1 := h.gs.own t ht k e
      have h2 := h.curo k hv
      have := h.glen
      omega
  · show (if v'.ownBlock = some k then i else o k) = t
    rw [key k ((h.gs.lib t ht).lt hk)]
    exact h.gs.own t ht k hk
  · refine s.kept.row h.out (fun k e1 e2 => ?_)
    have h1 := h.outo k e1
    have h2 := h.curo k e2
    omega
  · show V.length ≤ (if v'.ownBlock = some k then i else o k)
    rw [key k (h.out.lt k hk).2]
    exact h.outo k hk
  · show (if v'.ownBlock = some k then i else o k) = i
    rw [if_pos hk]
  · refine h.kept.trans s.kept (fun k hk => ?_)
    have h2 := h.curo k hk
    by_cases hlt : k < W0.heap.size
    · have := h.ext k hlt
      exact .inl (by show o0 k < V.length; omega)
    · exact .inr (by omega)
theorem Gw.push {bm : Nat → Nat → Int} {W0 W W' : World} {o0 : Nat → Nat} {V : List Value} {ns : Nat → Nat} {G : List Value} {vg vg' : Value} {i : Nat} {v : Value} {m : Nat} {o : Nat → Nat} (h : Gw bm W0 W o0 V ns G vg i v m o) (hm : m = ns i + 96) (hi : i < V.length) (hk : Kept (fun k => vg.ownBlock = some k) W W') (hr : W'.ownsRow W0.heap.size 26 1 vg' (i + 1) (G ++ [v])) (hn : ∀ k, vg'.ownBlock = some k → vg.ownBlock = some k ∨ W.heap.size ≤ k) : ∃ o', Gw bm W0 W' o0 V ns (G ++ [v]) vg' (i + 1) (.slice none 0 0) 0 o' := by
  have hs0 := h.kept.size
  have key : ∀ q, q < W.heap.size → (if W.heap.size ≤ q then V.length else o q) = o q := fun q hq => if_neg (by omega)
  have gown : ∀ k, vg.ownBlock = some k → V.length ≤ o k ∧ W0.heap.size ≤ k := fun k e => ⟨h.outo k e, (h.out.lt k e).1⟩
  have hget : ∀ t (ht : t < (G ++ [v]).length), (t < G.length ∧ ∃ h2 : t < G.length, (G ++ [v])[t] = G[t]) ∨ (t = i ∧ (G ++ [v])[t] = v) := by
    intro t ht
    rw [List.length_append, List.length_singleton] at ht
    by_cases q : t < G.length
    · exact .inl ⟨q, q, List.getElem_append_left q⟩
    · have hg := h.glen
      refine .inr ⟨by omega, ?_⟩
      rw [List.getElem_append_right (by omega)]
      simp
  refine ⟨fun q => if W.heap.size ≤ q then V.length else o q, ?_⟩
  refine ⟨fun k hk' => ?_, ⟨fun t ht => ?_, fun t ht k hk' => ?_⟩, ⟨fun t ht => ?_, fun t ht k hk' => ?_⟩, by rw [List.length_append, List.length_singleton, h.glen], hr, fun k hk' => ?_, .inl ⟨rfl, by simp [bms]⟩, fun k hk' => (by cases hk'), ?_⟩
  · show (if W.heap.size ≤ k then V.length else o k) = o0 k
    rw [key k (by omega)]
    exact h.ext k hk'
  · refine (h.vs.lib t ht).kept hk (fun k e1 e2 => ?_)
    have := h.vs.own t ht k e1
    have := (gown k e2).1
    omega
  · show (if W.heap.size ≤ k then V.length else o k) = t
    rw [key k ((h.vs.lib t ht).lt hk')]
    exact h.vs.own t ht k hk'
  · rcases hget t ht with ⟨_, q, e⟩ | ⟨q, e⟩
    · rw [e]
      refine (h.gs.lib t q).kept hk (fun k e1 e2 => ?_)
      have := h.gs.own t q k e1
      have := (gown k e2).1
      have := h.glen
      omega
    · subst hm
      rw [e, q]
      refine h.cur.kept hk (fun k e1 e2 => ?_)
      have := h.curo k e1
      have := (gown k e2).1
      omega
  · show (if W.heap.size ≤ k then V.length else o k) = t
    rcases hget t ht with ⟨_, q, e⟩ | ⟨q, e⟩
    · rw [e] at hk'
      rw [key k ((h.gs.lib t q).lt hk')]
      exact h.gs.own t q k hk'
    · rw [e] at hk'
      rw [key k (h.cur.lt hk'), q]
      exact h.curo k hk'
  · show V.length ≤ (if W.heap.size ≤ k then V.length else o k)
    rcases hn k hk' with e | e
    · rw [key k (h.out.lt k e).2]
      exact h.outo k e
    · rw [if_pos e]
      exact Nat.le_refl _
  · exact h.kept.trans hk (fun k e => .inr (gown k e).2)
end Go.Proofs.YtjmmdklgkcbihaaDoor
