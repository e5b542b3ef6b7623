import Derived.Test.YtjmmdklgkcbihaaDoorHia
import Derived.BigQuiet
import Derived.OrdersHeld
import Derived.Deep.RegionWith
namespace Go.Proofs.YtjmmdklgkcbihaaDoor
open Go.ChangeShapes Go.WideShapes Go.ChangeAt Go.RowKit

/-- What intMark answers hangs on its two numbers alone. -/
def BmII (bm : Nat → Nat → Int) : Prop := ∀ (i j : Nat), i < 281474976710656 → j < 281474976710656 → ∀ w, Calls Tryd.prog 77 #[.int .i64 i, .int .i64 j] w fun e w' => e = .returned (.int .i64 (bm i j)) ∧ w' = w
set_option maxRecDepth 20000 in
set_option maxHeartbeats 1000000 in
theorem bm_oneI (i j : Nat) (hi : i < 281474976710656) (hj : j < 281474976710656) : ∃ m : Int, ∀ w, Calls Tryd.prog 77 #[.int .i64 i, .int .i64 j] w fun e w' => e = .returned (.int .i64 m) ∧ w' = w := by
  apply Exists.intro
  case h =>
    intro w
    go_enter Tryd.func77, Tryd.ntmps77
    go_wp2
    go_ret
    exact ⟨rfl, rfl⟩
theorem bm_funI : ∃ bm, BmII bm := by
  have h : ∀ i j : Nat, ∃ m : Int, i < 281474976710656 → j < 281474976710656 → ∀ w, Calls Tryd.prog 77 #[.int .i64 i, .int .i64 j] w fun e w' => e = .returned (.int .i64 m) ∧ w' = w := by
    intro i j
    by_cases hi : i < 281474976710656
    · by_cases hj : j < 281474976710656
      · obtain ⟨m, hm⟩ := bm_oneI i j hi hj
        exact ⟨m, fun _ _ => hm⟩
      · exact ⟨0, fun _ h => (hj h).elim⟩
    · exact ⟨0, fun h => (hi h).elim⟩
  exact ⟨fun i j => Classical.choose (h i j), fun i j hi hj w => Classical.choose_spec (h i j) hi hj w⟩
/-- The first m marks of list t. -/
def bmsI (bm : Nat → Nat → Int) (t m : Nat) : List Int := (List.range m).map (bm t)
theorem bms_lengthI (bm : Nat → Nat → Int) (t m : Nat) : (bmsI bm t m).length = m := by simp [bmsI]
theorem bms_succI (bm : Nat → Nat → Int) (t m : Nat) : bmsI bm t (m + 1) = bmsI bm t m ++ [bm t m] := by simp [bmsI, List.range_succ]
theorem bms_getI (bm : Nat → Nat → Int) (t m j : Nat) (h : j < m) : (bmsI bm t m)[j]?.getD 0 = bm t j := by simp [bmsI, h]
/-- The marks from n on. -/
def bmfI (bm : Nat → Nat → Int) (t n m : Nat) : List Int := (List.range m).map (fun q => bm t (n + q))
theorem bmf_lengthI (bm : Nat → Nat → Int) (t n m : Nat) : (bmfI bm t n m).length = m := by simp [bmfI]
theorem bmf_succI (bm : Nat → Nat → Int) (t n m : Nat) : bmfI bm t n (m + 1) = bmfI bm t n m ++ [bm t (n + m)] := by simp [bmfI, List.range_succ]
theorem bms_bmfI (bm : Nat → Nat → Int) (t n : Nat) : ∀ m, bmsI bm t n ++ bmfI bm t n m = bmsI bm t (n + m)
  | 0 => by simp [bmfI]
  | m + 1 => by rw [bmf_succI, ← List.append_assoc, bms_bmfI bm t n m, ← Nat.add_assoc, bms_succI]
/-- The first j places marked, the others as they were. -/
def bmdI (bm : Nat → Nat → Int) (t j : Nat) (l : List Int) : List Int := bmsI bm t j ++ l.drop j
theorem bmd_zeroI (bm : Nat → Nat → Int) (t : Nat) (l : List Int) : bmdI bm t 0 l = l := by simp [bmdI, bmsI]
theorem bmd_allI (bm : Nat → Nat → Int) (t : Nat) (l : List Int) : bmdI bm t l.length l = bmsI bm t l.length := by simp [bmdI]
theorem bmd_lengthI (bm : Nat → Nat → Int) (t j : Nat) (l : List Int) (h : j ≤ l.length) : (bmdI bm t j l).length = l.length := by
  rw [bmdI, List.length_append, bms_lengthI, List.length_drop]; omega
theorem bmd_setI (bm : Nat → Nat → Int) (t j : Nat) (l : List Int) (h : j < l.length) : (bmdI bm t j l).set j (bm t j) = bmdI bm t (j + 1) l := by
  have hm := bms_lengthI bm t j
  have e := List.drop_eq_getElem_cons h
  rw [bmdI, List.set_append_right _ _ (by omega), hm, Nat.sub_self, bmdI, bms_succI, List.append_assoc, e]
  rfl
/-- Lists of bytes, each in a block that is told to be its own. -/
structure BkvI (W : World) (o : Nat → Nat) (V : List Value) (X : Nat → List Int) : Prop where
  lib : ∀ t (h : t < V.length), LibI W V[t] (X t)
  own : ∀ t (h : t < V.length) k, V[t].ownBlock = some k → o k = t
theorem BkvI.later {W W' : World} {o : Nat → Nat} {V : List Value} {X : Nat → List Int} (h : BkvI W o V X) (k : Kept (fun _ => False) W W') : BkvI W' o V X :=
  ⟨fun t ht => (h.lib t ht).later k, h.own⟩
theorem BkvI.congr {W : World} {o : Nat → Nat} {V : List Value} {X X' : Nat → List Int} (h : BkvI W o V X) (e : ∀ t, t < V.length → X t = X' t) : BkvI W o V X' :=
  ⟨fun t ht => by rw [← e t ht]; exact h.lib t ht, h.own⟩
theorem BkvI.put {W : World} {o : Nat → Nat} {V : List Value} {X X' : Nat → List Int} {i j b : Nat} {x : Int} (h : BkvI W o V X) (hi : i < V.length) (hb : V[i].ownBlock = some b) (hj : j < (X i).length) (hX : X' i = (X i).set j x) (hX2 : ∀ t, t ≠ i → X' t = X t) : BkvI (W.setCell ⟨b, j, none⟩ (.int .i64 x)) o V X' := by
  refine ⟨fun t ht => ?_, h.own⟩
  by_cases e : t = i
  · subst e
    rw [hX]
    exact (h.lib t ht).set hb hj x
  · rw [hX2 t e]
    refine (h.lib t ht).kept (Kept.setCell W ⟨b, j, none⟩ _) (fun k hk f => e ?_)
    have h1 := h.own t ht k hk
    have h2 := h.own i hi b hb
    have h3 : k = b := f
    rw [h3] at h1
    omega
theorem lib_noneI {W : World} {v : Value} {l : List Int} (h : LibI W v l) (e : v.ownBlock = none) : l = [] := by
  rcases h with ⟨rfl, rfl⟩ | ⟨b, c, cur, rfl, _⟩
  · rfl
  · cases e
/-- The lists while they are grown. -/
structure GwI (bm : Nat → Nat → Int) (W0 W : World) (o0 : Nat → Nat) (V : List Value) (ns : Nat → Nat) (G : List Value) (vg : Value) (i : Nat) (v : Value) (m : Nat) (o : Nat → Nat) : Prop where
  ext : ∀ k, k < W0.heap.size → o k = o0 k
  vs : BkvI W o V (fun t => bmsI bm t (ns t))
  gs : BkvI W o G (fun t => bmsI bm t (ns t + 96))
  glen : G.length = i
  out : W.ownsRow W0.heap.size 35 1 vg i G
  outo : ∀ k, vg.ownBlock = some k → V.length ≤ o k
  cur : LibI W v (bmsI bm i m)
  curo : ∀ k, v.ownBlock = some k → o k = i
  kept : Kept (fun k => o0 k < V.length) W0 W
theorem GwI.later {bm : Nat → Nat → Int} {W0 W W' : World} {o0 : Nat → Nat} {V : List Value} {ns : Nat → Nat} {G : List Value} {vg : Value} {i : Nat} {v : Value} {m : Nat} {o : Nat → Nat} (h : GwI bm W0 W o0 V ns G vg i v m o) (k : Kept (fun _ => False) W W') : GwI bm W0 W' o0 V ns G vg i v m o :=
  ⟨h.ext, h.vs.later k, h.gs.later k, h.glen, k.row h.out (fun _ _ f => f), h.outo, h.cur.later k, h.curo, h.kept.trans k (fun _ f => f.elim)⟩
/-- The list at hand. -/
theorem GwI.take {bm : Nat → Nat → Int} {W0 W : World} {o0 : Nat → Nat} {V : List Value} {ns : Nat → Nat} {G : List Value} {vg : Value} {i : Nat} {v : Value} {m : Nat} {o : Nat → Nat} (h : GwI bm W0 W o0 V ns G vg i v m o) (hi : i < V.length) : GwI bm W0 W o0 V ns G vg i V[i] (ns i) o :=
  ⟨h.ext, h.vs, h.gs, h.glen, h.out, h.outo, h.vs.lib i hi, fun k hk => h.vs.own i hi k hk, h.kept⟩
theorem GwI.step {bm : Nat → Nat → Int} {W0 W W' : World} {o0 : Nat → Nat} {V : List Value} {ns : Nat → Nat} {G : List Value} {vg : Value} {i : Nat} {v v' : Value} {m m' : Nat} {o : Nat → Nat} (h : GwI bm W0 W o0 V ns G vg i v m o) (hi : i < V.length) (hle : ns i ≤ m) (s : LStepI W W' v v' m) (hl : LibI W' v' (bmsI bm i m')) : ∃ o', GwI bm W0 W' o0 V ns G vg i v' m' o' := by
  have hs0 := h.kept.size
  have hold : ∀ q, q < W.heap.size → v'.ownBlock = some q → o q = i := by
    intro q hq e
    rcases s.new q e with e2 | e2
    · exact h.curo q e2
    · omega
  have key : ∀ q, q < W.heap.size → (if v'.ownBlock = some q then i else o q) = o q := by
    intro q hq
    split
    · next e => exact (hold q hq e).symm
    · rfl
  refine ⟨fun q => if v'.ownBlock = some q then i else o q, ?_⟩
  refine ⟨fun k hk => ?_, ⟨fun t ht => ?_, fun t ht k hk => ?_⟩, ⟨fun t ht => ?_, fun t ht k hk => ?_⟩, h.glen, ?_, fun k hk => ?_, hl, fun k hk => ?_, ?_⟩
  · show (if v'.ownBlock = some k then i else o k) = o0 k
    rw [key k (by omega)]
    exact h.ext k hk
  · refine s.pre _ _ (fun e => ?_) (h.vs.lib t ht)
    show (bmsI bm t (ns t)).length ≤ m
    cases hv : v.ownBlock with
    | none => rw [hv] at e; rw [lib_noneI (h.vs.lib t ht) e]; exact Nat.zero_le _
    | some k =>
      rw [hv] at e
      have h1 := h.vs.own t ht k e
      have h2 := h.curo k hv
      have h3 : t = i := by omega
      rw [bms_lengthI, h3]
      exact hle
  · show (if v'.ownBlock = some k then i else o k) = t
    rw [key k ((h.vs.lib t ht).lt hk)]
    exact h.vs.own t ht k hk
  · refine s.pre _ _ (fun e => ?_) (h.gs.lib t ht)
    show (bmsI bm t (ns t + 96)).length ≤ m
    cases hv : v.ownBlock with
    | none => rw [hv] at e; rw [lib_noneI (h.gs.lib t ht) e]; exact Nat.zero_le _
    | some k =>
      rw [hv] at e
      have h1 := h.gs.own t ht k e
      have h2 := h.curo k hv
      have := h.glen
      omega
  · show (if v'.ownBlock = some k then i else o k) = t
    rw [key k ((h.gs.lib t ht).lt hk)]
    exact h.gs.own t ht k hk
  · refine s.kept.row h.out (fun k e1 e2 => ?_)
    have h1 := h.outo k e1
    have h2 := h.curo k e2
    omega
  · show V.length ≤ (if v'.ownBlock = some k then i else o k)
    rw [key k (h.out.lt k hk).2]
    exact h.outo k hk
  · show (if v'.ownBlock = some k then i else o k) = i
    rw [if_pos hk]
  · refine h.kept.trans s.kept (fun k hk => ?_)
    have h2 := h.curo k hk
    by_cases hlt : k < W0.heap.size
    · have := h.ext k hlt
      exact .inl (by show o0 k < V.length; omega)
    · exact .inr (by omega)
theorem GwI.push {bm : Nat → Nat → Int} {W0 W W' : World} {o0 : Nat → Nat} {V : List Value} {ns : Nat → Nat} {G : List Value} {vg vg' : Value} {i : Nat} {v : Value} {m : Nat} {o : Nat → Nat} (h : GwI bm W0 W o0 V ns G vg i v m o) (hm : m = ns i + 96) (hi : i < V.length) (hk : Kept (fun k => vg.ownBlock = some k) W W') (hr : W'.ownsRow W0.heap.size 35 1 vg' (i + 1) (G ++ [v])) (hn : ∀ k, vg'.ownBlock = some k → vg.ownBlock = some k ∨ W.heap.size ≤ k) : ∃ o', GwI bm W0 W' o0 V ns (G ++ [v]) vg' (i + 1) (.slice none 0 0) 0 o' := by
  have hs0 := h.kept.size
  have key : ∀ q, q < W.heap.size → (if W.heap.size ≤ q then V.length else o q) = o q := fun q hq => if_neg (by omega)
  have gown : ∀ k, vg.ownBlock = some k → V.length ≤ o k ∧ W0.heap.size ≤ k := fun k e => ⟨h.outo k e, (h.out.lt k e).1⟩
  have hget : ∀ t (ht : t < (G ++ [v]).length), (t < G.length ∧ ∃ h2 : t < G.length, (G ++ [v])[t] = G[t]) ∨ (t = i ∧ (G ++ [v])[t] = v) := by
    intro t ht
    rw [List.length_append, List.length_singleton] at ht
    by_cases q : t < G.length
    · exact .inl ⟨q, q, List.getElem_append_left q⟩
    · have hg := h.glen
      refine .inr ⟨by omega, ?_⟩
      rw [List.getElem_append_right (by omega)]
      simp
  refine ⟨fun q => if W.heap.size ≤ q then V.length else o q, ?_⟩
  refine ⟨fun k hk' => ?_, ⟨fun t ht => ?_, fun t ht k hk' => ?_⟩, ⟨fun t ht => ?_, fun t ht k hk' => ?_⟩, by rw [List.length_append, List.length_singleton, h.glen], hr, fun k hk' => ?_, .inl ⟨rfl, by simp [bmsI]⟩, fun k hk' => (by cases hk'), ?_⟩
  · show (if W.heap.size ≤ k then V.length else o k) = o0 k
    rw [key k (by omega)]
    exact h.ext k hk'
  · refine (h.vs.lib t ht).kept hk (fun k e1 e2 => ?_)
    have := h.vs.own t ht k e1
    have := (gown k e2).1
    omega
  · show (if W.heap.size ≤ k then V.length else o k) = t
    rw [key k ((h.vs.lib t ht).lt hk')]
    exact h.vs.own t ht k hk'
  · rcases hget t ht with ⟨_, q, e⟩ | ⟨q, e⟩
    · rw [e]
      refine (h.gs.lib t q).kept hk (fun k e1 e2 => ?_)
      have := h.gs.own t q k e1
      have := (gown k e2).1
      have := h.glen
      omega
    · subst hm
      rw [e, q]
      refine h.cur.kept hk (fun k e1 e2 => ?_)
      have := h.curo k e1
      have := (gown k e2).1
      omega
  · show (if W.heap.size ≤ k then V.length else o k) = t
    rcases hget t ht with ⟨_, q, e⟩ | ⟨q, e⟩
    · rw [e] at hk'
      rw [key k ((h.gs.lib t q).lt hk')]
      exact h.gs.own t q k hk'
    · rw [e] at hk'
      rw [key k (h.cur.lt hk'), q]
      exact h.curo k hk'
  · show V.length ≤ (if W.heap.size ≤ k then V.length else o k)
    rcases hn k hk' with e | e
    · rw [key k (h.out.lt k e).2]
      exact h.outo k e
    · rw [if_pos e]
      exact Nat.le_refl _
  · exact h.kept.trans hk (fun k e => .inr (gown k e).2)
end Go.Proofs.YtjmmdklgkcbihaaDoor
