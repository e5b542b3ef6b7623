import Derived.Test.YtidgofpmnlddaaaGreatDoorMim
namespace Go.Proofs.YtidgofpmnlddaaaGreatDoor
open Go.ChangeShapes Go.WideShapes Go.ChangeAt Go.RowKit

theorem ltot_map : ∀ {A L : List Il}, A.map (·.l) = L.map (·.l) → ltot A = ltot L
  | [], [], _ => rfl
  | [], y :: L, h => by simp at h
  | x :: A, [], h => by simp at h
  | x :: A, y :: L, h => by
    simp only [List.map_cons, List.cons.injEq] at h
    rw [ltot, ltot, h.1, ltot_map h.2]
theorem Fam.set {w W W' : World} {fs : List Ent} {x' : Ent} (i : Nat) (hi : i < fs.length) (h : Fam w W fs) (k : Kept (fun j => (fs[i]).v.ownBlock = some j) W W') (ho : W'.ownsRow w.heap.size x'.t 1 x'.v x'.n x'.xs) (hn : ∀ j, x'.v.ownBlock = some j → (fs[i]).v.ownBlock = some j ∨ W.heap.size ≤ j) : Fam w W' (fs.set i x') := by
  have e1 : fs = fs.take i ++ fs[i] :: fs.drop (i + 1) := by rw [List.getElem_cons_drop, List.take_append_drop]
  have e2 : fs.set i x' = fs.take i ++ x' :: fs.drop (i + 1) := by rw [List.set_eq_take_append_cons_drop, if_pos hi]
  rw [e2]
  refine Fam.mid (x := fs[i]) ?_ k ho hn
  rw [← e1]
  exact h
/-- The numbers that are written into list i. -/
def nwl (i q : Nat) : List Int := (List.range q).map (fun j => (((j + i) % 3 : Nat) : Int))
theorem nwl_len (i q : Nat) : (nwl i q).length = q := by simp [nwl]
theorem nwl_succ (i q : Nat) : nwl i (q + 1) = nwl i q ++ [(((q + i) % 3 : Nat) : Int)] := by simp [nwl, List.range_succ]
def rm (l : List Int) (q : Nat) : Nat := if q ≤ l.length - 80 then q else l.length - 80
/-- List i with the first q numbers written over. -/
def wrl (i q : Nat) (l : List Int) : List Int := nwl i (rm l q) ++ l.drop (rm l q)
theorem rm_le (l : List Int) (q : Nat) : rm l q ≤ l.length := by unfold rm; split <;> omega
theorem wrl_len (i q : Nat) (l : List Int) : (wrl i q l).length = l.length := by
  have := rm_le l q
  unfold wrl
  rw [List.length_append, nwl_len, List.length_drop]
  omega
theorem wrl_zero (i : Nat) (l : List Int) : wrl i 0 l = l := by
  have e : rm l 0 = 0 := by unfold rm; rw [if_pos (Nat.zero_le _)]
  unfold wrl
  rw [e]
  simp [nwl]
theorem wrl_succ (i q : Nat) (l : List Int) (h : q < l.length - 80) : (wrl i q l).set q (((q + i) % 3 : Nat) : Int) = wrl i (q + 1) l := by
  have e1 : rm l q = q := by unfold rm; rw [if_pos (by omega)]
  have e2 : rm l (q + 1) = q + 1 := by unfold rm; rw [if_pos (by omega)]
  unfold wrl
  rw [e1, e2, List.set_append_right _ _ (by rw [nwl_len]; exact Nat.le_refl _), nwl_len, Nat.sub_self, nwl_succ, List.append_assoc, List.drop_eq_getElem_cons (show q < l.length by omega)]
  rfl
theorem wrl_full (i q : Nat) (l : List Int) (h : l.length - 80 ≤ q) : wrl i q l = wrl i (l.length - 80) l := by
  have e1 : rm l q = l.length - 80 := by unfold rm; split <;> omega
  have e2 : rm l (l.length - 80) = l.length - 80 := by unfold rm; rw [if_pos (Nat.le_refl _)]
  unfold wrl
  rw [e1, e2]
theorem wrl_take (i q : Nat) (l : List Int) (h : l.length - 80 ≤ q) : (wrl i q l).take (l.length - 80) = nwl i (l.length - 80) := by
  have e2 : rm l (l.length - 80) = l.length - 80 := by unfold rm; rw [if_pos (Nat.le_refl _)]
  rw [wrl_full i q l h]
  unfold wrl
  rw [e2, List.take_left' (nwl_len _ _)]
def rwe (p : Nat → Nat) (i : Nat) (x : Il) : Ent := ⟨svx x, 3, x.l.length, is (wrl i (p i) x.l)⟩
def rwsP (B : List Il) (p : Nat → Nat) : List Ent := B.mapIdx (rwe p)
theorem rwsP_len (B : List Il) (p : Nat → Nat) : (rwsP B p).length = B.length := List.length_mapIdx
theorem rwsP_get (B : List Il) (p : Nat → Nat) (i : Nat) (h : i < B.length) : (rwsP B p)[i]'(by rw [rwsP_len]; exact h) = rwe p i B[i] := List.getElem_mapIdx ..
theorem rwsP_zero (B : List Il) : rwsP B (fun _ => 0) = B.map eI := by
  refine List.ext_getElem (by rw [rwsP_len, List.length_map]) (fun i h1 h2 => ?_)
  rw [List.length_map] at h2
  rw [rwsP_get B _ i h2, List.getElem_map]
  unfold rwe eI
  rw [wrl_zero]
theorem rwsP_set (B : List Il) (p p' : Nat → Nat) (i : Nat) (h : i < B.length) (hp : ∀ j, j ≠ i → p' j = p j) : (rwsP B p).set i (rwe p' i B[i]) = rwsP B p' := by
  refine List.ext_getElem (by rw [List.length_set, rwsP_len, rwsP_len]) (fun j h1 h2 => ?_)
  rw [rwsP_len] at h2
  rw [rwsP_get B _ j h2, List.getElem_set]
  by_cases e : i = j
  · subst e
    rw [if_pos rfl]
  · rw [if_neg e, rwsP_get B _ j h2]
    unfold rwe
    rw [hp j (fun q => e q.symm)]
theorem rwsP_ext (B : List Il) (p p' : Nat → Nat) (h : ∀ j (hj : j < B.length), wrl j (p j) B[j].l = wrl j (p' j) B[j].l) : rwsP B p = rwsP B p' := by
  refine List.ext_getElem (by rw [rwsP_len, rwsP_len]) (fun j h1 h2 => ?_)
  rw [rwsP_len] at h2
  rw [rwsP_get B _ j h2, rwsP_get B _ j h2]
  unfold rwe
  rw [h j h2]
/-- How many are written: all ahead of k, q in list k. -/
def pkq (k q : Nat) : Nat → Nat := fun i => if i < k then 4611686018427387904 else if i = k then q else 0
def T3 (yo : Il) (vi vw : Value) (n : Nat) (B : List Il) : List Ent := [eI yo, eL vi n (B.map cutI), eL vw n B]
/-- What 'in' holds in the end. -/
def newL (B : List Il) : List Il := B.mapIdx (fun i x => ⟨x.a, x.c, nwl i (x.l.length - 80)⟩)
theorem newL_len (B : List Il) : (newL B).length = B.length := List.length_mapIdx
theorem newL_get (B : List Il) (i : Nat) (h : i < B.length) : (newL B)[i]'(by rw [newL_len]; exact h) = ⟨B[i].a, B[i].c, nwl i (B[i].l.length - 80)⟩ := List.getElem_mapIdx ..
theorem newL_svl (B : List Il) : svl (newL B) = svl (B.map cutI) := by
  unfold svl
  refine List.ext_getElem (by rw [List.length_map, List.length_map, newL_len, List.length_map]) (fun j h1 h2 => ?_)
  rw [List.length_map, newL_len] at h1
  rw [List.getElem_map, List.getElem_map, newL_get B j h1, List.getElem_map]
  simp only [cutI, nwl_len, List.length_take]
  rw [Nat.min_eq_left (by omega)]
theorem cut_len (x : Il) : (cutI x).l.length = x.l.length - 80 := by
  unfold cutI
  rw [List.length_take]
  omega
theorem fam_newL {w W : World} {fs : List Ent} {a : Option Addr} {n c k : Nat} {B : List Il} (h : Fam w W fs) (h1 : eL (.slice a n c) n (B.map cutI) ∈ fs) (h2 : ∀ j (hj : j < B.length), rwe (pkq k 0) j B[j] ∈ fs) (hk : B.length ≤ k) (hb : ∀ x ∈ B, x.l.length ≤ 2097152) : LiAt W a (newL B) := by
  intro hne
  have ho := h.own _ h1
  have hn : n = B.length := by
    have := ho.1
    simp only [eL, svl_len, List.length_map] at this
    omega
  obtain ⟨a', c', e, _, hg⟩ := row_shape ho
  simp only [eL, Value.slice.injEq, true_and] at e
  obtain ⟨g, e2⟩ := hg (by simp only [eL]; rw [hn, ← newL_len]; exact List.length_pos_iff.2 hne)
  have ea : a = some ⟨g, 0, none⟩ := e.1.trans e2
  subst ea
  refine ⟨g, 0, rfl, fun j hj => ⟨?_, ?_⟩⟩
  · rw [Nat.zero_add]
    refine row_at ho ?_
    show (svl (B.map cutI))[j]? = _
    rw [← newL_svl]
    unfold svl
    rw [List.getElem?_map, List.getElem?_eq_getElem hj]
    rfl
  · have hj2 : j < B.length := by rw [newL_len] at hj; exact hj
    rw [newL_get B j hj2]
    have hr := h.own _ (h2 j hj2)
    have hp : pkq k 0 j = 4611686018427387904 := by unfold pkq; rw [if_pos (by omega)]
    have hr2 : W.ownsRow w.heap.size 3 1 (svx ⟨B[j].a, B[j].c, wrl j (pkq k 0 j) B[j].l⟩) (wrl j (pkq k 0 j) B[j].l).length (is (wrl j (pkq k 0 j) B[j].l)) := by
      unfold svx
      simp only [wrl_len]
      exact hr
    have hi := ints_take (row_ints (x := ⟨B[j].a, B[j].c, wrl j (pkq k 0 j) B[j].l⟩) hr2).1 (B[j].l.length - 80)
    have hbig : B[j].l.length - 80 ≤ pkq k 0 j := by
      have := hb _ (List.getElem_mem hj2)
      rw [hp]
      omega
    simp only at hi
    rw [wrl_take j _ _ hbig] at hi
    exact hi
end Go.Proofs.YtidgofpmnlddaaaGreatDoor
