import Derived.Test.YtiebmmpnmklpnaaDoorBase
import Derived.OrdersHeld
import Derived.Maps.AppendAt
import Derived.Test.YtiebmmpnmklpnaaDoorVrc
import Derived.Test.YtiebmmpnmklpnaaDoorMrg5
namespace Go.Proofs.YtiebmmpnmklpnaaDoor
open Go.ChangeShapes Go.WideShapes Go.ChangeAt Go.RowKit

/-! An own rule for a region whose order is drawn and that makes memory many times over: an invariant. -/

/-- How many operations have not come up yet. -/
def unl (ops : Array Oper) (listed : Array Bool) : Nat := ((List.range ops.size).filter fun i => !listed.getD i true).length
theorem getD_set_t {listed : Array Bool} {i : Nat} (h : listed.getD i true = false) : (listed.setIfInBounds i true).getD i true = true := by
  have hlt : i < listed.size := by
    rcases Nat.lt_or_ge i listed.size with h' | h'
    · exact h'
    · simp [Array.getElem?_eq_none h'] at h
  simp [hlt]
theorem unl_set {ops : Array Oper} {listed : Array Bool} {i : Nat} (hi : i < ops.size) (h : listed.getD i true = false) : unl ops (listed.setIfInBounds i true) + 1 ≤ unl ops listed := by
  unfold unl
  have e : (List.range ops.size).filter (fun j => !(listed.setIfInBounds i true).getD j true) = ((List.range ops.size).filter fun j => !listed.getD j true).filter (fun j => decide (j ≠ i)) := by
    rw [List.filter_filter]
    apply List.filter_congr
    intro j _
    by_cases hj : j = i
    · subst hj
      rw [getD_set_t h]
      simp
    · rw [getD_set_ne true (Ne.symm hj)]
      simp [hj]
  rw [e]
  refine (List.length_filter_lt_length_iff_exists).2 ⟨i, List.mem_filter.2 ⟨List.mem_range.2 hi, by simp [h]⟩, by simp⟩
theorem wpAny_inv {P : Program} {ops : Array Oper} {Q : Exit → Act → World → Prop} {md : Region.Mode} (I : Array Bool → Act → World → Prop)
    (hstep : ∀ listed a w i o, I listed a w → ops[i]? = some o → listed.getD i true = false → (∀ e ∈ o.after, Region.binds md e = true → listed.getD e.on false = true) → wpOp P ops Q i (fun a' w' => I (listed.setIfInBounds i true) a' w') a w)
    (hend : ∀ listed a w, I listed a w → Region.ready md ops listed = [] → Q .normal a w) :
    ∀ fuel listed a w, unl ops listed ≤ fuel → I listed a w → wpAny P md ops Q fuel listed a w := by
  intro fuel
  induction fuel with
  | zero =>
    intro listed a w hu h
    have hr : Region.ready md ops listed = [] := by
      apply List.eq_nil_iff_forall_not_mem.2
      intro i hi
      obtain ⟨h0, o, ho, -⟩ := mem_ready.1 hi
      have := unl_set (Array.getElem?_eq_some_iff.1 ho).1 h0
      omega
    exact ⟨hr, hend _ _ _ h hr⟩
  | succ fuel ih =>
    intro listed a w hu h
    refine ⟨fun hr => hend _ _ _ h hr, fun i hi => ?_⟩
    obtain ⟨h0, o, ho, hall⟩ := mem_ready.1 hi
    have hl := unl_set (Array.getElem?_eq_some_iff.1 ho).1 h0
    exact wpOp_mono (fun a' w' h' => ih _ a' w' (by omega) h') (hstep listed a w i o h ho h0 hall)
/-- Where an operation leaves its value. -/
def dO (ops : Array Oper) (i : Nat) : Option Tmp := (ops[i]?).bind (·.dst)
/-- The state in which those that have come up have left their values. -/
def pO (ops : Array Oper) (listed : Array Bool) (vs : Nat → Value) (l : List Nat) (a : Act) : Act := l.foldl (fun a i => if listed.getD i false = true then a.put (dO ops i) (vs i) else a) a
theorem pO_cons (ops : Array Oper) (listed : Array Bool) (vs : Nat → Value) (i : Nat) (l : List Nat) (a : Act) : pO ops listed vs (i :: l) a = pO ops listed vs l (if listed.getD i false = true then a.put (dO ops i) (vs i) else a) := rfl
theorem pO_put {ops : Array Oper} {listed : Array Bool} {vs : Nat → Value} {x : Option Tmp} (v : Value) : ∀ (l : List Nat) (a : Act), (∀ j ∈ l, ∀ d, dO ops j = some d → x ≠ some d) → pO ops listed vs l (a.put x v) = (pO ops listed vs l a).put x v := by
  intro l
  induction l with
  | nil => intro a _; rfl
  | cons j l ih =>
    intro a h
    rw [pO_cons, pO_cons]
    have hl := fun k hk => h k (List.mem_cons_of_mem _ hk)
    by_cases hj : listed.getD j false = true
    · rw [if_pos hj, if_pos hj, Act.put_comm a v (vs j) (fun d hx hdj => h j List.mem_cons_self d hdj hx)]
      exact ih _ hl
    · rw [if_neg hj, if_neg hj]
      exact ih _ hl
theorem pO_off {ops : Array Oper} {listed : Array Bool} {vs : Nat → Value} {i : Nat} (v : Value) : ∀ (l : List Nat) (a : Act), i ∉ l → pO ops (listed.setIfInBounds i true) (fun j => if j = i then v else vs j) l a = pO ops listed vs l a := by
  intro l
  induction l with
  | nil => intro a _; rfl
  | cons j l ih =>
    intro a h
    rw [pO_cons, pO_cons]
    have hj : i ≠ j := fun e => h (by rw [e]; exact List.mem_cons_self)
    rw [getD_set_ne false hj, if_neg (Ne.symm hj)]
    exact ih _ (fun hm => h (List.mem_cons_of_mem _ hm))
theorem pO_set {ops : Array Oper} {listed : Array Bool} {vs : Nat → Value} {i : Nat} (v : Value) (h0 : listed.getD i true = false) (hd : ∀ j d, j ≠ i → dO ops j = some d → dO ops i ≠ some d) : ∀ (l : List Nat) (a : Act), l.Nodup → i ∈ l → pO ops (listed.setIfInBounds i true) (fun j => if j = i then v else vs j) l a = (pO ops listed vs l a).put (dO ops i) v := by
  have hlt : i < listed.size := by
    rcases Nat.lt_or_ge i listed.size with h' | h'
    · exact h'
    · simp [Array.getElem?_eq_none h'] at h0
  have h0f : listed.getD i false = false := by simp [hlt] at h0 ⊢; exact h0
  have h1 : (listed.setIfInBounds i true).getD i false = true := by simp [hlt]
  intro l
  induction l with
  | nil => intro a _ h; cases h
  | cons j l ih =>
    intro a hn hm
    rw [pO_cons, pO_cons]
    rw [List.nodup_cons] at hn
    by_cases hj : j = i
    · subst hj
      rw [if_pos h1, if_pos rfl, if_neg (by rw [h0f]; decide), pO_off v l _ hn.1]
      exact pO_put v l a (fun k hk d hkd => hd k d (fun e => hn.1 (by rw [← e]; exact hk)) hkd)
    · rw [getD_set_ne false (Ne.symm hj), if_neg hj]
      refine ih _ hn.2 ?_
      rcases List.mem_cons.1 hm with e | e
      · exact absurd e.symm hj
      · exact e
theorem pO_none (ops : Array Oper) (n : Nat) (vs : Nat → Value) : ∀ (l : List Nat) (a : Act), pO ops (Array.replicate n false) vs l a = a := by
  intro l
  induction l with
  | nil => intro a; rfl
  | cons j l ih =>
    intro a
    rw [pO_cons, if_neg (by simp [Array.getElem?_replicate]; split <;> simp)]
    exact ih a
theorem pO_all {ops : Array Oper} {listed : Array Bool} {n : Nat} (vs : Nat → Value) : ∀ (l : List Nat) (a : Act), (∀ i ∈ l, i < n ∧ listed.getD i false = true) → pO ops listed vs l a = pO ops (Array.replicate n true) vs l a := by
  intro l
  induction l with
  | nil => intro a _; rfl
  | cons j l ih =>
    intro a h
    obtain ⟨h1, h2⟩ := h j List.mem_cons_self
    rw [pO_cons, pO_cons, if_pos h2, if_pos (by simp [h1])]
    exact ih _ (fun k hk => h k (List.mem_cons_of_mem _ hk))
/-- The rule: J holds of those that have come up, of their values and of the world; each that may come up keeps it. -/
theorem wpAny_slots {P : Program} {ops : Array Oper} {Q : Exit → Act → World → Prop} {md : Region.Mode} (a0 : Act) (J : Array Bool → (Nat → Value) → World → Prop)
    (hd : ∀ i j d, i ≠ j → dO ops i = some d → dO ops j ≠ some d)
    (hback : ∀ (i : Nat) (o : Oper), ops[i]? = some o → ∀ e ∈ o.after, Region.binds md e = true → e.on < i)
    (hstep : ∀ listed vs w i o, listed.size = ops.size → J listed vs w → (∀ (j : Nat) (oj : Oper), ops[j]? = some oj → listed.getD j false = true → ∀ e ∈ oj.after, Region.binds md e = true → listed.getD e.on false = true) → ops[i]? = some o → listed.getD i true = false → (∀ e ∈ o.after, Region.binds md e = true → listed.getD e.on false = true) →
      wpOp P ops Q i (fun a' w' => ∃ v, a' = (pO ops listed vs (List.range ops.size) a0).put o.dst v ∧ J (listed.setIfInBounds i true) (fun j => if j = i then v else vs j) w') (pO ops listed vs (List.range ops.size) a0) w)
    (hend : ∀ listed vs w, J listed vs w → (∀ i, i < ops.size → listed.getD i false = true) → Q .normal (pO ops (Array.replicate ops.size true) vs (List.range ops.size) a0) w)
    (vs : Nat → Value) (w : World) (h : J (Array.replicate ops.size false) vs w) : wpAny P md ops Q ops.size (Array.replicate ops.size false) a0 w := by
  refine wpAny_inv (fun listed a w => listed.size = ops.size ∧ (∀ (j : Nat) (oj : Oper), ops[j]? = some oj → listed.getD j false = true → ∀ e ∈ oj.after, Region.binds md e = true → listed.getD e.on false = true) ∧ ∃ vs, a = pO ops listed vs (List.range ops.size) a0 ∧ J listed vs w) ?_ ?_ ops.size _ a0 w ?_ ⟨by simp, fun j oj _ hj => by simp [Array.getElem?_replicate] at hj; split at hj <;> simp at hj, vs, (pO_none _ _ _ _ _).symm, h⟩
  · rintro listed a w i o ⟨hs, hc, vs, rfl, hJ⟩ ho h0 hall
    refine wpOp_mono ?_ (hstep listed vs w i o hs hJ hc ho h0 hall)
    rintro a' w' ⟨v, rfl, hJ'⟩
    refine ⟨by simpa using hs, ?_, _, ?_, hJ'⟩
    · intro j oj hoj hj e he hb
      by_cases hji : j = i
      · subst hji
        rw [ho] at hoj
        obtain rfl := Option.some.inj hoj
        exact getD_set_true (hall e he hb)
      · rw [getD_set_ne false (Ne.symm hji)] at hj
        exact getD_set_true (hc j oj hoj hj e he hb)
    · have e : o.dst = dO ops i := by unfold dO; rw [ho]; rfl
      rw [e]
      exact (pO_set v h0 (fun j d hj hjd => hd j i d hj hjd) _ _ List.nodup_range (List.mem_range.2 (Array.getElem?_eq_some_iff.1 ho).1)).symm
  · rintro listed a w ⟨hs, hc, vs, rfl, hJ⟩ hr
    have hall : ∀ k, k ≤ ops.size → ∀ i, i < k → listed.getD i false = true := by
      intro k
      induction k with
      | zero => intro _ i hi; omega
      | succ k ih =>
        intro hk i hi
        by_cases e : i = k
        · subst e
          apply Classical.byContradiction
          intro hf
          have hlt : i < listed.size := by omega
          have h0 : listed.getD i true = false := by simp [hlt] at hf ⊢; exact hf
          have ho : ops[i]? = some ops[i] := Array.getElem?_eq_getElem (by omega)
          have : i ∈ Region.ready md ops listed := mem_ready.2 ⟨h0, _, ho, fun e he hb => ih (by omega) e.on (hback i _ ho e he hb)⟩
          rw [hr] at this
          cases this
        · exact ih (by omega) i (by omega)
    rw [pO_all (n := ops.size) vs _ _ (fun i hi => ⟨List.mem_range.1 hi, hall _ (Nat.le_refl _) i (List.mem_range.1 hi)⟩)]
    exact hend listed vs w hJ (hall _ (Nat.le_refl _))
  · unfold unl
    have := List.length_filter_le (fun i => !(Array.replicate ops.size false).getD i true) (List.range ops.size)
    simpa using this
/-- The rule's conditions on the operations, as Bools. -/
theorem hd_of {ops : Array Oper} (h : ((List.range ops.size).all fun i => (List.range ops.size).all fun j => decide (i = j) || (dO ops i).isNone || !decide (dO ops i = dO ops j)) = true) : ∀ i j d, i ≠ j → dO ops i = some d → dO ops j ≠ some d := by
  intro i j d hij hi hj
  have lt : ∀ k, dO ops k = some d → k < ops.size := fun k hk => by
    rcases Nat.lt_or_ge k ops.size with h' | h'
    · exact h'
    · unfold dO at hk; rw [Array.getElem?_eq_none h'] at hk; cases hk
  have q := List.all_eq_true.1 (List.all_eq_true.1 h i (List.mem_range.2 (lt i hi))) j (List.mem_range.2 (lt j hj))
  rw [hi, hj] at q
  simp [hij] at q
theorem hback_of {ops : Array Oper} {md : Region.Mode} (h : ((List.range ops.size).all fun i => ((ops[i]?).map fun o => o.after.all fun e => decide (e.on < i)).getD true) = true) : ∀ (i : Nat) (o : Oper), ops[i]? = some o → ∀ e ∈ o.after, Region.binds md e = true → e.on < i := by
  intro i o ho e he _
  have q := List.all_eq_true.1 h i (List.mem_range.2 (Array.getElem?_eq_some_iff.1 ho).1)
  rw [ho] at q
  simp only [Option.map_some, Option.getD_some, Array.all_eq_true_iff_forall_mem] at q
  exact of_decide_eq_true (q e he)
theorem eval_put_same {a : Act} {d : Nat} (v : Value) (h : d < a.tmps.size) : (a.put (some d) v).eval (.tmp d) = v := by
  simp [Act.put, Act.eval, h]
theorem pO_eval_off {ops : Array Oper} {listed : Array Bool} {vs : Nat → Value} {d : Nat} : ∀ (l : List Nat) (a : Act), (∀ j ∈ l, dO ops j ≠ some d) → (pO ops listed vs l a).eval (.tmp d) = a.eval (.tmp d) := by
  intro l
  induction l with
  | nil => intro a _; rfl
  | cons j l ih =>
    intro a h
    rw [pO_cons, ih _ (fun k hk => h k (List.mem_cons_of_mem _ hk))]
    by_cases hj : listed.getD j false = true
    · rw [if_pos hj]
      exact Act.eval_put (fun e he q => h j List.mem_cons_self (by injection q with q; rw [he, q]))
    · rw [if_neg hj]
theorem put_size (a : Act) (x : Option Tmp) (v : Value) : (a.put x v).tmps.size = a.tmps.size := by
  cases x <;> simp [Act.put]
theorem pO_eval {ops : Array Oper} {listed : Array Bool} {vs : Nat → Value} {i d : Nat} (hl : listed.getD i false = true) (hi : dO ops i = some d) (hd : ∀ j, j ≠ i → dO ops j ≠ some d) : ∀ (l : List Nat) (a : Act), l.Nodup → i ∈ l → d < a.tmps.size → (pO ops listed vs l a).eval (.tmp d) = vs i := by
  intro l
  induction l with
  | nil => intro a _ h; cases h
  | cons j l ih =>
    intro a hn hm ha
    rw [List.nodup_cons] at hn
    rw [pO_cons]
    by_cases hj : j = i
    · subst hj
      rw [if_pos hl, hi, pO_eval_off l _ (fun k hk => hd k (fun e => hn.1 (by rw [← e]; exact hk)))]
      exact eval_put_same _ ha
    · have hm' : i ∈ l := by
        rcases List.mem_cons.1 hm with e | e
        · exact absurd e.symm hj
        · exact e
      by_cases hjl : listed.getD j false = true
      · rw [if_pos hjl]; exact ih _ hn.2 hm' (by rw [put_size]; exact ha)
      · rw [if_neg hjl]; exact ih _ hn.2 hm' ha
/-- A step of the rule: an operation that leaves a value. -/
theorem step_val {P : Program} {ops : Array Oper} {Q : Exit → Act → World → Prop} {i : Nat} {o : Oper} {a : Act} {w : World} {R : Value → World → Prop} (ho : ops[i]? = some o) (hg : o.guard = none) (v : Value) (w' : World)
    (hr : (execOp a.eval o).run P w = .ok (.value v) w') (h : R v w') : wpOp P ops Q i (fun a' w' => ∃ v, a' = a.put o.dst v ∧ R v w') a w := by
  unfold wpOp
  have hw : Region.wanted o (yielded ops a.tmps) = true := by simp [Region.wanted, hg]
  simp only [ho, hw, if_true, Oper.wp, hr, Oper.upon]
  exact .inl ⟨v, rfl, h⟩
theorem step_skip {P : Program} {ops : Array Oper} {Q : Exit → Act → World → Prop} {i : Nat} {o : Oper} {a : Act} {w : World} {R : Value → World → Prop} (ho : ops[i]? = some o) (hg : o.guard = none) (w' : World)
    (hr : (execOp a.eval o).run P w = .ok .skip w') (h : R undef w') : wpOp P ops Q i (fun a' w' => ∃ v, a' = a.put o.dst v ∧ R v w') a w := by
  unfold wpOp
  have hw : Region.wanted o (yielded ops a.tmps) = true := by simp [Region.wanted, hg]
  simp only [ho, hw, if_true, Oper.wp, hr, Oper.upon]
  exact .inl ⟨undef, rfl, h⟩
theorem dO_no {ops : Array Oper} {d : Nat} (h : ((List.range ops.size).all fun j => !decide (dO ops j = some d)) = true) : ∀ j, dO ops j ≠ some d := by
  intro j hj
  have hlt : j < ops.size := by
    rcases Nat.lt_or_ge j ops.size with h' | h'
    · exact h'
    · unfold dO at hj; rw [Array.getElem?_eq_none h'] at hj; cases hj
  have q := List.all_eq_true.1 h j (List.mem_range.2 hlt)
  rw [hj] at q
  simp at q
/-- What an operation waits for has come up. -/
theorem dep_of {o : Oper} {md : Region.Mode} {listed : Array Bool} (hall : ∀ e ∈ o.after, Region.binds md e = true → listed.getD e.on false = true) (k : Nat) (h : (o.after.any fun e => Region.binds md e && decide (e.on = k)) = true) : listed.getD k false = true := by
  obtain ⟨e, he, hb⟩ := Array.any_eq_true'.1 h
  rw [Bool.and_eq_true] at hb
  have := hall e he hb.1
  rwa [of_decide_eq_true hb.2] at this
/-- The rule with the state under a name: EV what those that have come up left, E0 what was there before. -/
theorem wpAny_slots2 {P : Program} {ops : Array Oper} {Q : Exit → Act → World → Prop} {md : Region.Mode} (a0 : Act) (J : Array Bool → (Nat → Value) → World → Prop)
    (hd : ((List.range ops.size).all fun i => (List.range ops.size).all fun j => decide (i = j) || (dO ops i).isNone || !decide (dO ops i = dO ops j)) = true)
    (hback : ((List.range ops.size).all fun i => ((ops[i]?).map fun o => o.after.all fun e => decide (e.on < i)).getD true) = true)
    (hstep : ∀ listed vs w i o A, J listed vs w → (∀ (j : Nat) (oj : Oper), ops[j]? = some oj → listed.getD j false = true → ∀ e ∈ oj.after, Region.binds md e = true → listed.getD e.on false = true) → ops[i]? = some o → listed.getD i true = false → (∀ e ∈ o.after, Region.binds md e = true → listed.getD e.on false = true) →
      (∀ k d, listed.getD k false = true → dO ops k = some d → d < a0.tmps.size → A.eval (.tmp d) = vs k) → (∀ d, ((List.range ops.size).all fun j => !decide (dO ops j = some d)) = true → A.eval (.tmp d) = a0.eval (.tmp d)) →
      wpOp P ops Q i (fun a' w' => ∃ v, a' = A.put o.dst v ∧ J (listed.setIfInBounds i true) (fun j => if j = i then v else vs j) w') A w)
    (hend : ∀ listed vs w, J listed vs w → (∀ i, i < ops.size → listed.getD i false = true) → Q .normal (pO ops (Array.replicate ops.size true) vs (List.range ops.size) a0) w)
    (vs : Nat → Value) (w : World) (h : J (Array.replicate ops.size false) vs w) : wpAny P md ops Q ops.size (Array.replicate ops.size false) a0 w := by
  have hd' := hd_of hd
  refine wpAny_slots a0 J hd' (hback_of hback) ?_ hend vs w h
  intro listed vs w i o hs hJ hc ho h0 hall
  refine hstep listed vs w i o _ hJ hc ho h0 hall ?_ (fun d hno => pO_eval_off _ _ (fun j _ => dO_no hno j))
  intro k d hk hkd hlt
  have hkl : k < ops.size := by
    rcases Nat.lt_or_ge k ops.size with h' | h'
    · exact h'
    · unfold dO at hkd; rw [Array.getElem?_eq_none h'] at hkd; cases hkd
  exact pO_eval hk hkd (fun j hj hjd => hd' j k d hj hjd hkd) _ _ List.nodup_range (List.mem_range.2 hkl) hlt
end Go.Proofs.YtiebmmpnmklpnaaDoor
namespace Go.Proofs.YtiebmmpnmklpnaaDoor
open Go.ChangeShapes Go.WideShapes Go.ChangeAt Go.RowKit

/-- append to an empty list that has a block but no room: a list of new memory, or the very list where nothing is appended; whatever stood before stays. -/
theorem run_append_bare {P : Program} {w : World} (base : Nat) (t ty e : TypeId) (i : TypeInfo) (z : Value) (size bytes : Nat) (ht : P.underlying t = some (.slice e)) (hi : P.info? e = some i) (hz : i.zero = some z)
    (hsize : i.size = size) (hby : i.bytes = bytes) (hzs : z.cells.size = size) (hsz : 0 < size) (g : Nat) (hown : w.ownsRow base e size (.slice (some ⟨g, 0, none⟩) 0 0) 0 [])
    (a : Option Addr) (m c : Nat) (news : List Value) (hl : news.length = m * size) (hnews : 0 < m → ∃ ad, a = some ad ∧ ∀ j u, news[j]? = some u → w.cell? (ad.add j) = some u) (h1 : ∀ u ∈ news, u.oneCell' = true)
    (h63 : m ≤ maxLen) (hbytes : m * bytes ≤ 140737488355328) (hbase : base ≤ w.heap.size) :
    ∃ v' w', (Builtin.append_ #[t, t] ty #[.slice (some ⟨g, 0, none⟩) 0 0, .slice a m c]).run P w = .ok v' w' ∧ w'.ownsRow base e size v' m news ∧ Kept (fun _ => False) w w' ∧ (v'.ownBlock = some g ∨ v'.ownBlock = some w.heap.size) := by
  by_cases hm : m = 0
  · subst hm
    have hn : news = [] := List.eq_nil_of_length_eq_zero (by simpa using hl)
    subst hn
    refine ⟨.slice (some ⟨g, 0, none⟩) 0 0, w, ?_, hown, Kept.refl _ _, .inl rfl⟩
    cases a <;> simp [Builtin.append_, run_underlying ht, sizeOf, typeInfo, hi, Builtin.lenOf, Builtin.firstCells, loadCells, loadCellsFrom, storeCells]
  · obtain ⟨ad, rfl, hc⟩ := hnews (by omega)
    obtain ⟨v', w', hr, h2, -, -, hbk⟩ := run_append_own_at (P := P) w base t ty e i z size bytes ht hi hz hsize hby hzs hsz _ 0 [] hown ad m c news hl hc h1 (by omega) (by simpa using hbytes) hbase
    subst hsize
    subst hby
    have hb : 0 + m ≤ 9223372036854775807 := by simp only [maxLen] at h63; omega
    have hr2 := run_append_grow (P := P) w t ty e i z ht hi hz ⟨g, 0, none⟩ 0 0 [] (by simp) (fun j v h => by simp at h) ad m c news hl hc (by omega) (by omega) (growslice_fits (by omega) (by simpa using hbytes))
    refine ⟨v', w', hr, by simpa using h2, ?_, hbk⟩
    rw [hr2] at hr
    injection hr with e1 e2
    rw [← e2]
    exact (Kept.drew w).trans (Kept.alloc _ _) (fun _ f => f.elim)
end Go.Proofs.YtiebmmpnmklpnaaDoor
namespace Go.Proofs.YtiebmmpnmklpnaaDoor
open Go.ChangeShapes Go.WideShapes Go.ChangeAt Go.RowKit

theorem own_stay {w w' : World} {b e z n : Nat} {v : Value} {xs : List Value} (h : w.ownsRow b e z v n xs) (k : Kept (fun _ => False) w w') : w'.ownsRow b e z v n xs := by
  refine ⟨h.1, ?_⟩
  rcases h.2 with hn | ⟨g, cap, cur, e1, hg, hb, rest⟩
  · exact .inl hn
  · exact .inr ⟨g, cap, cur, e1, hg, k.heap hb (fun f => f), rest⟩
/-- Behind changes of blocks of other kinds. -/
theorem own_apart {S : Nat → Prop} {w w' : World} {b e z n : Nat} {v : Value} {xs : List Value} (h : w.ownsRow b e z v n xs) (k : Kept S w w') (hS : ∀ j, S j → ∀ o fz, w.heap[j]? ≠ some (.cells o e fz)) : w'.ownsRow b e z v n xs := by
  refine ⟨h.1, ?_⟩
  rcases h.2 with hn | ⟨g', cap, cur, e1, hg', hb, rest⟩
  · exact .inl hn
  · exact .inr ⟨g', cap, cur, e1, hg', k.heap hb (fun q => hS _ q _ _ hb), rest⟩
theorem own_low {w : World} {b c e z n : Nat} {v : Value} {xs : List Value} (h : w.ownsRow b e z v n xs) (hc : c ≤ b) : w.ownsRow c e z v n xs := by
  refine ⟨h.1, ?_⟩
  rcases h.2 with hn | ⟨g', cap, cur, e1, hg', rest⟩
  · exact .inl hn
  · exact .inr ⟨g', cap, cur, e1, by omega, rest⟩
/-- Behind a store into a block of another kind. -/
theorem own_past {w w' : World} {b e z n g : Nat} {T : TypeId} {o : Array Value} {v : Value} {xs : List Value} (h : w.ownsRow b e z v n xs) (k : Kept (fun j => j = g) w w') (hg : w.heap[g]? = some (.cells o T (0, 0))) (hT : e ≠ T) : w'.ownsRow b e z v n xs := by
  refine ⟨h.1, ?_⟩
  rcases h.2 with hn | ⟨g', cap, cur, e1, hg', hb, rest⟩
  · exact .inl hn
  · refine .inr ⟨g', cap, cur, e1, hg', k.heap hb (fun q => ?_), rest⟩
    rw [q, hg] at hb
    injection hb with hb
    injection hb with _ hb _
    exact hT hb.symm
/-- Leaves and bytes as they lie. -/
def lfv (l : List Lf) : List Value := l.flatMap fun c => [.int .i64 c.f, .string c.t]
def by4 (l : List Int) : List Value := l.map fun x => .int .u8 x
theorem lfv_len (l : List Lf) : (lfv l).length = l.length * 2 := by
  induction l with
  | nil => rfl
  | cons c l ih => simp only [lfv, List.flatMap_cons, List.length_append, List.length_cons, List.length_nil] at ih ⊢; omega
theorem lfv_get (l : List Lf) (k : Nat) (h : k < l.length) : (lfv l)[k * 2]? = some (.int .i64 l[k].f) ∧ (lfv l)[k * 2 + 1]? = some (.string l[k].t) := by
  induction l generalizing k with
  | nil => simp at h
  | cons c l ih =>
    cases k with
    | zero => exact ⟨rfl, rfl⟩
    | succ k =>
      have := ih k (by simpa using h)
      have e1 : (k + 1) * 2 = k * 2 + 2 := by omega
      rw [e1]
      exact this
theorem addr_at (b off j : Nat) : (⟨b, off, none⟩ : Addr).add j = ⟨b, off + j, none⟩ := by
  unfold Addr.add; split <;> simp_all
theorem lf_news {w : World} {a : Option Addr} {l : List Lf} (h : LfAt w a l) : 0 < l.length → ∃ ad, a = some ad ∧ ∀ j u, (lfv l)[j]? = some u → w.cell? (ad.add j) = some u := fun hn => by
  obtain ⟨b, off, e, hc⟩ := h (by intro e; rw [e] at hn; simp at hn)
  refine ⟨_, e, fun j u hu => ?_⟩
  have hj : j < (lfv l).length := (List.getElem?_eq_some_iff.1 hu).1
  rw [lfv_len] at hj
  rw [addr_at]
  obtain ⟨g1, g2⟩ := lfv_get l (j / 2) (by omega)
  obtain ⟨c1, c2⟩ := hc (j / 2) (by omega)
  by_cases hm : j % 2 = 0
  · have e1 : j / 2 * 2 = j := by omega
    rw [e1] at g1 c1
    rw [c1, ← hu, g1]
  · have e1 : j / 2 * 2 + 1 = j := by omega
    rw [Nat.add_assoc, e1] at c2
    rw [e1] at g2
    rw [c2, ← hu, g2]
theorem is_news {w : World} {a : Option Addr} {l : List Int} (h : IntsAt w a l) : 0 < l.length → ∃ ad, a = some ad ∧ ∀ j u, (is l)[j]? = some u → w.cell? (ad.add j) = some u := fun hn => by
  obtain ⟨b, off, e, hc⟩ := h (by intro e; rw [e] at hn; simp at hn)
  refine ⟨_, e, fun j u hu => ?_⟩
  obtain ⟨hj, q⟩ := List.getElem?_eq_some_iff.1 hu
  rw [is_length] at hj
  rw [addr_at, hc j hj, ← q]
  simp [is, hj]
theorem by_news {w : World} {a : Option Addr} {l : List Int} (h : BytesAt w a l) : 0 < l.length → ∃ ad, a = some ad ∧ ∀ j u, (by4 l)[j]? = some u → w.cell? (ad.add j) = some u := fun hn => by
  obtain ⟨b, off, e, hc⟩ := h (by intro e; rw [e] at hn; simp at hn)
  refine ⟨_, e, fun j u hu => ?_⟩
  obtain ⟨hj, q⟩ := List.getElem?_eq_some_iff.1 hu
  have hj' : j < l.length := by simpa [by4] using hj
  rw [addr_at, hc j hj', ← q]
  simp [by4, hj']
def bareP (E : TypeId) (z b : Nat) (v : Value) (w : World) : Prop := ∃ g, v = .slice (some ⟨g, 0, none⟩) 0 0 ∧ w.ownsRow b E z v 0 []
def rows4 (p : Pg) (b : Nat) (v3 v7 v13 v17 : Value) (w : World) : Prop :=
  w.ownsRow b 3 1 v3 p.av.length (is p.av) ∧ w.ownsRow b 49 2 v7 p.cu.length (lfv p.cu) ∧ w.ownsRow b 3 1 v13 p.dr.length (is p.dr) ∧ w.ownsRow b 5 1 v17 p.co.length (by4 p.co)
def apV (a b : Value) : Prop := ∀ g, a.ownBlock = some g → b.ownBlock ≠ some g
/-- What each operation of the first region of 'copied' leaves. -/
def cpS (p : Pg) (b bX : Nat) (aA aC aD aO : Option Addr) (cA cC cD cO : Nat) : Nat → Value → World → Prop
  | 0, v, w => bareP 3 1 b v w
  | 1, v, _ => v = .pointer (some ⟨bX, 0, none⟩)
  | 2, v, _ => v = .slice aA p.av.length cA
  | 3, v, w => w.ownsRow b 3 1 v p.av.length (is p.av)
  | 4, v, w => bareP 49 2 b v w
  | 5, v, _ => v = .pointer (some ⟨bX, 1, none⟩)
  | 6, v, _ => v = .slice aC p.cu.length cC
  | 7, v, w => w.ownsRow b 49 2 v p.cu.length (lfv p.cu)
  | 8, v, _ => v = .pointer (some ⟨bX, 3, none⟩)
  | 9, v, _ => v = .bool p.al
  | 10, v, w => bareP 3 1 b v w
  | 11, v, _ => v = .pointer (some ⟨bX, 4, none⟩)
  | 12, v, _ => v = .slice aD p.dr.length cD
  | 13, v, w => w.ownsRow b 3 1 v p.dr.length (is p.dr)
  | 14, v, w => bareP 5 1 b v w
  | 15, v, _ => v = .pointer (some ⟨bX, 5, none⟩)
  | 16, v, _ => v = .slice aO p.co.length cO
  | 17, v, w => w.ownsRow b 5 1 v p.co.length (by4 p.co)
  | 18, v, w => ∃ v3 v7 v13 v17, v = .agg #[v3, v7, .slice none 0 0, .bool p.al, v13, v17] ∧ rows4 p b v3 v7 v13 v17 w ∧ apV v3 v13
  | 19, v, w => ∃ g, v = .pointer (some ⟨g, 0, none⟩) ∧ b ≤ g ∧ w.heap[g]? = some (.cells #[.slice none 0 0, .slice none 0 0, .slice none 0 0, .bool false, .slice none 0 0, .slice none 0 0] 27 (0, 0))
  | _, _, _ => True
theorem cp_lt {p : Pg} {b bX : Nat} {aA aC aD aO : Option Addr} {cA cC cD cO : Nat} {w : World} {k : Nat} {v : Value} (hk : k = 0 ∨ k = 3 ∨ k = 10 ∨ k = 13) (h : cpS p b bX aA aC aD aO cA cC cD cO k v w) : ∀ g, v.ownBlock = some g → g < w.heap.size := by
  rcases hk with rfl | rfl | rfl | rfl
  · obtain ⟨_, _, ho⟩ := h; exact fun g hg => (ho.lt g hg).2
  · exact fun g hg => (World.ownsRow.lt (base := b) h g hg).2
  · obtain ⟨_, _, ho⟩ := h; exact fun g hg => (ho.lt g hg).2
  · exact fun g hg => (World.ownsRow.lt (base := b) h g hg).2
def cpF (p : Pg) (b : Nat) (x : Value) (w : World) : Prop :=
  ∃ g v3 v7 v13 v17, x = .pointer (some ⟨g, 0, none⟩) ∧ b ≤ g ∧ w.heap[g]? = some (.cells #[v3, v7, .slice none 0 0, .bool p.al, v13, v17] 27 (0, 0)) ∧ rows4 p b v3 v7 v13 v17 w ∧ apV v3 v13
theorem bare_stay {E : TypeId} {z b : Nat} {v : Value} {w w' : World} (h : bareP E z b v w) (k : Kept (fun _ => False) w w') : bareP E z b v w' := by
  obtain ⟨g, e, ho⟩ := h
  exact ⟨g, e, own_stay ho k⟩
theorem rows4_stay {p : Pg} {b : Nat} {v3 v7 v13 v17 : Value} {w w' : World} (h : rows4 p b v3 v7 v13 v17 w) (k : Kept (fun _ => False) w w') : rows4 p b v3 v7 v13 v17 w' :=
  ⟨own_stay h.1 k, own_stay h.2.1 k, own_stay h.2.2.1 k, own_stay h.2.2.2 k⟩
theorem cp_stay {p : Pg} {b bX : Nat} {aA aC aD aO : Option Addr} {cA cC cD cO : Nat} {w w' : World} (K : Kept (fun _ => False) w w') : ∀ (k : Nat) (v : Value), k < 20 → cpS p b bX aA aC aD aO cA cC cD cO k v w → cpS p b bX aA aC aD aO cA cC cD cO k v w'
  | 0, _, _, h => bare_stay h K
  | 1, _, _, h => h
  | 2, _, _, h => h
  | 3, _, _, h => own_stay (b := b) h K
  | 4, _, _, h => bare_stay h K
  | 5, _, _, h => h
  | 6, _, _, h => h
  | 7, _, _, h => own_stay (b := b) h K
  | 8, _, _, h => h
  | 9, _, _, h => h
  | 10, _, _, h => bare_stay h K
  | 11, _, _, h => h
  | 12, _, _, h => h
  | 13, _, _, h => own_stay (b := b) h K
  | 14, _, _, h => bare_stay h K
  | 15, _, _, h => h
  | 16, _, _, h => h
  | 17, _, _, h => own_stay (b := b) h K
  | 18, _, _, h => by obtain ⟨v3, v7, v13, v17, e, r, ra⟩ := h; exact ⟨v3, v7, v13, v17, e, rows4_stay r K, ra⟩
  | 19, _, _, h => by obtain ⟨g, e, hb, hg⟩ := h; exact ⟨g, e, hb, K.heap hg (fun f => f)⟩
  | k + 20, _, hk, _ => absurd hk (by omega)
/-- On which side a value stands: of the averages, of the drive. -/
def sdC : Nat → Nat
  | 0 => 1
  | 3 => 1
  | 10 => 2
  | 13 => 2
  | _ => 0
def apD (listed : Array Bool) (vs : Nat → Value) : Prop := ∀ i j, sdC i = 1 → sdC j = 2 → listed.getD i false = true → listed.getD j false = true → ∀ g, (vs i).ownBlock = some g → (vs j).ownBlock ≠ some g
theorem sdC_in {k : Nat} (h : sdC k ≠ 0) : k = 0 ∨ k = 3 ∨ k = 10 ∨ k = 13 := by
  unfold sdC at h
  split at h <;> first | omega | exact absurd rfl h
/-- The region's invariant. -/
def cpJ (w0 : World) (p : Pg) (b bX : Nat) (aA aC aD aO : Option Addr) (cA cC cD cO : Nat) (listed : Array Bool) (vs : Nat → Value) (w : World) : Prop :=
  Kept (fun _ => False) w0 w ∧ (listed.getD 20 false = false → ∀ k, k < 20 → listed.getD k false = true → cpS p b bX aA aC aD aO cA cC cD cO k (vs k) w) ∧ (listed.getD 20 false = true → cpF p b (vs 19) w) ∧ apD listed vs
theorem cpJ_step {w0 : World} {p : Pg} {b bX : Nat} {aA aC aD aO : Option Addr} {cA cC cD cO : Nat} {listed : Array Bool} {vs : Nat → Value} {w w' : World} {i : Nat} {v : Value} (h : cpJ w0 p b bX aA aC aD aO cA cC cD cO listed vs w) (hi : i < 20) (h20 : listed.getD 20 false = false) (K : Kept (fun _ => False) w w') (hS : cpS p b bX aA aC aD aO cA cC cD cO i v w') (hv : sdC i ≠ 0 → ∀ g, v.ownBlock = some g → w.heap.size ≤ g ∨ ∃ k, listed.getD k false = true ∧ sdC k = sdC i ∧ (vs k).ownBlock = some g) :
    cpJ w0 p b bX aA aC aD aO cA cC cD cO (listed.setIfInBounds i true) (fun j => if j = i then v else vs j) w' := by
  have e20 : (listed.setIfInBounds i true).getD 20 false = false := by rw [getD_set_ne false (by omega)]; exact h20
  refine ⟨h.1.trans K (fun _ f => f.elim), fun _ k hk hl => ?_, fun hl => (by rw [e20] at hl; cases hl), ?_⟩
  rotate_left
  · intro a c ha hc la lc g hg hg2
    have lt : ∀ k, sdC k ≠ 0 → listed.getD k false = true → ∀ g, (vs k).ownBlock = some g → g < w.heap.size := fun k hk hl => cp_lt (sdC_in hk) (h.2.1 h20 k (by rcases sdC_in hk with e | e | e | e <;> omega) hl)
    by_cases ea : a = i
    · have ec : c ≠ i := fun e => by rw [ea, ← e, hc] at ha; cases ha
      subst ea
      simp only [if_pos] at hg
      simp only [if_neg ec] at hg2
      rw [getD_set_ne false (Ne.symm ec)] at lc
      rcases hv (by rw [ha]; decide) g hg with q | ⟨k, lk, sk, bk⟩
      · have := lt c (by rw [hc]; decide) lc g hg2; omega
      · exact h.2.2.2 k c (by rw [sk]; exact ha) hc lk lc g bk hg2
    · simp only [if_neg ea] at hg
      rw [getD_set_ne false (Ne.symm ea)] at la
      by_cases ec : c = i
      · subst ec
        simp only [if_pos] at hg2
        rcases hv (by rw [hc]; decide) g hg2 with q | ⟨k, lk, sk, bk⟩
        · have := lt a (by rw [ha]; decide) la g hg; omega
        · exact h.2.2.2 a k ha (by rw [sk]; exact hc) la lk g hg bk
      · simp only [if_neg ec] at hg2
        rw [getD_set_ne false (Ne.symm ec)] at lc
        exact h.2.2.2 a c ha hc la lc g hg hg2
  by_cases e : k = i
  · subst e; simp only [if_pos]; exact hS
  · simp only [if_neg e]
    rw [getD_set_ne false (Ne.symm e)] at hl
    exact cp_stay K k _ hk (h.2.1 h20 k hk hl)
theorem ap_run (T E : TypeId) (i : TypeInfo) (z : Value) (size bytes b : Nat) (hT : Tryd.prog.underlying T = some (.slice E)) (hi : Tryd.prog.info? E = some i) (hz : i.zero = some z) (hsize : i.size = size) (hby : i.bytes = bytes) (hzs : z.cells.size = size) (hsz : 0 < size)
    {o : Oper} {ρ : Operand → Value} {w : World} (s x : Operand) (ho : o.op = .call { callee := .builtin .append, args := #[s, x], argTypes := #[T, T] }) (hs : bareP E size b (ρ s) w) (a : Option Addr) (m c : Nat) (hx : ρ x = .slice a m c) (news : List Value) (hl : news.length = m * size) (hnews : 0 < m → ∃ ad, a = some ad ∧ ∀ j u, news[j]? = some u → w.cell? (ad.add j) = some u) (h1 : ∀ u ∈ news, u.oneCell' = true) (h63 : m ≤ maxLen) (hbytes : m * bytes ≤ 140737488355328) (hb : b ≤ w.heap.size) :
    ∃ v' w', (execOp ρ o).run Tryd.prog w = .ok (.value v') w' ∧ w'.ownsRow b E size v' m news ∧ Kept (fun _ => False) w w' ∧ (v'.ownBlock = (ρ s).ownBlock ∨ v'.ownBlock = some w.heap.size) := by
  obtain ⟨g, e, hown⟩ := hs
  rw [e] at hown
  obtain ⟨v', w', hr, h2, h3, h4⟩ := run_append_bare (P := Tryd.prog) b T o.type E i z size bytes hT hi hz hsize hby hzs hsz g hown a m c news hl hnews h1 h63 hbytes hb
  refine ⟨v', w', ?_, h2, h3, by rw [e]; exact h4⟩
  unfold execOp
  simp only [ho, resolve, invoke, builtin, Sem.run_bind, Sem.run_pure, Result.andThen_ok, List.map_toArray, List.map_cons, List.map_nil, e, hx, hr]
end Go.Proofs.YtiebmmpnmklpnaaDoor
namespace Go.Proofs.YtiebmmpnmklpnaaDoor
open Go.ChangeShapes Go.WideShapes Go.ChangeAt Go.RowKit

theorem own_form {w : World} {b e z n : Nat} {v : Value} {xs : List Value} (h : w.ownsRow b e z v n xs) : ∃ a c, v = .slice a n c := by
  rcases h.2 with ⟨e1, e2⟩ | ⟨g, cap, cur, e1, _⟩
  · exact ⟨none, 0, by rw [e1, e2]⟩
  · exact ⟨_, _, e1⟩
theorem own_typed {w : World} {b e z n : Nat} {v : Value} {xs : List Value} (h : w.ownsRow b e z v n xs) {e' : TypeId} (he : e' ≠ e) : ∀ k, v.ownBlock = some k → ∀ o fz, w.heap[k]? ≠ some (.cells o e' fz) := by
  intro k hk o fz hc
  rcases h.2 with ⟨rfl, _⟩ | ⟨g, cap, cur, rfl, _, hg, _⟩
  · cases hk
  · cases Option.some.inj hk
    rw [show (Addr.block ⟨g, 0, none⟩) = g from rfl] at hc
    rw [hg] at hc
    injection hc with hc
    injection hc with _ hc _
    exact he hc.symm
/-- The phrases as they lie in the copy. -/
def NrX (w : World) (b1 : Nat) (xs : List Value) (l : List Nr) : Prop := ∀ k (h : k < l.length), ∃ v1 v2, xs[k * 3]? = some v1 ∧ xs[k * 3 + 1]? = some v2 ∧ xs[k * 3 + 2]? = some (.int .i64 l[k].sl) ∧ w.ownsRow b1 3 1 v1 l[k].cs.length (is l[k].cs) ∧ w.ownsRow b1 3 1 v2 l[k].os.length (is l[k].os)
theorem NrX.apart {S : Nat → Prop} {w w' : World} {b1 : Nat} {xs : List Value} {l : List Nr} (h : NrX w b1 xs l) (k : Kept S w w') (hS : ∀ j, S j → ∀ o fz, w.heap[j]? ≠ some (.cells o 3 fz)) : NrX w' b1 xs l := fun i hi => by
  obtain ⟨v1, v2, e1, e2, e3, r1, r2⟩ := h i hi
  exact ⟨v1, v2, e1, e2, e3, own_apart r1 k hS, own_apart r2 k hS⟩
theorem NrX.snoc {w : World} {b1 : Nat} {xs : List Value} {l : List Nr} {n : Nr} {v1 v2 : Value} (h : NrX w b1 xs l) (hl : xs.length = l.length * 3) (r1 : w.ownsRow b1 3 1 v1 n.cs.length (is n.cs)) (r2 : w.ownsRow b1 3 1 v2 n.os.length (is n.os)) : NrX w b1 (xs ++ [v1, v2, .int .i64 n.sl]) (l ++ [n]) := fun k hk => by
  by_cases e : k < l.length
  · obtain ⟨u1, u2, e1, e2, e3, q1, q2⟩ := h k e
    rw [List.getElem_append_left e]
    exact ⟨u1, u2, by rw [List.getElem?_append_left (by omega)]; exact e1, by rw [List.getElem?_append_left (by omega)]; exact e2, by rw [List.getElem?_append_left (by omega)]; exact e3, q1, q2⟩
  · have hk' : k = l.length := by simp at hk; omega
    subst hk'
    have e0 : (l ++ [n])[l.length] = n := by simp
    rw [e0]
    refine ⟨v1, v2, ?_, ?_, ?_, r1, r2⟩
    · rw [List.getElem?_append_right (by omega)]; simp [hl]
    · rw [List.getElem?_append_right (by omega), hl, show l.length * 3 + 1 - l.length * 3 = 1 by omega]; rfl
    · rw [List.getElem?_append_right (by omega), hl, show l.length * 3 + 2 - l.length * 3 = 2 by omega]; rfl
theorem crow_at {w : World} {b : Nat} {a : Option Addr} {c : Nat} {l : List Int} (h : w.ownsRow b 3 1 (.slice a l.length c) l.length (is l)) : IntsAt w a l := fun hne => by
  rcases h.2 with ⟨e1, e2⟩ | ⟨g, cap, cur, e1, _, hg, h1, h2, h3, h4⟩
  · exact absurd (List.eq_nil_of_length_eq_zero e2) hne
  · injection e1 with e1 _ _
    refine ⟨g, 0, e1, fun k hk => ?_⟩
    rw [cell_of_row _ _ (0 + k) _ _ _ hg]
    have h5 : (cur.toList.take (l.length * 1))[k]? = (is l)[k]? := by rw [h4]
    rw [List.getElem?_take, if_pos (by omega), Array.getElem?_toList] at h5
    rw [Nat.zero_add, h5]
    simp [is, hk]
theorem nx_at {w : World} {b b1 : Nat} {v : Value} {n : Nat} {xs : List Value} {l : List Nr} (h : w.ownsRow b 51 3 v n xs) (hn : n = l.length) (hx : NrX w b1 xs l) : ∃ a c, v = .slice a n c ∧ NrAt w a l := by
  rcases h.2 with ⟨e1, e2⟩ | ⟨g, cap, cur, e1, _, hg, h1, h2, h3, h4⟩
  · exact ⟨none, 0, by rw [e1, e2], fun hne => absurd (List.eq_nil_of_length_eq_zero (by omega)) hne⟩
  · refine ⟨_, _, e1, fun hne => ⟨g, 0, rfl, fun k hk => ?_⟩⟩
    obtain ⟨v1, v2, x1, x2, x3, r1, r2⟩ := hx k hk
    obtain ⟨a1, c1, rfl⟩ := own_form r1
    obtain ⟨a2, c2, rfl⟩ := own_form r2
    have at' : ∀ j u, xs[j]? = some u → w.cell? ⟨g, 0 + j, none⟩ = some u := fun j u hu => by
      rw [cell_of_row _ _ (0 + j) _ _ _ hg]
      have hj : j < n * 3 := by have := (List.getElem?_eq_some_iff.1 hu).1; have := h.1; omega
      have h5 : (cur.toList.take (n * 3))[j]? = xs[j]? := by rw [h4]
      rw [List.getElem?_take, if_pos hj, Array.getElem?_toList] at h5
      rw [Nat.zero_add, h5, hu]
    refine ⟨a1, c1, a2, c2, at' _ _ x1, ?_, ?_, crow_at r1, crow_at r2⟩
    · rw [Nat.add_assoc]; exact at' _ _ x2
    · rw [Nat.add_assoc]; exact at' _ _ x3
/-- The copy under way: its block, its rows, the phrases so far. -/
def CpL (p : Pg) (W0 : World) (b1 g : Nat) (v3 v7 v13 v17 : Value) (j : Nat) (wr : World) : Prop := ∃ vN xs, wr.heap[g]? = some (.cells #[v3, v7, vN, .bool p.al, v13, v17] 27 (0, 0)) ∧ rows4 p W0.heap.size v3 v7 v13 v17 wr ∧ wr.ownsRow W0.heap.size 51 3 vN j xs ∧ NrX wr b1 xs (p.nr.take j) ∧ Kept (fun _ => False) W0 wr ∧ b1 ≤ wr.heap.size
/-- What each operation of the loop's drawn region leaves, up to the append. -/
def c5S (n : Nr) (b1 g bX : Nat) (vN : Value) (a1 a2 : Option Addr) (c1 c2 : Nat) : Nat → Value → World → Prop
  | 0, v, _ => v = .pointer (some ⟨g, 2, none⟩)
  | 1, v, _ => v = vN
  | 2, v, w => bareP 3 1 b1 v w
  | 3, v, _ => v = .pointer (some ⟨bX, 0, none⟩)
  | 4, v, _ => v = .slice a1 n.cs.length c1
  | 5, v, w => w.ownsRow b1 3 1 v n.cs.length (is n.cs)
  | 6, v, w => bareP 3 1 b1 v w
  | 7, v, _ => v = .pointer (some ⟨bX, 1, none⟩)
  | 8, v, _ => v = .slice a2 n.os.length c2
  | 9, v, w => w.ownsRow b1 3 1 v n.os.length (is n.os)
  | 10, v, _ => v = .pointer (some ⟨bX, 2, none⟩)
  | 11, v, _ => v = .int .i64 n.sl
  | 12, v, w => ∃ v5 v9, v = .agg #[v5, v9, .int .i64 n.sl] ∧ w.ownsRow b1 3 1 v5 n.cs.length (is n.cs) ∧ w.ownsRow b1 3 1 v9 n.os.length (is n.os)
  | 13, v, w => ∃ bk v5 v9, v = .slice (some ⟨bk, 0, none⟩) 1 1 ∧ w.heap[bk]? = some (.cells #[v5, v9, .int .i64 n.sl] 51 (0, 0)) ∧ w.ownsRow b1 3 1 v5 n.cs.length (is n.cs) ∧ w.ownsRow b1 3 1 v9 n.os.length (is n.os)
  | _, _, _ => True
theorem c5_stay {n : Nr} {b1 g bX : Nat} {vN : Value} {a1 a2 : Option Addr} {c1 c2 : Nat} {w w' : World} (K : Kept (fun _ => False) w w') : ∀ (k : Nat) (v : Value), c5S n b1 g bX vN a1 a2 c1 c2 k v w → c5S n b1 g bX vN a1 a2 c1 c2 k v w'
  | 0, _, h => h
  | 1, _, h => h
  | 2, _, h => bare_stay h K
  | 3, _, h => h
  | 4, _, h => h
  | 5, _, h => own_stay (b := b1) h K
  | 6, _, h => bare_stay h K
  | 7, _, h => h
  | 8, _, h => h
  | 9, _, h => own_stay (b := b1) h K
  | 10, _, h => h
  | 11, _, h => h
  | 12, _, h => by obtain ⟨v5, v9, e, r1, r2⟩ := h; exact ⟨v5, v9, e, own_stay r1 K, own_stay r2 K⟩
  | 13, _, h => by obtain ⟨bk, v5, v9, e, hg, r1, r2⟩ := h; exact ⟨bk, v5, v9, e, K.heap hg (fun f => f), own_stay r1 K, own_stay r2 K⟩
  | _ + 14, _, _ => trivial
def c5A (n : Nr) (b b1 j : Nat) (xs : List Value) (v : Value) (w : World) : Prop := ∃ v5 v9, w.ownsRow b 51 3 v (j + 1) (xs ++ [v5, v9, .int .i64 n.sl]) ∧ w.ownsRow b1 3 1 v5 n.cs.length (is n.cs) ∧ w.ownsRow b1 3 1 v9 n.os.length (is n.os)
/-- The region's invariant. -/
structure J5 (W5 : World) (n : Nr) (b b1 g bX j : Nat) (vN : Value) (xs : List Value) (a1 a2 : Option Addr) (c1 c2 : Nat) (F : World → Prop) (listed : Array Bool) (vs : Nat → Value) (w : World) : Prop where
  pre : listed.getD 14 false = false → Kept (fun _ => False) W5 w ∧ ∀ k, k < 14 → listed.getD k false = true → c5S n b1 g bX vN a1 a2 c1 c2 k (vs k) w
  ptr : listed.getD 15 false = true → vs 15 = .pointer (some ⟨g, 2, none⟩)
  app : listed.getD 14 false = true → listed.getD 16 false = false → Kept (fun k => vN.ownBlock = some k) W5 w ∧ c5A n b b1 j xs (vs 14) w
  fin : listed.getD 16 false = true → F w
theorem J5.step {W5 : World} {n : Nr} {b b1 g bX j : Nat} {vN : Value} {xs : List Value} {a1 a2 : Option Addr} {c1 c2 : Nat} {F : World → Prop} {listed : Array Bool} {vs : Nat → Value} {w w' : World} {i : Nat} {v : Value} (h : J5 W5 n b b1 g bX j vN xs a1 a2 c1 c2 F listed vs w) (hi : i < 14) (h14 : listed.getD 14 false = false) (h16 : listed.getD 16 false = false) (K : Kept (fun _ => False) w w') (hS : c5S n b1 g bX vN a1 a2 c1 c2 i v w') :
    J5 W5 n b b1 g bX j vN xs a1 a2 c1 c2 F (listed.setIfInBounds i true) (fun k => if k = i then v else vs k) w' := by
  have e14 : (listed.setIfInBounds i true).getD 14 false = false := by rw [getD_set_ne false (by omega)]; exact h14
  have e16 : (listed.setIfInBounds i true).getD 16 false = false := by rw [getD_set_ne false (by omega)]; exact h16
  refine ⟨fun _ => ⟨(h.pre h14).1.trans K (fun _ f => f.elim), fun k hk hl => ?_⟩, fun hl => ?_, fun hl => by (rw [e14] at hl; cases hl), fun hl => by (rw [e16] at hl; cases hl)⟩
  · by_cases e : k = i
    · subst e; simp only [if_pos]; exact hS
    · simp only [if_neg e]
      rw [getD_set_ne false (Ne.symm e)] at hl
      exact c5_stay K k _ ((h.pre h14).2 k hk hl)
  · rw [getD_set_ne false (by omega)] at hl
    rw [if_neg (by omega)]
    exact h.ptr hl
theorem J5.step15 {W5 : World} {n : Nr} {b b1 g bX j : Nat} {vN : Value} {xs : List Value} {a1 a2 : Option Addr} {c1 c2 : Nat} {F : World → Prop} {listed : Array Bool} {vs : Nat → Value} {w : World} (h : J5 W5 n b b1 g bX j vN xs a1 a2 c1 c2 F listed vs w) (h16 : listed.getD 16 false = false) :
    J5 W5 n b b1 g bX j vN xs a1 a2 c1 c2 F (listed.setIfInBounds 15 true) (fun k => if k = 15 then .pointer (some ⟨g, 2, none⟩) else vs k) w := by
  have q : ∀ k, k ≠ 15 → (listed.setIfInBounds 15 true).getD k false = listed.getD k false := fun k hk => getD_set_ne false (Ne.symm hk)
  refine ⟨fun hl => ⟨(h.pre (by rw [q 14 (by decide)] at hl; exact hl)).1, fun k hk hk2 => ?_⟩, fun _ => rfl, fun hl hl2 => ?_, fun hl => by (rw [q 16 (by decide), h16] at hl; cases hl)⟩
  · rw [if_neg (by omega)]
    rw [q k (by omega)] at hk2
    exact (h.pre (by rw [q 14 (by decide)] at hl; exact hl)).2 k hk hk2
  · rw [if_neg (by decide)]
    rw [q 14 (by decide)] at hl
    exact h.app hl h16
theorem J5.step14 {W5 : World} {n : Nr} {b b1 g bX j : Nat} {vN : Value} {xs : List Value} {a1 a2 : Option Addr} {c1 c2 : Nat} {F : World → Prop} {listed : Array Bool} {vs : Nat → Value} {w w' : World} {v : Value} (h : J5 W5 n b b1 g bX j vN xs a1 a2 c1 c2 F listed vs w) (h0 : listed.getD 14 true = false) (h14 : listed.getD 14 false = false) (h16 : listed.getD 16 false = false) (K : Kept (fun k => vN.ownBlock = some k) w w') (hA : c5A n b b1 j xs v w') :
    J5 W5 n b b1 g bX j vN xs a1 a2 c1 c2 F (listed.setIfInBounds 14 true) (fun k => if k = 14 then v else vs k) w' := by
  have q : ∀ k, k ≠ 14 → (listed.setIfInBounds 14 true).getD k false = listed.getD k false := fun k hk => getD_set_ne false (Ne.symm hk)
  have e14 : (listed.setIfInBounds 14 true).getD 14 false = true := by
    have hlt : 14 < listed.size := by
      rcases Nat.lt_or_ge 14 listed.size with h' | h'
      · exact h'
      · simp [Array.getElem?_eq_none h'] at h0
    simp [hlt]
  refine ⟨fun hl => by (rw [e14] at hl; cases hl), fun hl => ?_, fun _ _ => ⟨?_, ?_⟩, fun hl => by (rw [q 16 (by decide), h16] at hl; cases hl)⟩
  · rw [if_neg (by decide)]
    rw [q 15 (by decide)] at hl
    exact h.ptr hl
  · exact Kept.trans ((h.pre h14).1.mono (fun _ f => f.elim)) K (fun j q => .inl q)
  · rw [if_pos rfl]; exact hA
theorem J5.step16 {W5 : World} {n : Nr} {b b1 g bX j : Nat} {vN : Value} {xs : List Value} {a1 a2 : Option Addr} {c1 c2 : Nat} {F : World → Prop} {listed : Array Bool} {vs : Nat → Value} {w' : World} {v : Value} (h0 : listed.getD 16 true = false) (h14 : listed.getD 14 false = true) (hp : vs 15 = .pointer (some ⟨g, 2, none⟩)) (hF : F w') :
    J5 W5 n b b1 g bX j vN xs a1 a2 c1 c2 F (listed.setIfInBounds 16 true) (fun k => if k = 16 then v else vs k) w' := by
  have q : ∀ k, k ≠ 16 → (listed.setIfInBounds 16 true).getD k false = listed.getD k false := fun k hk => getD_set_ne false (Ne.symm hk)
  have e16 : (listed.setIfInBounds 16 true).getD 16 false = true := by
    have hlt : 16 < listed.size := by
      rcases Nat.lt_or_ge 16 listed.size with h' | h'
      · exact h'
      · simp [Array.getElem?_eq_none h'] at h0
    simp [hlt]
  refine ⟨fun hl => by (rw [q 14 (by decide), h14] at hl; cases hl), fun _ => by rw [if_neg (by decide)]; exact hp, fun _ hl => by (rw [e16] at hl; cases hl), fun _ => hF⟩
theorem ap_own (T E : TypeId) (i : TypeInfo) (z : Value) (size bytes b : Nat) (hT : Tryd.prog.underlying T = some (.slice E)) (hi : Tryd.prog.info? E = some i) (hz : i.zero = some z) (hsize : i.size = size) (hby : i.bytes = bytes) (hzs : z.cells.size = size) (hsz : 0 < size)
    {o : Oper} {ρ : Operand → Value} {w : World} (s x : Operand) (ho : o.op = .call { callee := .builtin .append, args := #[s, x], argTypes := #[T, T] }) (v : Value) (hs : ρ s = v) (n : Nat) (xs : List Value) (hown : w.ownsRow b E size v n xs) (a : Addr) (m c : Nat) (hx : ρ x = .slice (some a) m c) (news : List Value) (hl : news.length = m * size) (hnews : ∀ j u, news[j]? = some u → w.cell? (a.add j) = some u) (h1 : ∀ u ∈ news, u.oneCell' = true) (h63 : n + m ≤ maxLen) (hbytes : (n + m) * bytes ≤ 140737488355328) (hb : b ≤ w.heap.size) :
    ∃ v' w', (execOp ρ o).run Tryd.prog w = .ok (.value v') w' ∧ w'.ownsRow b E size v' (n + m) (xs ++ news) ∧ Kept (fun k => v.ownBlock = some k) w w' ∧ (v'.ownBlock = v.ownBlock ∨ v'.ownBlock = some w.heap.size) := by
  obtain ⟨v', w', hr, h2, h3, -, h4⟩ := run_append_own_at (P := Tryd.prog) w b T o.type E i z size bytes hT hi hz hsize hby hzs hsz v n xs hown a m c news hl hnews h1 h63 hbytes hb
  refine ⟨v', w', ?_, h2, Kept.grown h3, h4⟩
  unfold execOp
  simp only [ho, resolve, invoke, builtin, Sem.run_bind, Sem.run_pure, Result.andThen_ok, List.map_toArray, List.map_cons, List.map_nil, hs, hx, hr]
/-- What the last store leaves. -/
theorem cpl_store {p : Pg} {W0 W5 w : World} {b1 g j : Nat} {v3 v7 v13 v17 vN v : Value} {xs : List Value} (hg : W5.heap[g]? = some (.cells #[v3, v7, vN, .bool p.al, v13, v17] 27 (0, 0))) (hr : rows4 p W0.heap.size v3 v7 v13 v17 W5) (hN : W5.ownsRow W0.heap.size 51 3 vN j xs) (hX : NrX W5 b1 xs (p.nr.take j)) (hK : Kept (fun _ => False) W0 W5) (hb : b1 ≤ W5.heap.size) (hj : j < p.nr.length)
    (K : Kept (fun k => vN.ownBlock = some k) W5 w) (hA : c5A p.nr[j] W0.heap.size b1 j xs v w) (hgW : W0.heap.size ≤ g) : CpL p W0 b1 g v3 v7 v13 v17 (j + 1) (w.setCell ⟨g, 2, none⟩ v) ∧ w.cell? ⟨g, 2, none⟩ = some vN ∧ w.frozen? ⟨g, 2, none⟩ = false := by
  obtain ⟨v5, v9, hN', r5, r9⟩ := hA
  have hgw : w.heap[g]? = some (.cells #[v3, v7, vN, .bool p.al, v13, v17] 27 (0, 0)) := K.heap hg (fun q => own_typed hN (e' := 27) (by decide) g q _ _ hg)
  have KS : Kept (fun j => j = g) w (w.setCell ⟨g, 2, none⟩ v) := Kept.setCell w ⟨g, 2, none⟩ v
  have tI := own_typed hN (e' := 3) (by decide)
  refine ⟨⟨v, xs ++ [v5, v9, .int .i64 p.nr[j].sl], heap_setCell_same w g 2 _ _ v hgw, ⟨?_, ?_, ?_, ?_⟩, own_past hN' KS hgw (by decide), ?_, ?_, ?_⟩, cell_of_row _ _ 2 _ _ _ hgw, by simp [World.frozen?, hgw]⟩
  · exact own_past (own_apart hr.1 K tI) KS hgw (by decide)
  · exact own_past (own_apart hr.2.1 K (own_typed hN (by decide))) KS hgw (by decide)
  · exact own_past (own_apart hr.2.2.1 K tI) KS hgw (by decide)
  · exact own_past (own_apart hr.2.2.2 K (own_typed hN (by decide))) KS hgw (by decide)
  · rw [List.take_succ_eq_append_getElem hj]
    refine NrX.snoc ((hX.apart K tI).apart KS ?_) (by have := hN.1; rw [List.length_take]; omega) (own_past r5 KS hgw (by decide)) (own_past r9 KS hgw (by decide))
    intro i hi o fz hc
    rw [hi, hgw] at hc
    injection hc with hc
    injection hc with _ hc _
    exact absurd hc (by decide)
  · exact (hK.trans K (fun k q => .inr (hN.lt k q).1)).trans KS (fun k q => .inr (by rw [q]; exact hgW))
  · have := K.size; have := KS.size; omega
/-- What 'copied' leaves. -/
structure CpP (w : World) (p : Pg) (w' : World) (vA vC vN vD vO : Value) : Prop where
  av : w'.ownsRow w.heap.size 3 1 vA p.av.length (is p.av)
  cu : w'.ownsRow w.heap.size 49 2 vC p.cu.length (lfv p.cu)
  dr : w'.ownsRow w.heap.size 3 1 vD p.dr.length (is p.dr)
  co : w'.ownsRow w.heap.size 5 1 vO p.co.length (by4 p.co)
  nr : ∃ xs b1, w'.ownsRow w.heap.size 51 3 vN p.nr.length xs ∧ NrX w' b1 xs p.nr ∧ (∀ g, vA.ownBlock = some g → g < b1) ∧ (∀ g, vD.ownBlock = some g → g < b1)
  ap : apV vA vD
  kept : Kept (fun _ => False) w w'
theorem own_ints {w : World} {b n : Nat} {v : Value} {l : List Int} (h : w.ownsRow b 3 1 v n (is l)) (hn : n = l.length) : ∃ a c, v = .slice a n c ∧ IntsAt w a l := by
  subst hn
  obtain ⟨a, c, rfl⟩ := own_form h
  exact ⟨a, c, rfl, crow_at h⟩
theorem own_lfs {w : World} {b n : Nat} {v : Value} {l : List Lf} (h : w.ownsRow b 49 2 v n (lfv l)) (hn : n = l.length) : ∃ a c, v = .slice a n c ∧ LfAt w a l := by
  rcases h.2 with ⟨e1, e2⟩ | ⟨g, cap, cur, e1, _, hg, h1, h2, h3, h4⟩
  · exact ⟨none, 0, by rw [e1, e2], fun hne => absurd (List.eq_nil_of_length_eq_zero (by omega)) hne⟩
  · refine ⟨_, _, e1, fun hne => ⟨g, 0, rfl, fun k hk => ?_⟩⟩
    have at' : ∀ j u, (lfv l)[j]? = some u → w.cell? ⟨g, 0 + j, none⟩ = some u := fun j u hu => by
      rw [cell_of_row _ _ (0 + j) _ _ _ hg]
      have hj : j < n * 2 := by have := (List.getElem?_eq_some_iff.1 hu).1; have := h.1; omega
      have h5 : (cur.toList.take (n * 2))[j]? = (lfv l)[j]? := by rw [h4]
      rw [List.getElem?_take, if_pos hj, Array.getElem?_toList] at h5
      rw [Nat.zero_add, h5, hu]
    obtain ⟨g1, g2⟩ := lfv_get l k hk
    exact ⟨at' _ _ g1, by rw [Nat.add_assoc]; exact at' _ _ g2⟩
theorem own_bts {w : World} {b n : Nat} {v : Value} {l : List Int} (h : w.ownsRow b 5 1 v n (by4 l)) (hn : n = l.length) : ∃ a c, v = .slice a n c ∧ BytesAt w a l := by
  rcases h.2 with ⟨e1, e2⟩ | ⟨g, cap, cur, e1, _, hg, h1, h2, h3, h4⟩
  · exact ⟨none, 0, by rw [e1, e2], fun hne => absurd (List.eq_nil_of_length_eq_zero (by omega)) hne⟩
  · refine ⟨_, _, e1, fun hne => ⟨g, 0, rfl, fun k hk => ?_⟩⟩
    rw [cell_of_row _ _ (0 + k) _ _ _ hg]
    have h5 : (cur.toList.take (n * 1))[k]? = (by4 l)[k]? := by rw [h4]
    rw [List.getElem?_take, if_pos (by omega), Array.getElem?_toList] at h5
    rw [Nat.zero_add, h5]
    simp [by4, hk]
theorem CpP.at {w w' : World} {p : Pg} {vA vC vN vD vO : Value} (h : CpP w p w' vA vC vN vD vO) : ∃ aA aC aN aD aO cA cC cN cD cO, vA = .slice aA p.av.length cA ∧ vC = .slice aC p.cu.length cC ∧ vN = .slice aN p.nr.length cN ∧ vD = .slice aD p.dr.length cD ∧ vO = .slice aO p.co.length cO ∧ PgAt w' p aA aC aN aD aO := by
  obtain ⟨aA, cA, eA, hA⟩ := own_ints h.av rfl
  obtain ⟨aC, cC, eC, hC⟩ := own_lfs h.cu rfl
  obtain ⟨aD, cD, eD, hD⟩ := own_ints h.dr rfl
  obtain ⟨aO, cO, eO, hO⟩ := own_bts h.co rfl
  obtain ⟨xs, b1, hn, hx, -⟩ := h.nr
  obtain ⟨aN, cN, eN, hN⟩ := nx_at hn rfl hx
  exact ⟨aA, aC, aN, aD, aO, cA, cC, cN, cD, cO, eA, eC, eN, eD, eO, hA, hC, hN, hD, hO⟩
end Go.Proofs.YtiebmmpnmklpnaaDoor
namespace Go.Proofs.YtiebmmpnmklpnaaDoor
open Go.ChangeShapes Go.WideShapes Go.ChangeAt Go.RowKit

theorem Tryd.infoCI : (Tryd.prog.info? 3).map (fun i => (i.zero, i.size, i.bytes)) = some (some (.int .i64 0), 1, 8) := by kernel_rfl
theorem Tryd.infoCL : (Tryd.prog.info? 49).map (fun i => (i.zero, i.size, i.bytes)) = some (some (.agg #[.int .i64 0, .string ByteArray.empty]), 2, 24) := by kernel_rfl
theorem Tryd.infoCN : (Tryd.prog.info? 51).map (fun i => (i.zero, i.size, i.bytes)) = some (some (.agg #[.slice none 0 0, .slice none 0 0, .int .i64 0]), 3, 56) := by kernel_rfl
theorem Tryd.infoCB : (Tryd.prog.info? 5).map (fun i => (i.zero, i.size, i.bytes)) = some (some (.int .u8 0), 1, 1) := by kernel_rfl
theorem lfv_one (l : List Lf) : ∀ u ∈ lfv l, u.oneCell' = true := by
  intro u hu
  unfold lfv at hu
  obtain ⟨c, _, hc⟩ := List.mem_flatMap.1 hu
  simp at hc
  rcases hc with rfl | rfl <;> rfl
theorem by4_one (l : List Int) : ∀ u ∈ by4 l, u.oneCell' = true := by
  intro u hu
  unfold by4 at hu
  obtain ⟨x, _, rfl⟩ := List.mem_map.1 hu
  rfl
theorem no_get {listed : Array Bool} {i : Nat} (h0 : listed.getD i true = false) : listed.getD i false = false := by
  have hlt : i < listed.size := by
    rcases Nat.lt_or_ge i listed.size with h' | h'
    · exact h'
    · simp [Array.getElem?_eq_none h'] at h0
  simp [hlt] at h0 ⊢; exact h0
theorem Kept.setRow' (w : World) (g : Nat) (cs : Array Value) : Kept (fun j => j = g) w (w.setRow g cs) :=
  ⟨rfl, rfl, rfl, by simp [World.setRow], fun k _ hk => setRow_other w g k cs hk⟩
theorem box3V {w : World} {g : Nat} {x y z : Value} {T : TypeId} (h : w.heap[g]? = some (.cells #[x, y, z] T (0, 0))) : w.cell? ⟨g, 0, none⟩ = some x ∧ w.cell? ⟨g, 1, none⟩ = some y ∧ w.cell? ⟨g, 2, none⟩ = some z :=
  ⟨cell_of_row _ _ 0 _ _ _ h, cell_of_row _ _ 1 _ _ _ h, cell_of_row _ _ 2 _ _ _ h⟩
theorem near_news {w : World} {bk : Nat} {x y z : Value} (h : w.heap[bk]? = some (.cells #[x, y, z] 51 (0, 0))) : ∀ j u, [x, y, z][j]? = some u → w.cell? ((⟨bk, 0, none⟩ : Addr).add j) = some u := by
  intro j u hu
  rw [addr_at, cell_of_row _ _ (0 + j) _ _ _ h, Nat.zero_add, ← hu]
  rw [← Array.getElem?_toList]
theorem near_one {w : World} {b b' e z e' z' n m : Nat} {x y : Value} {xs ys : List Value} {k : Int} (h : w.ownsRow b e z x n xs) (h' : w.ownsRow b' e' z' y m ys) : ∀ u ∈ [x, y, .int .i64 k], u.oneCell' = true := by
  obtain ⟨a, c, rfl⟩ := own_form h
  obtain ⟨a', c', rfl⟩ := own_form h'
  intro u hu
  simp at hu
  rcases hu with rfl | rfl | rfl <;> rfl
theorem not_up {listed : Array Bool} {m i : Nat} (h : listed.getD m false = true → ∀ k, k < m → listed.getD k false = true) (h0 : listed.getD i true = false) (hi : i < m) : listed.getD m false = false := by
  cases q : listed.getD m false with
  | false => rfl
  | true => have := h q i hi; rw [no_get h0] at this; cases this
theorem J5.start {n : Nr} {b b1 g bX j : Nat} {vN : Value} {xs : List Value} {a1 a2 : Option Addr} {c1 c2 : Nat} {F : World → Prop} {vs : Nat → Value} {m : Nat} (W5 : World) : J5 W5 n b b1 g bX j vN xs a1 a2 c1 c2 F (Array.replicate m false) vs W5 := by
  have q : ∀ k, (Array.replicate m false).getD k false = false := fun k => by simp [Array.getElem?_replicate]; split <;> simp
  exact ⟨fun _ => ⟨Kept.refl _ _, fun k _ hl => by (rw [q] at hl; cases hl)⟩, fun hl => by (rw [q] at hl; cases hl), fun hl => by (rw [q] at hl; cases hl), fun hl => by (rw [q] at hl; cases hl)⟩
theorem cp_done {p : Pg} {w W0 w1 wr w9 : World} {v3 v7 v13 v17 vV : Value} {xs : List Value} {nn gz : Nat} {o : Array Value} (hn : nn = p.nr.length) (hr : rows4 p W0.heap.size v3 v7 v13 v17 wr) (hN : wr.ownsRow W0.heap.size 51 3 vV nn xs) (hX : NrX wr w1.heap.size xs p.nr) (hK : Kept (fun _ => False) W0 wr) (k : Kept (fun i => i = gz) wr w9) (hz : wr.heap[gz]? = some (.cells o 27 (0, 0))) (hzz : w.heap.size ≤ gz) (hap : apV v3 v13) (kw : Kept (fun _ => False) w W0) (hr1 : rows4 p W0.heap.size v3 v7 v13 v17 w1) : CpP w p w9 v3 v7 vV v13 v17 := by
  have hs := kw.size
  subst hn
  refine ⟨own_low (own_past hr.1 k hz (by decide)) hs, own_low (own_past hr.2.1 k hz (by decide)) hs, own_low (own_past hr.2.2.1 k hz (by decide)) hs, own_low (own_past hr.2.2.2 k hz (by decide)) hs, ⟨xs, w1.heap.size, own_low (own_past hN k hz (by decide)) hs, hX.apart k ?_, fun g hg => (hr1.1.lt g hg).2, fun g hg => (hr1.2.2.1.lt g hg).2⟩, hap, (kw.trans hK (fun _ f => f.elim)).trans k (fun i q => .inr (by rw [q]; exact hzz))⟩
  intro i hi o fz hc
  rw [hi, hz] at hc
  injection hc with hc
  injection hc with _ hc _
  exact absurd hc (by decide)
theorem cpJ_last {w0 : World} {p : Pg} {bX : Nat} {aA aC aD aO : Option Addr} {cA cC cD cO : Nat} {listed : Array Bool} {vs : Nat → Value} {w : World} {g : Nat} {v v3 v7 v13 v17 : Value} {old : Array Value} (h : cpJ w0 p w0.heap.size bX aA aC aD aO cA cC cD cO listed vs w) (h20 : listed.getD 20 true = false) (e : vs 19 = .pointer (some ⟨g, 0, none⟩)) (hb : w0.heap.size ≤ g) (hg : w.heap[g]? = some (.cells old 27 (0, 0)))
    (r3 : w.ownsRow w0.heap.size 3 1 v3 p.av.length (is p.av)) (r7 : w.ownsRow w0.heap.size 49 2 v7 p.cu.length (lfv p.cu)) (r13 : w.ownsRow w0.heap.size 3 1 v13 p.dr.length (is p.dr)) (r17 : w.ownsRow w0.heap.size 5 1 v17 p.co.length (by4 p.co)) (rap : apV v3 v13) :
    cpJ w0 p w0.heap.size bX aA aC aD aO cA cC cD cO (listed.setIfInBounds 20 true) (fun j => if j = 20 then v else vs j) (w.setRow g #[v3, v7, .slice none 0 0, .bool p.al, v13, v17]) := by
  have K := Kept.setRow' w g #[v3, v7, .slice none 0 0, .bool p.al, v13, v17]
  refine ⟨h.1.trans K (fun j q => .inr (by rw [q]; exact hb)), fun hf => ?_, fun _ => ⟨g, v3, v7, v13, v17, by simpa using e, hb, setRow_heap w g old _ _ _ hg, ⟨own_past r3 K hg (by decide), own_past r7 K hg (by decide), own_past r13 K hg (by decide), own_past r17 K hg (by decide)⟩, rap⟩, ?_⟩
  rotate_left
  · intro a c ha hc la lc g
    have ea : a ≠ 20 := fun e => by rw [e] at ha; cases ha
    have ec : c ≠ 20 := fun e => by rw [e] at hc; cases hc
    simp only [if_neg ea, if_neg ec]
    rw [getD_set_ne false (Ne.symm ea)] at la
    rw [getD_set_ne false (Ne.symm ec)] at lc
    exact h.2.2.2 a c ha hc la lc g
  have q := getD_set_t h20
  have hlt : 20 < listed.size := by
    rcases Nat.lt_or_ge 20 listed.size with h' | h'
    · exact h'
    · simp [Array.getElem?_eq_none h'] at h20
  simp [hlt] at hf
theorem not_listed {listed : Array Bool} {o : Oper} {md : Region.Mode} {i : Nat} (hc : listed.getD 20 false = true → ∀ e ∈ o.after, Region.binds md e = true → listed.getD e.on false = true) (h0 : listed.getD i true = false) (hd : (∀ e ∈ o.after, Region.binds md e = true → listed.getD e.on false = true) → listed.getD i false = true) : listed.getD 20 false = false := by
  cases h : listed.getD 20 false with
  | false => rfl
  | true =>
    have q := hd (hc h)
    have hlt : i < listed.size := by
      rcases Nat.lt_or_ge i listed.size with h' | h'
      · exact h'
      · simp [Array.getElem?_eq_none h'] at h0
    simp [hlt] at h0 q
    rw [h0] at q
    cases q
set_option maxRecDepth 20000 in
set_option maxHeartbeats 8000000 in
theorem copied_any (p : Pg) (aA aC aN aD aO : Option Addr) (cA cC cN cD cO : Nat) (w : World) (hP : PgAt w p aA aC aN aD aO) (hO : p.Ok) :
    Calls Tryd.prog 7 #[.agg #[.slice aA p.av.length cA, .slice aC p.cu.length cC, .slice aN p.nr.length cN, .bool p.al, .slice aD p.dr.length cD, .slice aO p.co.length cO]] w fun e w' => ∃ vA vC vN vD vO, e = .returned (.agg #[vA, vC, vN, .bool p.al, vD, vO]) ∧ CpP w p w' vA vC vN vD vO := by
  have HBX : Hid ((w.alloc (.cells #[.slice aA p.av.length cA, .slice aC p.cu.length cC, .slice aN p.nr.length cN, .bool p.al, .slice aD p.dr.length cD, .slice aO p.co.length cO] 27)).heap[w.heap.size]? = some (.cells #[.slice aA p.av.length cA, .slice aC p.cu.length cC, .slice aN p.nr.length cN, .bool p.al, .slice aD p.dr.length cD, .slice aO p.co.length cO] 27 (0, 0))) := hideI (heap_alloc_new w _)
  have HPW := hideI hP
  obtain ⟨l1, l2, l3, l4, l5⟩ := hO.len
  have HO := hideI hO
  have HLN : Hid (p.av.length ≤ 67108864 ∧ p.cu.length ≤ 67108864 ∧ p.nr.length ≤ 67108864 ∧ p.dr.length ≤ 67108864 ∧ p.co.length ≤ 67108864) := hideI (by omega)
  clear hP hO l1 l2 l3 l4 l5
  go_enter Tryd.func7, Tryd.ntmps7
  go_wp2_with fail
  refine wp_region_any (by kernel_rfl) ?_
  change wpAny _ _ _ _ _ _ _ (World.drew _)
  obtain ⟨W0, hW0⟩ : ∃ W0, W0 = World.drew ((w.alloc (.cells #[.slice aA p.av.length cA, .slice aC p.cu.length cC, .slice aN p.nr.length cN, .bool p.al, .slice aD p.dr.length cD, .slice aO p.co.length cO] 27)).alloc (.cells #[.slice none 0 0, .slice none 0 0, .slice none 0 0, .bool false, .slice none 0 0, .slice none 0 0] 27)) := ⟨_, rfl⟩
  have KW : Kept (fun _ => False) (w.alloc (.cells #[.slice aA p.av.length cA, .slice aC p.cu.length cC, .slice aN p.nr.length cN, .bool p.al, .slice aD p.dr.length cD, .slice aO p.co.length cO] 27)) W0 := by rw [hW0]; exact (Kept.alloc _ _).trans (Kept.drew _) (fun _ f => f.elim)
  have HBZ : Hid (W0.heap[w.heap.size + 1]? = some (.cells #[.slice none 0 0, .slice none 0 0, .slice none 0 0, .bool false, .slice none 0 0, .slice none 0 0] 27 (0, 0))) := hideI (by rw [hW0]; have q := heap_alloc_new (w.alloc (.cells #[.slice aA p.av.length cA, .slice aC p.cu.length cC, .slice aN p.nr.length cN, .bool p.al, .slice aD p.dr.length cD, .slice aO p.co.length cO] 27)) (.cells #[.slice none 0 0, .slice none 0 0, .slice none 0 0, .bool false, .slice none 0 0, .slice none 0 0] 27); rw [show (w.alloc (.cells #[.slice aA p.av.length cA, .slice aC p.cu.length cC, .slice aN p.nr.length cN, .bool p.al, .slice aD p.dr.length cD, .slice aO p.co.length cO] 27)).heap.size = w.heap.size + 1 by simp] at q; exact (Kept.drew _).heap q (fun f => f))
  rw [← hW0]
  have HB6 := fun (W : World) (K : Kept (fun _ => False) W0 W) => hideI (box6 ((KW.trans K (fun _ f => f.elim)).heap HBX.out (fun f => f)))
  have HP := hideI (HPW.out.kept ((Kept.alloc w _).trans KW (fun _ f => f.elim)))
  clear hW0
  refine wpAny_slots2 _ (cpJ W0 p W0.heap.size w.heap.size aA aC aD aO cA cC cD cO) (by kernel_rfl) (by kernel_rfl) ?_ ?_ (fun _ => undef) _ ⟨Kept.refl _ _, fun _ k hk hl => absurd hl (by simp [Array.getElem?_replicate]; split <;> simp), fun hl => absurd hl (by simp), fun i j _ _ li => absurd li (by simp [Array.getElem?_replicate]; split <;> simp)⟩
  · intro listed vs w1 i o A hJ hcl ho h0 hall EV E0
    have hi : i < 21 := (Array.getElem?_eq_some_iff.1 ho).1
    have E1 : A.eval (.tmp 1) = .pointer (some ⟨w.heap.size, 0, none⟩) := by rw [E0 1 (by kernel_rfl)]; rfl
    have hln := HLN.out
    have hi00 : i = 0 ∨ i = 1 ∨ i = 2 ∨ i = 3 ∨ i = 4 ∨ i = 5 ∨ i = 6 ∨ i = 7 ∨ i = 8 ∨ i = 9 ∨ i = 10 ∨ i = 11 ∨ i = 12 ∨ i = 13 ∨ i = 14 ∨ i = 15 ∨ i = 16 ∨ i = 17 ∨ i = 18 ∨ i = 19 ∨ i = 20 := by omega
    rcases hi00 with rfl | rfl | rfl | rfl | rfl | rfl | rfl | rfl | rfl | rfl | rfl | rfl | rfl | rfl | rfl | rfl | rfl | rfl | rfl | rfl | rfl
    · cases Option.some.inj ho
      have h20 : listed.getD 20 false = false := not_listed (fun h => hcl 20 _ rfl h) h0 (fun hx => dep_of hx 0 (by kernel_rfl))
      refine step_val ho rfl (.slice (some ⟨w1.heap.size, 0, none⟩) 0 0) (w1.alloc (.cells #[] 3)) (by go_simp) ?_
      exact cpJ_step hJ (by decide) h20 (Kept.alloc _ _) ⟨_, rfl, World.ownsRow_made w1 #[] 0 hJ.1.size (by decide) rfl⟩ (fun _ g hg => .inl (Nat.le_of_eq (Option.some.inj hg)))
    · cases Option.some.inj ho
      have h20 : listed.getD 20 false = false := not_listed (fun h => hcl 20 _ rfl h) h0 (fun hx => dep_of hx 1 (by kernel_rfl))
      refine step_val ho rfl (.pointer (some ⟨w.heap.size, 0, none⟩)) w1 (by simp [Act.eval] at E1; go_simp) ?_
      exact cpJ_step hJ (by decide) h20 (Kept.refl _ _) rfl (fun h => absurd rfl h)
    · cases Option.some.inj ho
      have h20 : listed.getD 20 false = false := not_listed (fun h => hcl 20 _ rfl h) h0 (fun hx => dep_of hx 2 (by kernel_rfl))
      have l1 := dep_of hall 1 (by kernel_rfl)
      have s1 := hJ.2.1 h20 1 (by decide) l1
      have v1 := EV 1 7 l1 rfl (by simp)
      rw [show vs 1 = _ from s1] at v1
      simp [Act.eval] at v1
      obtain ⟨q0, q1, q2, q3, q4, q5⟩ := (HB6 w1 hJ.1).out
      refine step_val ho rfl (.slice aA p.av.length cA) w1 (by go_simp) ?_
      exact cpJ_step hJ (by decide) h20 (Kept.refl _ _) rfl (fun h => absurd rfl h)
    · have h20 : listed.getD 20 false = false := not_listed (fun h => hcl 20 _ rfl h) h0 (fun hx => dep_of hx 3 (by kernel_rfl))
      have hop : o.op = .call { callee := .builtin .append, args := #[.tmp 6, .tmp 8], argTypes := #[22, 22] } := by cases Option.some.inj ho; rfl
      have hgd : o.guard = none := by cases Option.some.inj ho; rfl
      have l0 := dep_of hall 0 (by cases Option.some.inj ho; kernel_rfl)
      have s0 := hJ.2.1 h20 0 (by decide) l0
      have v0 := EV 0 6 l0 rfl (by simp)
      have l2 := dep_of hall 2 (by cases Option.some.inj ho; kernel_rfl)
      have s2 := hJ.2.1 h20 2 (by decide) l2
      have v2 := EV 2 8 l2 rfl (by simp)
      rw [show vs 2 = _ from s2] at v2
      rw [← v0] at s0
      have hKP := hJ.1
      obtain ⟨i0, hi0, hz0, hz1, hz2⟩ := info_parts Tryd.infoCI
      obtain ⟨v', w', hr, ho', hk, hbk⟩ := ap_run 22 3 i0 (.int .i64 0) 1 8 W0.heap.size Tryd.underlying22 hi0 hz0 hz1 hz2 rfl (by decide) (o := o) (ρ := A.eval) (.tmp 6) (.tmp 8) hop s0 aA p.av.length cA v2 (is p.av) (by rw [is_length]; omega) (is_news (HP.out.kept hKP).av) (is_one _) (by unfold maxLen; omega) (by omega) hJ.1.size
      refine step_val ho hgd v' w' hr ?_
      exact cpJ_step hJ (by decide) h20 hk ho' (fun _ g hg => by rcases hbk with q | q; exact .inr ⟨0, l0, rfl, by rw [← v0, ← q]; exact hg⟩; rw [q] at hg; exact .inl (by injection hg with hg; omega))
    · cases Option.some.inj ho
      have h20 : listed.getD 20 false = false := not_listed (fun h => hcl 20 _ rfl h) h0 (fun hx => dep_of hx 4 (by kernel_rfl))
      refine step_val ho rfl (.slice (some ⟨w1.heap.size, 0, none⟩) 0 0) (w1.alloc (.cells #[] 49)) (by go_simp) ?_
      exact cpJ_step hJ (by decide) h20 (Kept.alloc _ _) ⟨_, rfl, World.ownsRow_made w1 #[] 0 hJ.1.size (by decide) rfl⟩ (fun h => absurd rfl h)
    · cases Option.some.inj ho
      have h20 : listed.getD 20 false = false := not_listed (fun h => hcl 20 _ rfl h) h0 (fun hx => dep_of hx 5 (by kernel_rfl))
      refine step_val ho rfl (.pointer (some ⟨w.heap.size, 1, none⟩)) w1 (by simp [Act.eval] at E1; go_simp) ?_
      exact cpJ_step hJ (by decide) h20 (Kept.refl _ _) rfl (fun h => absurd rfl h)
    · cases Option.some.inj ho
      have h20 : listed.getD 20 false = false := not_listed (fun h => hcl 20 _ rfl h) h0 (fun hx => dep_of hx 6 (by kernel_rfl))
      have l5 := dep_of hall 5 (by kernel_rfl)
      have s5 := hJ.2.1 h20 5 (by decide) l5
      have v5 := EV 5 11 l5 rfl (by simp)
      rw [show vs 5 = _ from s5] at v5
      simp [Act.eval] at v5
      obtain ⟨q0, q1, q2, q3, q4, q5⟩ := (HB6 w1 hJ.1).out
      refine step_val ho rfl (.slice aC p.cu.length cC) w1 (by go_simp) ?_
      exact cpJ_step hJ (by decide) h20 (Kept.refl _ _) rfl (fun h => absurd rfl h)
    · have h20 : listed.getD 20 false = false := not_listed (fun h => hcl 20 _ rfl h) h0 (fun hx => dep_of hx 7 (by kernel_rfl))
      have hop : o.op = .call { callee := .builtin .append, args := #[.tmp 10, .tmp 12], argTypes := #[23, 23] } := by cases Option.some.inj ho; rfl
      have hgd : o.guard = none := by cases Option.some.inj ho; rfl
      have l4 := dep_of hall 4 (by cases Option.some.inj ho; kernel_rfl)
      have s4 := hJ.2.1 h20 4 (by decide) l4
      have v4 := EV 4 10 l4 rfl (by simp)
      have l6 := dep_of hall 6 (by cases Option.some.inj ho; kernel_rfl)
      have s6 := hJ.2.1 h20 6 (by decide) l6
      have v6 := EV 6 12 l6 rfl (by simp)
      rw [show vs 6 = _ from s6] at v6
      rw [← v4] at s4
      have hKP := hJ.1
      obtain ⟨i0, hi0, hz0, hz1, hz2⟩ := info_parts Tryd.infoCL
      obtain ⟨v', w', hr, ho', hk, hbk⟩ := ap_run 23 49 i0 (.agg #[.int .i64 0, .string ByteArray.empty]) 2 24 W0.heap.size Tryd.underlying23 hi0 hz0 hz1 hz2 rfl (by decide) (o := o) (ρ := A.eval) (.tmp 10) (.tmp 12) hop s4 aC p.cu.length cC v6 (lfv p.cu) (lfv_len _) (lf_news (HP.out.kept hKP).cu) (lfv_one _) (by unfold maxLen; omega) (by omega) hJ.1.size
      refine step_val ho hgd v' w' hr ?_
      exact cpJ_step hJ (by decide) h20 hk ho' (fun h => absurd rfl h)
    · cases Option.some.inj ho
      have h20 : listed.getD 20 false = false := not_listed (fun h => hcl 20 _ rfl h) h0 (fun hx => dep_of hx 8 (by kernel_rfl))
      refine step_val ho rfl (.pointer (some ⟨w.heap.size, 3, none⟩)) w1 (by simp [Act.eval] at E1; go_simp) ?_
      exact cpJ_step hJ (by decide) h20 (Kept.refl _ _) rfl (fun h => absurd rfl h)
    · cases Option.some.inj ho
      have h20 : listed.getD 20 false = false := not_listed (fun h => hcl 20 _ rfl h) h0 (fun hx => dep_of hx 9 (by kernel_rfl))
      have l8 := dep_of hall 8 (by kernel_rfl)
      have s8 := hJ.2.1 h20 8 (by decide) l8
      have v8 := EV 8 14 l8 rfl (by simp)
      rw [show vs 8 = _ from s8] at v8
      simp [Act.eval] at v8
      obtain ⟨q0, q1, q2, q3, q4, q5⟩ := (HB6 w1 hJ.1).out
      refine step_val ho rfl (.bool p.al) w1 (by go_simp) ?_
      exact cpJ_step hJ (by decide) h20 (Kept.refl _ _) rfl (fun h => absurd rfl h)
    · cases Option.some.inj ho
      have h20 : listed.getD 20 false = false := not_listed (fun h => hcl 20 _ rfl h) h0 (fun hx => dep_of hx 10 (by kernel_rfl))
      refine step_val ho rfl (.slice (some ⟨w1.heap.size, 0, none⟩) 0 0) (w1.alloc (.cells #[] 3)) (by go_simp) ?_
      exact cpJ_step hJ (by decide) h20 (Kept.alloc _ _) ⟨_, rfl, World.ownsRow_made w1 #[] 0 hJ.1.size (by decide) rfl⟩ (fun _ g hg => .inl (Nat.le_of_eq (Option.some.inj hg)))
    · cases Option.some.inj ho
      have h20 : listed.getD 20 false = false := not_listed (fun h => hcl 20 _ rfl h) h0 (fun hx => dep_of hx 11 (by kernel_rfl))
      refine step_val ho rfl (.pointer (some ⟨w.heap.size, 4, none⟩)) w1 (by simp [Act.eval] at E1; go_simp) ?_
      exact cpJ_step hJ (by decide) h20 (Kept.refl _ _) rfl (fun h => absurd rfl h)
    · cases Option.some.inj ho
      have h20 : listed.getD 20 false = false := not_listed (fun h => hcl 20 _ rfl h) h0 (fun hx => dep_of hx 12 (by kernel_rfl))
      have l11 := dep_of hall 11 (by kernel_rfl)
      have s11 := hJ.2.1 h20 11 (by decide) l11
      have v11 := EV 11 17 l11 rfl (by simp)
      rw [show vs 11 = _ from s11] at v11
      simp [Act.eval] at v11
      obtain ⟨q0, q1, q2, q3, q4, q5⟩ := (HB6 w1 hJ.1).out
      refine step_val ho rfl (.slice aD p.dr.length cD) w1 (by go_simp) ?_
      exact cpJ_step hJ (by decide) h20 (Kept.refl _ _) rfl (fun h => absurd rfl h)
    · have h20 : listed.getD 20 false = false := not_listed (fun h => hcl 20 _ rfl h) h0 (fun hx => dep_of hx 13 (by kernel_rfl))
      have hop : o.op = .call { callee := .builtin .append, args := #[.tmp 16, .tmp 18], argTypes := #[22, 22] } := by cases Option.some.inj ho; rfl
      have hgd : o.guard = none := by cases Option.some.inj ho; rfl
      have l10 := dep_of hall 10 (by cases Option.some.inj ho; kernel_rfl)
      have s10 := hJ.2.1 h20 10 (by decide) l10
      have v10 := EV 10 16 l10 rfl (by simp)
      have l12 := dep_of hall 12 (by cases Option.some.inj ho; kernel_rfl)
      have s12 := hJ.2.1 h20 12 (by decide) l12
      have v12 := EV 12 18 l12 rfl (by simp)
      rw [show vs 12 = _ from s12] at v12
      rw [← v10] at s10
      have hKP := hJ.1
      obtain ⟨i0, hi0, hz0, hz1, hz2⟩ := info_parts Tryd.infoCI
      obtain ⟨v', w', hr, ho', hk, hbk⟩ := ap_run 22 3 i0 (.int .i64 0) 1 8 W0.heap.size Tryd.underlying22 hi0 hz0 hz1 hz2 rfl (by decide) (o := o) (ρ := A.eval) (.tmp 16) (.tmp 18) hop s10 aD p.dr.length cD v12 (is p.dr) (by rw [is_length]; omega) (is_news (HP.out.kept hKP).dr) (is_one _) (by unfold maxLen; omega) (by omega) hJ.1.size
      refine step_val ho hgd v' w' hr ?_
      exact cpJ_step hJ (by decide) h20 hk ho' (fun _ g hg => by rcases hbk with q | q; exact .inr ⟨10, l10, rfl, by rw [← v10, ← q]; exact hg⟩; rw [q] at hg; exact .inl (by injection hg with hg; omega))
    · cases Option.some.inj ho
      have h20 : listed.getD 20 false = false := not_listed (fun h => hcl 20 _ rfl h) h0 (fun hx => dep_of hx 14 (by kernel_rfl))
      refine step_val ho rfl (.slice (some ⟨w1.heap.size, 0, none⟩) 0 0) (w1.alloc (.cells #[] 5)) (by go_simp) ?_
      exact cpJ_step hJ (by decide) h20 (Kept.alloc _ _) ⟨_, rfl, World.ownsRow_made w1 #[] 0 hJ.1.size (by decide) rfl⟩ (fun h => absurd rfl h)
    · cases Option.some.inj ho
      have h20 : listed.getD 20 false = false := not_listed (fun h => hcl 20 _ rfl h) h0 (fun hx => dep_of hx 15 (by kernel_rfl))
      refine step_val ho rfl (.pointer (some ⟨w.heap.size, 5, none⟩)) w1 (by simp [Act.eval] at E1; go_simp) ?_
      exact cpJ_step hJ (by decide) h20 (Kept.refl _ _) rfl (fun h => absurd rfl h)
    · cases Option.some.inj ho
      have h20 : listed.getD 20 false = false := not_listed (fun h => hcl 20 _ rfl h) h0 (fun hx => dep_of hx 16 (by kernel_rfl))
      have l15 := dep_of hall 15 (by kernel_rfl)
      have s15 := hJ.2.1 h20 15 (by decide) l15
      have v15 := EV 15 21 l15 rfl (by simp)
      rw [show vs 15 = _ from s15] at v15
      simp [Act.eval] at v15
      obtain ⟨q0, q1, q2, q3, q4, q5⟩ := (HB6 w1 hJ.1).out
      refine step_val ho rfl (.slice aO p.co.length cO) w1 (by go_simp) ?_
      exact cpJ_step hJ (by decide) h20 (Kept.refl _ _) rfl (fun h => absurd rfl h)
    · have h20 : listed.getD 20 false = false := not_listed (fun h => hcl 20 _ rfl h) h0 (fun hx => dep_of hx 17 (by kernel_rfl))
      have hop : o.op = .call { callee := .builtin .append, args := #[.tmp 20, .tmp 22], argTypes := #[25, 25] } := by cases Option.some.inj ho; rfl
      have hgd : o.guard = none := by cases Option.some.inj ho; rfl
      have l14 := dep_of hall 14 (by cases Option.some.inj ho; kernel_rfl)
      have s14 := hJ.2.1 h20 14 (by decide) l14
      have v14 := EV 14 20 l14 rfl (by simp)
      have l16 := dep_of hall 16 (by cases Option.some.inj ho; kernel_rfl)
      have s16 := hJ.2.1 h20 16 (by decide) l16
      have v16 := EV 16 22 l16 rfl (by simp)
      rw [show vs 16 = _ from s16] at v16
      rw [← v14] at s14
      have hKP := hJ.1
      obtain ⟨i0, hi0, hz0, hz1, hz2⟩ := info_parts Tryd.infoCB
      obtain ⟨v', w', hr, ho', hk, hbk⟩ := ap_run 25 5 i0 (.int .u8 0) 1 1 W0.heap.size Tryd.underlying25 hi0 hz0 hz1 hz2 rfl (by decide) (o := o) (ρ := A.eval) (.tmp 20) (.tmp 22) hop s14 aO p.co.length cO v16 (by4 p.co) (by simp [by4]) (by_news (HP.out.kept hKP).co) (by4_one _) (by unfold maxLen; omega) (by omega) hJ.1.size
      refine step_val ho hgd v' w' hr ?_
      exact cpJ_step hJ (by decide) h20 hk ho' (fun h => absurd rfl h)
    · cases Option.some.inj ho
      have h20 : listed.getD 20 false = false := not_listed (fun h => hcl 20 _ rfl h) h0 (fun hx => dep_of hx 18 (by kernel_rfl))
      have l3 := dep_of hall 3 (by kernel_rfl)
      have s3 := hJ.2.1 h20 3 (by decide) l3
      have v3 := EV 3 9 l3 rfl (by simp)
      have l7 := dep_of hall 7 (by kernel_rfl)
      have s7 := hJ.2.1 h20 7 (by decide) l7
      have v7 := EV 7 13 l7 rfl (by simp)
      have l9 := dep_of hall 9 (by kernel_rfl)
      have s9 := hJ.2.1 h20 9 (by decide) l9
      have v9 := EV 9 15 l9 rfl (by simp)
      have l13 := dep_of hall 13 (by kernel_rfl)
      have s13 := hJ.2.1 h20 13 (by decide) l13
      have v13 := EV 13 19 l13 rfl (by simp)
      have l17 := dep_of hall 17 (by kernel_rfl)
      have s17 := hJ.2.1 h20 17 (by decide) l17
      have v17 := EV 17 23 l17 rfl (by simp)
      rw [show vs 9 = _ from s9] at v9
      obtain ⟨a3, c3, e3⟩ := own_form s3
      obtain ⟨a7, c7, e7⟩ := own_form s7
      obtain ⟨a13, c13, e13⟩ := own_form s13
      obtain ⟨a17, c17, e17⟩ := own_form s17
      rw [e3] at v3
      rw [e7] at v7
      rw [e13] at v13
      rw [e17] at v17
      simp [Act.eval] at v3 v7 v9 v13 v17
      refine step_val ho rfl (.agg #[.slice a3 p.av.length c3, .slice a7 p.cu.length c7, .slice none 0 0, .bool p.al, .slice a13 p.dr.length c13, .slice a17 p.co.length c17]) w1 (by go_simp) ?_
      exact cpJ_step hJ (by decide) h20 (Kept.refl _ _) ⟨_, _, _, _, rfl, ⟨e3 ▸ s3, e7 ▸ s7, e13 ▸ s13, e17 ▸ s17⟩, fun g h1 h2 => hJ.2.2.2 3 13 rfl rfl l3 l13 g (by rw [e3]; exact h1) (by rw [e13]; exact h2)⟩ (fun h => absurd rfl h)
    · cases Option.some.inj ho
      have h20 : listed.getD 20 false = false := not_listed (fun h => hcl 20 _ rfl h) h0 (fun hx => dep_of hx 19 (by kernel_rfl))
      refine step_val ho rfl (.pointer (some ⟨w1.heap.size, 0, none⟩)) (w1.alloc (.cells #[.slice none 0 0, .slice none 0 0, .slice none 0 0, .bool false, .slice none 0 0, .slice none 0 0] 27)) (by go_simp) ?_
      exact cpJ_step hJ (by decide) h20 (Kept.alloc _ _) ⟨_, rfl, hJ.1.size, heap_alloc_new w1 _⟩ (fun h => absurd rfl h)
    · have h20 : listed.getD 20 false = false := no_get h0
      have hop : o.op = .store 27 (.tmp 3) (.tmp 24) := by cases Option.some.inj ho; rfl
      have hgd : o.guard = none := by cases Option.some.inj ho; rfl
      have l18 := dep_of hall 18 (by cases Option.some.inj ho; kernel_rfl)
      have s18 := hJ.2.1 h20 18 (by decide) l18
      have v18 := EV 18 24 l18 rfl (by simp)
      have l19 := dep_of hall 19 (by cases Option.some.inj ho; kernel_rfl)
      have s19 := hJ.2.1 h20 19 (by decide) l19
      have v19 := EV 19 3 l19 rfl (by simp)
      obtain ⟨v3, v7, v13, v17, e18, ⟨r3, r7, r13, r17⟩, rap⟩ := s18
      obtain ⟨g, e19, hb, hg⟩ := s19
      obtain ⟨a3, c3, rfl⟩ := own_form r3
      obtain ⟨a7, c7, rfl⟩ := own_form r7
      obtain ⟨a13, c13, rfl⟩ := own_form r13
      obtain ⟨a17, c17, rfl⟩ := own_form r17
      rw [e18] at v18
      rw [e19] at v19
      have hst := run_storeVar_row (P := Tryd.prog) w1 g 27 27 _ #[.slice a3 p.av.length c3, .slice a7 p.cu.length c7, .slice none 0 0, .bool p.al, .slice a13 p.dr.length c13, .slice a17 p.co.length c17] hg (by kernel_rfl) rfl (by simp [Value.oneCell'])
      refine step_skip ho hgd (w1.setRow g #[.slice a3 p.av.length c3, .slice a7 p.cu.length c7, .slice none 0 0, .bool p.al, .slice a13 p.dr.length c13, .slice a17 p.co.length c17]) (by simp only [execOp, hop, v18, v19, Instr.storeAt, Instr.sureAddr, Sem.run_bind, Sem.run_pure, Result.andThen, hst]) ?_
      exact cpJ_last hJ h0 e19 hb hg r3 r7 r13 r17 rap
  · intro listed vs w1 hJ hall
    obtain ⟨g, v3, v7, v13, v17, e19, hb, hg, ⟨r3, r7, r13, r17⟩, rap⟩ := hJ.2.2.1 (hall 20 (by decide))
    have HAP := hideI rap
    unfold pO
    simp [List.range, List.range.loop, dO, Act.put]
    rw [e19]
    obtain ⟨vv, hvv⟩ : ∃ vv, vv = vs := ⟨_, rfl⟩
    have HG1 := hideI hg
    have HR := hideI (show rows4 p W0.heap.size v3 v7 v13 v17 w1 from ⟨r3, r7, r13, r17⟩)
    have HK1 := hideI hJ.1
    have HGB := hideI hb
    obtain ⟨q0, q1, q2, q3, q4, q5⟩ := (HB6 w1 hJ.1).out
    have hnn : Hid (p.nr.length ≤ 67108864) := hideI HLN.out.2.2.1
    obtain ⟨nn, hn⟩ : ∃ nn, nn = p.nr.length := ⟨_, rfl⟩
    rw [← hn] at q2
    clear hall hJ e19 hb hg r3 r7 r13 r17 rap hvv
    go_wp2_with fail
    have HP1 := hideI (HP.out.kept HK1.out)
    have HNN := hideI hn
    clear q0 q1 q3 q4 q5
    go_loopw [28] (fun v28 wr => ∃ (j : Nat), j ≤ nn ∧ v28 = .int .i64 j ∧ Hid (CpL p W0 w1.heap.size g v3 v7 v13 v17 j wr)) (fun v28 _ => nn - (intOf v28).toNat)
    case atStart => exact ⟨0, by omega, rfl, hideI ⟨_, [], HG1.out, HR.out, ⟨rfl, .inl ⟨rfl, rfl⟩⟩, fun k hk => absurd hk (by simp), HK1.out, Nat.le_refl _⟩⟩
    case round =>
      obtain ⟨j, hj, rfl, HL⟩ := hrel
      by_cases hlt : j < nn
      · have hjl : j < p.nr.length := by rw [← HNN.out]; exact hlt
        have hji : (j : Int) < (nn : Int) := by omega
        obtain ⟨vV, xs, hg, hr, hN, hX, hK, hb⟩ := HL.out
        obtain ⟨aV, cV, rfl⟩ := own_form hN
        obtain ⟨bN, oN, ea, hcN⟩ := (HP.out.kept hK).nr (by intro e; rw [e] at hjl; simp at hjl)
        obtain ⟨a1, c1, a2, c2, x0, x1, x2, hi1, hi2⟩ := hcN j hjl
        subst ea
        have hnl := HO.out.nlen (List.getElem_mem hjl)
        have HFIN : Hid (∀ (W5 w6 : World) (v : Value), Kept (fun _ => False) wr W5 → Kept (fun k => (Value.slice aV j cV).ownBlock = some k) W5 w6 → c5A p.nr[j] W0.heap.size w1.heap.size j xs v w6 → CpL p W0 w1.heap.size g v3 v7 v13 v17 (j + 1) (w6.setCell ⟨g, 2, none⟩ v) ∧ w6.cell? ⟨g, 2, none⟩ = some (.slice aV j cV) ∧ w6.frozen? ⟨g, 2, none⟩ = false) := hideI (fun W5 w6 v k k2 hA => cpl_store (k.heap hg (fun f => f)) (rows4_stay hr k) (own_stay hN k) (hX.apart k (fun _ f => f.elim)) (hK.trans k (fun _ f => f.elim)) (Nat.le_trans hb k.size) hjl k2 hA HGB.out)
        generalize p.nr[j] = nz at *
        obtain ⟨cs, os, sl⟩ := nz
        simp only at x0 x1 x2 hi1 hi2 hnl
        have HG := hideI hg
        have HNR1 := hideI hN
        have HX1 := hideI hX
        have HKR := hideI hK
        have HBB := hideI hb
        have HH1 := hideI hi1
        have HH2 := hideI hi2
        have HLN2 := hideI (show cs.length ≤ 67108864 ∧ os.length ≤ 67108864 ∧ j < 67108864 by have := hnn.out; rw [← HNN.out] at this; omega)
        clear hg hr hN hX hK hb hcN hi1 hi2 hnl
        obtain ⟨n1, hn1⟩ : ∃ n1, n1 = cs.length := ⟨_, rfl⟩
        obtain ⟨n2, hn2⟩ : ∃ n2, n2 = os.length := ⟨_, rfl⟩
        rw [← hn1] at x0
        rw [← hn2] at x1
        have HN1 := hideI hn1
        have HN2 := hideI hn2
        clear hn1 hn2 hn
        go_wp2_with fail
        refine wp_region_any (by kernel_rfl) ?_
        change wpAny _ _ _ _ _ _ _ (World.drew _)
        obtain ⟨W5, hW5⟩ : ∃ W5, W5 = World.drew (wr.alloc (.cells #[.slice a1 n1 c1, .slice a2 n2 c2, .int .i64 sl] 51)) := ⟨_, rfl⟩
        have KW5 : Kept (fun _ => False) (wr.alloc (.cells #[.slice a1 n1 c1, .slice a2 n2 c2, .int .i64 sl] 51)) W5 := by rw [hW5]; exact Kept.drew _
        have HBX5 : Hid (W5.heap[wr.heap.size]? = some (.cells #[.slice a1 n1 c1, .slice a2 n2 c2, .int .i64 sl] 51 (0, 0))) := hideI (KW5.heap (heap_alloc_new wr _) (fun f => f))
        rw [← hW5]
        have KR := (Kept.alloc wr _).trans KW5 (fun _ f => f.elim)
        have HB3 := fun (W : World) (K : Kept (fun _ => False) W5 W) => hideI (box3V (K.heap HBX5.out (fun f => f)))
        have HG2 := fun (W : World) (K : Kept (fun _ => False) W5 W) => hideI (show W.cell? ⟨g, 2, none⟩ = some (.slice aV j cV) from cell_of_row _ _ 2 _ _ _ ((KR.trans K (fun _ f => f.elim)).heap HG.out (fun f => f)))
        have HNR := hideI (own_stay HNR1.out KR)
        have HI1 := hideI (HH1.out.keptI KR)
        have HI2 := hideI (HH2.out.keptI KR)
        have HB1 : Hid (w1.heap.size ≤ W5.heap.size) := hideI (Nat.le_trans HBB.out KR.size)
        have HW0 : Hid (W0.heap.size ≤ W5.heap.size) := hideI (Nat.le_trans HKR.out.size KR.size)
        have HFI := fun (w6 : World) (v : Value) (k2 : Kept (fun k => (Value.slice aV j cV).ownBlock = some k) W5 w6) (hA : c5A ⟨cs, os, sl⟩ W0.heap.size w1.heap.size j xs v w6) => HFIN.out W5 w6 v KR k2 hA
        clear hW5 KW5 KR HFIN HBX5 HNR1 HH1 HH2 HX1 HKR
        refine wpAny_slots2 _ (J5 W5 ⟨cs, os, sl⟩ W0.heap.size w1.heap.size g wr.heap.size j (.slice aV j cV) xs a1 a2 c1 c2 (fun w' => CpL p W0 w1.heap.size g v3 v7 v13 v17 (j + 1) w')) (by kernel_rfl) (by kernel_rfl) ?_ ?_ (fun _ => undef) _ (J5.start W5)
        · intro listed vs w6 i o A hJ hcl ho h0 hall EV E0
          have hi : i < 17 := (Array.getElem?_eq_some_iff.1 ho).1
          have E3 : A.eval (.tmp 3) = .pointer (some ⟨g, 0, none⟩) := by rw [E0 3 (by kernel_rfl)]; rfl
          have E5 : A.eval (.tmp 5) = .pointer (some ⟨wr.heap.size, 0, none⟩) := by rw [E0 5 (by kernel_rfl)]; rfl
          have up14 : listed.getD 14 false = true → ∀ k, k < 14 → listed.getD k false = true := fun h => by
            have u13 := dep_of (hcl 14 _ rfl h) 13 (by kernel_rfl)
            have u1 := dep_of (hcl 14 _ rfl h) 1 (by kernel_rfl)
            have u0 := dep_of (hcl 1 _ rfl u1) 0 (by kernel_rfl)
            have u12 := dep_of (hcl 13 _ rfl u13) 12 (by kernel_rfl)
            have u5 := dep_of (hcl 12 _ rfl u12) 5 (by kernel_rfl)
            have u9 := dep_of (hcl 12 _ rfl u12) 9 (by kernel_rfl)
            have u11 := dep_of (hcl 12 _ rfl u12) 11 (by kernel_rfl)
            have u2 := dep_of (hcl 5 _ rfl u5) 2 (by kernel_rfl)
            have u4 := dep_of (hcl 5 _ rfl u5) 4 (by kernel_rfl)
            have u3 := dep_of (hcl 4 _ rfl u4) 3 (by kernel_rfl)
            have u6 := dep_of (hcl 9 _ rfl u9) 6 (by kernel_rfl)
            have u8 := dep_of (hcl 9 _ rfl u9) 8 (by kernel_rfl)
            have u7 := dep_of (hcl 8 _ rfl u8) 7 (by kernel_rfl)
            have u10 := dep_of (hcl 11 _ rfl u11) 10 (by kernel_rfl)
            intro k hk
            have : k = 0 ∨ k = 1 ∨ k = 2 ∨ k = 3 ∨ k = 4 ∨ k = 5 ∨ k = 6 ∨ k = 7 ∨ k = 8 ∨ k = 9 ∨ k = 10 ∨ k = 11 ∨ k = 12 ∨ k = 13 := by omega
            rcases this with rfl | rfl | rfl | rfl | rfl | rfl | rfl | rfl | rfl | rfl | rfl | rfl | rfl | rfl <;> assumption
          have up16 : listed.getD 16 false = true → ∀ k, k < 16 → listed.getD k false = true := fun h k hk => by
            have : k = 0 ∨ k = 1 ∨ k = 2 ∨ k = 3 ∨ k = 4 ∨ k = 5 ∨ k = 6 ∨ k = 7 ∨ k = 8 ∨ k = 9 ∨ k = 10 ∨ k = 11 ∨ k = 12 ∨ k = 13 ∨ k = 14 ∨ k = 15 := by omega
            rcases this with rfl | rfl | rfl | rfl | rfl | rfl | rfl | rfl | rfl | rfl | rfl | rfl | rfl | rfl | rfl | rfl <;> exact dep_of (hcl 16 _ rfl h) _ (by kernel_rfl)
          have hi00 : i = 0 ∨ i = 1 ∨ i = 2 ∨ i = 3 ∨ i = 4 ∨ i = 5 ∨ i = 6 ∨ i = 7 ∨ i = 8 ∨ i = 9 ∨ i = 10 ∨ i = 11 ∨ i = 12 ∨ i = 13 ∨ i = 14 ∨ i = 15 ∨ i = 16 := by omega
          rcases hi00 with rfl | rfl | rfl | rfl | rfl | rfl | rfl | rfl | rfl | rfl | rfl | rfl | rfl | rfl | rfl | rfl | rfl
          · cases Option.some.inj ho
            have h14 : listed.getD 14 false = false := not_up (fun h => up14 h) h0 (by decide)
            have h16 : listed.getD 16 false = false := not_up (fun h => up16 h) h0 (by decide)
            have hKP := (hJ.pre h14).1
            refine step_val ho rfl (.pointer (some ⟨g, 2, none⟩)) w6 (by simp [Act.eval] at E3; go_simp) ?_
            exact hJ.step (by decide) h14 h16 (Kept.refl _ _) rfl
          · cases Option.some.inj ho
            have h14 : listed.getD 14 false = false := not_up (fun h => up14 h) h0 (by decide)
            have h16 : listed.getD 16 false = false := not_up (fun h => up16 h) h0 (by decide)
            have hKP := (hJ.pre h14).1
            have l0 := dep_of hall 0 (by kernel_rfl)
            have s0 := (hJ.pre h14).2 0 (by decide) l0
            have v0 := EV 0 32 l0 rfl (by simp)
            rw [show vs 0 = _ from s0] at v0
            simp [Act.eval] at v0
            have q := (HG2 w6 hKP).out
            refine step_val ho rfl (.slice aV j cV) w6 (by go_simp) ?_
            exact hJ.step (by decide) h14 h16 (Kept.refl _ _) rfl
          · cases Option.some.inj ho
            have h14 : listed.getD 14 false = false := not_up (fun h => up14 h) h0 (by decide)
            have h16 : listed.getD 16 false = false := not_up (fun h => up16 h) h0 (by decide)
            have hKP := (hJ.pre h14).1
            refine step_val ho rfl (.slice (some ⟨w6.heap.size, 0, none⟩) 0 0) (w6.alloc (.cells #[] 3)) (by go_simp) ?_
            exact hJ.step (by decide) h14 h16 (Kept.alloc _ _) ⟨_, rfl, World.ownsRow_made w6 #[] 0 (Nat.le_trans HB1.out hKP.size) (by decide) rfl⟩
          · cases Option.some.inj ho
            have h14 : listed.getD 14 false = false := not_up (fun h => up14 h) h0 (by decide)
            have h16 : listed.getD 16 false = false := not_up (fun h => up16 h) h0 (by decide)
            have hKP := (hJ.pre h14).1
            refine step_val ho rfl (.pointer (some ⟨wr.heap.size, 0, none⟩)) w6 (by simp [Act.eval] at E5; go_simp) ?_
            exact hJ.step (by decide) h14 h16 (Kept.refl _ _) rfl
          · cases Option.some.inj ho
            have h14 : listed.getD 14 false = false := not_up (fun h => up14 h) h0 (by decide)
            have h16 : listed.getD 16 false = false := not_up (fun h => up16 h) h0 (by decide)
            have hKP := (hJ.pre h14).1
            have l3 := dep_of hall 3 (by kernel_rfl)
            have s3 := (hJ.pre h14).2 3 (by decide) l3
            have v3 := EV 3 35 l3 rfl (by simp)
            rw [show vs 3 = _ from s3] at v3
            simp [Act.eval] at v3
            obtain ⟨q0, q1, q2⟩ := (HB3 w6 hKP).out
            refine step_val ho rfl (.slice a1 n1 c1) w6 (by go_simp) ?_
            exact hJ.step (by decide) h14 h16 (Kept.refl _ _) (show Value.slice a1 n1 c1 = .slice a1 cs.length c1 by rw [HN1.out])
          · have h14 : listed.getD 14 false = false := not_up (fun h => up14 h) h0 (by decide)
            have h16 : listed.getD 16 false = false := not_up (fun h => up16 h) h0 (by decide)
            have hKP := (hJ.pre h14).1
            have hop : o.op = .call { callee := .builtin .append, args := #[.tmp 34, .tmp 36], argTypes := #[22, 22] } := by cases Option.some.inj ho; rfl
            have hgd : o.guard = none := by cases Option.some.inj ho; rfl
            have l2 := dep_of hall 2 (by cases Option.some.inj ho; kernel_rfl)
            have s2 := (hJ.pre h14).2 2 (by decide) l2
            have v2 := EV 2 34 l2 rfl (by simp)
            have l4 := dep_of hall 4 (by cases Option.some.inj ho; kernel_rfl)
            have s4 := (hJ.pre h14).2 4 (by decide) l4
            have v4 := EV 4 36 l4 rfl (by simp)
            rw [show vs 4 = _ from s4] at v4
            rw [← v2] at s2
            obtain ⟨i0, hi0, hz0, hz1, hz2⟩ := info_parts Tryd.infoCI
            obtain ⟨v', w', hr, ho', hk, -⟩ := ap_run 22 3 i0 (.int .i64 0) 1 8 w1.heap.size Tryd.underlying22 hi0 hz0 hz1 hz2 rfl (by decide) (o := o) (ρ := A.eval) (.tmp 34) (.tmp 36) hop s2 a1 cs.length c1 v4 (is cs) (by rw [is_length]; omega) (is_news (HI1.out.keptI hKP)) (is_one _) (by have := HLN2.out; unfold maxLen; omega) (by have := HLN2.out; omega) (Nat.le_trans HB1.out hKP.size)
            refine step_val ho hgd v' w' hr ?_
            exact hJ.step (by decide) h14 h16 hk ho'
          · cases Option.some.inj ho
            have h14 : listed.getD 14 false = false := not_up (fun h => up14 h) h0 (by decide)
            have h16 : listed.getD 16 false = false := not_up (fun h => up16 h) h0 (by decide)
            have hKP := (hJ.pre h14).1
            refine step_val ho rfl (.slice (some ⟨w6.heap.size, 0, none⟩) 0 0) (w6.alloc (.cells #[] 3)) (by go_simp) ?_
            exact hJ.step (by decide) h14 h16 (Kept.alloc _ _) ⟨_, rfl, World.ownsRow_made w6 #[] 0 (Nat.le_trans HB1.out hKP.size) (by decide) rfl⟩
          · cases Option.some.inj ho
            have h14 : listed.getD 14 false = false := not_up (fun h => up14 h) h0 (by decide)
            have h16 : listed.getD 16 false = false := not_up (fun h => up16 h) h0 (by decide)
            have hKP := (hJ.pre h14).1
            refine step_val ho rfl (.pointer (some ⟨wr.heap.size, 1, none⟩)) w6 (by simp [Act.eval] at E5; go_simp) ?_
            exact hJ.step (by decide) h14 h16 (Kept.refl _ _) rfl
          · cases Option.some.inj ho
            have h14 : listed.getD 14 false = false := not_up (fun h => up14 h) h0 (by decide)
            have h16 : listed.getD 16 false = false := not_up (fun h => up16 h) h0 (by decide)
            have hKP := (hJ.pre h14).1
            have l7 := dep_of hall 7 (by kernel_rfl)
            have s7 := (hJ.pre h14).2 7 (by decide) l7
            have v7 := EV 7 39 l7 rfl (by simp)
            rw [show vs 7 = _ from s7] at v7
            simp [Act.eval] at v7
            obtain ⟨q0, q1, q2⟩ := (HB3 w6 hKP).out
            refine step_val ho rfl (.slice a2 n2 c2) w6 (by go_simp) ?_
            exact hJ.step (by decide) h14 h16 (Kept.refl _ _) (show Value.slice a2 n2 c2 = .slice a2 os.length c2 by rw [HN2.out])
          · have h14 : listed.getD 14 false = false := not_up (fun h => up14 h) h0 (by decide)
            have h16 : listed.getD 16 false = false := not_up (fun h => up16 h) h0 (by decide)
            have hKP := (hJ.pre h14).1
            have hop : o.op = .call { callee := .builtin .append, args := #[.tmp 38, .tmp 40], argTypes := #[22, 22] } := by cases Option.some.inj ho; rfl
            have hgd : o.guard = none := by cases Option.some.inj ho; rfl
            have l6 := dep_of hall 6 (by cases Option.some.inj ho; kernel_rfl)
            have s6 := (hJ.pre h14).2 6 (by decide) l6
            have v6 := EV 6 38 l6 rfl (by simp)
            have l8 := dep_of hall 8 (by cases Option.some.inj ho; kernel_rfl)
            have s8 := (hJ.pre h14).2 8 (by decide) l8
            have v8 := EV 8 40 l8 rfl (by simp)
            rw [show vs 8 = _ from s8] at v8
            rw [← v6] at s6
            obtain ⟨i0, hi0, hz0, hz1, hz2⟩ := info_parts Tryd.infoCI
            obtain ⟨v', w', hr, ho', hk, -⟩ := ap_run 22 3 i0 (.int .i64 0) 1 8 w1.heap.size Tryd.underlying22 hi0 hz0 hz1 hz2 rfl (by decide) (o := o) (ρ := A.eval) (.tmp 38) (.tmp 40) hop s6 a2 os.length c2 v8 (is os) (by rw [is_length]; omega) (is_news (HI2.out.keptI hKP)) (is_one _) (by have := HLN2.out; unfold maxLen; omega) (by have := HLN2.out; omega) (Nat.le_trans HB1.out hKP.size)
            refine step_val ho hgd v' w' hr ?_
            exact hJ.step (by decide) h14 h16 hk ho'
          · cases Option.some.inj ho
            have h14 : listed.getD 14 false = false := not_up (fun h => up14 h) h0 (by decide)
            have h16 : listed.getD 16 false = false := not_up (fun h => up16 h) h0 (by decide)
            have hKP := (hJ.pre h14).1
            refine step_val ho rfl (.pointer (some ⟨wr.heap.size, 2, none⟩)) w6 (by simp [Act.eval] at E5; go_simp) ?_
            exact hJ.step (by decide) h14 h16 (Kept.refl _ _) rfl
          · cases Option.some.inj ho
            have h14 : listed.getD 14 false = false := not_up (fun h => up14 h) h0 (by decide)
            have h16 : listed.getD 16 false = false := not_up (fun h => up16 h) h0 (by decide)
            have hKP := (hJ.pre h14).1
            have l10 := dep_of hall 10 (by kernel_rfl)
            have s10 := (hJ.pre h14).2 10 (by decide) l10
            have v10 := EV 10 42 l10 rfl (by simp)
            rw [show vs 10 = _ from s10] at v10
            simp [Act.eval] at v10
            obtain ⟨q0, q1, q2⟩ := (HB3 w6 hKP).out
            refine step_val ho rfl (.int .i64 sl) w6 (by go_simp) ?_
            exact hJ.step (by decide) h14 h16 (Kept.refl _ _) rfl
          · cases Option.some.inj ho
            have h14 : listed.getD 14 false = false := not_up (fun h => up14 h) h0 (by decide)
            have h16 : listed.getD 16 false = false := not_up (fun h => up16 h) h0 (by decide)
            have hKP := (hJ.pre h14).1
            have l5 := dep_of hall 5 (by kernel_rfl)
            have s5 := (hJ.pre h14).2 5 (by decide) l5
            have v5 := EV 5 37 l5 rfl (by simp)
            have l9 := dep_of hall 9 (by kernel_rfl)
            have s9 := (hJ.pre h14).2 9 (by decide) l9
            have v9 := EV 9 41 l9 rfl (by simp)
            have l11 := dep_of hall 11 (by kernel_rfl)
            have s11 := (hJ.pre h14).2 11 (by decide) l11
            have v11 := EV 11 43 l11 rfl (by simp)
            rw [show vs 11 = _ from s11] at v11
            obtain ⟨a5, c5, e5⟩ := own_form s5
            obtain ⟨a9, c9, e9⟩ := own_form s9
            rw [e5] at v5
            rw [e9] at v9
            simp [Act.eval] at v5 v9 v11
            refine step_val ho rfl (.agg #[.slice a5 cs.length c5, .slice a9 os.length c9, .int .i64 sl]) w6 (by go_simp) ?_
            exact hJ.step (by decide) h14 h16 (Kept.refl _ _) ⟨_, _, rfl, e5 ▸ s5, e9 ▸ s9⟩
          · cases Option.some.inj ho
            have h14 : listed.getD 14 false = false := not_up (fun h => up14 h) h0 (by decide)
            have h16 : listed.getD 16 false = false := not_up (fun h => up16 h) h0 (by decide)
            have hKP := (hJ.pre h14).1
            have l12 := dep_of hall 12 (by kernel_rfl)
            have s12 := (hJ.pre h14).2 12 (by decide) l12
            have v12 := EV 12 44 l12 rfl (by simp)
            obtain ⟨u5, u9, e12, r5, r9⟩ := s12
            obtain ⟨a5, c5, rfl⟩ := own_form r5
            obtain ⟨a9, c9, rfl⟩ := own_form r9
            rw [e12] at v12
            simp [Act.eval] at v12
            refine step_val ho rfl (.slice (some ⟨w6.heap.size, 0, none⟩) 1 1) (w6.alloc (.cells #[.slice a5 cs.length c5, .slice a9 os.length c9, .int .i64 sl] 51)) (by go_simp) ?_
            exact hJ.step (by decide) h14 h16 (Kept.alloc _ _) ⟨_, _, _, rfl, heap_alloc_new w6 _, own_stay r5 (Kept.alloc _ _), own_stay r9 (Kept.alloc _ _)⟩
          · have h14 : listed.getD 14 false = false := no_get h0
            have h16 : listed.getD 16 false = false := not_up (fun h => up16 h) h0 (by decide)
            have hop : o.op = .call { callee := .builtin .append, args := #[.tmp 33, .tmp 45], argTypes := #[24, 24] } := by cases Option.some.inj ho; rfl
            have hgd : o.guard = none := by cases Option.some.inj ho; rfl
            have l1 := dep_of hall 1 (by cases Option.some.inj ho; kernel_rfl)
            have s1 := (hJ.pre h14).2 1 (by decide) l1
            have v1 := EV 1 33 l1 rfl (by simp)
            have l13 := dep_of hall 13 (by cases Option.some.inj ho; kernel_rfl)
            have s13 := (hJ.pre h14).2 13 (by decide) l13
            have v13 := EV 13 45 l13 rfl (by simp)
            rw [show vs 1 = _ from s1] at v1
            obtain ⟨bk, u5, u9, e13, hbk, r5, r9⟩ := s13
            rw [e13] at v13
            have hKP := (hJ.pre h14).1
            obtain ⟨i0, hi0, hz0, hz1, hz2⟩ := info_parts Tryd.infoCN
            obtain ⟨v', w', hr, ho', hk, -⟩ := ap_own 24 51 i0 (.agg #[.slice none 0 0, .slice none 0 0, .int .i64 0]) 3 56 W0.heap.size Tryd.underlying24 hi0 hz0 hz1 hz2 rfl (by decide) (o := o) (ρ := A.eval) (.tmp 33) (.tmp 45) hop _ v1 j xs (own_stay HNR.out hKP) ⟨bk, 0, none⟩ 1 1 v13 [u5, u9, .int .i64 sl] rfl (near_news hbk) (near_one r5 r9) (by have := HLN2.out; unfold maxLen; omega) (by have := HLN2.out; omega) (Nat.le_trans HW0.out hKP.size)
            refine step_val ho hgd v' w' hr ?_
            have tI := own_typed (own_stay HNR.out hKP) (e' := 3) (by decide)
            exact hJ.step14 h0 h14 h16 hk ⟨u5, u9, ho', own_apart r5 hk tI, own_apart r9 hk tI⟩
          · cases Option.some.inj ho
            have h16 : listed.getD 16 false = false := not_up (fun h => up16 h) h0 (by decide)
            refine step_val ho rfl (.pointer (some ⟨g, 2, none⟩)) w6 (by simp [Act.eval] at E3; go_simp) ?_
            exact hJ.step15 h16
          · have h16 : listed.getD 16 false = false := no_get h0
            have hop : o.op = .store 24 (.tmp 47) (.tmp 46) := by cases Option.some.inj ho; rfl
            have hgd : o.guard = none := by cases Option.some.inj ho; rfl
            have l14 := dep_of hall 14 (by cases Option.some.inj ho; kernel_rfl)
            have l15 := dep_of hall 15 (by cases Option.some.inj ho; kernel_rfl)
            have v14 := EV 14 46 l14 rfl (by simp)
            have v15 := EV 15 47 l15 rfl (by simp)
            rw [hJ.ptr l15] at v15
            obtain ⟨hk, hA⟩ := hJ.app l14 h16
            obtain ⟨hF, hc0, hf0⟩ := HFI w6 (vs 14) hk hA
            obtain ⟨u5, u9, hN', r5, r9⟩ := hA
            obtain ⟨aZ, cZ, eZ⟩ := own_form hN'
            rw [eZ] at v14 hF
            refine step_skip ho hgd (w6.setCell ⟨g, 2, none⟩ (.slice aZ (j + 1) cZ)) (by simp only [execOp, hop, v14, v15]; go_simp) ?_
            exact J5.step16 h0 l14 (hJ.ptr l15) hF
        · intro listed vs w6 hJ hall
          have HF := hideI (hJ.fin (hall 16 (by decide)))
          clear hJ hall
          unfold pO
          simp [List.range, List.range.loop, dO, Act.put]
          have hjb := HLN2.out.2.2
          go_wp2_with fail
          go_roundw
          case rel => exact ⟨j + 1, hlt, by go_num, HF⟩
          case measure => simp [intOf]; omega
      · obtain rfl : j = nn := by omega
        have hjn : j = p.nr.length := HNN.out
        subst hjn
        obtain ⟨vV, xs, hg, hr, hN, hX, hK, hb⟩ := HL.out
        rw [List.take_of_length_le (by rw [HNN.out]; exact Nat.le_refl _)] at hX
        have hap := HAP.out
        have HZ := hideI (hK.heap HBZ.out (fun f => f))
        have HH := fun (w9 : World) (k : Kept (fun i => i = w.heap.size + 1) wr w9) => hideI (cp_done HNN.out hr hN hX hK k HZ.out (by omega) hap ((Kept.alloc w _).trans KW (fun _ f => f.elim)) HR.out)
        obtain ⟨a3, c3, rfl⟩ := own_form hr.1
        obtain ⟨a7, c7, rfl⟩ := own_form hr.2.1
        obtain ⟨a13, c13, rfl⟩ := own_form hr.2.2.1
        obtain ⟨a17, c17, rfl⟩ := own_form hr.2.2.2
        obtain ⟨aV, cV, rfl⟩ := own_form hN
        obtain ⟨y0, y1, y2, y3, y4, y5⟩ := box6 hg
        clear hg hr hN hX hK hb hap HR HG1 HL
        obtain ⟨z0, z1, z2, z3, z4, z5⟩ := box6 HZ.out
        have zf := box6f HZ.out
        go_wp2_with fail
        refine bodyPost_ret (results_cell1V rfl _ _ _ (w.heap.size + 1) _ rfl (load_pgV (pg_put6 HZ.out))) rfl ?_
        exact ⟨_, _, _, _, _, rfl, (HH _ kept_put6).out⟩
end Go.Proofs.YtiebmmpnmklpnaaDoor
