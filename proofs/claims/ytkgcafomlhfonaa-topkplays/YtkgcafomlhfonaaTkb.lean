import Derived.Test.YtkgcafomlhfonaaTka
namespace Go.Proofs.Ytkgcafomlhfonaa.Tk
/-- The place i of a list. -/
def g (H : List Ht) (i : Nat) : Ht := H[i]?.getD (0, 0)
theorem g_get {H : List Ht} {i : Nat} (h : i < H.length) : H[i]? = some (g H i) := by unfold g; rw [List.getElem?_eq_getElem h]; rfl
theorem g_eq {H : List Ht} {i : Nat} (h : i < H.length) : g H i = H[i] := by unfold g; rw [List.getElem?_eq_getElem h]; rfl
theorem g_set {H : List Ht} {i : Nat} (h : i < H.length) (x : Ht) (j : Nat) : g (H.set i x) j = if j = i then x else g H j := by
  unfold g
  rw [List.getElem?_set]
  by_cases e : i = j
  · subst e; simp [h]
  · rw [if_neg e, if_neg (fun q => e q.symm)]
theorem swap_perm {H : List Ht} {i j : Nat} (hi : i < H.length) (hj : j < H.length) (hij : i ≠ j) : ((H.set i (g H j)).set j (g H i)).Perm H := by
  rw [List.perm_iff_count]
  intro a
  have hj2 : j < (H.set i (g H j)).length := by rw [List.length_set]; exact hj
  rw [List.count_set hj2, List.count_set hi, List.getElem_set_ne hij]
  have hgi := g_eq hi
  have hgj := g_eq hj
  have h1 : (if H[i] == a then 1 else 0) ≤ H.count a := by
    split
    · rename_i e
      have : H[i] = a := by simpa using e
      subst this
      exact List.count_pos_iff.2 (List.getElem_mem hi)
    · omega
  rw [← hgi] at h1
  rw [← hgi, ← hgj]
  omega
/-- A parent's place. -/
def par (i : Nat) : Nat := (i - 1) / 2
/-- No one goes above the one over it: it is not behind it. -/
def Hp (H : List Ht) : Prop := ∀ i, 0 < i → i < H.length → ¬ Bt (g H (par i)) (g H i)
theorem Hp.root {H : List Ht} (h : Hp H) : ∀ i, i < H.length → ¬ Bt (g H 0) (g H i) := by
  intro i
  induction i using Nat.strongRecOn with
  | ind i ih =>
    intro hi
    by_cases h0 : i = 0
    · subst h0; exact bt_irr _
    · have h1 := ih (par i) (by unfold par; omega) (by unfold par; omega)
      have h2 := h i (by omega) hi
      exact nbt_trans h1 h2
/-- Like a heap but for the one at 'at', that may go up. -/
structure Up (H : List Ht) (at' : Nat) : Prop where
  lt : at' < H.length
  one : ∀ i, 0 < i → i < H.length → i ≠ at' → ¬ Bt (g H (par i)) (g H i)
  two : 0 < at' → ∀ c, 0 < c → c < H.length → par c = at' → ¬ Bt (g H (par at')) (g H c)
theorem Up.top {H : List Ht} (h : Up H 0) : Hp H := fun i h0 hi => h.one i h0 hi (by omega)
theorem Up.stop {H : List Ht} {a : Nat} (h : Up H a) (hn : ¬ Bt (g H (par a)) (g H a)) : Hp H := fun i h0 hi => by
  by_cases e : i = a
  · subst e; exact hn
  · exact h.one i h0 hi e
/-- Behind a move the place 'at' of M holds what goes up. -/
theorem set_set_up {M : List Ht} {a o : Nat} (x : Ht) (ha : a < M.length) (hao : a ≠ o) : (M.set a (g M o)).set o x = ((M.set a x).set a (g (M.set a x) o)).set o (g (M.set a x) a) := by
  rw [g_set ha, g_set ha, if_neg (fun e => hao e.symm), if_pos rfl, List.set_set]
theorem Up.step {G : List Ht} {a : Nat} (h : Up G a) (h0 : 0 < a) (hb : Bt (g G (par a)) (g G a)) : Up ((G.set a (g G (par a))).set (par a) (g G a)) (par a) := by
  have ha := h.lt
  have hp : par a < a := by unfold par; omega
  have hpl : par a < (G.set a (g G (par a))).length := by rw [List.length_set]; omega
  have E : ∀ j, g ((G.set a (g G (par a))).set (par a) (g G a)) j = if j = par a then g G a else if j = a then g G (par a) else g G j := fun j => by rw [g_set hpl, g_set ha]
  refine ⟨by rw [List.length_set]; exact hpl, ?_, ?_⟩
  · intro i hi hil hne
    rw [List.length_set, List.length_set] at hil
    rw [E, E, if_neg hne]
    by_cases e1 : i = a
    · subst e1
      rw [if_pos rfl, if_pos rfl]
      exact bt_asym hb
    · rw [if_neg e1]
      by_cases e2 : par i = par a
      · rw [if_pos e2]
        have h1 := h.one i hi hil e1
        rw [e2] at h1
        intro e
        exact h1 (bt_trans hb e)
      · rw [if_neg e2]
        by_cases e3 : par i = a
        · rw [if_pos e3]
          exact h.two h0 i hi hil e3
        · rw [if_neg e3]
          exact h.one i hi hil e1
  · intro hp0 c hc hcl hcp
    rw [List.length_set, List.length_set] at hcl
    rw [E, E]
    have hpp : par (par a) ≠ par a := by have : par (par a) < par a := by (unfold par at hp0 ⊢; omega)
                                         omega
    have hpa : par (par a) ≠ a := by have : par (par a) < par a := by (unfold par at hp0 ⊢; omega)
                                     omega
    rw [if_neg hpp, if_neg hpa]
    have hq : ¬ Bt (g G (par (par a))) (g G (par a)) := h.one (par a) hp0 (by omega) (by omega)
    by_cases e1 : c = par a
    · exfalso
      subst e1
      exact hpp hcp
    · rw [if_neg e1]
      by_cases e2 : c = a
      · rw [if_pos e2]; exact hq
      · rw [if_neg e2]
        have h1 := h.one c hc hcl e2
        rw [hcp] at h1
        exact nbt_trans hq h1
/-- A heap with one more behind it. -/
theorem Up.start {H : List Ht} (h : Hp H) (x : Ht) : Up (H ++ [x]) H.length := by
  have E : ∀ j, j < H.length → g (H ++ [x]) j = g H j := fun j hj => by unfold g; rw [List.getElem?_append_left hj]
  refine ⟨by simp, ?_, ?_⟩
  · intro i hi hil hne
    have h1 : i < H.length := by simp at hil; omega
    rw [E i h1, E (par i) (by unfold par; omega)]
    exact h i hi h1
  · intro _ c hc hcl hcp
    exfalso
    simp at hcl
    unfold par at hcp
    omega
/-- Like a heap but for the one at 'at', that may go down. -/
structure Dn (H : List Ht) (at' : Nat) : Prop where
  lt : at' < H.length
  one : ∀ i, 0 < i → i < H.length → par i ≠ at' → ¬ Bt (g H (par i)) (g H i)
  two : 0 < at' → ∀ c, 0 < c → c < H.length → par c = at' → ¬ Bt (g H (par at')) (g H c)
theorem Dn.stop {H : List Ht} {a : Nat} (h : Dn H a) (hn : ∀ c, 0 < c → c < H.length → par c = a → ¬ Bt (g H a) (g H c)) : Hp H := fun i h0 hi => by
  by_cases e : par i = a
  · rw [e]; exact hn i h0 hi e
  · exact h.one i h0 hi e
theorem Dn.start {H : List Ht} (h : Hp H) (hl : 0 < H.length) (x : Ht) : Dn (H.set 0 x) 0 := by
  refine ⟨by rw [List.length_set]; exact hl, ?_, fun e => absurd e (by omega)⟩
  intro i hi hil hne
  rw [List.length_set] at hil
  rw [g_set hl, g_set hl, if_neg hne, if_neg (by omega)]
  exact h i hi hil
theorem Dn.step {G : List Ht} {a u : Nat} (h : Dn G a) (hu : u < G.length) (hup : par u = a) (hu0 : 0 < u) (hs : ∀ c, 0 < c → c < G.length → par c = a → ¬ Bt (g G u) (g G c)) (hb : Bt (g G a) (g G u)) : Dn ((G.set a (g G u)).set u (g G a)) u := by
  have ha := h.lt
  have hau : a < u := by unfold par at hup; omega
  have hul : u < (G.set a (g G u)).length := by rw [List.length_set]; omega
  have E : ∀ j, g ((G.set a (g G u)).set u (g G a)) j = if j = u then g G a else if j = a then g G u else g G j := fun j => by rw [g_set hul, g_set ha]
  refine ⟨by rw [List.length_set]; exact hul, ?_, ?_⟩
  · intro i hi hil hne
    rw [List.length_set, List.length_set] at hil
    rw [E, E, if_neg hne]
    by_cases e1 : par i = a
    · rw [if_pos e1]
      by_cases e2 : i = u
      · subst e2
        rw [if_pos rfl]; exact bt_asym hb
      · have e3 : i ≠ a := by intro e; subst e; unfold par at e1; omega
        rw [if_neg e2, if_neg e3]
        exact hs i hi hil e1
    · rw [if_neg e1]
      by_cases e2 : i = a
      · subst e2
        rw [if_neg (by omega), if_pos rfl]
        exact h.two hi u hu0 hu hup
      · by_cases e3 : i = u
        · subst e3; exact absurd hup e1
        · rw [if_neg e3, if_neg e2]
          exact h.one i hi hil e1
  · intro _ c hc hcl hcp
    rw [List.length_set, List.length_set] at hcl
    rw [hup, E, E, if_neg (by omega), if_pos rfl]
    have e1 : c ≠ u := by intro e; subst e; unfold par at hcp; omega
    have e2 : c ≠ a := by intro e; subst e; unfold par at hcp; omega
    rw [if_neg e1, if_neg e2]
    have := h.one c hc hcl (by omega)
    rwa [hcp] at this
/-- The heap's top is the last of the kept ones. -/
theorem top_last {H s : List Ht} (hp : Hp H) (p : H.Perm s) (hs : Srt s) (hne : s ≠ []) : s.getLast? = some (g H 0) := by
  have hl : 0 < H.length := by rw [p.length_eq]; exact List.length_pos_iff.2 hne
  obtain ⟨d, w, rfl⟩ : ∃ d w, s = d ++ [w] := ⟨s.dropLast, s.getLast hne, (List.dropLast_concat_getLast hne).symm⟩
  rw [List.getLast?_concat]
  have h1 := (List.pairwise_append.1 hs).2.2
  have hw : w ∈ H := p.mem_iff.2 (by simp)
  obtain ⟨i, hi, rfl⟩ := List.getElem_of_mem hw
  have h2 := hp.root i hi
  rw [g_eq hi] at h2
  have h3 : g H 0 ∈ d ++ [H[i]] := p.mem_iff.1 (by rw [g_eq hl]; exact List.getElem_mem hl)
  have h4 : ¬ Bt H[i] (g H 0) := by
    rcases List.mem_append.1 h3 with q | q
    · exact h1 _ q _ (by simp)
    · rw [List.mem_singleton] at q; rw [← q]; exact bt_irr _
  rw [bt_eq h4 h2]
end Go.Proofs.Ytkgcafomlhfonaa.Tk
