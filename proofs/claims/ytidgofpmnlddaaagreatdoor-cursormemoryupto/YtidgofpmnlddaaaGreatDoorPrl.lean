import Derived.Test.YtidgofpmnlddaaaGreatDoorMrg5
namespace Go.Proofs.YtidgofpmnlddaaaGreatDoor
open Go.ChangeShapes Go.WideShapes Go.ChangeAt Go.RowKit

/-- A number put into a rising list. -/
def insR (x : Int) : List Int → List Int
  | [] => [x]
  | y :: r => if x < y then x :: y :: r else if x = y then y :: r else y :: insR x r
theorem insR_mem (x b : Int) : ∀ l, b ∈ insR x l ↔ b = x ∨ b ∈ l
  | [] => by simp [insR]
  | y :: r => by
    rw [insR]
    by_cases h1 : x < y
    · rw [if_pos h1, List.mem_cons]
    · rw [if_neg h1]
      by_cases h2 : x = y
      · rw [if_pos h2, List.mem_cons]
        constructor
        · exact .inr
        · rintro (h | h)
          · exact .inl (h.trans h2)
          · exact h
      · rw [if_neg h2, List.mem_cons, List.mem_cons, insR_mem x b r]
        constructor
        · rintro (h | h | h)
          · exact .inr (.inl h)
          · exact .inl h
          · exact .inr (.inr h)
        · rintro (h | h | h)
          · exact .inr (.inl h)
          · exact .inl h
          · exact .inr (.inr h)
theorem insR_rsg (x : Int) : ∀ l, Rsg l → Rsg (insR x l)
  | [], _ => List.pairwise_singleton _ _
  | y :: r, h => by
    unfold Rsg at h ⊢
    rw [List.pairwise_cons] at h
    rw [insR]
    by_cases h1 : x < y
    · rw [if_pos h1, List.pairwise_cons]
      refine ⟨fun b hb => ?_, List.pairwise_cons.2 h⟩
      rcases List.mem_cons.1 hb with e | e
      · rw [e]; exact h1
      · have := h.1 b e
        omega
    · rw [if_neg h1]
      by_cases h2 : x = y
      · rw [if_pos h2]
        exact List.pairwise_cons.2 h
      · rw [if_neg h2, List.pairwise_cons]
        refine ⟨fun b hb => ?_, insR_rsg x r h.2⟩
        rcases (insR_mem x b r).1 hb with e | e
        · omega
        · exact h.1 b e
/-- What one more number adds to a count. -/
theorem insR_cnt (f : Int → Bool) (x : Int) : ∀ l, Rsg l → (insR x l).countP f = l.countP f + if x ∈ l then 0 else if f x then 1 else 0
  | [], _ => by simp [insR, List.countP_cons]
  | y :: r, h => by
    unfold Rsg at h
    rw [List.pairwise_cons] at h
    rw [insR]
    by_cases h1 : x < y
    · have hx : ¬ x ∈ y :: r := fun hm => by
        rcases List.mem_cons.1 hm with e | e
        · omega
        · have := h.1 x e
          omega
      rw [if_pos h1, if_neg hx, List.countP_cons]
    · rw [if_neg h1]
      by_cases h2 : x = y
      · rw [if_pos h2, if_pos (by rw [h2]; exact List.mem_cons_self)]
        rfl
      · have ih := insR_cnt f x r h.2
        rw [if_neg h2, List.countP_cons, List.countP_cons, ih]
        have e : (x ∈ y :: r) ↔ x ∈ r := by rw [List.mem_cons]; exact ⟨fun q => q.resolve_left h2, .inr⟩
        by_cases hm : x ∈ r
        · rw [if_pos hm, if_pos (e.2 hm)]
          rfl
        · rw [if_neg hm, if_neg (fun q => hm (e.1 q))]
          omega
/-- The unlike numbers of a list, rising. -/
def risl (l : List Int) : List Int := l.foldr insR []
theorem risl_mem (b : Int) : ∀ l, b ∈ risl l ↔ b ∈ l
  | [] => Iff.rfl
  | x :: l => by
    have e : risl (x :: l) = insR x (risl l) := rfl
    rw [e, insR_mem, risl_mem b l, List.mem_cons]
theorem risl_rsg : ∀ l, Rsg (risl l)
  | [] => List.Pairwise.nil
  | x :: l => insR_rsg x _ (risl_rsg l)
theorem risl_ext {l l' : List Int} (h : ∀ x, x ∈ l ↔ x ∈ l') : risl l = risl l' := rsg_eq (risl_rsg l) (risl_rsg l') (fun x => by rw [risl_mem, risl_mem, h])
theorem risl_snoc (l : List Int) (x : Int) : risl (l ++ [x]) = insR x (risl l) := rsg_eq (risl_rsg _) (insR_rsg x _ (risl_rsg l)) (fun y => by rw [risl_mem, insR_mem, risl_mem, List.mem_append, List.mem_singleton]; exact Or.comm)
theorem risl_sub (l : List Int) (k : Int) : risl (l.map (fun x => x - k)) = (risl l).map (fun x => x - k) := by
  refine rsg_eq (risl_rsg _) ?_ (fun y => ?_)
  · have h := risl_rsg l
    unfold Rsg at h ⊢
    rw [List.pairwise_map]
    exact h.imp (fun hab => by omega)
  · rw [risl_mem, List.mem_map, List.mem_map]
    constructor
    · rintro ⟨x, hx, e⟩
      exact ⟨x, (risl_mem x l).2 hx, e⟩
    · rintro ⟨x, hx, e⟩
      exact ⟨x, (risl_mem x l).1 hx, e⟩
/-- The places of a phrase's words: each word's positions with its offset. -/
def plP (P : List (List Int × Int)) : List Int := P.flatMap (fun q => q.1.map (fun y => y - q.2))
theorem plP_mem {P : List (List Int × Int)} {b : Int} : b ∈ plP P ↔ ∃ q ∈ P, ∃ y ∈ q.1, b = y - q.2 := by
  unfold plP
  rw [List.mem_flatMap]
  constructor
  · rintro ⟨q, hq, h⟩
    obtain ⟨y, hy, e⟩ := List.mem_map.1 h
    exact ⟨q, hq, y, hy, e.symm⟩
  · rintro ⟨q, hq, y, hy, e⟩
    exact ⟨q, hq, List.mem_map.2 ⟨y, hy, e.symm⟩⟩
def okP (P : List (List Int × Int)) (sl b : Int) : Bool := P.all (fun q => q.1.any (fun y => decide (b ≤ y - q.2) && decide (y - q.2 ≤ b + sl)))
theorem okP_iff {P : List (List Int × Int)} {sl b : Int} : okP P sl b = true ↔ ∀ q ∈ P, ∃ y ∈ q.1, b ≤ y - q.2 ∧ y - q.2 ≤ b + sl := by
  unfold okP
  rw [List.all_eq_true]
  constructor
  · intro h q hq
    have := h q hq
    rw [List.any_eq_true] at this
    obtain ⟨y, hy, hd⟩ := this
    simp only [Bool.and_eq_true, decide_eq_true_eq] at hd
    exact ⟨y, hy, hd⟩
  · intro h q hq
    obtain ⟨y, hy, hd⟩ := h q hq
    rw [List.any_eq_true]
    exact ⟨y, hy, by simp only [Bool.and_eq_true, decide_eq_true_eq]; exact hd⟩
/-- How often the phrase stands. -/
def cntP (P : List (List Int × Int)) (sl : Int) : Nat := (risl (plP P)).countP (okP P sl)
theorem cntP_le (P : List (List Int × Int)) (sl : Int) : cntP P sl ≤ (risl (plP P)).length := List.countP_le_length
theorem risl_len : ∀ l, (risl l).length ≤ l.length
  | [] => Nat.le_refl _
  | x :: l => by
    have e : risl (x :: l) = insR x (risl l) := rfl
    have h := insR_cnt (fun _ => true) x (risl l) (risl_rsg l)
    rw [List.countP_true] at h
    have ih := risl_len l
    rw [e, List.length_cons]
    split at h <;> simp at h <;> omega
theorem cntP_ext {P P' : List (List Int × Int)} (h : ∀ q, q ∈ P ↔ q ∈ P') (sl : Int) : cntP P sl = cntP P' sl := by
  unfold cntP
  rw [risl_ext (l := plP P) (l' := plP P') (fun x => by
    rw [plP_mem, plP_mem]
    constructor
    · rintro ⟨q, hq, r⟩
      exact ⟨q, (h q).1 hq, r⟩
    · rintro ⟨q, hq, r⟩
      exact ⟨q, (h q).2 hq, r⟩)]
  refine congrArg (fun f => (risl (plP P')).countP f) (funext (fun b => ?_))
  rw [Bool.eq_iff_iff, okP_iff, okP_iff]
  exact ⟨fun g q hq => g q ((h q).2 hq), fun g q hq => g q ((h q).1 hq)⟩
theorem cntP_mono (P : List (List Int × Int)) {sl sl' : Int} (h : sl ≤ sl') : cntP P sl ≤ cntP P sl' := by
  unfold cntP
  refine List.countP_mono_left (fun b _ hb => ?_)
  rw [okP_iff] at hb ⊢
  intro q hq
  obtain ⟨y, hy, h1, h2⟩ := hb q hq
  exact ⟨y, hy, h1, by omega⟩
theorem cntP_moved (P : List (List Int × Int)) (k sl : Int) : cntP (P.map (fun q => (q.1, q.2 + k))) sl = cntP P sl := by
  unfold cntP
  have e : plP (P.map (fun q => (q.1, q.2 + k))) = (plP P).map (fun x => x - k) := by
    unfold plP
    rw [List.flatMap_map, List.map_flatMap]
    refine congrArg (fun f => P.flatMap f) (funext (fun q => ?_))
    rw [List.map_map]
    refine congrArg (fun f => q.1.map f) (funext (fun y => ?_))
    simp only [Function.comp]
    omega
  rw [e, risl_sub, List.countP_map]
  refine congrArg (fun f => (risl (plP P)).countP f) (funext (fun b => ?_))
  simp only [Function.comp]
  rw [Bool.eq_iff_iff, okP_iff, okP_iff]
  constructor
  · intro g q hq
    obtain ⟨y, hy, h1, h2⟩ := g (q.1, q.2 + k) (List.mem_map.2 ⟨q, hq, rfl⟩)
    exact ⟨y, hy, by simp only at h1; omega, by simp only at h2; omega⟩
  · intro g q hq
    obtain ⟨q', hq', rfl⟩ := List.mem_map.1 hq
    obtain ⟨y, hy, h1, h2⟩ := g q' hq'
    exact ⟨y, hy, by simp only; omega, by simp only; omega⟩
theorem cntP_one (l : List Int) (o sl : Int) (hs : 0 ≤ sl) : cntP [(l, o)] sl = (risl l).length := by
  unfold cntP
  have e : plP [(l, o)] = l.map (fun y => y - o) := by simp [plP]
  rw [e, risl_sub]
  have h : ((risl l).map (fun y => y - o)).countP (okP [(l, o)] sl) = ((risl l).map (fun y => y - o)).length := by
    rw [List.countP_eq_length]
    intro b hb
    obtain ⟨y, hy, rfl⟩ := List.mem_map.1 hb
    rw [okP_iff]
    intro q hq
    rw [List.mem_singleton] at hq
    subst hq
    exact ⟨y, (risl_mem y l).1 hy, Int.le_refl _, by simp only; omega⟩
  rw [h, List.length_map]
theorem cntP_laid (P : List (List Int × Int)) (k : Int) (hP : P ≠ []) (hb : ∀ q ∈ P, 0 ≤ q.2 ∧ ∀ y ∈ q.1, y < 100 + k) : cntP (P.map (fun q => (q.1 ++ [100 + k + q.2], q.2))) 0 = cntP P 0 + 1 := by
  have hlow : ∀ b ∈ plP P, b < 100 + k := by
    intro b h
    obtain ⟨q, hq, y, hy, rfl⟩ := plP_mem.1 h
    have := (hb q hq).2 y hy
    have := (hb q hq).1
    omega
  have hr : risl (plP (P.map (fun q => (q.1 ++ [100 + k + q.2], q.2)))) = insR (100 + k) (risl (plP P)) := by
    refine rsg_eq (risl_rsg _) (insR_rsg _ _ (risl_rsg _)) (fun b => ?_)
    rw [risl_mem, insR_mem, risl_mem, plP_mem, plP_mem]
    constructor
    · rintro ⟨q, hq, y, hy, rfl⟩
      obtain ⟨q', hq', rfl⟩ := List.mem_map.1 hq
      rcases List.mem_append.1 hy with h | h
      · exact .inr ⟨q', hq', y, h, rfl⟩
      · rw [List.mem_singleton] at h
        subst h
        exact .inl (by simp only; omega)
    · rintro (e | ⟨q, hq, y, hy, e⟩)
      · obtain ⟨q, hq⟩ := List.exists_mem_of_ne_nil P hP
        exact ⟨_, List.mem_map.2 ⟨q, hq, rfl⟩, 100 + k + q.2, List.mem_append.2 (.inr (List.mem_singleton.2 rfl)), by simp only; omega⟩
      · exact ⟨_, List.mem_map.2 ⟨q, hq, rfl⟩, y, List.mem_append.2 (.inl hy), e⟩
  have hok : ∀ b, b ≠ 100 + k → okP (P.map (fun q => (q.1 ++ [100 + k + q.2], q.2))) 0 b = okP P 0 b := by
    intro b hne
    rw [Bool.eq_iff_iff, okP_iff, okP_iff]
    constructor
    · intro g q hq
      obtain ⟨y, hy, h1, h2⟩ := g _ (List.mem_map.2 ⟨q, hq, rfl⟩)
      simp only at hy h1 h2
      rcases List.mem_append.1 hy with h | h
      · exact ⟨y, h, h1, h2⟩
      · rw [List.mem_singleton] at h
        omega
    · intro g q hq
      obtain ⟨q', hq', rfl⟩ := List.mem_map.1 hq
      obtain ⟨y, hy, h1, h2⟩ := g q' hq'
      exact ⟨y, List.mem_append.2 (.inl hy), h1, h2⟩
  have hnew : okP (P.map (fun q => (q.1 ++ [100 + k + q.2], q.2))) 0 (100 + k) = true := by
    rw [okP_iff]
    intro q hq
    obtain ⟨q', hq', rfl⟩ := List.mem_map.1 hq
    exact ⟨100 + k + q'.2, List.mem_append.2 (.inr (List.mem_singleton.2 rfl)), by simp only; omega, by simp only; omega⟩
  unfold cntP
  rw [hr, insR_cnt _ _ _ (risl_rsg _), if_neg (fun h => by have := hlow _ ((risl_mem _ _).1 h); omega), hnew, if_pos rfl]
  congr 1
  refine List.countP_congr (fun b hb => ?_)
  rw [hok b (fun e => by have := hlow b ((risl_mem _ _).1 hb); omega)]
/-- The numbers of a list that don't stand ahead: as far as i. -/
def unl (l : List Int) : Nat → Nat
  | 0 => 0
  | i + 1 => match l[i]? with
    | none => unl l i
    | some x => if x ∈ l.take i then unl l i else unl l i + 1
theorem unl_eq (l : List Int) : ∀ i, i ≤ l.length → unl l i = (risl (l.take i)).length
  | 0, _ => rfl
  | i + 1, h => by
    have hi : i < l.length := by omega
    have ih := unl_eq l i (by omega)
    have hc := insR_cnt (fun _ => true) l[i] (risl (l.take i)) (risl_rsg _)
    rw [List.countP_true] at hc
    rw [unl, List.getElem?_eq_getElem hi, List.take_succ_eq_append_getElem hi, risl_snoc, hc, ih]
    simp only
    by_cases hm : l[i] ∈ l.take i
    · rw [if_pos hm, if_pos ((risl_mem _ _).2 hm)]
      rfl
    · rw [if_neg hm, if_neg (fun q => hm ((risl_mem _ _).1 q))]
      rfl
theorem unl_le (l : List Int) : ∀ i, unl l i ≤ i
  | 0 => Nat.le_refl _
  | i + 1 => by
    have := unl_le l i
    rw [unl]
    cases l[i]? with
    | none => simp only; omega
    | some x => simp only; split <;> omega
theorem unl_all (l : List Int) (o sl : Int) (hs : 0 ≤ sl) : cntP [(l, o)] sl = unl l l.length := by
  rw [cntP_one l o sl hs, unl_eq l l.length (Nat.le_refl _), List.take_length]
/-- The words with their offsets. -/
def prs (L : List Il) (O : List Int) : List (List Int × Int) := (L.map (·.l)).zip O
theorem prs_mem {L : List Il} {O : List Int} (h : L.length = O.length) {q : List Int × Int} : q ∈ prs L O ↔ ∃ k, ∃ hk : k < L.length, q = (L[k].l, O[k]'(by omega)) := by
  unfold prs
  rw [List.mem_iff_getElem]
  constructor
  · rintro ⟨k, hk, rfl⟩
    have hk' : k < L.length := by rw [List.length_zip, List.length_map] at hk; omega
    exact ⟨k, hk', by rw [List.getElem_zip, List.getElem_map]⟩
  · rintro ⟨k, hk, rfl⟩
    exact ⟨k, by rw [List.length_zip, List.length_map]; omega, by rw [List.getElem_zip, List.getElem_map]⟩
theorem prs_alp {L : List Il} {O : List Int} (h : L.length = O.length) : Alp L O (risl (plP (prs L O))) := ⟨risl_rsg _, fun b => by
  rw [risl_mem, plP_mem]
  constructor
  · rintro ⟨q, hq, y, hy, rfl⟩
    obtain ⟨k, hk, rfl⟩ := (prs_mem h).1 hq
    exact ⟨k, hk, y, hy, by rw [List.getElem?_eq_getElem (by omega)]; rfl⟩
  · rintro ⟨k, hk, y, hy, rfl⟩
    exact ⟨_, (prs_mem h).2 ⟨k, hk, rfl⟩, y, hy, by rw [List.getElem?_eq_getElem (by omega)]; rfl⟩⟩
theorem prs_ok {L : List Il} {O : List Int} (h : L.length = O.length) (sl b : Int) : okw L O sl b = okP (prs L O) sl b := by
  rw [Bool.eq_iff_iff, okw_iff, okP_iff]
  constructor
  · intro g q hq
    obtain ⟨k, hk, rfl⟩ := (prs_mem h).1 hq
    obtain ⟨y, hy, h1, h2⟩ := g k hk
    rw [List.getElem?_eq_getElem (show k < O.length by omega)] at h1 h2
    exact ⟨y, hy, h1, h2⟩
  · intro g k hk
    obtain ⟨y, hy, h1, h2⟩ := g _ ((prs_mem h).2 ⟨k, hk, rfl⟩)
    rw [List.getElem?_eq_getElem (show k < O.length by omega)]
    exact ⟨y, hy, h1, h2⟩
theorem prs_cnt {L : List Il} {O : List Int} (h : L.length = O.length) (sl : Int) : (risl (plP (prs L O))).countP (okw L O sl) = cntP (prs L O) sl := congrArg (fun f => (risl (plP (prs L O))).countP f) (funext (fun b => prs_ok h sl b))
theorem prs_rev {L : List Il} {O : List Int} (h : L.length = O.length) (sl : Int) : cntP (prs L.reverse O.reverse) sl = cntP (prs L O) sl := by
  refine cntP_ext (fun q => ?_) sl
  rw [prs_mem (by rw [List.length_reverse, List.length_reverse, h]), prs_mem h]
  constructor
  · rintro ⟨k, hk, rfl⟩
    rw [List.length_reverse] at hk
    exact ⟨L.length - 1 - k, by omega, by rw [List.getElem_reverse, List.getElem_reverse]; simp only [h]⟩
  · rintro ⟨k, hk, rfl⟩
    refine ⟨L.length - 1 - k, by rw [List.length_reverse]; omega, ?_⟩
    rw [List.getElem_reverse, List.getElem_reverse]
    have e1 : L.length - 1 - (L.length - 1 - k) = k := by omega
    have e2 : O.length - 1 - (L.length - 1 - k) = k := by omega
    simp only [e1, e2]
theorem prs_moved (L : List Il) (O : List Int) (k sl : Int) : cntP (prs L (O.map (fun o => o + k))) sl = cntP (prs L O) sl := by
  have e : prs L (O.map (fun o => o + k)) = (prs L O).map (fun q => (q.1, q.2 + k)) := by
    unfold prs
    rw [List.zip_map_right]
    rfl
  rw [e, cntP_moved]
theorem prs_get {L : List Il} {O : List Int} {i : Nat} (h : i < (prs L O).length) (h1 : i < L.length) (h2 : i < O.length) : (prs L O)[i] = (L[i].l, O[i]) := by
  have e : (prs L O)[i]? = some (L[i].l, O[i]) := by
    unfold prs
    rw [List.getElem?_eq_getElem (by rw [List.length_zip, List.length_map]; omega), List.getElem_zip, List.getElem_map]
  rw [List.getElem?_eq_getElem h] at e
  exact Option.some.inj e
theorem prs_len (L : List Il) (O : List Int) (h : L.length = O.length) : (prs L O).length = L.length := by
  unfold prs
  rw [List.length_zip, List.length_map]
  omega
theorem prs_laid {L L' : List Il} {O : List Int} (k : Int) (h : L.length = O.length) (h' : L'.length = L.length) (hl : ∀ i (hi : i < L.length) (hi' : i < L'.length) (ho : i < O.length), L'[i].l = L[i].l ++ [100 + k + O[i]]) (h0 : L ≠ []) (hb : ∀ x ∈ L, ∀ y ∈ x.l, y < 100 + k) (ho : ∀ o ∈ O, 0 ≤ o) : cntP (prs L' O) 0 = cntP (prs L O) 0 + 1 := by
  have e : prs L' O = (prs L O).map (fun q => (q.1 ++ [100 + k + q.2], q.2)) := by
    apply List.ext_getElem
    · rw [List.length_map, prs_len L O h, prs_len L' O (by omega)]
      exact h'
    · intro i h1 h2
      rw [prs_len L' O (by omega)] at h1
      rw [List.getElem_map, prs_get (h1 := by omega) (h2 := by omega), prs_get (h1 := by omega) (h2 := by omega)]
      simp only
      rw [hl i (by omega) (by omega) (by omega)]
  rw [e]
  refine cntP_laid _ k (fun e0 => ?_) (fun q hq => ?_)
  · have := congrArg List.length e0
    rw [prs_len L O h, List.length_nil] at this
    have := List.length_pos_iff.2 h0
    omega
  · obtain ⟨i, hi, rfl⟩ := (prs_mem h).1 hq
    exact ⟨ho _ (List.getElem_mem _), hb _ (List.getElem_mem hi)⟩
end Go.Proofs.YtidgofpmnlddaaaGreatDoor
