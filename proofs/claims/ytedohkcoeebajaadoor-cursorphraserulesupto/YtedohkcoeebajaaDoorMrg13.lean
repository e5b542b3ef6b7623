import Derived.Test.YtedohkcoeebajaaDoorMrg10
import Derived.Test.YtedohkcoeebajaaDoorMrg6
import Derived.Test.YtedohkcoeebajaaDoorMrg5
import Derived.Test.YtedohkcoeebajaaDoorPhy
namespace Go.Proofs.YtedohkcoeebajaaDoor
open Go.ChangeShapes Go.WideShapes Go.ChangeAt Go.RowKit

/-- A number put into a rising list. -/
def insR (x : Int) : List Int → List Int
  | [] => [x]
  | y :: r => if x < y then x :: y :: r else if x = y then y :: r else y :: insR x r
theorem insR_mem (x b : Int) : ∀ l, b ∈ insR x l ↔ b = x ∨ b ∈ l
  | [] => by simp [insR]
  | y :: r => by
    rw [insR]
    by_cases h1 : x < y
    · rw [if_pos h1, List.mem_cons]
    · rw [if_neg h1]
      by_cases h2 : x = y
      · rw [if_pos h2, List.mem_cons]
        constructor
        · exact .inr
        · rintro (h | h)
          · exact .inl (h.trans h2)
          · exact h
      · rw [if_neg h2, List.mem_cons, List.mem_cons, insR_mem x b r]
        constructor
        · rintro (h | h | h)
          · exact .inr (.inl h)
          · exact .inl h
          · exact .inr (.inr h)
        · rintro (h | h | h)
          · exact .inr (.inl h)
          · exact .inl h
          · exact .inr (.inr h)
theorem insR_rsg (x : Int) : ∀ l, Rsg l → Rsg (insR x l)
  | [], _ => List.pairwise_singleton _ _
  | y :: r, h => by
    unfold Rsg at h ⊢
    rw [List.pairwise_cons] at h
    rw [insR]
    by_cases h1 : x < y
    · rw [if_pos h1, List.pairwise_cons]
      refine ⟨fun b hb => ?_, List.pairwise_cons.2 h⟩
      rcases List.mem_cons.1 hb with e | e
      · rw [e]; exact h1
      · have := h.1 b e
        omega
    · rw [if_neg h1]
      by_cases h2 : x = y
      · rw [if_pos h2]
        exact List.pairwise_cons.2 h
      · rw [if_neg h2, List.pairwise_cons]
        refine ⟨fun b hb => ?_, insR_rsg x r h.2⟩
        rcases (insR_mem x b r).1 hb with e | e
        · omega
        · exact h.1 b e
/-- What one more number adds to a count. -/
theorem insR_cnt (f : Int → Bool) (x : Int) : ∀ l, Rsg l → (insR x l).countP f = l.countP f + if x ∈ l then 0 else if f x then 1 else 0
  | [], _ => by simp [insR, List.countP_cons]
  | y :: r, h => by
    unfold Rsg at h
    rw [List.pairwise_cons] at h
    rw [insR]
    by_cases h1 : x < y
    · have hx : ¬ x ∈ y :: r := fun hm => by
        rcases List.mem_cons.1 hm with e | e
        · omega
        · have := h.1 x e
          omega
      rw [if_pos h1, if_neg hx, List.countP_cons]
    · rw [if_neg h1]
      by_cases h2 : x = y
      · rw [if_pos h2, if_pos (by rw [h2]; exact List.mem_cons_self)]
        rfl
      · have ih := insR_cnt f x r h.2
        rw [if_neg h2, List.countP_cons, List.countP_cons, ih]
        have e : (x ∈ y :: r) ↔ x ∈ r := by rw [List.mem_cons]; exact ⟨fun q => q.resolve_left h2, .inr⟩
        by_cases hm : x ∈ r
        · rw [if_pos hm, if_pos (e.2 hm)]
          rfl
        · rw [if_neg hm, if_neg (fun q => hm (e.1 q))]
          omega
/-- The unlike numbers of a list, rising. -/
def risl (l : List Int) : List Int := l.foldr insR []
theorem risl_mem (b : Int) : ∀ l, b ∈ risl l ↔ b ∈ l
  | [] => Iff.rfl
  | x :: l => by
    have e : risl (x :: l) = insR x (risl l) := rfl
    rw [e, insR_mem, risl_mem b l, List.mem_cons]
theorem risl_rsg : ∀ l, Rsg (risl l)
  | [] => List.Pairwise.nil
  | x :: l => insR_rsg x _ (risl_rsg l)
theorem risl_ext {l l' : List Int} (h : ∀ x, x ∈ l ↔ x ∈ l') : risl l = risl l' := rsg_eq (risl_rsg l) (risl_rsg l') (fun x => by rw [risl_mem, risl_mem, h])
theorem risl_snoc (l : List Int) (x : Int) : risl (l ++ [x]) = insR x (risl l) := rsg_eq (risl_rsg _) (insR_rsg x _ (risl_rsg l)) (fun y => by rw [risl_mem, insR_mem, risl_mem, List.mem_append, List.mem_singleton]; exact Or.comm)
theorem risl_sub (l : List Int) (k : Int) : risl (l.map (fun x => x - k)) = (risl l).map (fun x => x - k) := by
  refine rsg_eq (risl_rsg _) ?_ (fun y => ?_)
  · have h := risl_rsg l
    unfold Rsg at h ⊢
    rw [List.pairwise_map]
    exact h.imp (fun hab => by omega)
  · rw [risl_mem, List.mem_map, List.mem_map]
    constructor
    · rintro ⟨x, hx, e⟩
      exact ⟨x, (risl_mem x l).2 hx, e⟩
    · rintro ⟨x, hx, e⟩
      exact ⟨x, (risl_mem x l).1 hx, e⟩
/-- The places of a phrase's words: each word's positions with its offset. -/
def plP (P : List (List Int × Int)) : List Int := P.flatMap (fun q => q.1.map (fun y => y - q.2))
theorem plP_mem {P : List (List Int × Int)} {b : Int} : b ∈ plP P ↔ ∃ q ∈ P, ∃ y ∈ q.1, b = y - q.2 := by
  unfold plP
  rw [List.mem_flatMap]
  constructor
  · rintro ⟨q, hq, h⟩
    obtain ⟨y, hy, e⟩ := List.mem_map.1 h
    exact ⟨q, hq, y, hy, e.symm⟩
  · rintro ⟨q, hq, y, hy, e⟩
    exact ⟨q, hq, List.mem_map.2 ⟨y, hy, e.symm⟩⟩
def okP (P : List (List Int × Int)) (sl b : Int) : Bool := P.all (fun q => q.1.any (fun y => decide (b ≤ y - q.2) && decide (y - q.2 ≤ b + sl)))
theorem okP_iff {P : List (List Int × Int)} {sl b : Int} : okP P sl b = true ↔ ∀ q ∈ P, ∃ y ∈ q.1, b ≤ y - q.2 ∧ y - q.2 ≤ b + sl := by
  unfold okP
  rw [List.all_eq_true]
  constructor
  · intro h q hq
    have := h q hq
    rw [List.any_eq_true] at this
    obtain ⟨y, hy, hd⟩ := this
    simp only [Bool.and_eq_true, decide_eq_true_eq] at hd
    exact ⟨y, hy, hd⟩
  · intro h q hq
    obtain ⟨y, hy, hd⟩ := h q hq
    rw [List.any_eq_true]
    exact ⟨y, hy, by simp only [Bool.and_eq_true, decide_eq_true_eq]; exact hd⟩
/-- How often the phrase stands. -/
def cntP (P : List (List Int × Int)) (sl : Int) : Nat := (risl (plP P)).countP (okP P sl)
theorem cntP_le (P : List (List Int × Int)) (sl : Int) : cntP P sl ≤ (risl (plP P)).length := List.countP_le_length
theorem risl_len : ∀ l, (risl l).length ≤ l.length
  | [] => Nat.le_refl _
  | x :: l => by
    have e : risl (x :: l) = insR x (risl l) := rfl
    have h := insR_cnt (fun _ => true) x (risl l) (risl_rsg l)
    rw [List.countP_true] at h
    have ih := risl_len l
    rw [e, List.length_cons]
    split at h <;> simp at h <;> omega
theorem cntP_ext {P P' : List (List Int × Int)} (h : ∀ q, q ∈ P ↔ q ∈ P') (sl : Int) : cntP P sl = cntP P' sl := by
  unfold cntP
  rw [risl_ext (l := plP P) (l' := plP P') (fun x => by
    rw [plP_mem, plP_mem]
    constructor
    · rintro ⟨q, hq, r⟩
      exact ⟨q, (h q).1 hq, r⟩
    · rintro ⟨q, hq, r⟩
      exact ⟨q, (h q).2 hq, r⟩)]
  refine congrArg (fun f => (risl (plP P')).countP f) (funext (fun b => ?_))
  rw [Bool.eq_iff_iff, okP_iff, okP_iff]
  exact ⟨fun g q hq => g q ((h q).2 hq), fun g q hq => g q ((h q).1 hq)⟩
theorem cntP_mono (P : List (List Int × Int)) {sl sl' : Int} (h : sl ≤ sl') : cntP P sl ≤ cntP P sl' := by
  unfold cntP
  refine List.countP_mono_left (fun b _ hb => ?_)
  rw [okP_iff] at hb ⊢
  intro q hq
  obtain ⟨y, hy, h1, h2⟩ := hb q hq
  exact ⟨y, hy, h1, by omega⟩
theorem cntP_moved (P : List (List Int × Int)) (k sl : Int) : cntP (P.map (fun q => (q.1, q.2 + k))) sl = cntP P sl := by
  unfold cntP
  have e : plP (P.map (fun q => (q.1, q.2 + k))) = (plP P).map (fun x => x - k) := by
    unfold plP
    rw [List.flatMap_map, List.map_flatMap]
    refine congrArg (fun f => P.flatMap f) (funext (fun q => ?_))
    rw [List.map_map]
    refine congrArg (fun f => q.1.map f) (funext (fun y => ?_))
    simp only [Function.comp]
    omega
  rw [e, risl_sub, List.countP_map]
  refine congrArg (fun f => (risl (plP P)).countP f) (funext (fun b => ?_))
  simp only [Function.comp]
  rw [Bool.eq_iff_iff, okP_iff, okP_iff]
  constructor
  · intro g q hq
    obtain ⟨y, hy, h1, h2⟩ := g (q.1, q.2 + k) (List.mem_map.2 ⟨q, hq, rfl⟩)
    exact ⟨y, hy, by simp only at h1; omega, by simp only at h2; omega⟩
  · intro g q hq
    obtain ⟨q', hq', rfl⟩ := List.mem_map.1 hq
    obtain ⟨y, hy, h1, h2⟩ := g q' hq'
    exact ⟨y, hy, by simp only; omega, by simp only; omega⟩
theorem cntP_one (l : List Int) (o sl : Int) (hs : 0 ≤ sl) : cntP [(l, o)] sl = (risl l).length := by
  unfold cntP
  have e : plP [(l, o)] = l.map (fun y => y - o) := by simp [plP]
  rw [e, risl_sub]
  have h : ((risl l).map (fun y => y - o)).countP (okP [(l, o)] sl) = ((risl l).map (fun y => y - o)).length := by
    rw [List.countP_eq_length]
    intro b hb
    obtain ⟨y, hy, rfl⟩ := List.mem_map.1 hb
    rw [okP_iff]
    intro q hq
    rw [List.mem_singleton] at hq
    subst hq
    exact ⟨y, (risl_mem y l).1 hy, Int.le_refl _, by simp only; omega⟩
  rw [h, List.length_map]
theorem cntP_laid (P : List (List Int × Int)) (k : Int) (hP : P ≠ []) (hb : ∀ q ∈ P, 0 ≤ q.2 ∧ ∀ y ∈ q.1, y < 100 + k) : cntP (P.map (fun q => (q.1 ++ [100 + k + q.2], q.2))) 0 = cntP P 0 + 1 := by
  have hlow : ∀ b ∈ plP P, b < 100 + k := by
    intro b h
    obtain ⟨q, hq, y, hy, rfl⟩ := plP_mem.1 h
    have := (hb q hq).2 y hy
    have := (hb q hq).1
    omega
  have hr : risl (plP (P.map (fun q => (q.1 ++ [100 + k + q.2], q.2)))) = insR (100 + k) (risl (plP P)) := by
    refine rsg_eq (risl_rsg _) (insR_rsg _ _ (risl_rsg _)) (fun b => ?_)
    rw [risl_mem, insR_mem, risl_mem, plP_mem, plP_mem]
    constructor
    · rintro ⟨q, hq, y, hy, rfl⟩
      obtain ⟨q', hq', rfl⟩ := List.mem_map.1 hq
      rcases List.mem_append.1 hy with h | h
      · exact .inr ⟨q', hq', y, h, rfl⟩
      · rw [List.mem_singleton] at h
        subst h
        exact .inl (by simp only; omega)
    · rintro (e | ⟨q, hq, y, hy, e⟩)
      · obtain ⟨q, hq⟩ := List.exists_mem_of_ne_nil P hP
        exact ⟨_, List.mem_map.2 ⟨q, hq, rfl⟩, 100 + k + q.2, List.mem_append.2 (.inr (List.mem_singleton.2 rfl)), by simp only; omega⟩
      · exact ⟨_, List.mem_map.2 ⟨q, hq, rfl⟩, y, List.mem_append.2 (.inl hy), e⟩
  have hok : ∀ b, b ≠ 100 + k → okP (P.map (fun q => (q.1 ++ [100 + k + q.2], q.2))) 0 b = okP P 0 b := by
    intro b hne
    rw [Bool.eq_iff_iff, okP_iff, okP_iff]
    constructor
    · intro g q hq
      obtain ⟨y, hy, h1, h2⟩ := g _ (List.mem_map.2 ⟨q, hq, rfl⟩)
      simp only at hy h1 h2
      rcases List.mem_append.1 hy with h | h
      · exact ⟨y, h, h1, h2⟩
      · rw [List.mem_singleton] at h
        omega
    · intro g q hq
      obtain ⟨q', hq', rfl⟩ := List.mem_map.1 hq
      obtain ⟨y, hy, h1, h2⟩ := g q' hq'
      exact ⟨y, List.mem_append.2 (.inl hy), h1, h2⟩
  have hnew : okP (P.map (fun q => (q.1 ++ [100 + k + q.2], q.2))) 0 (100 + k) = true := by
    rw [okP_iff]
    intro q hq
    obtain ⟨q', hq', rfl⟩ := List.mem_map.1 hq
    exact ⟨100 + k + q'.2, List.mem_append.2 (.inr (List.mem_singleton.2 rfl)), by simp only; omega, by simp only; omega⟩
  unfold cntP
  rw [hr, insR_cnt _ _ _ (risl_rsg _), if_neg (fun h => by have := hlow _ ((risl_mem _ _).1 h); omega), hnew, if_pos rfl]
  congr 1
  refine List.countP_congr (fun b hb => ?_)
  rw [hok b (fun e => by have := hlow b ((risl_mem _ _).1 hb); omega)]
/-- The numbers of a list that don't stand ahead: as far as i. -/
def unl (l : List Int) : Nat → Nat
  | 0 => 0
  | i + 1 => match l[i]? with
    | none => unl l i
    | some x => if x ∈ l.take i then unl l i else unl l i + 1
theorem unl_eq (l : List Int) : ∀ i, i ≤ l.length → unl l i = (risl (l.take i)).length
  | 0, _ => rfl
  | i + 1, h => by
    have hi : i < l.length := by omega
    have ih := unl_eq l i (by omega)
    have hc := insR_cnt (fun _ => true) l[i] (risl (l.take i)) (risl_rsg _)
    rw [List.countP_true] at hc
    rw [unl, List.getElem?_eq_getElem hi, List.take_succ_eq_append_getElem hi, risl_snoc, hc, ih]
    simp only
    by_cases hm : l[i] ∈ l.take i
    · rw [if_pos hm, if_pos ((risl_mem _ _).2 hm)]
      rfl
    · rw [if_neg hm, if_neg (fun q => hm ((risl_mem _ _).1 q))]
      rfl
theorem unl_le (l : List Int) : ∀ i, unl l i ≤ i
  | 0 => Nat.le_refl _
  | i + 1 => by
    have := unl_le l i
    rw [unl]
    cases l[i]? with
    | none => simp only; omega
    | some x => simp only; split <;> omega
theorem unl_all (l : List Int) (o sl : Int) (hs : 0 ≤ sl) : cntP [(l, o)] sl = unl l l.length := by
  rw [cntP_one l o sl hs, unl_eq l l.length (Nat.le_refl _), List.take_length]
/-- The words with their offsets. -/
def prs (L : List Il) (O : List Int) : List (List Int × Int) := (L.map (·.l)).zip O
theorem prs_mem {L : List Il} {O : List Int} (h : L.length = O.length) {q : List Int × Int} : q ∈ prs L O ↔ ∃ k, ∃ hk : k < L.length, q = (L[k].l, O[k]'(by omega)) := by
  unfold prs
  rw [List.mem_iff_getElem]
  constructor
  · rintro ⟨k, hk, rfl⟩
    have hk' : k < L.length := by rw [List.length_zip, List.length_map] at hk; omega
    exact ⟨k, hk', by rw [List.getElem_zip, List.getElem_map]⟩
  · rintro ⟨k, hk, rfl⟩
    exact ⟨k, by rw [List.length_zip, List.length_map]; omega, by rw [List.getElem_zip, List.getElem_map]⟩
theorem prs_alp {L : List Il} {O : List Int} (h : L.length = O.length) : Alp L O (risl (plP (prs L O))) := ⟨risl_rsg _, fun b => by
  rw [risl_mem, plP_mem]
  constructor
  · rintro ⟨q, hq, y, hy, rfl⟩
    obtain ⟨k, hk, rfl⟩ := (prs_mem h).1 hq
    exact ⟨k, hk, y, hy, by rw [List.getElem?_eq_getElem (by omega)]; rfl⟩
  · rintro ⟨k, hk, y, hy, rfl⟩
    exact ⟨_, (prs_mem h).2 ⟨k, hk, rfl⟩, y, hy, by rw [List.getElem?_eq_getElem (by omega)]; rfl⟩⟩
theorem prs_ok {L : List Il} {O : List Int} (h : L.length = O.length) (sl b : Int) : okw L O sl b = okP (prs L O) sl b := by
  rw [Bool.eq_iff_iff, okw_iff, okP_iff]
  constructor
  · intro g q hq
    obtain ⟨k, hk, rfl⟩ := (prs_mem h).1 hq
    obtain ⟨y, hy, h1, h2⟩ := g k hk
    rw [List.getElem?_eq_getElem (show k < O.length by omega)] at h1 h2
    exact ⟨y, hy, h1, h2⟩
  · intro g k hk
    obtain ⟨y, hy, h1, h2⟩ := g _ ((prs_mem h).2 ⟨k, hk, rfl⟩)
    rw [List.getElem?_eq_getElem (show k < O.length by omega)]
    exact ⟨y, hy, h1, h2⟩
theorem prs_cnt {L : List Il} {O : List Int} (h : L.length = O.length) (sl : Int) : (risl (plP (prs L O))).countP (okw L O sl) = cntP (prs L O) sl := congrArg (fun f => (risl (plP (prs L O))).countP f) (funext (fun b => prs_ok h sl b))
theorem prs_rev {L : List Il} {O : List Int} (h : L.length = O.length) (sl : Int) : cntP (prs L.reverse O.reverse) sl = cntP (prs L O) sl := by
  refine cntP_ext (fun q => ?_) sl
  rw [prs_mem (by rw [List.length_reverse, List.length_reverse, h]), prs_mem h]
  constructor
  · rintro ⟨k, hk, rfl⟩
    rw [List.length_reverse] at hk
    exact ⟨L.length - 1 - k, by omega, by rw [List.getElem_reverse, List.getElem_reverse]; simp only [h]⟩
  · rintro ⟨k, hk, rfl⟩
    refine ⟨L.length - 1 - k, by rw [List.length_reverse]; omega, ?_⟩
    rw [List.getElem_reverse, List.getElem_reverse]
    have e1 : L.length - 1 - (L.length - 1 - k) = k := by omega
    have e2 : O.length - 1 - (L.length - 1 - k) = k := by omega
    simp only [e1, e2]
theorem prs_moved (L : List Il) (O : List Int) (k sl : Int) : cntP (prs L (O.map (fun o => o + k))) sl = cntP (prs L O) sl := by
  have e : prs L (O.map (fun o => o + k)) = (prs L O).map (fun q => (q.1, q.2 + k)) := by
    unfold prs
    rw [List.zip_map_right]
    rfl
  rw [e, cntP_moved]
theorem prs_get {L : List Il} {O : List Int} {i : Nat} (h : i < (prs L O).length) (h1 : i < L.length) (h2 : i < O.length) : (prs L O)[i] = (L[i].l, O[i]) := by
  have e : (prs L O)[i]? = some (L[i].l, O[i]) := by
    unfold prs
    rw [List.getElem?_eq_getElem (by rw [List.length_zip, List.length_map]; omega), List.getElem_zip, List.getElem_map]
  rw [List.getElem?_eq_getElem h] at e
  exact Option.some.inj e
theorem prs_len (L : List Il) (O : List Int) (h : L.length = O.length) : (prs L O).length = L.length := by
  unfold prs
  rw [List.length_zip, List.length_map]
  omega
theorem prs_laid {L L' : List Il} {O : List Int} (k : Int) (h : L.length = O.length) (h' : L'.length = L.length) (hl : ∀ i (hi : i < L.length) (hi' : i < L'.length) (ho : i < O.length), L'[i].l = L[i].l ++ [100 + k + O[i]]) (h0 : L ≠ []) (hb : ∀ x ∈ L, ∀ y ∈ x.l, y < 100 + k) (ho : ∀ o ∈ O, 0 ≤ o) : cntP (prs L' O) 0 = cntP (prs L O) 0 + 1 := by
  have e : prs L' O = (prs L O).map (fun q => (q.1 ++ [100 + k + q.2], q.2)) := by
    apply List.ext_getElem
    · rw [List.length_map, prs_len L O h, prs_len L' O (by omega)]
      exact h'
    · intro i h1 h2
      rw [prs_len L' O (by omega)] at h1
      rw [List.getElem_map, prs_get (h1 := by omega) (h2 := by omega), prs_get (h1 := by omega) (h2 := by omega)]
      simp only
      rw [hl i (by omega) (by omega) (by omega)]
  rw [e]
  refine cntP_laid _ k (fun e0 => ?_) (fun q hq => ?_)
  · have := congrArg List.length e0
    rw [prs_len L O h, List.length_nil] at this
    have := List.length_pos_iff.2 h0
    omega
  · obtain ⟨i, hi, rfl⟩ := (prs_mem h).1 hq
    exact ⟨ho _ (List.getElem_mem _), hb _ (List.getElem_mem hi)⟩
end Go.Proofs.YtedohkcoeebajaaDoor

namespace Go.Proofs.YtedohkcoeebajaaDoor
open Go.ChangeShapes Go.WideShapes Go.ChangeAt Go.RowKit

/-- The number of an int brought into 0 .. m - 1. -/
def brt (m : Int) (x : Int) : Int := IntKind.u64.wrap x % m
theorem brt_lo {m : Int} (h : 0 < m) (x : Int) : 0 ≤ brt m x := Int.emod_nonneg _ (by omega)
theorem brt_hi {m : Int} (h : 0 < m) (x : Int) : brt m x < m := Int.emod_lt_of_pos _ h
def posl (g : Int) (n : Nat) : List Int := (List.range n).map (fun k : Nat => 7 * (k : Int) + g)
theorem posl_step (g : Int) (n : Nat) : posl g (n + 1) = posl g n ++ [7 * (n : Int) + g] := by unfold posl; rw [List.range_succ, List.map_append]; rfl
theorem posl_len (g : Int) (n : Nat) : (posl g n).length = n := by simp [posl]
/-- The document behind k gaps. -/
def dcl (G : List Int) : Nat → Int
  | 0 => -1
  | k + 1 => dcl G k + (1 + G[k]?.getD 0)
def nfr (F : List Int) (k : Nat) : Nat := match F[k]? with | some x => 1 + (brt 5 x).toNat | none => 1
theorem nfr_pos (F : List Int) (k : Nat) : 1 ≤ nfr F k ∧ nfr F k ≤ 5 := by
  unfold nfr
  split
  · rename_i x _
    have := brt_lo (m := 5) (by decide) x
    have := brt_hi (m := 5) (by decide) x
    omega
  · omega
def scl (G F : List Int) : Nat → List Po
  | 0 => []
  | k + 1 => scl G F k ++ [⟨dcl G (k + 1), posl (G[k]?.getD 0) (nfr F k)⟩]
theorem scl_len (G F : List Int) : ∀ k, (scl G F k).length = k
  | 0 => rfl
  | k + 1 => by rw [scl, List.length_append, scl_len G F k]; rfl
theorem scl_last (G F : List Int) : ∀ k, lastd (-1) (scl G F k) = dcl G k
  | 0 => rfl
  | k + 1 => by rw [scl, lastd_append]; rfl
def In40 (G : List Int) : Prop := ∀ x ∈ G, 0 ≤ x ∧ x ≤ 40
theorem In40.at {G : List Int} (h : In40 G) (k : Nat) : 0 ≤ G[k]?.getD 0 ∧ G[k]?.getD 0 ≤ 40 := by
  rcases Nat.lt_or_ge k G.length with q | q
  · rw [List.getElem?_eq_getElem q]; exact h _ (List.getElem_mem q)
  · rw [List.getElem?_eq_none q]; simp
theorem dcl_le {G : List Int} (h : In40 G) : ∀ k : Nat, -1 ≤ dcl G k ∧ dcl G k ≤ 41 * (k : Int) - 1
  | 0 => by simp [dcl]
  | k + 1 => by
    have h1 := dcl_le h k
    have h2 := h.at k
    rw [dcl]
    omega
theorem ris_posl (g : Int) (hg : 0 ≤ g ∧ g ≤ 40) : ∀ n, n ≤ 5 → Ris (posl g n) 0 := by
  intro n hn
  have : n = 0 ∨ n = 1 ∨ n = 2 ∨ n = 3 ∨ n = 4 ∨ n = 5 := by omega
  rcases this with rfl | rfl | rfl | rfl | rfl | rfl <;> simp [posl, List.range, List.range.loop, Ris] <;> omega
theorem scl_good {G F : List Int} (h : In40 G) : ∀ k : Nat, k ≤ 1048576 → gdl (-1) (scl G F k)
  | 0, _ => trivial
  | k + 1, hk => by
    rw [scl, gdl_append]
    refine ⟨scl_good h k (by omega), ?_, trivial⟩
    rw [scl_last]
    have h1 := dcl_le h k
    have h2 := h.at k
    have h3 := nfr_pos F k
    refine ⟨?_, ?_, ?_, ?_, ris_posl _ h2 _ h3.2⟩
    · simp only [dcl]; omega
    · simp only [dcl]; omega
    · simp only [dcl]; omega
    · intro e
      have := congrArg List.length e
      rw [posl_len] at this
      simp at this
      omega
theorem scl_tot (G F : List Int) : ∀ k, tot (scl G F k) ≤ 5 * k
  | 0 => Nat.le_refl _
  | k + 1 => by
    have h1 := scl_tot G F k
    have h3 := nfr_pos F k
    rw [scl, tot_append]
    simp only [tot, posl_len]
    omega
theorem img_leS {L : List Po} (hg : gdl (-1) L) (hl : L.length ≤ 1048576) (ht : tot L ≤ 5242880) : (img L).length ≤ 1073741824 := by
  have h1 := bkb_le (m := nbp L.length) hg (by omega) (by omega)
  have u1 := uvb_le10P L.length (by omega)
  have u2 := uvb_le10P (tot L) (by omega)
  have hn : nbp L.length ≤ 65537 := by unfold nbp; omega
  unfold img
  rw [List.length_append, List.length_append, List.length_append]
  omega
/-- The moves stay below the bound. -/
def Bnd (P : List Po) (u mv : Nat) (ask : Bool) : Prop := mv ≤ 2 * u - 1 + tot (P.take (u - 1)) + (if ask then (posU P u).length else 0)
theorem tot_pos (P : List Po) : ∀ u, tot (P.take (u - 1)) + (posU P u).length ≤ tot (P.take u)
  | 0 => by simp [posU]
  | u + 1 => by
    rw [Nat.add_sub_cancel]
    rcases Nat.lt_or_ge u P.length with q | q
    · rw [List.take_succ_eq_append_getElem q, tot_append]
      simp [posU, List.getElem?_eq_getElem q, tot]
    · simp only [posU, List.getElem?_eq_none q, List.length_nil, Nat.add_zero]
      rw [List.take_of_length_le q, List.take_of_length_le (by omega)]
      exact Nat.le_refl _
theorem tot_take_mono (P : List Po) {i j : Nat} (h : i ≤ j) : tot (P.take i) ≤ tot (P.take j) := by
  have := tot_append ((P.take j).take i) ((P.take j).drop i)
  rw [List.take_append_drop, List.take_take, Nat.min_eq_left h] at this
  omega
theorem Bnd.ask_le {P : List Po} {u mv : Nat} {ask : Bool} (h : Bnd P u mv ask) : mv ≤ 2 * u - 1 + tot (P.take u) := by
  have := tot_pos P u
  unfold Bnd at h
  cases ask <;> simp at h <;> omega
theorem mvU_two {n u q : Nat} (hu : u ≤ q) : mvU n u q + 1 ≤ 2 * (q + 1 - u) := by
  unfold mvU nbp
  split
  · omega
  split
  · omega
  split <;> omega
theorem Bnd.adv {P : List Po} {u mv q : Nat} {ask : Bool} (h : Bnd P u mv ask) (hu : u ≤ q) : Bnd P (q + 1) (mv + mvU P.length u q) false := by
  have h1 := h.ask_le
  have h2 := mvU_two (n := P.length) hu
  have h3 := tot_take_mono P hu
  unfold Bnd
  simp only [Nat.add_sub_cancel, Bool.false_eq_true, if_false]
  omega
theorem Bnd.pos {P : List Po} {u mv : Nat} (h : Bnd P u mv false) : Bnd P u (mv + (posU P u).length) true := by
  unfold Bnd at h ⊢
  simp at h ⊢
  omega
theorem Bnd.all {P : List Po} {u mv : Nat} {ask : Bool} (h : Bnd P u mv ask) (hu : u ≤ P.length + 1) : mv ≤ 2 * P.length + 1 + tot P := by
  have h1 := h.ask_le
  have h2 := tot_take_le P u
  omega
end Go.Proofs.YtedohkcoeebajaaDoor

namespace Go.Proofs.YtedohkcoeebajaaDoor
open Go.ChangeShapes Go.WideShapes Go.ChangeAt Go.RowKit

theorem brt_eq2 (m x : Int) : x % 18446744073709551616 % m = brt m x := by unfold brt; rw [IntKind.wrap_u64]
theorem Gro.room {w0 w : World} {e : TypeId} {sz c n : Nat} {a : Option Addr} {xs : List Value} (h : Gro w0 w e sz (.slice a n c) n xs) : n ≤ c := by
  rcases h.own.2 with ⟨e1, e2⟩ | ⟨g, cap, cur, e1, hg, hh, hnc, _⟩
  · omega
  · injection e1 with e3 e4 e5
    omega
/-- What the law's 'ints' leaves: as many numbers, each below m, in new memory. -/
def inPost (W : World) (m : Int) (n : Nat) (e : Ending) (w' : World) : Prop := ∃ (a' : Option Addr) (c' : Nat) (R : List Int), e = .returned (.slice a' n c') ∧ IntsAt w' a' R ∧ R.length = n ∧ (∀ y ∈ R, 0 ≤ y ∧ y < m) ∧ n ≤ c' ∧ Newa W a' ∧ Kept (fun _ => False) W w'
set_option maxRecDepth 20000 in
set_option maxHeartbeats 4000000 in
theorem ints60_any (l : List Int) (a : Option Addr) (c : Nat) (W : World) (h : IntsAt W a l) (hl : l.length ≤ 1048576) :
    Calls Tryd.prog 8 #[.slice a l.length c, .int .i64 60] W (inPost W 61 l.length) := by
  have HA := hideP h
  obtain ⟨n, hn⟩ : ∃ n, n = l.length := ⟨_, rfl⟩
  have HN := hideP hn
  rw [← hn] at hl ⊢
  clear h hn
  go_enter Tryd.func8, Tryd.ntmps8
  go_wp2
  go_loopw [5, 10] (fun s5 s10 wr => ∃ (k : Nat) (sa : Option Addr) (sc : Nat), k ≤ n ∧ s10 = .int .i64 k ∧ s5 = .slice sa k sc ∧ Hid (Gro W wr 3 1 (.slice sa k sc) k (is ((l.take k).map (brt 61))))) (fun _ s10 _ => n - (intOf s10).toNat)
  case atStart => exact ⟨0, none, 0, by omega, rfl, rfl, hideP (gro_nil W _ _)⟩
  case round =>
    obtain ⟨k, sa, sc, hk, rfl, rfl, HG⟩ := hrel
    by_cases hlt : k < n
    · have hkl : k < l.length := by rw [← HN.out]; exact hlt
      obtain ⟨b, off, rfl, hc⟩ := HA.out (by intro e; rw [e] at hkl; simp at hkl)
      have y0 := HG.out.kept.cell (hc k hkl) (fun f => f)
      have HST : Hid ((l.take (k + 1)).map (brt 61) = (l.take k).map (brt 61) ++ [brt 61 (l[k]?.getD 0)]) := hideP (by rw [List.take_succ_eq_append_getElem hkl, List.map_append, List.getElem?_eq_getElem hkl]; rfl)
      obtain ⟨x, hx⟩ : ∃ x, x = l[k]?.getD 0 := ⟨_, rfl⟩
      rw [← hx] at y0 HST
      obtain ⟨B, hB⟩ : ∃ B, B = brt 61 x := ⟨_, rfl⟩
      have b1 := brt_lo (m := 61) (by decide) x
      have b2 := brt_hi (m := 61) (by decide) x
      have e1 : x % 18446744073709551616 % 61 = B := by rw [hB]; exact brt_eq2 61 x
      have e2 : (x % 18446744073709551616).tmod 61 = B := by rw [Int.tmod_eq_emod_of_nonneg (by omega)]; exact e1
      have e3 : (IntKind.u64.wrap x).tmod 61 = B := by rw [IntKind.wrap_u64]; exact e2
      rw [← hB] at b1 b2 HST
      have hkk : (k : Int) < (n : Int) := by omega
      clear hc hx hB
      go_wp2_with (at_builtin; refine StpQ.go ?_)
      refine ⟨?_⟩
      refine wpList_pushN rfl (.tmp 14) (.tmp 22) rfl (.slice sa k sc) k ((l.take k).map (brt 61)) B (by rfl) HG wr.heap.size rfl (by rfl) (by omega) ?_
      intro g c' W5 HG5 _
      rw [← HST.out] at HG5
      go_wp2
      go_roundw
      case rel => exact ⟨k + 1, _, c', by omega, by go_num, rfl, HG5⟩
      case measure => simp [intOf]; omega
    · obtain rfl : k = n := by omega
      have h2 := HG.out
      rw [List.take_of_length_le (by rw [HN.out]; exact Nat.le_refl _)] at h2
      obtain ⟨a9, c9, e9, hI9⟩ := gro_intsU h2 (by rw [List.length_map, HN.out])
      injection e9 with e9 e8 e7
      subst e9 e7
      have HI := hideP hI9
      have HNW := hideP h2.newa
      have HRM := hideP h2.room
      clear hI9 h2
      go_wp2
      go_ret
      exact ⟨sa, sc, l.map (brt 61), rfl, HI.out, by rw [List.length_map, HN.out], fun y hy => by
        obtain ⟨x, _, rfl⟩ := List.mem_map.1 hy
        exact ⟨brt_lo (by decide) x, brt_hi (by decide) x⟩, HRM.out, HNW.out, HG.out.kept⟩
set_option maxRecDepth 20000 in
set_option maxHeartbeats 4000000 in
theorem ints9_any (l : List Int) (a : Option Addr) (c : Nat) (W : World) (h : IntsAt W a l) (hl : l.length ≤ 1048576) :
    Calls Tryd.prog 8 #[.slice a l.length c, .int .i64 9] W (inPost W 10 l.length) := by
  have HA := hideP h
  obtain ⟨n, hn⟩ : ∃ n, n = l.length := ⟨_, rfl⟩
  have HN := hideP hn
  rw [← hn] at hl ⊢
  clear h hn
  go_enter Tryd.func8, Tryd.ntmps8
  go_wp2
  go_loopw [5, 10] (fun s5 s10 wr => ∃ (k : Nat) (sa : Option Addr) (sc : Nat), k ≤ n ∧ s10 = .int .i64 k ∧ s5 = .slice sa k sc ∧ Hid (Gro W wr 3 1 (.slice sa k sc) k (is ((l.take k).map (brt 10))))) (fun _ s10 _ => n - (intOf s10).toNat)
  case atStart => exact ⟨0, none, 0, by omega, rfl, rfl, hideP (gro_nil W _ _)⟩
  case round =>
    obtain ⟨k, sa, sc, hk, rfl, rfl, HG⟩ := hrel
    by_cases hlt : k < n
    · have hkl : k < l.length := by rw [← HN.out]; exact hlt
      obtain ⟨b, off, rfl, hc⟩ := HA.out (by intro e; rw [e] at hkl; simp at hkl)
      have y0 := HG.out.kept.cell (hc k hkl) (fun f => f)
      have HST : Hid ((l.take (k + 1)).map (brt 10) = (l.take k).map (brt 10) ++ [brt 10 (l[k]?.getD 0)]) := hideP (by rw [List.take_succ_eq_append_getElem hkl, List.map_append, List.getElem?_eq_getElem hkl]; rfl)
      obtain ⟨x, hx⟩ : ∃ x, x = l[k]?.getD 0 := ⟨_, rfl⟩
      rw [← hx] at y0 HST
      obtain ⟨B, hB⟩ : ∃ B, B = brt 10 x := ⟨_, rfl⟩
      have b1 := brt_lo (m := 10) (by decide) x
      have b2 := brt_hi (m := 10) (by decide) x
      have e1 : x % 18446744073709551616 % 10 = B := by rw [hB]; exact brt_eq2 10 x
      have e2 : (x % 18446744073709551616).tmod 10 = B := by rw [Int.tmod_eq_emod_of_nonneg (by omega)]; exact e1
      have e3 : (IntKind.u64.wrap x).tmod 10 = B := by rw [IntKind.wrap_u64]; exact e2
      rw [← hB] at b1 b2 HST
      have hkk : (k : Int) < (n : Int) := by omega
      clear hc hx hB
      go_wp2_with (at_builtin; refine StpQ.go ?_)
      refine ⟨?_⟩
      refine wpList_pushN rfl (.tmp 14) (.tmp 22) rfl (.slice sa k sc) k ((l.take k).map (brt 10)) B (by rfl) HG wr.heap.size rfl (by rfl) (by omega) ?_
      intro g c' W5 HG5 _
      rw [← HST.out] at HG5
      go_wp2
      go_roundw
      case rel => exact ⟨k + 1, _, c', by omega, by go_num, rfl, HG5⟩
      case measure => simp [intOf]; omega
    · obtain rfl : k = n := by omega
      have h2 := HG.out
      rw [List.take_of_length_le (by rw [HN.out]; exact Nat.le_refl _)] at h2
      obtain ⟨a9, c9, e9, hI9⟩ := gro_intsU h2 (by rw [List.length_map, HN.out])
      injection e9 with e9 e8 e7
      subst e9 e7
      have HI := hideP hI9
      have HNW := hideP h2.newa
      have HRM := hideP h2.room
      clear hI9 h2
      go_wp2
      go_ret
      exact ⟨sa, sc, l.map (brt 10), rfl, HI.out, by rw [List.length_map, HN.out], fun y hy => by
        obtain ⟨x, _, rfl⟩ := List.mem_map.1 hy
        exact ⟨brt_lo (by decide) x, brt_hi (by decide) x⟩, HRM.out, HNW.out, HG.out.kept⟩
theorem spk_bnd {L : List Il} {O : List Int} {B : Nat} (h : ∀ x ∈ L, x.l.length ≤ B) : ∀ k, (spk L O k).length ≤ k * B
  | 0 => by simp [spk]
  | k + 1 => by
    have ih := spk_bnd (O := O) h k
    rw [spk, List.length_append, spw, List.length_map, Nat.succ_mul]
    rcases Nat.lt_or_ge k L.length with q | q
    · rw [List.getElem?_eq_getElem q]
      have := h _ (List.getElem_mem q)
      simp only
      omega
    · rw [List.getElem?_eq_none q]
      simp only [List.length_nil]
      omega
theorem plP_bnd {B : Nat} : ∀ {P : List (List Int × Int)}, (∀ q ∈ P, q.1.length ≤ B) → (plP P).length ≤ P.length * B
  | [], _ => by simp [plP]
  | q :: P, h => by
    have ih := plP_bnd (P := P) (fun r hr => h r (List.mem_cons_of_mem _ hr))
    have h1 := h q List.mem_cons_self
    have e : plP (q :: P) = q.1.map (fun y => y - q.2) ++ plP P := by unfold plP; rw [List.flatMap_cons]
    rw [e, List.length_append, List.length_map, List.length_cons, Nat.succ_mul]
    omega
theorem cntP_bnd {L : List Il} {O : List Int} (h : L.length = O.length) (hl : L.length ≤ 1048576) (hx : ∀ x ∈ L, x.l.length ≤ 1048576) (sl : Int) : cntP (prs L O) sl ≤ 1099511627776 := by
  have h1 := cntP_le (prs L O) sl
  have h2 := risl_len (plP (prs L O))
  have h3 := plP_bnd (B := 1048576) (P := prs L O) (fun q hq => by
    obtain ⟨k, hk, rfl⟩ := (prs_mem h).1 hq
    exact hx _ (List.getElem_mem hk))
  rw [prs_len L O h] at h3
  have : L.length * 1048576 ≤ 1048576 * 1048576 := Nat.mul_le_mul_right _ hl
  omega
/-- PhraseFreq of words within their limits. -/
theorem pf_cnt (L : List Il) (O : List Int) (a oa : Option Addr) (c oc n : Nat) (sl : Int) (V : World) (hL : LiAt V a L) (hO : IntsAt V oa O) (hn : L.length = n) (hm : O.length = n) (hll : n ≤ 1048576) (hlx : ∀ x ∈ L, x.l.length ≤ 1048576 ∧ ∀ y ∈ x.l, 0 ≤ y ∧ y ≤ 1000) (hox : ∀ o ∈ O, 0 ≤ o ∧ o ≤ 1000) (hs : 0 ≤ sl ∧ sl ≤ 1000) :
    Calls Tryd.prog 6 #[.slice a n c, .slice oa n oc, .int .i64 sl] V fun e w' => e = .returned (.int .i64 (cntP (prs L O) sl : Nat)) ∧ Kept (fun _ => False) V w' := by
  have hlo : L.length = O.length := by omega
  have hx1 : ∀ x ∈ L, x.l.length ≤ 1048576 := fun x hx => (hlx x hx).1
  have hg : gdp L O sl := ⟨hlo, by omega, fun o ho => by have := hox o ho; omega, fun x hx y hy => by have := (hlx x hx).2 y hy; omega⟩
  have h := phraseFreq_any L O a oa c oc sl V hL hO (by omega) (by omega) hx1 (fun k hk => by
    have h1 := spk_bnd (O := O) hx1 k
    have : k * 1048576 ≤ 1048576 * 1048576 := Nat.mul_le_mul_right _ (by omega)
    omega)
  rw [hn, hm] at h
  refine h.mono ?_
  rintro e w' ⟨x, rfl, hk, -, hc⟩
  have e9 := hc hg _ (prs_alp hlo)
  rw [prs_cnt hlo sl] at e9
  rw [e9]
  exact ⟨rfl, hk⟩
end Go.Proofs.YtedohkcoeebajaaDoor
