import Derived.Test.YtbhoplmbiomogaaDoorTxn
namespace Go.Proofs.YtbhoplmbiomogaaDoor
open Go.RowKit

/-- The pieces between the bytes c. -/
def cutL (c : UInt8) : List UInt8 → List (List UInt8)
  | [] => [[]]
  | x :: r => if x = c then [] :: cutL c r else match cutL c r with
    | [] => [[x]]
    | p :: q => (x :: p) :: q
theorem cut_none {c : UInt8} : ∀ {p : List UInt8}, c ∉ p → cutL c p = [p]
  | [], _ => rfl
  | x :: r, h => by
    rw [cutL, if_neg (fun e => h (by rw [e]; simp)), cut_none (fun q => h (List.mem_cons_of_mem _ q))]
theorem cut_pre {c : UInt8} : ∀ {p : List UInt8} (r : List UInt8), c ∉ p → cutL c (p ++ c :: r) = p :: cutL c r
  | [], r, _ => by rw [List.nil_append, cutL, if_pos rfl]
  | x :: p, r, h => by
    rw [List.cons_append, cutL, if_neg (fun e => h (by rw [e]; simp)), cut_pre r (fun q => h (List.mem_cons_of_mem _ q))]
def wFold : List UInt8 := [102, 111, 108, 100]
def wStop : List UInt8 := [115, 116, 111, 112]
def wStem : List UInt8 := [115, 116, 101, 109]
/-- The kind that a guess takes from the halves of the first word. -/
def gkN (h : List (List UInt8)) : Int := if h.length = 2 then (if h[1]?.getD [] = wNum then 3 else if h[1]?.getD [] = wKey then 2 else if h[1]?.getD [] = wText then 1 else 0) else 0
/-- The document's guess at a field. -/
def gsF (p : List UInt8) : Fd :=
  let ws := cutL 44 p
  let hs := cutL 58 (ws.headD [])
  ⟨bstr (hs.headD []), gkN hs, decide (wFold ∈ ws), decide (wStop ∈ ws), decide (wStem ∈ ws)⟩
/-- The document's guess at a schema. -/
def gsS (t : List UInt8) : List Fd := (cutL 59 t).map gsF
theorem w_not {l : List UInt8} (h : ∀ c ∈ l, isW c = true) {d : UInt8} (hd : isW d = false) : d ∉ l := fun q => by
  have := h d q
  rw [hd] at this
  cases this
theorem kW_chars (k : Int) : ∀ c ∈ kW k, isW c = true := by
  unfold kW
  split
  · decide
  · split <;> decide
theorem mks_no (fo st se : Bool) (d : UInt8) (h : d = 59 ∨ d = 58) : d ∉ mks fo st se := by
  rcases h with rfl | rfl <;> cases fo <;> cases st <;> cases se <;> decide
theorem ftx_no59 {f : Fd} (h : gfield f = true) : (59 : UInt8) ∉ ftx f := by
  have h1 := w_not (gn_chars h).2.2 (d := 59) (by decide)
  have h2 := w_not (kW_chars f.k) (d := 59) (by decide)
  have h3 := mks_no f.fo f.st f.se 59 (Or.inl rfl)
  rw [ftx, List.mem_append, List.mem_cons, List.mem_append]
  rintro (q | q | q | q)
  · exact h1 q
  · exact absurd q (by decide)
  · exact h2 q
  · exact h3 q
theorem cut_stx : ∀ (F : List Fd), F ≠ [] → (∀ f ∈ F, gfield f = true) → cutL 59 (stx F) = F.map ftx
  | [], h, _ => absurd rfl h
  | [f], _, h => by rw [stx_one, cut_none (ftx_no59 (h f (by simp)))]; rfl
  | f :: g :: r, _, h => by
    rw [stx_more f (by simp), cut_pre _ (ftx_no59 (h f (by simp))), cut_stx (g :: r) (by simp) (fun x hx => h x (List.mem_cons_of_mem _ hx))]
    rfl
/-- The words of the marks. -/
def mW (fo st se : Bool) : List (List UInt8) := (if fo then [wFold] else []) ++ ((if st then [wStop] else []) ++ (if se then [wStem] else []))
theorem mW_fold (fo st se : Bool) : wFold ∈ mW fo st se ↔ fo = true := by cases fo <;> cases st <;> cases se <;> decide
theorem mW_stop (fo st se : Bool) : wStop ∈ mW fo st se ↔ st = true := by cases fo <;> cases st <;> cases se <;> decide
theorem mW_stem (fo st se : Bool) : wStem ∈ mW fo st se ↔ se = true := by cases fo <;> cases st <;> cases se <;> decide
theorem cut_mks (p : List UInt8) (h : (44 : UInt8) ∉ p) (fo st se : Bool) : cutL 44 (p ++ mks fo st se) = p :: mW fo st se := by
  have hF : (44 : UInt8) ∉ wFold := by decide
  have hS : (44 : UInt8) ∉ wStop := by decide
  have hE : (44 : UInt8) ∉ wStem := by decide
  have eF : mFold = 44 :: wFold := rfl
  have eS : mStop = 44 :: wStop := rfl
  have eE : mStem = 44 :: wStem := rfl
  cases fo <;> cases st <;> cases se <;> simp only [mks, mW, if_true, Bool.false_eq_true, if_false, List.nil_append, List.append_nil, eF, eS, eE, List.cons_append]
  · exact cut_none h
  · rw [cut_pre _ h, cut_none hE]
  · rw [cut_pre _ h, cut_none hS]
  · rw [cut_pre _ h, cut_pre _ hS, cut_none hE]
  · rw [cut_pre _ h, cut_none hF]
  · rw [cut_pre _ h, cut_pre _ hF, cut_none hE]
  · rw [cut_pre _ h, cut_pre _ hF, cut_none hS]
  · rw [cut_pre _ h, cut_pre _ hF, cut_pre _ hS, cut_none hE]
theorem gs_ftx {f : Fd} (h : gfield f = true) : gsF (ftx f) = f := by
  have hk := gk_range h
  have hn := (gn_chars h).2.2
  have n44 : (44 : UInt8) ∉ f.n.data.toList ++ 58 :: kW f.k := by
    rw [List.mem_append, List.mem_cons]
    rintro (q | q | q)
    · exact w_not hn (by decide) q
    · exact absurd q (by decide)
    · exact w_not (kW_chars f.k) (by decide) q
  have e : ftx f = (f.n.data.toList ++ 58 :: kW f.k) ++ mks f.fo f.st f.se := by rw [ftx]; simp [List.append_assoc]
  have h1 : cutL 44 (ftx f) = (f.n.data.toList ++ 58 :: kW f.k) :: mW f.fo f.st f.se := by rw [e]; exact cut_mks _ n44 _ _ _
  have h2 : cutL 58 (f.n.data.toList ++ 58 :: kW f.k) = [f.n.data.toList, kW f.k] := by
    rw [cut_pre _ (w_not hn (by decide)), cut_none (w_not (kW_chars f.k) (by decide))]
  have h58 : ∀ w : List UInt8, (58 : UInt8) ∉ w → ¬ w = f.n.data.toList ++ 58 :: kW f.k := fun w hw q => hw (by rw [q]; simp)
  have m1 : ∀ w : List UInt8, (58 : UInt8) ∉ w → (w ∈ (f.n.data.toList ++ 58 :: kW f.k) :: mW f.fo f.st f.se ↔ w ∈ mW f.fo f.st f.se) := fun w hw => by
    rw [List.mem_cons]
    exact ⟨fun q => q.resolve_left (h58 w hw), Or.inr⟩
  have w1 : decide (wFold ∈ (f.n.data.toList ++ 58 :: kW f.k) :: mW f.fo f.st f.se) = f.fo := by
    rw [Bool.eq_iff_iff, decide_eq_true_iff]
    exact (m1 wFold (by decide)).trans (mW_fold _ _ _)
  have w2 : decide (wStop ∈ (f.n.data.toList ++ 58 :: kW f.k) :: mW f.fo f.st f.se) = f.st := by
    rw [Bool.eq_iff_iff, decide_eq_true_iff]
    exact (m1 wStop (by decide)).trans (mW_stop _ _ _)
  have w3 : decide (wStem ∈ (f.n.data.toList ++ 58 :: kW f.k) :: mW f.fo f.st f.se) = f.se := by
    rw [Bool.eq_iff_iff, decide_eq_true_iff]
    exact (m1 wStem (by decide)).trans (mW_stem _ _ _)
  have w4 : gkN [f.n.data.toList, kW f.k] = f.k := by
    rcases hk with q | q | q <;> rw [q] <;> rfl
  unfold gsF
  simp only [h1, List.headD_cons, h2, w1, w2, w3, w4, bstr_of]
/-- The document's guess at a good schema's text is that schema. -/
theorem gs_stx {F : List Fd} (h : gschema F = true) : gsS (stx F) = F := by
  rw [gschema, Bool.and_eq_true, Bool.and_eq_true] at h
  have hl := of_decide_eq_true h.1.1
  have ha := List.all_eq_true.1 h.1.2
  rw [gsS, cut_stx F (by intro e; rw [e] at hl; simp at hl) ha, List.map_map]
  conv => rhs; rw [← List.map_id F]
  exact List.map_congr_left (fun f hf => gs_ftx (ha f hf))
/-- Both sides of Parse are one: what the project reads is good if and only if the guess is good and its text is the text; and then the two are one. -/
theorem parse_guess (t : List UInt8) : (∃ F, rout 16 t = some F ∧ gschema F = true) ↔ (gschema (gsS t) = true ∧ stx (gsS t) = t) := by
  constructor
  · rintro ⟨F, h⟩
    obtain ⟨hg, rfl⟩ := (parse_iff t F).1 h
    rw [gs_stx hg]
    exact ⟨hg, rfl⟩
  · rintro ⟨hg, ht⟩
    exact ⟨gsS t, (parse_iff t _).2 ⟨hg, ht⟩⟩
theorem parse_same {t : List UInt8} {F : List Fd} (h : rout 16 t = some F) (hg : gschema F = true) : gsS t = F := by
  obtain ⟨_, rfl⟩ := (parse_iff t F).1 ⟨h, hg⟩
  exact gs_stx hg
theorem stx_short {F : List Fd} (h : gschema F = true) : (stx F).length ≤ 1280 := by
  rw [gschema, Bool.and_eq_true, Bool.and_eq_true] at h
  have hl := of_decide_eq_true h.1.1
  have := stx_len F (List.all_eq_true.1 h.1.2)
  omega
end Go.Proofs.YtbhoplmbiomogaaDoor
