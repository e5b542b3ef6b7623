import Derived.Test.YtiemiphlfbaojaaDoorWze
import Derived.Test.YtiemiphlfbaojaaDoorMrg6
import Derived.Laws.MakeOwn
namespace Go.Proofs.YtiemiphlfbaojaaDoor
open Go.ChangeShapes Go.WideShapes Go.ChangeAt Go.RowKit
variable {w : World} {R : List Tn}

/-! Brackets that close. -/
/-- The places of the closing brackets that close what is open where the row begins (b its first place), the innermost first. -/
def clx : List Tn → Nat → List Nat
  | [], _ => []
  | y :: r, b => if isK 8 y then (clx r (b + 1)).tail else if isK 9 y then b :: clx r (b + 1) else clx r (b + 1)
theorem clx_sfx : ∀ (d b : Nat), R.length - b = d → sfxL (R.drop b) = (clx (R.drop b) b).map (fun e => sufL (R.drop (e + 1))) := by
  intro d
  induction d with
  | zero => intro b hb; rw [List.drop_of_length_le (by omega)]; rfl
  | succ d ih =>
    intro b hb
    have hi : b < R.length := by omega
    have h1 := ih (b + 1) (by omega)
    rw [drop_tk hi, sfxL, clx]
    cases isK 8 (tkA R b) with
    | true => show (sfxL (R.drop (b + 1))).tail = ((clx (R.drop (b + 1)) (b + 1)).tail).map _; rw [h1, List.map_tail]
    | false =>
      cases isK 9 (tkA R b) with
      | true => show sufL (R.drop (b + 1)) :: sfxL (R.drop (b + 1)) = (b :: clx (R.drop (b + 1)) (b + 1)).map _; rw [h1]; rfl
      | false => exact h1
theorem step_same (r q : Rs) (y : Tn) (h8 : isK 8 y = false) (h9 : isK 9 y = false) (h : stepF r y = some q) : q.op = r.op := by
  have hb : ∀ (p : Rs) fld, begunF p y fld = some q → q.op = p.op := by
    intro p fld hq
    unfold begunF at hq
    split at hq
    · cases hq; rfl
    · obtain ⟨a, ha, hq⟩ := Option.map_eq_some_iff.1 hq
      rw [h8] at hq
      cases hq
      rfl
  have hc : ∀ p : Rs, clauseF p y = some q → q.op = p.op := by
    intro p hq
    unfold clauseF at hq
    split at hq
    · cases hq; rfl
    · exact hb ⟨p.at', false, p.op⟩ _ hq
  have hd : ∀ p : Rs, behindF p y = some q → q.op = p.op := by
    intro p hq
    unfold behindF at hq
    rw [h9] at hq
    split at hq
    · cases hq; rfl
    · split at hq
      · split at hq
        · cases hq
        · cases hq; rfl
      · rw [if_neg (by decide)] at hq
        split at hq
        · split at hq
          · cases hq; rfl
          · cases hq
        · exact hc _ hq
  unfold stepF at h
  repeat' split at h
  all_goals first | exact hb _ _ h | exact hc _ h | exact hd _ h | (cases h; done) | (cases h; rfl)
theorem step_zero (r q : Rs) (y : Tn) (h0 : isK 0 y = true) (h : stepF r y = some q) : q.op = [] ∧ q.at' = 14 := by
  have n : ∀ j, j ≠ 0 → isK j y = false := fun j hj => isK_ne h0 hj
  have hat : ∀ fld, atomF y fld = none := fun fld => by unfold atomF; rw [n 1 (by decide), n 2 (by decide), n 3 (by decide), n 8 (by decide), n 10 (by decide), n 12 (by decide)]; rfl
  have hb : ∀ (p : Rs) fld, begunF p y fld = none := fun p fld => by unfold begunF; rw [n 6 (by decide), hat]; rfl
  have hc : ∀ p : Rs, clauseF p y = none := fun p => by unfold clauseF; rw [n 15 (by decide), n 16 (by decide), hb]; rfl
  have hd : ∀ p : Rs, behindF p y = some q → q.op = [] ∧ q.at' = 14 := fun p hq => by
    unfold behindF at hq
    rw [n 18 (by decide), n 19 (by decide), n 4 (by decide), n 5 (by decide), n 17 (by decide), n 9 (by decide), h0] at hq
    cases he : p.op.isEmpty with
    | true =>
      rw [he] at hq
      have hq : some (⟨14, p.sg, p.op⟩ : Rs) = some q := hq
      cases hq
      exact ⟨List.isEmpty_iff.1 he, rfl⟩
    | false => rw [he] at hq; cases hq
  have hst : isSt y = false := st_no h0 (by decide)
  have hed : isEd y = false ∧ isSl y = false := ed_noW h0 (by decide)
  unfold stepF at h
  split at h
  · rw [hc] at h; cases h
  · rw [hb] at h; cases h
  · rw [hb] at h; cases h
  · rw [hst] at h; cases h
  · rw [n 14 (by decide), hed.1] at h; exact hd _ h
  · rw [hed.1] at h; exact hd _ h
  · rw [n 14 (by decide)] at h; exact hd _ h
  · rw [hed.2] at h; exact hd _ h
  · rw [n 21 (by decide)] at h; exact hd _ h
  · exact hd _ h
  · unfold sideB at h; rw [n 1 (by decide), n 3 (by decide), hst] at h; cases h
  · rw [n 7 (by decide)] at h; cases h
  · unfold sideB at h; rw [n 1 (by decide), n 3 (by decide), hst] at h; cases h
  · rw [n 11 (by decide), n 13 (by decide)] at h; cases h
  · cases h
/-- How many groups are open. -/
def depB (R : List Tn) (i : Nat) : Nat := match rfR (R.take i) with
  | none => 0
  | some r => r.op.length
theorem dep_step {i : Nat} (hOK : rfR R ≠ none) (hi : i < R.length) : (isK 8 (tkA R i) = true → depB R (i + 1) = depB R i + 1) ∧ (isK 9 (tkA R i) = true → depB R (i + 1) + 1 = depB R i) ∧ (isK 8 (tkA R i) = false → isK 9 (tkA R i) = false → depB R (i + 1) = depB R i) := by
  have hy : R[i]? = some R[i] := List.getElem?_eq_getElem hi
  have et : tkA R i = R[i] := by unfold tkA; rw [hy]; rfl
  rw [et]
  have h2 : rfR (R.take (i + 1)) ≠ none := fun e => hOK (rf_take e)
  cases hr : rfR (R.take i) with
  | none => exact absurd (rf_take hr) hOK
  | some r =>
    have hn := rf_next hy
    rw [hr] at hn
    have hn : rfR (R.take (i + 1)) = stepF r R[i] := hn
    cases hq : stepF r R[i] with
    | none => rw [hn, hq] at h2; exact absurd rfl h2
    | some q =>
      have e1 : depB R (i + 1) = q.op.length := by unfold depB; rw [hn, hq]
      have e2 : depB R i = r.op.length := by unfold depB; rw [hr]
      rw [e1, e2]
      obtain ⟨ra, rs9, rop⟩ := r
      refine ⟨fun h8 => ?_, fun h9 => ?_, fun h8 h9 => ?_⟩
      · rw [step8 ra rs9 rop _ h8] at hq
        obtain ⟨b, _, hq⟩ := Option.map_eq_some_iff.1 hq
        subst hq
        simp
      · rw [step9 ra rs9 rop _ h9] at hq
        split at hq
        · rename_i hc
          cases hq
          rw [Bool.and_eq_true] at hc
          have hne : rop ≠ [] := by rintro rfl; simp at hc
          have := List.length_pos_iff.2 hne
          show rop.dropLast.length + 1 = rop.length
          rw [List.length_dropLast]
          omega
        · cases hq
      · rw [step_same _ _ _ h8 h9 hq]
theorem dep_end (hOK : rfR R ≠ none) (hE : EndR R) : depB R R.length = 0 := by
  obtain ⟨y, hy, h0⟩ := hE
  have hl : R.length - 1 < R.length := (List.getElem?_eq_some_iff.1 hy).1
  have e : R.length = R.length - 1 + 1 := by omega
  rw [e]
  have hn := rf_next hy
  have h2 : rfR (R.take (R.length - 1 + 1)) ≠ none := fun e => hOK (rf_take e)
  cases hr : rfR (R.take (R.length - 1)) with
  | none => exact absurd (rf_take hr) hOK
  | some r =>
    rw [hr] at hn
    have hn : rfR (R.take (R.length - 1 + 1)) = stepF r y := hn
    cases hq : stepF r y with
    | none => rw [hn, hq] at h2; exact absurd rfl h2
    | some q =>
      unfold depB
      rw [hn, hq]
      show q.op.length = 0
      rw [(step_zero r q y (by unfold isK; simp [h0]) hq).1]
      rfl
/-- The stack st (the innermost first) and the table E behind i tokens. -/
structure ClsS (R : List Tn) (i : Nat) (st : List Nat) (E : List Int) : Prop where
  len : E.length = R.length
  dep : st.length = depB R i
  stk : ∀ (k p : Nat), st[k]? = some p → p < R.length ∧ (clx (R.drop (p + 1)) (p + 1)).head? = (clx (R.drop i) i)[k]?
  out : ∀ (p : Nat), p < i → isK 8 (tkA R p) = true → p ∈ st ∨ ∃ e : Nat, E[p]? = some (e : Int) ∧ (clx (R.drop (p + 1)) (p + 1)).head? = some e
theorem cls_zero (R : List Tn) : ClsS R 0 [] (List.replicate R.length 0) :=
  ⟨List.length_replicate, rfl, fun k p h => (by cases h), fun p h => (by omega)⟩
theorem cls_open {i : Nat} {st : List Nat} {E : List Int} (hOK : rfR R ≠ none) (h : ClsS R i st E) (h8 : isK 8 (tkA R i) = true) : ClsS R (i + 1) (i :: st) E := by
  have hi := tk_lt h8
  have ec : clx (R.drop i) i = (clx (R.drop (i + 1)) (i + 1)).tail := by rw [drop_tk hi, clx, h8]; rfl
  refine ⟨h.len, by rw [List.length_cons, h.dep, (dep_step hOK hi).1 h8], fun k p hk => ?_, fun p hp hk => ?_⟩
  · cases k with
    | zero =>
      have : i = p := by simpa using hk
      subst this
      exact ⟨hi, by rw [List.head?_eq_getElem?]⟩
    | succ k =>
      have hk : st[k]? = some p := by simpa using hk
      obtain ⟨a, b⟩ := h.stk k p hk
      refine ⟨a, ?_⟩
      rw [b, ec, List.getElem?_tail]
  · rcases Nat.lt_or_ge p i with q | q
    · rcases h.out p q hk with x | x
      · exact .inl (List.mem_cons_of_mem _ x)
      · exact .inr x
    · have : p = i := by omega
      subst this
      exact .inl List.mem_cons_self
theorem cls_close {i p : Nat} {st : List Nat} {E : List Int} (hOK : rfR R ≠ none) (h : ClsS R i (p :: st) E) (h9 : isK 9 (tkA R i) = true) : ClsS R (i + 1) st (E.set p (i : Int)) ∧ p < R.length := by
  have hi := tk_lt h9
  have ec : clx (R.drop i) i = i :: clx (R.drop (i + 1)) (i + 1) := by rw [drop_tk hi, clx, isK_ne h9 (j := 8) (by decide), h9]; rfl
  obtain ⟨hp, hp2⟩ := h.stk 0 p rfl
  rw [ec] at hp2
  have hd := (dep_step hOK hi).2.1 h9
  have hl := h.dep
  rw [List.length_cons] at hl
  refine ⟨⟨by rw [List.length_set]; exact h.len, by omega, fun k q hk => ?_, fun q hq hk => ?_⟩, hp⟩
  · obtain ⟨a, b⟩ := h.stk (k + 1) q (by simpa using hk)
    refine ⟨a, ?_⟩
    rw [b, ec]
    rfl
  · have hqi : q < i := by
      rcases Nat.lt_or_ge q i with x | x
      · exact x
      · have : q = i := by omega
        subst this
        rw [isK_ne h9 (j := 8) (by decide)] at hk
        cases hk
    by_cases e : q = p
    · subst e
      exact .inr ⟨i, by rw [List.getElem?_set_self (by rw [h.len]; exact hp)], hp2⟩
    · rcases h.out q hqi hk with x | ⟨e9, x1, x2⟩
      · rcases List.mem_cons.1 x with x | x
        · exact absurd x e
        · exact .inl x
      · exact .inr ⟨e9, by rw [List.getElem?_set_ne (fun y => e y.symm)]; exact x1, x2⟩
theorem cls_over {i : Nat} {st : List Nat} {E : List Int} (hOK : rfR R ≠ none) (hi : i < R.length) (h : ClsS R i st E) (h8 : isK 8 (tkA R i) = false) (h9 : isK 9 (tkA R i) = false) : ClsS R (i + 1) st E := by
  have ec : clx (R.drop i) i = clx (R.drop (i + 1)) (i + 1) := by rw [drop_tk hi, clx, h8, h9]; rfl
  refine ⟨h.len, by rw [h.dep, (dep_step hOK hi).2.2 h8 h9], fun k p hk => by rw [← ec]; exact h.stk k p hk, fun p hp hk => ?_⟩
  rcases Nat.lt_or_ge p i with q | q
  · exact h.out p q hk
  · have : p = i := by omega
    subst this
    rw [h8] at hk
    cases hk
/-- What the table tells. -/
def TabC (R : List Tn) (E : List Int) : Prop := E.length = R.length ∧ ∀ p, p < R.length → isK 8 (tkA R p) = true → ∃ e : Nat, E[p]? = some (e : Int) ∧ e ≤ 500000000000 ∧ (sfxL (R.drop (p + 1))).headD 0 = sufL (R.drop (e + 1))
theorem clx_le : ∀ (d b : Nat), R.length - b = d → ∀ e ∈ clx (R.drop b) b, e < R.length := by
  intro d
  induction d with
  | zero => intro b hb e he; rw [List.drop_of_length_le (by omega)] at he; cases he
  | succ d ih =>
    intro b hb e he
    have hi : b < R.length := by omega
    rw [drop_tk hi, clx] at he
    split at he
    · exact ih (b + 1) (by omega) e (List.mem_of_mem_tail he)
    · split at he
      · rcases List.mem_cons.1 he with rfl | he
        · exact hi
        · exact ih (b + 1) (by omega) e he
      · exact ih (b + 1) (by omega) e he
theorem cls_tab {st : List Nat} {E : List Int} (hOK : rfR R ≠ none) (hE : EndR R) (hb : R.length ≤ 500000000000) (h : ClsS R R.length st E) : TabC R E := by
  have hst : st = [] := List.length_eq_zero_iff.1 (by rw [h.dep, dep_end hOK hE])
  subst hst
  refine ⟨h.len, fun p hp hk => ?_⟩
  rcases h.out p hp hk with x | ⟨e, x1, x2⟩
  · cases x
  · have hs := clx_sfx (R := R) _ (p + 1) rfl
    have hle := clx_le (R := R) _ (p + 1) rfl e (List.mem_of_mem_head? x2)
    refine ⟨e, x1, by omega, ?_⟩
    rw [hs]
    cases hc : clx (R.drop (p + 1)) (p + 1) with
    | nil => rw [hc] at x2; cases x2
    | cons a l => rw [hc] at x2; cases x2; rfl
end Go.Proofs.YtiemiphlfbaojaaDoor
namespace Go.Proofs.YtiemiphlfbaojaaDoor
open Go.ChangeShapes Go.WideShapes Go.ChangeAt Go.RowKit
variable {w : World} {R : List Tn}

theorem madeV (n : Nat) : madeCells #[Value.int .i64 0] n = (iv (List.replicate n (0 : Int))).toArray := by
  apply Array.ext
  · rw [size_madeCells, List.size_toArray, iv_len, List.length_replicate]
  · intro i h1 h2
    simp [madeCells, iv, Nat.mod_one]
theorem make_iv (n : Nat) (W : World) (hn : n ≤ 1099511627776) :
    (Instr.makeSlice 32 (.int .i64 (n : Int)) (.int .i64 (n : Int))).run Tryd.prog W = .ok (.slice (some ⟨W.heap.size, 0, none⟩) n n) (W.alloc (.cells (iv (List.replicate n (0 : Int))).toArray 3)) := by
  obtain ⟨i0, hi, hz0, hz1, hz2⟩ := info_partsA Tryd.infoI
  have q := run_make (P := Tryd.prog) W 32 3 i0 (.int .i64 0) Tryd.underlying32 hi hz0 .i64 .i64 (n : Int) (n : Int) (by omega) (by omega) (by rw [hz2]; omega) (by omega)
  rw [hz1, Nat.mul_one, Int.toNat_natCast] at q
  rw [q, show (Value.int .i64 0).cells = #[Value.int .i64 0] from rfl, madeV]
theorem iv_set (L : List Int) (k : Nat) (x : Int) : (iv L).set k (.int .i64 x) = iv (L.set k x) := by simp [iv, List.map_set]
/-- A stack of numbers (the innermost first) as it lies. -/
def stI (st : List Nat) : List Int := st.reverse.map (fun (x : Nat) => (x : Int))
theorem stI_cons (p : Nat) (st : List Nat) : stI (p :: st) = stI st ++ [(p : Int)] := by unfold stI; simp
theorem stI_len (st : List Nat) : (stI st).length = st.length := by unfold stI; simp
/-- What lies when the loop begins anew: the table at ob, the stack behind it. -/
structure ClsW (w wr : World) (ob : Nat) (E : List Int) (v : Value) (m : Nat) (st : List Nat) : Prop where
  kept : Kept (fun _ => False) w wr
  tab : wr.heap[ob]? = some (.cells (iv E).toArray 3)
  new : w.heap.size ≤ ob
  stk : wr.ownsRow (ob + 1) 3 1 v m (iv (stI st))
  num : m = st.length
theorem cw_start (w : World) (n : Nat) : ClsW w ((w.alloc (.cells (iv (List.replicate n (0 : Int))).toArray 3)).alloc (.cells #[] 3)) w.heap.size (List.replicate n 0) (.slice (some ⟨w.heap.size + 1, 0, none⟩) 0 0) 0 [] := by
  have K1 := Kept.alloc w (.cells (iv (List.replicate n (0 : Int))).toArray 3)
  have K2 := Kept.alloc (w.alloc (.cells (iv (List.replicate n (0 : Int))).toArray 3)) (.cells #[] 3)
  have hs : (w.alloc (.cells (iv (List.replicate n (0 : Int))).toArray 3)).heap.size = w.heap.size + 1 := by simp
  have h1 := heap_alloc_new w (.cells (iv (List.replicate n (0 : Int))).toArray 3)
  have g := gro_empty (w.alloc (.cells (iv (List.replicate n (0 : Int))).toArray 3)) (w.alloc (.cells (iv (List.replicate n (0 : Int))).toArray 3)) 3 1 (Kept.refl _ _)
  rw [hs] at g
  have g2 := g.own
  rw [hs] at g2
  exact ⟨K1.trans K2 (fun _ f => f.elim), (K2.heap h1 (fun f => f)), Nat.le_refl _, g2, rfl⟩
theorem ClsW.obs {wr : World} {ob : Nat} {E : List Int} {v : Value} {m : Nat} {st : List Nat} (h : ClsW w wr ob E v m st) : ob < wr.heap.size := (Array.getElem?_eq_some_iff.1 h.tab).1
theorem ClsW.push {wr wr' : World} {ob : Nat} {E : List Int} {v : Value} {m : Nat} {st : List Nat} (h : ClsW w wr ob E v m st) (p : Nat) {a : Option Addr} {c : Nat} (g : wr'.ownsRow (ob + 1) 3 1 (.slice a (m + 1) c) (m + 1) (iv (stI st ++ [(p : Int)]))) (k : Kept (fun k => v.ownBlock = some k) wr wr') : ClsW w wr' ob E (.slice a (m + 1) c) (m + 1) (p :: st) := by
  have hv : ∀ j, v.ownBlock = some j → ob + 1 ≤ j := by
    intro j hj
    rcases h.stk.2 with ⟨rfl, _⟩ | ⟨g, cap, cur, rfl, hb, _⟩
    · simp [Value.ownBlock] at hj
    · simp [Value.ownBlock] at hj
      omega
  have hn := h.new
  refine ⟨h.kept.trans k (fun j hj => .inr ?_), k.heap h.tab (fun e => ?_), hn, ?_, by rw [h.num]; rfl⟩
  · have := hv j hj; omega
  · have := hv ob e; omega
  · rw [stI_cons]; exact g
theorem ClsW.later {wr wr' : World} {ob : Nat} {E : List Int} {v : Value} {m : Nat} {st : List Nat} (h : ClsW w wr ob E v m st) (k : Kept (fun _ => False) wr wr') : ClsW w wr' ob E v m st :=
  ⟨h.kept.trans k (fun _ f => f.elim), k.heap h.tab (fun f => f), h.new, k.row h.stk (fun _ _ f => f), h.num⟩
theorem ClsW.pop {wr : World} {ob : Nat} {E : List Int} {v : Value} {m p : Nat} {st : List Nat} (h : ClsW w wr ob E v m (p :: st)) (hp : p < E.length) (i : Nat) : ∃ g c m', v = .slice (some ⟨g, 0, none⟩) (m' + 1) c ∧ m = m' + 1 ∧ m' ≤ c ∧ ¬ g = ob ∧ wr.cell? ⟨g, m', none⟩ = some (.int .i64 (p : Int)) ∧ (∃ x, wr.cell? ⟨ob, p, none⟩ = some x) ∧ wr.frozen? ⟨ob, p, none⟩ = false ∧ ClsW w (wr.setCell ⟨ob, p, none⟩ (.int .i64 (i : Int))) ob (E.set p (i : Int)) (.slice (some ⟨g, 0, none⟩) m' c) m' st := by
  have hs := h.stk
  have hm := h.num
  rw [List.length_cons] at hm
  subst hm
  rw [stI_cons, iv_app] at hs
  have hl : (iv (stI st)).length = st.length := by rw [iv_len, stI_len]
  rcases hs.2 with ⟨_, e2⟩ | ⟨g, cap, cur, rfl, hb, hh, h1, h2, h3, h4⟩
  · simp at e2
  · have hgo : ¬ g = ob := by omega
    have hc : wr.cell? ⟨g, st.length, none⟩ = some (.int .i64 (p : Int)) := by
      have := hs.cells (g := g) rfl st.length (.int .i64 (p : Int)) (by rw [List.getElem?_append_right (by omega), hl, Nat.sub_self]; rfl)
      have hplain : (⟨g, 0, none⟩ : Addr).add st.length = ⟨g, st.length, none⟩ := by unfold Addr.add; split <;> simp_all
      rwa [hplain] at this
    have hown : wr.ownsRow (ob + 1) 3 1 (.slice (some ⟨g, 0, none⟩) st.length cap) st.length (iv (stI st)) := by
      refine ⟨by rw [hl]; omega, .inr ⟨g, cap, cur, rfl, hb, hh, by omega, h2, h3, ?_⟩⟩
      have h5 := congrArg (List.take st.length) h4
      rw [List.take_take, List.take_left' hl] at h5
      rw [show min st.length ((st.length + 1) * 1) = st.length by omega] at h5
      rw [Nat.mul_one]
      exact h5
    refine ⟨g, cap, st.length, rfl, rfl, by omega, hgo, hc, ?_, ?_, ?_⟩
    · refine ⟨.int .i64 E[p], ?_⟩
      have := iv_at hp
      unfold World.cell?
      simp [h.tab, this]
    · unfold World.frozen?
      simp [h.tab]
    · refine ⟨h.kept.trans (Kept.setCell _ _ _) (fun j hj => .inr ?_), ?_, h.new, ownsRow_setCell_below hown (by show ob < ob + 1; omega) _, rfl⟩
      · have := h.new
        simp only at hj
        omega
      · rw [heap_setCell_same wr ob p _ _ _ h.tab, ← iv_set]
        simp
set_option maxRecDepth 20000 in
set_option maxHeartbeats 4000000 in
theorem closes_any (R : List Tn) (n : Nat) (hn : n = R.length) (a0 : Option Addr) (rc : Nat) (w : World) (hR : Rw w a0 R) (hr : n ≤ 500000000000) (hOK : rfR R ≠ none) (hE : EndR R) : Calls Tryd.prog 27 #[.slice a0 n rc] w fun e w' => ∃ g, e = .returned (.slice (some ⟨g, 0, none⟩) n n) ∧ Kept (fun _ => False) w w' ∧ w.heap.size ≤ g ∧ ∃ E, w'.heap[g]? = some (.cells (iv E).toArray 3) ∧ TabC R E := by
  have HR := hideL hR
  have HN := hideL hn
  have HOK := hideL hOK
  have HE := hideL hE
  have HC0 : Hid (ClsS R 0 [] (List.replicate n 0)) := hideL (by rw [hn]; exact cls_zero R)
  have HW0 := hideL (cw_start w n)
  clear hR hn hOK hE
  have mk := make_iv n w (by omega)
  go_enter Tryd.func27, Tryd.ntmps27
  go_wp2_with fail
  generalize ((w.alloc (.cells (iv (List.replicate n (0 : Int))).toArray 3)).alloc (.cells #[] 3)) = W2 at *
  obtain ⟨sb, hsb⟩ : ∃ sb, sb = w.heap.size + 1 := ⟨_, rfl⟩
  rw [← hsb] at HW0 ⊢
  clear hsb
  obtain ⟨ob, hob⟩ : ∃ ob, ob = w.heap.size := ⟨_, rfl⟩
  rw [← hob] at HW0 ⊢
  clear hob mk
  go_loopw [14, 4] (fun jv vv wr => ∃ (i m : Nat) (a : Option Addr) (c : Nat) (st : List Nat) (E : List Int), i ≤ n ∧ jv = .int .i64 i ∧ vv = .slice a m c ∧ m ≤ i ∧ Hid (ClsS R i st E) ∧ Hid (ClsW w wr ob E (.slice a m c) m st)) (fun jv _ _ => n - (intOf jv).toNat)
  case atStart => exact ⟨0, 0, _, _, [], _, by omega, rfl, rfl, by omega, HC0, HW0⟩
  case round =>
    obtain ⟨i, m, a, c, st, E, hi, rfl, rfl, hmi, HC, HW⟩ := hrel
    clear HC0 HW0
    by_cases hlt : i < n
    · have hiz : (i : Int) < (n : Int) := by omega
      have hil : i < R.length := by rw [← HN.out]; exact hlt
      have hy : R[i]? = some R[i] := List.getElem?_eq_getElem hil
      have et : tkA R i = R[i] := by unfold tkA; rw [hy]; rfl
      obtain ⟨g, og, e0, hc⟩ := (HR.out.later HW.out.kept) (by intro e; rw [e] at hil; simp at hil)
      have hc := hc i _ hy
      rw [← et] at hc
      have HT : Hid (∀ k, isK k (tkA R i) = ((tkA R i).k == (k : Int))) := hideL (fun _ => rfl)
      generalize hty : tkA R i = y at hc HT
      have HTY := hideL hty
      obtain ⟨yk, yt, yn, ya, ye⟩ := y
      obtain ⟨y0, y1, y2, y3, y4⟩ := hc
      dsimp only at y0 y1 y2 y3 y4
      have KA := Kept.alloc wr (.cells #[.int .i64 yk, .string yt, .int .i64 yn, .int .i64 ya, .int .i64 ye] 59)
      have HV := hideL (HW.out.later KA)
      have hsv : ob + 1 ≤ (wr.alloc (.cells #[.int .i64 yk, .string yt, .int .i64 yn, .int .i64 ya, .int .i64 ye] 59)).heap.size := by have := HV.out.obs; omega
      subst e0
      clear KA hy et hil hty
      cases q8 : (yk == (8 : Int)) with
      | true =>
        have HC2 : Hid (ClsS R (i + 1) (i :: st) E) := hideL (cls_open HOK.out HC.out (by rw [HTY.out]; exact q8))
        clear HC HT HTY HW
        have HO := hideL HV.out.stk
        go_wp2_with (at_builtin; refine wpList_pushO (base := ob + 1) rfl _ _ rfl (.slice a m c) m _ (i : Int) rfl HO hsv _ (by first | rfl | simp) rfl (by omega) ?_; intro a4 c4 W6 G6 K6; have HF6 := hideL (HV.out.push i G6.out K6.out); clear G6 K6 HO HV)
        go_roundw
        case rel => exact ⟨i + 1, m + 1, _, _, _, _, by omega, by go_num, rfl, by omega, HC2, HF6⟩
        case measure => simp [intOf] <;> omega
      | false =>
        cases q9 : (yk == (9 : Int)) with
        | true =>
          have h9 : isK 9 (tkA R i) = true := by rw [HTY.out]; exact q9
          obtain ⟨p, st', rfl⟩ : ∃ p st', st = p :: st' := by
            cases st with
            | nil =>
              have := (dep_step HOK.out (by rw [← HN.out]; exact hlt)).2.1 h9
              have h2 := HC.out.dep
              simp at h2
              omega
            | cons p st' => exact ⟨p, st', rfl⟩
          obtain ⟨HC2', hp⟩ := cls_close HOK.out HC.out h9
          have HC2 := hideL HC2'
          have hpn : p < n := by rw [HN.out]; exact hp
          have hpz : (p : Int) < (n : Int) := by omega
          obtain ⟨gg, cc, m', e1, rfl, hmc, hgo, z0, ⟨x, z1⟩, z2, hW3⟩ := HV.out.pop (p := p) (by rw [HC.out.len]; exact hp) i
          have HW3 := hideL hW3
          injection e1 with e1 e2 e3
          subst e1
          subst e3
          have hmz : (m' : Int) < (m' : Int) + 1 := by omega
          have hmcz : (m' : Int) ≤ (c : Int) := by omega
          clear HC HT HTY HW HV h9 HC2' hW3 e2
          go_wp2_with fail
          go_roundw
          case rel => exact ⟨i + 1, m', _, _, _, _, by omega, by go_num, rfl, by omega, HC2, HW3⟩
          case measure => simp [intOf] <;> omega
        | false =>
          have HC2 := hideL (cls_over HOK.out (by rw [← HN.out]; exact hlt) HC.out (by rw [HTY.out]; exact q8) (by rw [HTY.out]; exact q9))
          clear HC HT HTY HW
          go_wp2_with fail
          go_roundw
          case rel => exact ⟨i + 1, m, _, _, _, _, by omega, by go_num, rfl, by omega, HC2, HV⟩
          case measure => simp [intOf] <;> omega
    · have hiz : ¬ (i : Int) < (n : Int) := by omega
      have hin : i = n := by omega
      have HT : Hid (TabC R E) := hideL (cls_tab HOK.out HE.out (by rw [← HN.out]; omega) (by rw [← HN.out, ← hin]; exact HC.out))
      clear HC
      go_wp2_with fail
      go_ret
      exact ⟨ob, by first | rfl | simp, HW.out.kept, HW.out.new, E, HW.out.tab, HT.out⟩
end Go.Proofs.YtiemiphlfbaojaaDoor
namespace Go.Proofs.YtiemiphlfbaojaaDoor
open Go.ChangeShapes Go.WideShapes Go.ChangeAt Go.RowKit
variable {w : World} {R : List Tn}

/-! The document's nest, round by round. -/
theorem end14 (hOK : rfR R ≠ none) (hE : EndR R) : ∀ r, rfR R = some r → r.at' = 14 := by
  intro r0 hr0
  obtain ⟨y, hy, h0⟩ := hE
  have hl : R.length - 1 < R.length := (List.getElem?_eq_some_iff.1 hy).1
  have e : R.take (R.length - 1 + 1) = R := List.take_of_length_le (by omega)
  have hn := rf_next hy
  rw [e, hr0] at hn
  cases hr : rfR (R.take (R.length - 1)) with
  | none => exact absurd (rf_take hr) hOK
  | some r =>
    rw [hr] at hn
    have hn : some r0 = stepF r y := hn
    exact (step_zero r r0 y (by unfold isK; simp [h0]) hn.symm).2
theorem st_at {i : Nat} (hOK : rfR R ≠ none) (hE : EndR R) (r : Rs) (hr : rfR (R.take i) = some r) (ha : r.at' ≠ 14) : i < R.length ∧ ∃ q, stepF r (tkA R i) = some q ∧ rfR (R.take (i + 1)) = some q := by
  have hi : i < R.length := by
    rcases Nat.lt_or_ge i R.length with q | q
    · exact q
    · rw [List.take_of_length_le q] at hr
      exact absurd (end14 hOK hE r hr) ha
  have hy : R[i]? = some R[i] := List.getElem?_eq_getElem hi
  have et : tkA R i = R[i] := by unfold tkA; rw [hy]; rfl
  have hn := rf_next hy
  rw [hr] at hn
  have hn : rfR (R.take (i + 1)) = stepF r R[i] := hn
  rw [et]
  cases hq : stepF r R[i] with
  | none => rw [hq] at hn; exact absurd (rf_take hn) hOK
  | some q => exact ⟨hi, q, rfl, by rw [hn, hq]⟩
theorem step_sp (r q : Rs) (y : Tn) (hy : isK 10 y = true ∨ isK 12 y = true) (h : stepF r y = some q) : q.at' = 10 := by
  obtain ⟨k, hk, hky⟩ : ∃ k, (k = 10 ∨ k = 12) ∧ isK k y = true := by
    rcases hy with hy | hy
    · exact ⟨10, .inl rfl, hy⟩
    · exact ⟨12, .inr rfl, hy⟩
  have n : ∀ j, j ≠ k → isK j y = false := fun j hj => isK_ne hky hj
  have hor : (isK 10 y || isK 12 y) = true := by rw [Bool.or_eq_true]; exact hy
  have hat : ∀ fld, atomF y fld = some 10 := fun fld => by unfold atomF; rw [n 1 (by omega), n 2 (by omega), n 3 (by omega), n 8 (by omega), hor]; rfl
  have hb : ∀ (p : Rs) fld, begunF p y fld = some ⟨10, p.sg, p.op⟩ := fun p fld => by unfold begunF; rw [n 6 (by omega), hat, n 8 (by omega)]; rfl
  have hc : ∀ p : Rs, clauseF p y = some ⟨10, false, p.op⟩ := fun p => by unfold clauseF; rw [n 15 (by omega), n 16 (by omega), hb]; rfl
  have hd : ∀ p : Rs, behindF p y = some ⟨10, false, p.op⟩ := fun p => by
    unfold behindF
    rw [n 18 (by omega), n 19 (by omega), n 4 (by omega), n 5 (by omega), n 17 (by omega), n 9 (by omega), n 0 (by omega), hc]
    rfl
  have hst : isSt y = false := st_no hky (by omega)
  have hed : isEd y = false ∧ isSl y = false := ed_noW hky (by omega)
  unfold stepF at h
  split at h
  · rw [hc] at h; cases h; rfl
  · rw [hb] at h; cases h; rfl
  · rw [hb] at h; cases h; rfl
  · rw [hst] at h; cases h
  · rw [n 14 (by omega), hed.1, hd] at h; cases h; rfl
  · rw [hed.1, hd] at h; cases h; rfl
  · rw [n 14 (by omega), hd] at h; cases h; rfl
  · rw [hed.2, hd] at h; cases h; rfl
  · rw [n 21 (by omega), hd] at h; cases h; rfl
  · rw [hd] at h; cases h; rfl
  · unfold sideB at h; rw [n 1 (by omega), n 3 (by omega), hst] at h; cases h
  · rw [n 7 (by omega)] at h; cases h
  · unfold sideB at h; rw [n 1 (by omega), n 3 (by omega), hst] at h; cases h
  · rename_i e
    rcases hk with rfl | rfl
    · rw [n 11 (by omega), n 13 (by omega)] at h; cases h
    · rw [n 11 (by omega), n 13 (by omega)] at h; cases h
  · cases h
theorem side_89 {y : Tn} (h : sideB y = true) : isK 8 y = false ∧ isK 9 y = false := by
  constructor
  · cases hk : isK 8 y with
    | false => rfl
    | true => unfold sideB at h; rw [isK_ne hk (j := 1) (by decide), isK_ne hk (j := 3) (by decide), st_no hk (by decide)] at h; cases h
  · cases hk : isK 9 y with
    | false => rfl
    | true => unfold sideB at h; rw [isK_ne hk (j := 1) (by decide), isK_ne hk (j := 3) (by decide), st_no hk (by decide)] at h; cases h
theorem span_in {i : Nat} (hOK : rfR R ≠ none) (hE : EndR R) (h : isK 10 (tkA R i) = true ∨ isK 12 (tkA R i) = true) : i + 4 < R.length ∧ ∀ j, j = 1 ∨ j = 2 ∨ j = 3 ∨ j = 4 → isK 8 (tkA R (i + j)) = false ∧ isK 9 (tkA R (i + j)) = false := by
  have hi : i < R.length := by rcases h with h | h <;> exact tk_lt h
  have hy : R[i]? = some R[i] := List.getElem?_eq_getElem hi
  have et : tkA R i = R[i] := by unfold tkA; rw [hy]; rfl
  have hn := rf_next hy
  cases hr : rfR (R.take i) with
  | none => exact absurd (rf_take hr) hOK
  | some r0 =>
    rw [hr] at hn
    have hn : rfR (R.take (i + 1)) = stepF r0 R[i] := hn
    cases hq : stepF r0 R[i] with
    | none => rw [hq] at hn; exact absurd (rf_take hn) hOK
    | some r1 =>
      rw [hq] at hn
      have a1 := step_sp r0 r1 _ h (by rw [et]; exact hq)
      obtain ⟨l1, r2, s1, n1⟩ := st_at hOK hE r1 hn (by omega)
      obtain ⟨b1, sg1, op1⟩ := r1
      dsimp only at a1
      subst a1
      have t1 : sideB (tkA R (i + 1)) = true ∧ r2.at' = 11 := by
        have s1 : (if sideB (tkA R (i + 1)) then some (⟨11, sg1, op1⟩ : Rs) else none) = some r2 := s1
        split at s1
        · rename_i hh; cases s1; exact ⟨hh, rfl⟩
        · cases s1
      obtain ⟨t1, a2⟩ := t1
      obtain ⟨l2, r3, s2, n2⟩ := st_at hOK hE r2 n1 (by omega)
      obtain ⟨b2, sg2, op2⟩ := r2
      dsimp only at a2
      subst a2
      have t2 : isK 7 (tkA R (i + 1 + 1)) = true ∧ r3.at' = 12 := by
        have s2 : (if isK 7 (tkA R (i + 1 + 1)) then some (⟨12, sg2, op2⟩ : Rs) else none) = some r3 := s2
        split at s2
        · rename_i hh; cases s2; exact ⟨hh, rfl⟩
        · cases s2
      obtain ⟨t2, a3⟩ := t2
      obtain ⟨l3, r4, s3, n3⟩ := st_at hOK hE r3 n2 (by omega)
      obtain ⟨b3, sg3, op3⟩ := r3
      dsimp only at a3
      subst a3
      have t3 : sideB (tkA R (i + 1 + 1 + 1)) = true ∧ r4.at' = 13 := by
        have s3 : (if sideB (tkA R (i + 1 + 1 + 1)) then some (⟨13, sg3, op3⟩ : Rs) else none) = some r4 := s3
        split at s3
        · rename_i hh; cases s3; exact ⟨hh, rfl⟩
        · cases s3
      obtain ⟨t3, a4⟩ := t3
      obtain ⟨l4, r5, s4, n4⟩ := st_at hOK hE r4 n3 (by omega)
      obtain ⟨b4, sg4, op4⟩ := r4
      dsimp only at a4
      subst a4
      have t4 : (isK 11 (tkA R (i + 1 + 1 + 1 + 1)) || isK 13 (tkA R (i + 1 + 1 + 1 + 1))) = true := by
        have s4 : (if isK 11 (tkA R (i + 1 + 1 + 1 + 1)) || isK 13 (tkA R (i + 1 + 1 + 1 + 1)) then some (⟨9, sg4, op4⟩ : Rs) else none) = some r5 := s4
        split at s4
        · rename_i hh; exact hh
        · cases s4
      refine ⟨by omega, fun j hj => ?_⟩
      rcases hj with rfl | rfl | rfl | rfl
      · exact side_89 t1
      · exact ⟨isK_ne t2 (by decide), isK_ne t2 (by decide)⟩
      · exact side_89 t3
      · rw [Bool.or_eq_true] at t4
        rcases t4 with t4 | t4
        · exact ⟨isK_ne t4 (by decide), isK_ne t4 (by decide)⟩
        · exact ⟨isK_ne t4 (by decide), isK_ne t4 (by decide)⟩
theorem cnt_len : ∀ T : List Tn, cntL T ≤ T.length
  | [] => Nat.le_refl _
  | y :: r => by have := cnt_len r; rw [cntL]; split <;> simp only [List.length_cons] <;> omega
theorem suf_len (T : List Tn) : sufL T ≤ T.length := by
  cases T with
  | nil => exact Nat.le_refl _
  | cons y r =>
    have := cnt_len r
    have h2 := cnt_len (y :: r)
    rw [sufL]
    split
    · simp only [List.length_cons]; omega
    · exact h2
/-- Where the loop of nest stands: i, most, nots, the weights (the innermost first). -/
structure NsS (R : List Tn) (N i m t : Nat) (ws : List Nat) : Prop where
  eq : nsL (R.drop i) 0 m t ws = N
  dep : ws.length = depB R i
  nots : t ≤ i
  sum : ws.sum ≤ 4000001 * i
  most : m ≤ 9000000000000
theorem ns_zero (R : List Tn) : NsS R (nsL R 0 0 0 []) 0 0 0 [] := ⟨by rw [List.drop_zero], rfl, Nat.le_refl _, Nat.le_refl _, by omega⟩
theorem NsS.done {N i m t : Nat} {ws : List Nat} (h : NsS R N i m t ws) (hi : R.length ≤ i) : m = N := by
  have := h.eq
  rw [List.drop_of_length_le hi] at this
  exact this
section
variable {N i m t : Nat} {ws : List Nat} (hOK : rfR R ≠ none) (hE : EndR R) (hb : R.length ≤ 2000000) (hi : i < R.length) (h : NsS R N i m t ws)
include hOK hi h
theorem ns_not (h6 : isK 6 (tkA R i) = true) : NsS R N (i + 1) m (t + 1) ws := by
  have he := h.eq
  rw [drop_tk hi, nsL, h6] at he
  refine ⟨he, ?_, by have := h.nots; omega, by have := h.sum; omega, h.most⟩
  rw [(dep_step hOK hi).2.2 (isK_ne h6 (by decide)) (isK_ne h6 (by decide))]
  exact h.dep
include hb in
theorem ns_open (h8 : isK 8 (tkA R i) = true) (S : Nat) (hS : (sfxL (R.drop (i + 1))).headD 0 = S) (hSb : S ≤ R.length) : NsS R N (i + 1) m 0 ((1 + t + S) :: ws) := by
  have he := h.eq
  rw [drop_tk hi, nsL, isK_ne h8 (j := 6) (by decide), h8, hS] at he
  refine ⟨he, ?_, by omega, ?_, h.most⟩
  · rw [List.length_cons, (dep_step hOK hi).1 h8, h.dep]
  · rw [List.sum_cons]
    have := h.sum
    have := h.nots
    omega
theorem ns_close (h9 : isK 9 (tkA R i) = true) : ∃ x ws', ws = x :: ws' ∧ NsS R N (i + 1) m t ws' := by
  have hd := (dep_step hOK hi).2.1 h9
  have he := h.eq
  have hl := h.dep
  have hs := h.sum
  rw [drop_tk hi, nsL, isK_ne h9 (j := 6) (by decide), isK_ne h9 (j := 8) (by decide), h9] at he
  cases ws with
  | nil => simp at hl; omega
  | cons x ws' =>
    rw [List.length_cons] at hl
    rw [List.sum_cons] at hs
    exact ⟨x, ws', rfl, he, by omega, by have := h.nots; omega, by omega, h.most⟩
include hb hE in
theorem ns_span (hsp : isK 10 (tkA R i) = true ∨ isK 12 (tkA R i) = true) : NsS R N (i + 5) (max m (ws.sum + t + sufL (R.drop (i + 5)))) 0 ws ∧ i + 4 < R.length := by
  obtain ⟨hl, hin⟩ := span_in hOK hE hsp
  obtain ⟨k, hk, hky⟩ : ∃ k, (k = 10 ∨ k = 12) ∧ isK k (tkA R i) = true := by
    rcases hsp with hy | hy
    · exact ⟨10, .inl rfl, hy⟩
    · exact ⟨12, .inr rfl, hy⟩
  have n : ∀ j, j ≠ k → isK j (tkA R i) = false := fun j hj => isK_ne hky hj
  have hor : (isK 10 (tkA R i) || isK 12 (tkA R i)) = true := by rw [Bool.or_eq_true]; exact hsp
  have he := h.eq
  rw [drop_tk hi, nsL, n 6 (by omega), n 8 (by omega), n 9 (by omega), hor] at he
  have he : nsL (R.drop (i + 1)) 4 (max m (ws.sum + t + sufL ((R.drop (i + 1)).drop 4))) 0 ws = N := he
  rw [ns_skip, List.drop_drop] at he
  have d1 := (dep_step hOK hi).2.2 (n 8 (by omega)) (n 9 (by omega))
  have d2 : depB R (i + 2) = depB R (i + 1) := (dep_step hOK (i := i + 1) (by omega)).2.2 (hin 1 (by omega)).1 (hin 1 (by omega)).2
  have d3 : depB R (i + 3) = depB R (i + 2) := (dep_step hOK (i := i + 2) (by omega)).2.2 (hin 2 (by omega)).1 (hin 2 (by omega)).2
  have d4 : depB R (i + 4) = depB R (i + 3) := (dep_step hOK (i := i + 3) (by omega)).2.2 (hin 3 (by omega)).1 (hin 3 (by omega)).2
  have d5 : depB R (i + 5) = depB R (i + 4) := (dep_step hOK (i := i + 4) (by omega)).2.2 (hin 4 (by omega)).1 (hin 4 (by omega)).2
  have hs := suf_len (R.drop (i + 5))
  rw [List.length_drop] at hs
  have h1 := h.sum
  have h2 := h.nots
  have h3 := h.most
  exact ⟨⟨he, by rw [h.dep]; omega, by omega, by omega, by omega⟩, hl⟩
omit hOK h in
theorem lf_k (k : Nat) (hk : k = 1 ∨ k = 2 ∨ k = 3) (hky : isK k (tkA R i) = true) : nsL (R.drop i) 0 m t ws = (if hdC (R.drop (i + 1)) then nsL (R.drop (i + 1)) 1 m t ws else nsL (R.drop (i + 1)) 0 (max m (ws.sum + t + sufL (R.drop (i + 1)))) 0 ws) ∧ isK 8 (tkA R i) = false ∧ isK 9 (tkA R i) = false := by
  have n : ∀ j, j ≠ k → isK j (tkA R i) = false := fun j hj => isK_ne hky hj
  have hor : (isK 1 (tkA R i) || isK 2 (tkA R i) || isK 3 (tkA R i)) = true := by rcases hk with rfl | rfl | rfl <;> simp [hky]
  refine ⟨?_, n 8 (by omega), n 9 (by omega)⟩
  rw [drop_tk hi, nsL, n 6 (by omega), n 8 (by omega), n 9 (by omega), n 10 (by omega), n 12 (by omega), hor]
  rfl
theorem ns_colon (k : Nat) (hk : k = 1 ∨ k = 2 ∨ k = 3) (hky : isK k (tkA R i) = true) (hi2 : i + 1 < R.length) (h14 : isK 14 (tkA R (i + 1)) = true) : NsS R N (i + 2) m t ws := by
  obtain ⟨e, h8, h9⟩ := lf_k (m := m) (t := t) (ws := ws) hi k hk hky
  have hh : hdC (R.drop (i + 1)) = true := by rw [drop_tk hi2]; exact h14
  have he := h.eq
  rw [e, hh] at he
  have he : nsL (R.drop (i + 1)) 1 m t ws = N := he
  rw [ns_skip, List.drop_drop] at he
  have d1 := (dep_step hOK hi).2.2 h8 h9
  have d2 : depB R (i + 2) = depB R (i + 1) := (dep_step hOK hi2).2.2 (isK_ne h14 (by decide)) (isK_ne h14 (by decide))
  have h1 := h.sum
  have h2 := h.nots
  exact ⟨he, by rw [h.dep]; omega, by omega, by omega, h.most⟩
include hb in
theorem ns_leaf (k : Nat) (hk : k = 1 ∨ k = 2 ∨ k = 3) (hky : isK k (tkA R i) = true) (h14 : ¬ (i + 1 < R.length ∧ isK 14 (tkA R (i + 1)) = true)) : NsS R N (i + 1) (max m (ws.sum + t + sufL (R.drop (i + 1)))) 0 ws := by
  obtain ⟨e, h8, h9⟩ := lf_k (m := m) (t := t) (ws := ws) hi k hk hky
  have hh : hdC (R.drop (i + 1)) = false := by
    rcases Nat.lt_or_ge (i + 1) R.length with q | q
    · rw [drop_tk q]
      cases hc : isK 14 (tkA R (i + 1)) with
      | true => exact absurd ⟨q, hc⟩ h14
      | false => exact hc
    · rw [List.drop_of_length_le q]; rfl
  have he := h.eq
  rw [e, hh] at he
  have d1 := (dep_step hOK hi).2.2 h8 h9
  have hs := suf_len (R.drop (i + 1))
  rw [List.length_drop] at hs
  have h1 := h.sum
  have h2 := h.nots
  have h3 := h.most
  exact ⟨he, by rw [h.dep]; omega, by omega, by omega, by omega⟩
theorem ns_else (ho : ovB (tkA R i) = true) : NsS R N (i + 1) m t ws := by
  have he := h.eq
  rw [drop_tk hi, ns_over ho] at he
  have d1 := (dep_step hOK hi).2.2 (ov_89 ho).1 (ov_89 ho).2
  have h1 := h.sum
  have h2 := h.nots
  exact ⟨he, by rw [h.dep]; omega, by omega, by omega, h.most⟩
end
end Go.Proofs.YtiemiphlfbaojaaDoor
