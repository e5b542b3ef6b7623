import Derived.RangeFuncNested
import Derived.RangeFuncBound
import Derived.RangeFuncCalls
import Derived.RangeFuncLeaves
import Derived.Test.YtcanbhbhdgogoaaDoorBase
namespace Go.Proofs.YtcanbhbhdgogoaaDoor
open Go.RowKit

/-! A range over a function whose elements come with memory of their own: the round is told what has become of the heap since the round ahead of it. -/
/-- Both blocks of the loop's own book-keeping lie as they lay. -/
def Still (D : Nat) (W W' : World) : Prop := ∀ k, k = D ∨ k = D + 1 → W'.heap[k]? = W.heap[k]?
theorem Still.of_kept {D : Nat} {X : Nat → Prop} {W W' : World} (h : Kept X W W') (hs : D + 1 < W.heap.size) (hX : ∀ k, k = D ∨ k = D + 1 → ¬ X k) : Still D W W' :=
  fun k hk => h.block k (by omega) (hX k hk)
/-- How a round's body may be left. -/
def leftBy {α : Type} (D : Nat) (I : List α → World → Prop) (Ix : Code → List α → World → Prop) (xs : List α) (W : World) : Exit → Act → World → Prop
  | .normal, _, C => Still D W C ∧ I xs C
  | .ret, _, C => Still D W C ∧ Ix .ret xs C
  | .exit id, _, C => Still D W C ∧ Ix (.exit id) xs C
  | .goto t, _, C => Still D W C ∧ Ix (.goto t) xs C
  | .panic _, _, _ => False
  | .outgrown, _, _ => False
/-- The iterator's contract: whatever loop calls it, whose J lets it know what it reads (Kn); each x comes with M: of what has come, of the heap's size where the last round ended, and of the world now. -/
def SeqM {α : Type} (F : Fence) (n : Nat) (P : Program) (g : Nat) (lb : Array Value) (encs : α → Array Value) (Kn : World → Prop) (M : List α → α → Nat → World → Prop) (S : List α → Prop) : Prop :=
  ∀ (l : Nat) (J Jx : List α → World → Prop) (W : World), (∀ pre A, J pre A → Kn A) →
    (∀ pre x A B, J pre A → Kept (fun _ => False) A B → M pre x A.heap.size B → YieldAt F (n - 1) P l (encs x) B fun e C =>
      (e = .returned (.bool true) ∧ J (pre ++ [x]) C) ∨ (e = .returned (.bool false) ∧ Jx (pre ++ [x]) C)) →
    J [] W → CallsIn F n P g (#[.func (.yield l) #[] #[]] ++ lb) W fun e C =>
      (∃ v, e = .returned v) ∧ ((∃ xs A, S xs ∧ J xs A ∧ Kept (fun _ => False) A C) ∨ (∃ pre A, Jx pre A ∧ Kept (fun _ => False) A C))

theorem kept_put {A B : World} (k : Kept (fun _ => False) A B) (l : Nat) (hl : l < A.heap.size) (o : Obj) : Kept (fun _ => False) (A.putObj l o) (B.putObj l o) := by
  refine ⟨k.os, k.tape, k.output, by rw [World.putObj_size, World.putObj_size]; exact k.size, fun j hj _ => ?_⟩
  rw [World.putObj_size] at hj
  by_cases e : j = l
  · subst e
    rw [World.putObj_heap_same hl, World.putObj_heap_same (Nat.lt_of_lt_of_le hl k.size)]
  · rw [World.putObj_heap_other e, World.putObj_heap_other e]
    exact k.block j hj (fun f => f)
theorem kept_put1 (A : World) (l : Nat) (o : Obj) : Kept (fun i => i = l) A (A.putObj l o) :=
  ⟨rfl, rfl, rfl, by rw [World.putObj_size]; exact Nat.le_refl _, fun j _ hj => World.putObj_heap_other hj⟩
theorem size_of_some {W : World} {l : Nat} {o : Obj} (h : W.heap[l]? = some o) : l < W.heap.size := (Array.getElem?_eq_some_iff.1 h).1

variable {F : Fence} {n : Nat} {P : Program}
theorem range_m {α : Type} {g : Operand} {ps : Array Tmp} {assign body : Code} {Q : Exit → Act → World → Prop} {a : Act} {w : World}
    (hro : F.round = none) (h1 : 1 ≤ n) {gf : Nat} {lb : Array Value} (hg : a.eval g = .func (.func gf) #[] lb) (hFg : F.fn gf) (eg : ∀ args w, (callFunc gf args).run P w = .ok (.enter gf args) w)
    {encs : α → Array Value} {Kn : World → Prop} {M : List α → α → Nat → World → Prop} {S : List α → Prop} (hseq : SeqM F (n - 1) P gf lb encs Kn M S) (hps : ∀ x, (encs x).size = ps.size)
    (I : List α → World → Prop) (Ix : Code → List α → World → Prop) (hK : ∀ pre A, I pre A → Kn A)
    (hI : ∀ pre A r r', I pre A → A.heap[w.heap.size + 1]? = some (.loop r) → I pre (A.putObj (w.heap.size + 1) (.loop r')))
    (hIx : ∀ c pre A r r', Ix c pre A → A.heap[w.heap.size + 1]? = some (.loop r) → Ix c pre (A.putObj (w.heap.size + 1) (.loop r')))
    (hM : ∀ pre x s B B' r, M pre x s B → B.heap[w.heap.size + 1]? = some (.loop r) → Kept (fun i => i = w.heap.size + 1) B B' → M pre x s B')
    (h0 : ∀ r, I [] ((w.alloc (.deferred (some []))).alloc (.loop r))) (Ax : α → Nat → Act → World → Prop)
    (hAx : ∀ x s a' B r r', Ax x s a' B → B.heap[w.heap.size + 1]? = some (.loop r) → Ax x s a' (B.putObj (w.heap.size + 1) (.loop r')))
    (hassign : ∀ (l s : Nat) (x : α) (B : World) (K : Act → World → Prop), s ≤ B.heap.size → (∀ a' B', Kept (fun _ => False) B B' → Ax x s a' B' → K a' B') →
      assign.wpIn (F.inRound l) (n - 1 - 1) P (Exit.then K (fun _ _ _ => False)) { tmps := (ps.zip (encs x)).foldl (fun t (p, v) => t.setIfInBounds p v) a.tmps, defers := [] } B)
    (hbody : ∀ (l : Nat) (pre : List α) (x : α) (a' : Act) (A B : World), I pre A → Kept (fun _ => False) A B → M pre x A.heap.size B → w.heap.size + 1 < A.heap.size → Ax x A.heap.size a' B → body.wpIn (F.inRound l) (n - 1 - 1) P (leftBy w.heap.size I Ix (pre ++ [x]) B) a' B)
    (hdone : ∀ (xs : List α) (A W : World), S xs → I xs A → Kept (fun _ => False) A W → W.heap[w.heap.size]? = some (.deferred (some [])) → Q .normal { a with defers := { target := .collected w.heap.size, args := #[] } :: a.defers } W)
    (hstop : ∀ (c : Code) (pre : List α) (A W : World), Ix c pre A → Kept (fun _ => False) A W → W.heap[w.heap.size]? = some (.deferred (some [])) → c.wpIn F n P Q { a with defers := { target := .collected w.heap.size, args := #[] } :: a.defers } W) :
    (Code.rangeFunc g ps assign body).wpIn F n P Q a w := by
  refine wpIn_rangeFunc fun fn hfn => ?_
  rw [hro]
  obtain ⟨R, hR⟩ : ∃ R : LoopState → Option Code → Loop, ∀ st pe, R st pe = { state := st, pending := pe, fn, tmps := a.tmps, params := ps, assign, body, defers := w.heap.size } := ⟨_, fun _ _ => rfl⟩
  obtain ⟨W1, hW1⟩ : ∃ W1, W1 = (w.alloc (.deferred (some []))).alloc (.loop (R .ready none)) := ⟨_, rfl⟩
  obtain ⟨l, hl⟩ : ∃ l, l = w.heap.size + 1 := ⟨_, rfl⟩
  have q1 : W1.heap[l]? = some (.loop (R .ready none)) := by
    have := World.alloc_heap_new (w.alloc (.deferred (some []))) (.loop (R .ready none))
    rw [World.size_alloc, ← hW1, ← hl] at this
    exact this
  have q2 : W1.heap[w.heap.size]? = some (.deferred (some [])) := by
    rw [hW1]
    exact (Kept.alloc _ _).heap (World.alloc_heap_new w _) (fun f => f)
  refine ⟨l, [{ target := .collected w.heap.size, args := #[] }], W1, { target := .fn (.func gf) lb, args := #[.func (.yield l) #[] #[]] }, W1, gf, #[.func (.yield l) #[] #[]] ++ lb, W1, ?_, ?_, ?_, ?_, fun _ => h1, ?_⟩
  · rw [hW1, hl, hR]
    exact run_enterLoop_outer _ _ _ _ _
  · simp only [resolve, hg]
    simp [go_sem]
  · intro f' hf'
    simp only [Target.leads, Option.some.injEq] at hf'
    exact hf' ▸ hFg
  · simp [invoke, go_sem, eg]
  have step : ∀ (st : LoopState) (jump : Option Code) (C : World), C.heap[l]? = some (.loop (R .busy none)) → C.heap[w.heap.size]? = some (.deferred (some [])) →
      st = (if jump.isNone then .ready else .done) → (Instr.endRound l jump).run P C = .ok (.bool jump.isNone) (C.putObj l (.loop (R st jump))) ∧
      (C.putObj l (.loop (R st jump))).heap[l]? = some (.loop (R st jump)) ∧ (C.putObj l (.loop (R st jump))).heap[w.heap.size]? = some (.deferred (some [])) := by
    intro st jump C c1 c2 e
    have := run_endRound (P := P) jump c1
    rw [hR] at this
    refine ⟨by rw [e, hR]; exact this, World.putObj_heap_same (size_of_some c1), ?_⟩
    rw [World.putObj_heap_other (by omega)]
    exact c2
  refine (hseq l (fun pre A => I pre A ∧ A.heap[l]? = some (.loop (R .ready none)) ∧ A.heap[w.heap.size]? = some (.deferred (some [])))
    (fun pre A => ∃ c, Ix c pre A ∧ A.heap[l]? = some (.loop (R .done (some c))) ∧ A.heap[w.heap.size]? = some (.deferred (some [])))
    W1 (fun pre A h => hK pre A h.1) ?_ ⟨by rw [hW1]; exact h0 _, q1, q2⟩).mono ?_
  · rintro pre x A B0 ⟨hi, hA1, hA2⟩ kAB0 hm0
    have hB0 := kAB0.heap hA1 (fun f => f)
    have hy := run_yield (P := P) (args := encs x) hB0 (by rw [hR]; exact hps x)
    rw [hR] at hy
    refine ⟨fn, _, assign, body, hy, roundIn_of_wpIn hfn (hassign l A.heap.size x B0 _ kAB0.size fun a' B kB0 hax => ?_)⟩
    have kAB := kAB0.trans kB0 (fun _ f => f.elim)
    have hB1 := kAB.heap hA1 (fun f => f)
    have hB2 := kAB.heap hA2 (fun f => f)
    have hbr := run_beginRound (P := P) hB1 (by rw [hR])
    have eb : ({ R .ready none with state := .busy } : Loop) = R .busy none := by rw [hR, hR]
    rw [eb] at hbr
    refine ⟨_, hbr, ?_⟩
    have lA := size_of_some hA1
    have lB := size_of_some hB1
    have b1 : (B.putObj l (.loop (R .busy none))).heap[l]? = some (.loop (R .busy none)) := World.putObj_heap_same lB
    have b2 : (B.putObj l (.loop (R .busy none))).heap[w.heap.size]? = some (.deferred (some [])) := by
      rw [World.putObj_heap_other (by omega)]
      exact hB2
    have kp : Kept (fun i => i = w.heap.size + 1) B0 (B.putObj l (.loop (R .busy none))) := by
      refine (kB0.mono fun _ f => f.elim).trans (kept_put1 B l _) fun i hi => .inl ?_
      rw [← hl]
      exact hi
    have hbd := hbody l pre x a' (A.putObj l (.loop (R .busy none))) (B.putObj l (.loop (R .busy none))) (by rw [hl] at hA1 ⊢; exact hI pre A _ _ hi hA1) (kept_put kAB l lA _) (by rw [World.putObj_size]; rw [hl] at hB0; exact hM pre x _ B0 _ _ hm0 hB0 kp) (by rw [World.putObj_size]; omega) (by rw [World.putObj_size, hl]; rw [hl] at hB1; exact hAx x _ a' B _ _ hax hB1)
    refine wpIn_mono hbd ?_
    have c12 : ∀ C, Still w.heap.size (B.putObj l (.loop (R .busy none))) C → C.heap[l]? = some (.loop (R .busy none)) ∧ C.heap[w.heap.size]? = some (.deferred (some [])) := fun C hs => ⟨(hs l (.inr hl)).trans b1, (hs _ (.inl rfl)).trans b2⟩
    intro e a3 C hp
    cases e with
    | normal =>
      obtain ⟨s1, s2, s3⟩ := step .ready none C (c12 C hp.1).1 (c12 C hp.1).2 rfl
      exact ⟨_, _, s1, .inl ⟨rfl, by have := (c12 C hp.1).1; rw [hl] at this ⊢; exact hI _ C _ _ hp.2 this, s2, s3⟩⟩
    | ret =>
      obtain ⟨s1, s2, s3⟩ := step .done (some .ret) C (c12 C hp.1).1 (c12 C hp.1).2 rfl
      exact ⟨_, _, s1, .inr ⟨rfl, .ret, by have := (c12 C hp.1).1; rw [hl] at this ⊢; exact hIx _ _ C _ _ hp.2 this, s2, s3⟩⟩
    | exit id =>
      obtain ⟨s1, s2, s3⟩ := step .done (some (.exit id)) C (c12 C hp.1).1 (c12 C hp.1).2 rfl
      exact ⟨_, _, s1, .inr ⟨rfl, .exit id, by have := (c12 C hp.1).1; rw [hl] at this ⊢; exact hIx _ _ C _ _ hp.2 this, s2, s3⟩⟩
    | goto t =>
      obtain ⟨s1, s2, s3⟩ := step .done (some (.goto t)) C (c12 C hp.1).1 (c12 C hp.1).2 rfl
      exact ⟨_, _, s1, .inr ⟨rfl, .goto t, by have := (c12 C hp.1).1; rw [hl] at this ⊢; exact hIx _ _ C _ _ hp.2 this, s2, s3⟩⟩
    | panic _ => exact hp.elim
    | outgrown => exact hp.elim
  · rintro e C ⟨⟨v, rfl⟩, (⟨xs, A, hS, ⟨hi, hA1, hA2⟩, k⟩ | ⟨pre, A, ⟨c, hi, hA1, hA2⟩, k⟩)⟩
    · have hC1 := k.heap hA1 (fun f => f)
      have hel := run_endLoop (P := P) hC1 (by rw [hR]; simp)
      rw [hR] at hel
      refine ⟨none, _, hel, hdone xs (A.putObj l (.loop _)) _ hS (by rw [hl] at hA1 ⊢; exact hI _ A _ _ hi hA1) (kept_put k l (size_of_some hA1) _) ?_⟩
      rw [World.putObj_heap_other (by omega)]
      exact k.heap hA2 (fun f => f)
    · have hC1 := k.heap hA1 (fun f => f)
      have hel := run_endLoop (P := P) hC1 (by rw [hR]; simp)
      rw [hR] at hel
      refine ⟨some c, _, hel, hstop c pre (A.putObj l (.loop _)) _ (by rw [hl] at hA1 ⊢; exact hIx _ _ A _ _ hi hA1) (kept_put k l (size_of_some hA1) _) ?_⟩
      rw [World.putObj_heap_other (by omega)]
      exact k.heap hA2 (fun f => f)
end Go.Proofs.YtcanbhbhdgogoaaDoor
