import Derived.Test.YtidgofpmnlddaaaGreatDoorMrg4
import Derived.RangeFuncNested
import Derived.RangeFuncBound
import Derived.RangeFuncCalls
import Derived.RangeFuncLeaves
import Derived.Test.YtidgofpmnlddaaaGreatDoorMrg1
import Derived.Sort.QuietIn
import Derived.OwnWalkIn
import Derived.OrdersHeld
import Derived.OrdersIn
import Derived.Shelf.Abstract
import Derived.Shelf.RegionOpen
import Derived.TacticsInMore
import Derived.LoopNIn
import Derived.LoopIn
import Derived.Test.YtidgofpmnlddaaaGreatDoorMrg2
namespace Go.Proofs.YtidgofpmnlddaaaGreatDoor
open Go.ChangeShapes Go.WideShapes Go.ChangeAt Go.RowKit

theorem WStep.ofKept {w w' : World} {bw : Nat} {v : Value} (k : Kept (fun _ => False) w w') : WStep w w' bw v v := ⟨k.mono (fun _ f => f.elim), fun _ h => .inl h⟩
theorem psb_le : ∀ {F : List Po}, (∀ p ∈ F, Ris p.ps 0) → (psb F).length ≤ 10 * tot F
  | [], _ => Nat.zero_le _
  | p :: F, h => by
    have h1 := psb_le (F := F) (fun q hq => h q (List.mem_cons_of_mem _ hq))
    have h2 := risb_length p.ps 0 (fun x hx => ((h p (List.mem_cons_self ..)).mem x hx).2)
    rw [psb_cons, List.length_append, tot]
    omega
theorem pol_take (L : List Pg) (k : Nat) : pol (L.take k) = (pol L).take k := by simp [pol, List.map_take]
theorem pol_step {L : List Pg} {k : Nat} (h : k < L.length) : pol (L.take (k + 1)) = pol (L.take k) ++ [⟨L[k].d, L[k].ps⟩] := by
  rw [List.take_succ_eq_append_getElem h]
  unfold pol
  rw [List.map_append]
  rfl
theorem pol_at {L : List Pg} {k : Nat} (h : k < L.length) : (⟨L[k].d, L[k].ps⟩ : Po) ∈ pol L := List.mem_map.2 ⟨L[k], List.getElem_mem h, rfl⟩
theorem tot_mem : ∀ {F : List Po} {p : Po}, p ∈ F → p.ps.length ≤ tot F
  | q :: F, p, h => by
    rw [tot]
    rcases List.mem_cons.1 h with rfl | h
    · omega
    · have := tot_mem h; omega
theorem tot_take_le (F : List Po) (k : Nat) : tot (F.take k) ≤ tot F := by
  have := tot_append (F.take k) (F.drop k)
  rw [List.take_append_drop] at this
  omega
theorem gdl_at : ∀ {F : List Po} {b : Int} {k : Nat} (h : k < F.length), gdl b F → Gd1 (lastd b (F.take k)) F[k]
  | p :: F, b, 0, _, hg => by simpa [lastd] using hg.1
  | p :: F, b, k + 1, h, hg => by
    have := gdl_at (F := F) (b := p.d) (k := k) (by simpa using h) hg.2
    simpa [lastd] using this
theorem packed_le {l : List Int} (h0 : ∀ x ∈ l, 0 ≤ x) (hI : IsInts l) (hl : l.length ≤ 16) : (packed l).length ≤ 200 := by
  have h1 := orl_bits l h0 hI
  have h2 := (ulen_le l.length (by omega)).2
  have h3 : l.length * bitLen (orl l) ≤ 16 * 63 := Nat.mul_le_mul hl h1
  rw [packed_length]
  split <;> omega
theorem gdl_take {F : List Po} {b : Int} (h : gdl b F) (k : Nat) : gdl b (F.take k) := by
  have : gdl b (F.take k ++ F.drop k) := by rw [List.take_append_drop]; exact h
  exact ((gdl_append _ _ _).1 this).1
end Go.Proofs.YtidgofpmnlddaaaGreatDoor
namespace Go.Proofs.YtidgofpmnlddaaaGreatDoor
open Go.RowKit

/-! A range over a function whose elements come with memory of their own: the round is told what has become of the heap since the round ahead of it. -/
/-- Both blocks of the loop's own book-keeping lie as they lay. -/
def Still (D : Nat) (W W' : World) : Prop := ∀ k, k = D ∨ k = D + 1 → W'.heap[k]? = W.heap[k]?
theorem Still.of_kept {D : Nat} {X : Nat → Prop} {W W' : World} (h : Kept X W W') (hs : D + 1 < W.heap.size) (hX : ∀ k, k = D ∨ k = D + 1 → ¬ X k) : Still D W W' :=
  fun k hk => h.block k (by omega) (hX k hk)
/-- How a round's body may be left. -/
def leftBy {α : Type} (D : Nat) (I : List α → World → Prop) (Ix : Code → List α → World → Prop) (xs : List α) (W : World) : Exit → Act → World → Prop
  | .normal, _, C => Still D W C ∧ I xs C
  | .ret, _, C => Still D W C ∧ Ix .ret xs C
  | .exit id, _, C => Still D W C ∧ Ix (.exit id) xs C
  | .goto t, _, C => Still D W C ∧ Ix (.goto t) xs C
  | .panic _, _, _ => False
  | .outgrown, _, _ => False
/-- The iterator's contract: whatever loop calls it, whose J lets it know what it reads (Kn); each x comes with M: of what has come, of the heap's size where the last round ended, and of the world now. -/
def SeqM {α : Type} (F : Fence) (n : Nat) (P : Program) (g : Nat) (lb : Array Value) (encs : α → Array Value) (Kn : World → Prop) (M : List α → α → Nat → World → Prop) (S : List α → Prop) : Prop :=
  ∀ (l : Nat) (J Jx : List α → World → Prop) (W : World), (∀ pre A, J pre A → Kn A) →
    (∀ pre x A B, J pre A → Kept (fun _ => False) A B → M pre x A.heap.size B → YieldAt F (n - 1) P l (encs x) B fun e C =>
      (e = .returned (.bool true) ∧ J (pre ++ [x]) C) ∨ (e = .returned (.bool false) ∧ Jx (pre ++ [x]) C)) →
    J [] W → CallsIn F n P g (#[.func (.yield l) #[] #[]] ++ lb) W fun e C =>
      (∃ v, e = .returned v) ∧ ((∃ xs A, S xs ∧ J xs A ∧ Kept (fun _ => False) A C) ∨ (∃ pre A, Jx pre A ∧ Kept (fun _ => False) A C))

theorem kept_put {A B : World} (k : Kept (fun _ => False) A B) (l : Nat) (hl : l < A.heap.size) (o : Obj) : Kept (fun _ => False) (A.putObj l o) (B.putObj l o) := by
  refine ⟨k.os, k.tape, k.output, by rw [World.putObj_size, World.putObj_size]; exact k.size, fun j hj _ => ?_⟩
  rw [World.putObj_size] at hj
  by_cases e : j = l
  · subst e
    rw [World.putObj_heap_same hl, World.putObj_heap_same (Nat.lt_of_lt_of_le hl k.size)]
  · rw [World.putObj_heap_other e, World.putObj_heap_other e]
    exact k.block j hj (fun f => f)
theorem kept_put1 (A : World) (l : Nat) (o : Obj) : Kept (fun i => i = l) A (A.putObj l o) :=
  ⟨rfl, rfl, rfl, by rw [World.putObj_size]; exact Nat.le_refl _, fun j _ hj => World.putObj_heap_other hj⟩
theorem size_of_some {W : World} {l : Nat} {o : Obj} (h : W.heap[l]? = some o) : l < W.heap.size := (Array.getElem?_eq_some_iff.1 h).1

variable {F : Fence} {n : Nat} {P : Program}
theorem range_m {α : Type} {g : Operand} {ps : Array Tmp} {assign body : Code} {Q : Exit → Act → World → Prop} {a : Act} {w : World}
    (hro : F.round = none) (h1 : 1 ≤ n) {gf : Nat} {lb : Array Value} (hg : a.eval g = .func (.func gf) #[] lb) (hFg : F.fn gf) (eg : ∀ args w, (callFunc gf args).run P w = .ok (.enter gf args) w)
    {encs : α → Array Value} {Kn : World → Prop} {M : List α → α → Nat → World → Prop} {S : List α → Prop} (hseq : SeqM F (n - 1) P gf lb encs Kn M S) (hps : ∀ x, (encs x).size = ps.size)
    (I : List α → World → Prop) (Ix : Code → List α → World → Prop) (hK : ∀ pre A, I pre A → Kn A)
    (hI : ∀ pre A r r', I pre A → A.heap[w.heap.size + 1]? = some (.loop r) → I pre (A.putObj (w.heap.size + 1) (.loop r')))
    (hIx : ∀ c pre A r r', Ix c pre A → A.heap[w.heap.size + 1]? = some (.loop r) → Ix c pre (A.putObj (w.heap.size + 1) (.loop r')))
    (hM : ∀ pre x s B B' r, M pre x s B → B.heap[w.heap.size + 1]? = some (.loop r) → Kept (fun i => i = w.heap.size + 1) B B' → M pre x s B')
    (h0 : ∀ r, I [] ((w.alloc (.deferred (some []))).alloc (.loop r))) (Ax : α → Nat → Act → World → Prop)
    (hAx : ∀ x s a' B r r', Ax x s a' B → B.heap[w.heap.size + 1]? = some (.loop r) → Ax x s a' (B.putObj (w.heap.size + 1) (.loop r')))
    (hassign : ∀ (l s : Nat) (x : α) (B : World) (K : Act → World → Prop), s ≤ B.heap.size → (∀ a' B', Kept (fun _ => False) B B' → Ax x s a' B' → K a' B') →
      assign.wpIn (F.inRound l) (n - 1 - 1) P (Exit.then K (fun _ _ _ => False)) { tmps := (ps.zip (encs x)).foldl (fun t (p, v) => t.setIfInBounds p v) a.tmps, defers := [] } B)
    (hbody : ∀ (l : Nat) (pre : List α) (x : α) (a' : Act) (A B : World), I pre A → Kept (fun _ => False) A B → M pre x A.heap.size B → w.heap.size + 1 < A.heap.size → Ax x A.heap.size a' B → body.wpIn (F.inRound l) (n - 1 - 1) P (leftBy w.heap.size I Ix (pre ++ [x]) B) a' B)
    (hdone : ∀ (xs : List α) (A W : World), S xs → I xs A → Kept (fun _ => False) A W → W.heap[w.heap.size]? = some (.deferred (some [])) → Q .normal { a with defers := { target := .collected w.heap.size, args := #[] } :: a.defers } W)
    (hstop : ∀ (c : Code) (pre : List α) (A W : World), Ix c pre A → Kept (fun _ => False) A W → W.heap[w.heap.size]? = some (.deferred (some [])) → c.wpIn F n P Q { a with defers := { target := .collected w.heap.size, args := #[] } :: a.defers } W) :
    (Code.rangeFunc g ps assign body).wpIn F n P Q a w := by
  refine wpIn_rangeFunc fun fn hfn => ?_
  rw [hro]
  obtain ⟨R, hR⟩ : ∃ R : LoopState → Option Code → Loop, ∀ st pe, R st pe = { state := st, pending := pe, fn, tmps := a.tmps, params := ps, assign, body, defers := w.heap.size } := ⟨_, fun _ _ => rfl⟩
  obtain ⟨W1, hW1⟩ : ∃ W1, W1 = (w.alloc (.deferred (some []))).alloc (.loop (R .ready none)) := ⟨_, rfl⟩
  obtain ⟨l, hl⟩ : ∃ l, l = w.heap.size + 1 := ⟨_, rfl⟩
  have q1 : W1.heap[l]? = some (.loop (R .ready none)) := by
    have := World.alloc_heap_new (w.alloc (.deferred (some []))) (.loop (R .ready none))
    rw [World.size_alloc, ← hW1, ← hl] at this
    exact this
  have q2 : W1.heap[w.heap.size]? = some (.deferred (some [])) := by
    rw [hW1]
    exact (Kept.alloc _ _).heap (World.alloc_heap_new w _) (fun f => f)
  refine ⟨l, [{ target := .collected w.heap.size, args := #[] }], W1, { target := .fn (.func gf) lb, args := #[.func (.yield l) #[] #[]] }, W1, gf, #[.func (.yield l) #[] #[]] ++ lb, W1, ?_, ?_, ?_, ?_, fun _ => h1, ?_⟩
  · rw [hW1, hl, hR]
    exact run_enterLoop_outer _ _ _ _ _
  · simp only [resolve, hg]
    simp [go_sem]
  · intro f' hf'
    simp only [Target.leads, Option.some.injEq] at hf'
    exact hf' ▸ hFg
  · simp [invoke, go_sem, eg]
  have step : ∀ (st : LoopState) (jump : Option Code) (C : World), C.heap[l]? = some (.loop (R .busy none)) → C.heap[w.heap.size]? = some (.deferred (some [])) →
      st = (if jump.isNone then .ready else .done) → (Instr.endRound l jump).run P C = .ok (.bool jump.isNone) (C.putObj l (.loop (R st jump))) ∧
      (C.putObj l (.loop (R st jump))).heap[l]? = some (.loop (R st jump)) ∧ (C.putObj l (.loop (R st jump))).heap[w.heap.size]? = some (.deferred (some [])) := by
    intro st jump C c1 c2 e
    have := run_endRound (P := P) jump c1
    rw [hR] at this
    refine ⟨by rw [e, hR]; exact this, World.putObj_heap_same (size_of_some c1), ?_⟩
    rw [World.putObj_heap_other (by omega)]
    exact c2
  refine (hseq l (fun pre A => I pre A ∧ A.heap[l]? = some (.loop (R .ready none)) ∧ A.heap[w.heap.size]? = some (.deferred (some [])))
    (fun pre A => ∃ c, Ix c pre A ∧ A.heap[l]? = some (.loop (R .done (some c))) ∧ A.heap[w.heap.size]? = some (.deferred (some [])))
    W1 (fun pre A h => hK pre A h.1) ?_ ⟨by rw [hW1]; exact h0 _, q1, q2⟩).mono ?_
  · rintro pre x A B0 ⟨hi, hA1, hA2⟩ kAB0 hm0
    have hB0 := kAB0.heap hA1 (fun f => f)
    have hy := run_yield (P := P) (args := encs x) hB0 (by rw [hR]; exact hps x)
    rw [hR] at hy
    refine ⟨fn, _, assign, body, hy, roundIn_of_wpIn hfn (hassign l A.heap.size x B0 _ kAB0.size fun a' B kB0 hax => ?_)⟩
    have kAB := kAB0.trans kB0 (fun _ f => f.elim)
    have hB1 := kAB.heap hA1 (fun f => f)
    have hB2 := kAB.heap hA2 (fun f => f)
    have hbr := run_beginRound (P := P) hB1 (by rw [hR])
    have eb : ({ R .ready none with state := .busy } : Loop) = R .busy none := by rw [hR, hR]
    rw [eb] at hbr
    refine ⟨_, hbr, ?_⟩
    have lA := size_of_some hA1
    have lB := size_of_some hB1
    have b1 : (B.putObj l (.loop (R .busy none))).heap[l]? = some (.loop (R .busy none)) := World.putObj_heap_same lB
    have b2 : (B.putObj l (.loop (R .busy none))).heap[w.heap.size]? = some (.deferred (some [])) := by
      rw [World.putObj_heap_other (by omega)]
      exact hB2
    have kp : Kept (fun i => i = w.heap.size + 1) B0 (B.putObj l (.loop (R .busy none))) := by
      refine (kB0.mono fun _ f => f.elim).trans (kept_put1 B l _) fun i hi => .inl ?_
      rw [← hl]
      exact hi
    have hbd := hbody l pre x a' (A.putObj l (.loop (R .busy none))) (B.putObj l (.loop (R .busy none))) (by rw [hl] at hA1 ⊢; exact hI pre A _ _ hi hA1) (kept_put kAB l lA _) (by rw [World.putObj_size]; rw [hl] at hB0; exact hM pre x _ B0 _ _ hm0 hB0 kp) (by rw [World.putObj_size]; omega) (by rw [World.putObj_size, hl]; rw [hl] at hB1; exact hAx x _ a' B _ _ hax hB1)
    refine wpIn_mono hbd ?_
    have c12 : ∀ C, Still w.heap.size (B.putObj l (.loop (R .busy none))) C → C.heap[l]? = some (.loop (R .busy none)) ∧ C.heap[w.heap.size]? = some (.deferred (some [])) := fun C hs => ⟨(hs l (.inr hl)).trans b1, (hs _ (.inl rfl)).trans b2⟩
    intro e a3 C hp
    cases e with
    | normal =>
      obtain ⟨s1, s2, s3⟩ := step .ready none C (c12 C hp.1).1 (c12 C hp.1).2 rfl
      exact ⟨_, _, s1, .inl ⟨rfl, by have := (c12 C hp.1).1; rw [hl] at this ⊢; exact hI _ C _ _ hp.2 this, s2, s3⟩⟩
    | ret =>
      obtain ⟨s1, s2, s3⟩ := step .done (some .ret) C (c12 C hp.1).1 (c12 C hp.1).2 rfl
      exact ⟨_, _, s1, .inr ⟨rfl, .ret, by have := (c12 C hp.1).1; rw [hl] at this ⊢; exact hIx _ _ C _ _ hp.2 this, s2, s3⟩⟩
    | exit id =>
      obtain ⟨s1, s2, s3⟩ := step .done (some (.exit id)) C (c12 C hp.1).1 (c12 C hp.1).2 rfl
      exact ⟨_, _, s1, .inr ⟨rfl, .exit id, by have := (c12 C hp.1).1; rw [hl] at this ⊢; exact hIx _ _ C _ _ hp.2 this, s2, s3⟩⟩
    | goto t =>
      obtain ⟨s1, s2, s3⟩ := step .done (some (.goto t)) C (c12 C hp.1).1 (c12 C hp.1).2 rfl
      exact ⟨_, _, s1, .inr ⟨rfl, .goto t, by have := (c12 C hp.1).1; rw [hl] at this ⊢; exact hIx _ _ C _ _ hp.2 this, s2, s3⟩⟩
    | panic _ => exact hp.elim
    | outgrown => exact hp.elim
  · rintro e C ⟨⟨v, rfl⟩, (⟨xs, A, hS, ⟨hi, hA1, hA2⟩, k⟩ | ⟨pre, A, ⟨c, hi, hA1, hA2⟩, k⟩)⟩
    · have hC1 := k.heap hA1 (fun f => f)
      have hel := run_endLoop (P := P) hC1 (by rw [hR]; simp)
      rw [hR] at hel
      refine ⟨none, _, hel, hdone xs (A.putObj l (.loop _)) _ hS (by rw [hl] at hA1 ⊢; exact hI _ A _ _ hi hA1) (kept_put k l (size_of_some hA1) _) ?_⟩
      rw [World.putObj_heap_other (by omega)]
      exact k.heap hA2 (fun f => f)
    · have hC1 := k.heap hA1 (fun f => f)
      have hel := run_endLoop (P := P) hC1 (by rw [hR]; simp)
      rw [hR] at hel
      refine ⟨some c, _, hel, hstop c pre (A.putObj l (.loop _)) _ (by rw [hl] at hA1 ⊢; exact hIx _ _ A _ _ hi hA1) (kept_put k l (size_of_some hA1) _) ?_⟩
      rw [World.putObj_heap_other (by omega)]
      exact k.heap hA2 (fun f => f)
end Go.Proofs.YtidgofpmnlddaaaGreatDoor
namespace Go.Proofs.YtidgofpmnlddaaaGreatDoor
open Go.RowKit

variable {F : Fence} {n : Nat} {P : Program}
/-- The same law, for a loop that boxes its last variable: the frame behind the assignment is f x Bx. -/
theorem range_mf {α : Type} {g : Operand} {ps : Array Tmp} {assign body : Code} {Q : Exit → Act → World → Prop} {a : Act} {w : World}
    (hro : F.round = none) (h1 : 1 ≤ n) {gf : Nat} {lb : Array Value} (hg : a.eval g = .func (.func gf) #[] lb) (hFg : F.fn gf) (eg : ∀ args w, (callFunc gf args).run P w = .ok (.enter gf args) w)
    {encs : α → Array Value} {Kn : World → Prop} {M : List α → α → Nat → World → Prop} {S : List α → Prop} (hseq : SeqM F (n - 1) P gf lb encs Kn M S) (hps : ∀ x, (encs x).size = ps.size)
    (I : List α → World → Prop) (Ix : Code → List α → World → Prop) (hK : ∀ pre A, I pre A → Kn A)
    (hI : ∀ pre A r r', I pre A → A.heap[w.heap.size + 1]? = some (.loop r) → I pre (A.putObj (w.heap.size + 1) (.loop r')))
    (hIx : ∀ c pre A r r', Ix c pre A → A.heap[w.heap.size + 1]? = some (.loop r) → Ix c pre (A.putObj (w.heap.size + 1) (.loop r')))
    (hM : ∀ pre x s B B' r, M pre x s B → B.heap[w.heap.size + 1]? = some (.loop r) → Kept (fun i => i = w.heap.size + 1) B B' → M pre x s B')
    (h0 : ∀ r, I [] ((w.alloc (.deferred (some []))).alloc (.loop r))) (ob : α → Obj) (hob : ∀ x r, ob x ≠ .loop r) (f : α → Nat → Act)
    (hassign : ∀ (l s : Nat) (x : α) (B : World) (K : Act → World → Prop), s ≤ B.heap.size → (∀ Bx B', s ≤ Bx → Kept (fun _ => False) B B' → B'.heap[Bx]? = some (ob x) → K (f x Bx) B') →
      assign.wpIn (F.inRound l) (n - 1 - 1) P (Exit.then K (fun _ _ _ => False)) { tmps := (ps.zip (encs x)).foldl (fun t (p, v) => t.setIfInBounds p v) a.tmps, defers := [] } B)
    (hbody : ∀ (l : Nat) (pre : List α) (x : α) (Bx : Nat) (A B : World), I pre A → Kept (fun _ => False) A B → M pre x A.heap.size B → w.heap.size + 1 < A.heap.size → A.heap.size ≤ Bx → B.heap[Bx]? = some (ob x) → body.wpIn (F.inRound l) (n - 1 - 1) P (leftBy w.heap.size I Ix (pre ++ [x]) B) (f x Bx) B)
    (hdone : ∀ (xs : List α) (A W : World), S xs → I xs A → Kept (fun _ => False) A W → W.heap[w.heap.size]? = some (.deferred (some [])) → Q .normal { a with defers := { target := .collected w.heap.size, args := #[] } :: a.defers } W)
    (hstop : ∀ (c : Code) (pre : List α) (A W : World), Ix c pre A → Kept (fun _ => False) A W → W.heap[w.heap.size]? = some (.deferred (some [])) → c.wpIn F n P Q { a with defers := { target := .collected w.heap.size, args := #[] } :: a.defers } W) :
    (Code.rangeFunc g ps assign body).wpIn F n P Q a w := by
  refine range_m hro h1 hg hFg eg hseq hps I Ix hK hI hIx hM h0 (fun x s a' W => ∃ Bx, s ≤ Bx ∧ W.heap[Bx]? = some (ob x) ∧ a' = f x Bx) ?_ ?_ ?_ hdone hstop
  · rintro x s a' B r r' ⟨Bx, h1, h2, rfl⟩ hr
    refine ⟨Bx, h1, ?_, rfl⟩
    rw [World.putObj_heap_other (fun e => by rw [e, hr] at h2; exact hob x r (Option.some.inj h2).symm)]
    exact h2
  · intro l s x B K hs hK
    exact hassign l s x B K hs fun Bx B' h1 h2 h3 => hK _ B' h2 ⟨Bx, h1, h3, rfl⟩
  · rintro l pre x a' A B hi k hm hl ⟨Bx, h1, h2, rfl⟩
    exact hbody l pre x Bx A B hi k hm hl h1 h2
/-- A loop of j rounds at most, walked round by round. -/
def Turns (P : Program) (c : Code) (Q : Exit → Act → World → Prop) : Nat → Act → World → Prop
  | 0, a, w => c.wp P (Exit.then (fun _ _ => False) Q) a w
  | j + 1, a, w => c.wp P (Exit.then (Turns P c Q j) Q) a w
theorem least {p : Nat → Prop} (h : ∃ j, p j) : ∃ j, p j ∧ ∀ i, p i → j ≤ i := by
  obtain ⟨j, hj⟩ := h
  induction j using Nat.strongRecOn with
  | _ j ih =>
    by_cases hex : ∃ i, i < j ∧ p i
    · obtain ⟨i, hi, hp⟩ := hex
      exact ih i hi hp
    · refine ⟨j, hj, fun i hp => ?_⟩
      rcases Nat.lt_or_ge i j with h | h
      · exact (hex ⟨i, h, hp⟩).elim
      · exact h
open Classical in
theorem wp_turns {c : Code} {Q : Exit → Act → World → Prop} {a : Act} {w : World} (j : Nat) (h : Turns P c Q j a w) : (Code.loop c).wp P Q a w := by
  refine wp_loop (fun a w => ∃ j, Turns P c Q j a w) (fun a w => if h : ∃ j, Turns P c Q j a w then Classical.choose (least h) else 0) ⟨j, h⟩ ?_
  intro a w hI
  have hs := (Classical.choose_spec (least hI)).1
  rw [dif_pos hI]
  cases e : Classical.choose (least hI) with
  | zero =>
    rw [e] at hs
    exact wp_mono hs fun x a' w' hq => by
      cases x with
      | normal => exact hq.elim
      | _ => exact hq
  | succ i =>
    rw [e] at hs
    exact wp_mono hs fun x a' w' hq => by
      cases x with
      | normal =>
        have hex : ∃ j, Turns P c Q j a' w' := ⟨i, hq⟩
        refine ⟨hex, ?_⟩
        rw [dif_pos hex]
        have := (Classical.choose_spec (least hex)).2 i hq
        omega
      | _ => exact hq
/-- An operation that is no defer, in a round as elsewhere. -/
def noDefer (o : Oper) : Bool := match o.op with
  | .defer _ => false
  | _ => true
theorem noDefer_ne {o : Oper} (h : noDefer o = true) : ∀ c, o.op ≠ .defer c := by
  intro c e
  unfold noDefer at h
  rw [e] at h
  cases h
theorem oper_round {l : Nat} {o : Oper} {a : Act} {w : World} {K : Act → World → Prop} {Q : Exit → Act → World → Prop} (hro : F.round = none) (hd : noDefer o = true) (hh : o.wpIn F n P a w K Q) : o.wpIn (F.inRound l) n P a w K Q := by
  obtain ⟨h1, h2⟩ := hh
  refine ⟨h1, ?_⟩
  rw [hro, Oper.semAt_none] at h2
  have e : (F.inRound l).round = some l := rfl
  rw [e, Oper.semAt_some l _ _ (noDefer_ne hd)]
  generalize (execOp a.eval o).run P w = r at h2 ⊢
  cases r with
  | ok x w' => cases x <;> exact h2
  | halt x w' => cases x <;> exact h2
theorem any_round {l : Nat} {md : Region.Mode} {ops : Array Oper} {Q : Exit → Act → World → Prop} (hro : F.round = none) (hd : ∀ (i : Nat) (o : Oper), ops[i]? = some o → noDefer o = true) : ∀ (fuel : Nat) (listed : Array Bool) (a : Act) (w : World), wpAnyIn F n P md ops Q fuel listed a w → wpAnyIn (F.inRound l) n P md ops Q fuel listed a w
  | 0, _, _, _, h => h
  | fuel + 1, listed, a, w, h => by
    refine ⟨h.1, fun i hi => ?_⟩
    have h2 := wpOpIn_mono (fun a' w' => any_round (l := l) hro hd fuel (listed.setIfInBounds i true) a' w') (h.2 i hi)
    unfold wpOpIn at h2 ⊢
    cases ho : ops[i]? with
    | none => simp only [ho] at h2; exact h2
    | some o =>
      simp only [ho] at h2
      simp only []
      split
      · rename_i hw
        rw [if_pos hw] at h2
        exact oper_round hro (hd i o ho) h2
      · rename_i hw
        rw [if_neg hw] at h2
        exact h2
/-- A region that draws its order and only reads, in a round: one walk. -/
theorem quiet_round {l id : Nat} {Q : Exit → Act → World → Prop} {a : Act} {w : World} {ls : List Oper} (hro : F.round = none) (hm : P.follows .mixedOrders = true) (hB : Region.lexB .any ls.toArray = true) (hd : ls.all noDefer = true)
    (h : wpQuietIn F n P ls.toArray (fun w' => ∃ n, w' = w.drewN n) (fun a' => ∀ w', (∃ n, w' = w.drewN n) → Q .normal a' w') ls a) : (Code.region id ls.toArray true).wpIn (F.inRound l) n P Q a w := by
  simp only [Region.lexB, Bool.and_eq_true] at hB
  have hC : (fun w' => ∃ n, w' = w.drewN n) { w with drawn := w.drawn + 1 } := ⟨1, rfl⟩
  have h1 := wpAnyQIn_lex (F := F) (n := n) (C := fun w' => ∃ n, w' = w.drewN n) (md := .any) hB.1 ls 0 (Array.replicate ls.toArray.size false) a (by simp) (by simpa using hB.2) h
  have h2 := wpAnyIn_of_quiet (Q := fun a' => ∀ w', (∃ n, w' = w.drewN n) → Q .normal a' w') (Q' := Q) hro (fun _ w' hw' h => h w' hw') _ _ _ _ hC h1
  refine wpIn_region_any hm (any_round hro (fun i o ho => ?_) _ _ _ _ (by simpa using h2))
  rw [List.getElem?_toArray] at ho
  exact List.all_eq_true.1 hd o (List.mem_of_getElem? ho)
end Go.Proofs.YtidgofpmnlddaaaGreatDoor
namespace Go.Proofs.YtidgofpmnlddaaaGreatDoor
open Go.RowKit

variable {P : Program}
theorem rowsIn_wideP {n : Nat} {row : String} {args : Array Value} {w : World} {R : Value → World → Prop} (h : Go.Rows P row args w R) : RowsIn Fence.wide n P row args w R :=
  fun c cs _ => let ⟨v, w', r, s⟩ := h c cs; ⟨v, w', r, stepsIn_wide.2 s⟩
theorem oper_wide {n : Nat} {o : Oper} {a : Act} {w : World} {K : Act → World → Prop} {Q : Exit → Act → World → Prop} (h : o.wp P a w K Q) : o.wpIn Fence.wide n P a w K Q := by
  refine ⟨fun _ _ => trivial, ?_⟩
  have e : Fence.wide.round = none := rfl
  rw [e, Oper.semAt_none]
  unfold Oper.wp at h
  generalize (execOp a.eval o).run P w = r at h ⊢
  cases r with
  | ok x w' =>
    cases x with
    | enter f args => exact ⟨fun hx => by simp [Fence.wide] at hx, callsIn_wide.2 h⟩
    | row r args => exact ⟨fun hx => by simp [Fence.wide] at hx, rowsIn_wideP h⟩
    | round l f tmps assign body => exact False.elim h
    | _ => exact h
  | halt x w' => cases x <;> exact h
theorem any_wide {n : Nat} {md : Region.Mode} {ops : Array Oper} {Q : Exit → Act → World → Prop} (hno : ¬ LetsOut Q) : ∀ (fuel : Nat) (listed : Array Bool) (a : Act) (w : World), wpAny P md ops Q fuel listed a w → wpAnyIn Fence.wide n P md ops Q fuel listed a w
  | 0, _, _, _, h => h
  | fuel + 1, listed, a, w, h => by
    refine ⟨h.1, fun i hi => ?_⟩
    have h2 := wpOp_mono (fun a' w' => any_wide (n := n) hno fuel (listed.setIfInBounds i true) a' w') (h.2 i hi)
    unfold wpOp at h2
    unfold wpOpIn
    cases ho : ops[i]? with
    | none => simp only [ho] at h2; exact h2
    | some o =>
      simp only [ho] at h2
      simp only []
      split
      · rename_i hw
        rw [if_pos hw] at h2
        rcases h2 with h2 | h2
        · exact oper_wide h2
        · exact absurd h2.2 hno
      · rename_i hw
        rw [if_neg hw] at h2
        exact ⟨fun _ _ => trivial, h2⟩
/-- A region that draws its order, in a round, an operation at a time. -/
theorem held_round {l id n : Nat} {S : World → Prop} {Q : Exit → Act → World → Prop} {a : Act} {w : World} {ls : List Oper} (hm : P.follows .mixedOrders = true) (hd : ls.all noDefer = true) (hno : ¬ LetsOut Q)
    (h : wpAnyH P .any ls.toArray Q S ls.toArray.size (Array.replicate ls.toArray.size false) a { w with drawn := w.drawn + 1 }) : (Code.region id ls.toArray true).wpIn (Fence.wide.inRound l) n P Q a w := by
  refine wpIn_region_any hm (any_round rfl (fun i o ho => ?_) _ _ _ _ (any_wide hno _ _ _ _ (wpAny_of_held _ _ _ _ h)))
  rw [List.getElem?_toArray] at ho
  exact List.all_eq_true.1 hd o (List.mem_of_getElem? ho)
theorem held_wide {id n : Nat} {S : World → Prop} {Q : Exit → Act → World → Prop} {a : Act} {w : World} {ops : Array Oper} (hm : P.follows .mixedOrders = true)
    (h : wpAnyH P .any ops Q S ops.size (Array.replicate ops.size false) a { w with drawn := w.drawn + 1 }) : (Code.region id ops true).wpIn Fence.wide n P Q a w :=
  wpIn_wide.2 (wp_region_held hm h)
/-- Only the plain end. -/
def onlyN (Q : Exit → Act → World → Prop) : Exit → Act → World → Prop
  | .normal, a, w => Q .normal a w
  | _, _, _ => False
theorem wp_onlyN {c : Code} {Q : Exit → Act → World → Prop} {a : Act} {w : World} (h : c.wp P (onlyN Q) a w) : c.wp P Q a w :=
  wp_mono h (fun e a' w' hq => by cases e <;> first | exact hq | exact hq.elim)
variable {F : Fence} {n : Nat}
/-- A range over a function whose variable is a slot: the frame behind the assignment is f x. -/
theorem range_n {α : Type} {g : Operand} {ps : Array Tmp} {assign body : Code} {Q : Exit → Act → World → Prop} {a : Act} {w : World}
    (hro : F.round = none) (h1 : 1 ≤ n) {gf : Nat} {lb : Array Value} (hg : a.eval g = .func (.func gf) #[] lb) (hFg : F.fn gf) (eg : ∀ args w, (callFunc gf args).run P w = .ok (.enter gf args) w)
    {encs : α → Array Value} {Kn : World → Prop} {M : List α → α → Nat → World → Prop} {S : List α → Prop} (hseq : SeqM F (n - 1) P gf lb encs Kn M S) (hps : ∀ x, (encs x).size = ps.size)
    (I : List α → World → Prop) (Ix : Code → List α → World → Prop) (hK : ∀ pre A, I pre A → Kn A)
    (hI : ∀ pre A r r', I pre A → A.heap[w.heap.size + 1]? = some (.loop r) → I pre (A.putObj (w.heap.size + 1) (.loop r')))
    (hIx : ∀ c pre A r r', Ix c pre A → A.heap[w.heap.size + 1]? = some (.loop r) → Ix c pre (A.putObj (w.heap.size + 1) (.loop r')))
    (hM : ∀ pre x s B B' r, M pre x s B → B.heap[w.heap.size + 1]? = some (.loop r) → Kept (fun i => i = w.heap.size + 1) B B' → M pre x s B')
    (h0 : ∀ r, I [] ((w.alloc (.deferred (some []))).alloc (.loop r))) (f : α → Act)
    (hassign : ∀ (l : Nat) (x : α) (B : World) (K : Act → World → Prop), (∀ B', Kept (fun _ => False) B B' → K (f x) B') →
      assign.wpIn (F.inRound l) (n - 1 - 1) P (Exit.then K (fun _ _ _ => False)) { tmps := (ps.zip (encs x)).foldl (fun t (p, v) => t.setIfInBounds p v) a.tmps, defers := [] } B)
    (hbody : ∀ (l : Nat) (pre : List α) (x : α) (A B : World), I pre A → Kept (fun _ => False) A B → M pre x A.heap.size B → w.heap.size + 1 < A.heap.size → body.wpIn (F.inRound l) (n - 1 - 1) P (leftBy w.heap.size I Ix (pre ++ [x]) B) (f x) B)
    (hdone : ∀ (xs : List α) (A W : World), S xs → I xs A → Kept (fun _ => False) A W → W.heap[w.heap.size]? = some (.deferred (some [])) → Q .normal { a with defers := { target := .collected w.heap.size, args := #[] } :: a.defers } W)
    (hstop : ∀ (c : Code) (pre : List α) (A W : World), Ix c pre A → Kept (fun _ => False) A W → W.heap[w.heap.size]? = some (.deferred (some [])) → c.wpIn F n P Q { a with defers := { target := .collected w.heap.size, args := #[] } :: a.defers } W) :
    (Code.rangeFunc g ps assign body).wpIn F n P Q a w := by
  refine range_m hro h1 hg hFg eg hseq hps I Ix hK hI hIx hM h0 (fun x _ a' _ => a' = f x) ?_ ?_ ?_ hdone hstop
  · exact fun _ _ _ _ _ _ h _ => h
  · intro l s x B K _ hK
    exact hassign l x B K fun B' h2 => hK _ B' h2 rfl
  · rintro l pre x a' A B hi k hm hl rfl
    exact hbody l pre x A B hi k hm hl
end Go.Proofs.YtidgofpmnlddaaaGreatDoor
namespace Go.Proofs.YtidgofpmnlddaaaGreatDoor
open Go.ChangeShapes Go.WideShapes Go.ChangeAt Go.RowKit Go.Shelf
attribute [local go_sem] Oper.semAt_some

set_option maxRecDepth 20000 in
set_option maxHeartbeats 2000000 in
theorem positionsIn_any (L : List Pg) (a : Option Addr) (c : Nat) (w : World) (h : PsAt w a L) (hl : L.length ≤ 1099511627776) (ht : tot (pol L) ≤ 1099511627776) :
    Calls Tryz.prog 69 #[.slice a L.length c] w fun e w' => e = .returned (.int .i64 ((tot (pol L) : Nat) : Int)) ∧ Kept (fun _ => False) w w' := by
  have HP := hideP h
  obtain ⟨nl, hnl⟩ : ∃ nl, nl = L.length := ⟨_, rfl⟩
  rw [← hnl] at hl ⊢
  have HNL := hideP hnl
  obtain ⟨T, hT⟩ : ∃ T, T = tot (pol L) := ⟨_, rfl⟩
  rw [← hT] at ht ⊢
  have HT := hideP hT
  clear h hnl hT
  go_enter Tryz.func69, Tryz.ntmps69
  go_wp2
  go_loopw [3, 8] (fun v3 v8 wr => ∃ (j s : Nat), j ≤ nl ∧ s ≤ T ∧ v8 = .int .i64 j ∧ v3 = .int .i64 s ∧ Hid (s = tot (pol (L.take j))) ∧ Hid (Kept (fun _ => False) w wr)) (fun _ v8 _ => nl - (intOf v8).toNat)
  case atStart => exact ⟨0, 0, by omega, by omega, rfl, rfl, hideP rfl, hideP (Kept.refl _ _)⟩
  case round =>
    obtain ⟨j, s, hj, hs, rfl, rfl, HS, HK⟩ := hrel
    by_cases hlt : j < nl
    · have hjj : (j : Int) < (nl : Int) := by omega
      have hjl : j < L.length := by rw [← HNL.out]; exact hlt
      obtain ⟨bl, off, rfl, hc⟩ := (HP.out.kept HK.out) (by intro e; rw [e] at hjl; simp at hjl)
      obtain ⟨x0, x1, -⟩ := hc j hjl
      have h2 : s + L[j].ps.length = tot (pol (L.take (j + 1))) := by rw [pol_step hjl, tot_append, ← HS.out]; simp [tot]
      have h3 : s + L[j].ps.length ≤ T := by
        rw [h2, pol_take, HT.out]
        exact tot_take_le _ _
      have HS2 := hideP h2
      clear h2 hc HS
      generalize L[j] = en at *
      obtain ⟨d, pa, pc, ps⟩ := en
      simp only at x0 x1 h3 HS2
      generalize ps.length = n at *
      have HK2 := hideP (HK.out.trans (Kept.alloc wr (.cells #[.int .i64 d, .slice pa n pc] 38)) (fun _ f => f.elim))
      go_wp2
      go_roundw
      case rel => exact ⟨j + 1, s + n, by omega, h3, by go_num, by go_num, HS2, HK2⟩
      case measure => simp [intOf]; omega
    · have hjj : ¬ (j : Int) < (nl : Int) := by omega
      have HE : Hid (s = T) := hideP (by rw [HS.out, HT.out, List.take_of_length_le (by have := HNL.out; omega)])
      go_wp2
      go_ret
      exact ⟨by rw [← HE.out]; rfl, HK.out⟩
/-- What Chunk's function reads. -/
structure ChK (a : Option Addr) (n c b1 b2 : Nat) (W : World) : Prop where
  s : W.cell? ⟨b1, 0, none⟩ = some (.slice a n c)
  i : W.cell? ⟨b2, 0, none⟩ = some (.int .i64 16)
theorem ChK.kept {a : Option Addr} {n c b1 b2 : Nat} {W W' : World} (h : ChK a n c b1 b2 W) (k : Kept (fun _ => False) W W') : ChK a n c b1 b2 W' := ⟨k.cell h.s (fun f => f), k.cell h.i (fun f => f)⟩
def ChM (n : Nat) (pre : List Nat) (x : Nat) (_ : Nat) (_ : World) : Prop := x = pre.length ∧ 16 * x < n
/-- A block's number of documents. -/
def chn (n x : Nat) : Nat := if n - 16 * x < 16 then n - 16 * x else 16
def encC (b off n : Nat) (x : Nat) : Array Value := #[.slice (some ⟨b, off + 16 * x * 2, none⟩) (chn n x) (chn n x)]
end Go.Proofs.YtidgofpmnlddaaaGreatDoor
namespace Go.Proofs.YtidgofpmnlddaaaGreatDoor
open Go.ChangeShapes Go.WideShapes Go.ChangeAt Go.RowKit

end Go.Proofs.YtidgofpmnlddaaaGreatDoor
namespace Go.Proofs.YtidgofpmnlddaaaGreatDoor
open Go.ChangeShapes Go.WideShapes Go.ChangeAt Go.RowKit

/-- Lists of bytes: where each lies, its room and its bytes. -/
abbrev Part := Option Addr × Nat × List Int
def Part.val (p : Part) : Value := .slice p.1 p.2.2.length p.2.1
def flat (P : List Part) : List Int := (P.map (fun p => p.2.2)).flatten
def PartsAt (w : World) (a : Option Addr) (P : List Part) : Prop :=
  P ≠ [] → ∃ b off, a = some ⟨b, off, none⟩ ∧ ∀ k (h : k < P.length), w.cell? ⟨b, off + k, none⟩ = some (P[k]).val
theorem flat_take {P : List Part} {k : Nat} (h : k < P.length) : flat (P.take (k + 1)) = flat (P.take k) ++ (P[k]).2.2 := by
  rw [flat, List.take_add_one, List.getElem?_eq_getElem h, List.map_append, List.flatten_append, flat]
  simp only [Option.toList_some, List.map_cons, List.map_nil, List.flatten_cons, List.flatten_nil, List.append_nil]
theorem flat_take_le {P : List Part} {k : Nat} : (flat (P.take k)).length ≤ (flat P).length := by
  have e : flat P = flat (P.take k) ++ flat (P.drop k) := by
    rw [flat, flat, flat, ← List.flatten_append, ← List.map_append, List.take_append_drop]
  rw [e, List.length_append]
  omega
theorem flat_next_le {P : List Part} {k : Nat} (h : k < P.length) : (flat (P.take k)).length + (P[k]).2.2.length ≤ (flat P).length := by
  have := flat_take_le (P := P) (k := k + 1)
  rwa [flat_take h, List.length_append] at this
theorem kept_below {w w' : World} (h : Kept (fun _ => False) w w') : Below w.heap.size w w' := h.below (Nat.le_refl _) (fun _ _ f => f)

set_option maxRecDepth 20000 in
set_option maxHeartbeats 1000000 in
theorem concat_any (P : List Part) (pa : Option Addr) (pc : Nat) (w : World) (hP : PartsAt w pa P) (hB : ∀ p ∈ P, BytesAt w p.1 p.2.2) (hl : P.length ≤ 1099511627776) (hn : (flat P).length ≤ 140737488355328) :
    Calls Tryz.prog 45 #[.slice pa P.length pc] w fun e w' => e = .returned (.slice (some ⟨w.heap.size, 0, none⟩) (flat P).length (flat P).length) ∧ w'.ownsRow w.heap.size 5 1 (.slice (some ⟨w.heap.size, 0, none⟩) (flat P).length (flat P).length) (flat P).length (bs (flat P)) ∧ Kept (fun _ => False) w w' := by
  obtain ⟨i0, hi, hz0, hz1, hz2⟩ := info_parts Tryz.infoB
  have HP := hide hP
  have HB := hide hB
  obtain ⟨N, hN⟩ : ∃ N, N = (flat P).length := ⟨_, rfl⟩
  rw [← hN] at hn ⊢
  have HN := hide hN
  clear hP hB hN
  go_enter Tryz.func45, Tryz.ntmps45
  go_wp2
  go_loopw [3, 12] (fun sz i wr => w = wr ∧ ∃ k : Nat, k ≤ P.length ∧ i = .int .i64 k ∧ sz = .int .i64 ((flat (P.take k)).length : Nat)) (fun _ i _ => P.length - (intOf i).toNat)
  case atStart => exact ⟨rfl, 0, Nat.zero_le _, rfl, rfl⟩
  case round =>
    obtain ⟨rfl, k, hk, rfl, rfl⟩ := hrel
    by_cases hlt : k < P.length
    · obtain ⟨b, off, rfl, hcl⟩ := HP.out (by intro e; rw [e] at hlt; simp at hlt)
      have hc := hcl k hlt
      unfold Part.val at hc
      have hfl := flat_next_le hlt
      have hft := congrArg List.length (flat_take hlt)
      rw [List.length_append] at hft
      obtain ⟨m, hm⟩ : ∃ m, m = (flat (P.take k)).length := ⟨_, rfl⟩
      obtain ⟨m2, hm2⟩ : ∃ m2, m2 = (flat (P.take (k + 1))).length := ⟨_, rfl⟩
      obtain ⟨⟨qa, qc, ql⟩, hq⟩ : ∃ q, q = P[k] := ⟨_, rfl⟩
      rw [← HN.out, ← hm, ← hq] at hfl
      rw [← hm, ← hm2, ← hq] at hft
      rw [← hm]
      rw [← hq] at hc
      simp only at hc hfl hft
      have HM2 := hide hm2
      clear hcl hm hq hm2
      go_wp2
      go_roundw
      case rel => exact ⟨by first | rfl | trivial, k + 1, by omega, by go_num, by rw [← HM2.out, hft]; go_num⟩
      case measure => simp [intOf]; omega
    · obtain rfl : k = P.length := by omega
      rw [List.take_length, ← HN.out]
      clear hlt hk
      go_wp2_with (at_make; refine wpList_make_full _ rfl _ _ 26 rfl w.heap.size 5 i0 (.int .u8 0) 1 Tryz.underlying26 hi hz0 hz1 _ _ _ _ N rfl rfl rfl rfl ?m1 ?m2 (Nat.le_refl _) ?_)
      case m1 => rw [hz2]; omega
      case m2 => unfold maxLen; omega
      intro w1 hown hgrow
      rcases hown.2 with ⟨e, _⟩ | ⟨g, cap, cur, hv, _, hg, _, _, hcs, _⟩
      · cases e
      simp only [Value.slice.injEq, Option.some.injEq, Addr.mk.injEq, true_and, and_true] at hv
      obtain ⟨rfl, rfl⟩ := hv
      have HG0 := hide hg
      have HS0 := hide hcs
      have HB0 := hide (kept_below ((Kept.grown hgrow).mono (fun _ e => by cases e)))
      clear hown hgrow hg hcs
      go_wp2
      go_loopw [7, 25] (fun at_ i wr => ∃ (k : Nat) (rest : List Value), k ≤ P.length ∧ i = .int .i64 k ∧ at_ = .int .i64 ((flat (P.take k)).length : Nat) ∧ wr.heap[w.heap.size]? = some (.cells (bs (flat (P.take k)) ++ rest).toArray 5 (0, 0)) ∧ (flat (P.take k)).length + rest.length = N ∧ Below w.heap.size w wr) (fun _ i _ => P.length - (intOf i).toNat)
      case atStart =>
        refine ⟨0, cur.toList, Nat.zero_le _, rfl, rfl, ?_, ?_, HB0.out⟩
        · have e : bs (flat (P.take 0)) = [] := rfl
          rw [e, List.nil_append]
          exact HG0.out
        · have := HS0.out
          show 0 + cur.toList.length = N
          simp
          omega
      case round =>
        clear HG0 HS0 HB0
        obtain ⟨k, rest, hk, rfl, rfl, hg, hlen, hbw⟩ := hrel
        by_cases hlt : k < P.length
        · obtain ⟨b, off, rfl, hcl⟩ := HP.out (by intro e; rw [e] at hlt; simp at hlt)
          have hc0 := hcl k hlt
          have hbl : b < w.heap.size := World.block_lt_of_cell? w _ hc0
          have hc := (World.cell?_of_block (a := ⟨b, off + k, none⟩) (hbw.block b hbl)).trans hc0
          unfold Part.val at hc
          have hbb := HB.out _ (List.getElem_mem hlt)
          have hfl := flat_next_le hlt
          have hft := congrArg List.length (flat_take hlt)
          rw [List.length_append] at hft
          have hfe := flat_take hlt
          obtain ⟨m, hm⟩ : ∃ m, m = (flat (P.take k)).length := ⟨_, rfl⟩
          obtain ⟨m2, hm2⟩ : ∃ m2, m2 = (flat (P.take (k + 1))).length := ⟨_, rfl⟩
          obtain ⟨⟨qa, qc, ql⟩, hq⟩ : ∃ q, q = P[k] := ⟨_, rfl⟩
          obtain ⟨X, hX⟩ : ∃ X, X = bs (flat (P.take k)) := ⟨_, rfl⟩
          obtain ⟨CS, hCS⟩ : ∃ CS, CS = bs ql := ⟨_, rfl⟩
          have hCSl : CS.length = ql.length := by rw [hCS, bs_length]
          have hXl : X.length = m := by rw [hX, bs_length, hm]
          rw [← HN.out, ← hm, ← hq] at hfl
          rw [← hm, ← hm2, ← hq] at hft
          rw [← hm] at hlen ⊢
          rw [← hX] at hg
          rw [← hq] at hc hbb hfe
          simp only at hc hfl hft hbb hfe
          have HM2 := hide hm2
          have HX := hide hX
          have HCS := hide hCS
          have HG := hide hg
          have HBW := hide hbw
          have HFT := hide hfe
          have HQ := hide hbb
          clear hcl hm hq hm2 hX hCS hg hbw hfe hbb hc0
          have hsrc : Hid (0 < CS.length → ∃ ad, qa = some ad ∧ ∀ j v, CS[j]? = some v → wr.cell? (ad.add j) = some v) := by
            intro hp
            obtain ⟨b', off', rfl, hc'⟩ := HQ.out (by intro e; rw [hCSl, e] at hp; simp at hp)
            refine ⟨_, rfl, ?_⟩
            rw [HCS.out]
            refine BytesAt.cells (fun j hj => ?_)
            have hb' : b' < w.heap.size := World.block_lt_of_cell? w _ (hc' j hj)
            exact (World.cell?_of_block (a := ⟨b', off' + j, none⟩) (HBW.out.block b' hb')).trans (hc' j hj)
          by_cases hNm : N = m
          · subst hNm
            go_wp2_with (refine wpList_copy_splice rfl (.tmp 32) (.tmp 33) 26 26 rfl 5 Tryz.underlying26 Tryz.sizeB (some ⟨w.heap.size, 0, none⟩) qa 0 0 ql.length qc rfl rfl w.heap.size N (X ++ rest) 5 HG.out CS ?k1 ?k2 ?k3 ?k4 w.heap.size w HBW.out (Nat.le_refl _) ?_)
            case k1 =>
              rw [hCSl]
              have : ql.length = 0 := by omega
              rw [this]; rfl
            case k2 => intro hp; exfalso; omega
            case k3 => rw [hCSl, List.length_append, hXl]; omega
            case k4 => rw [HCS.out]; exact bs_one _
            intro w2 hg2 hb2
            try rw [hCSl]
            have HB2 := hide hb2
            clear hb2
            go_wp2
            go_roundw
            case rel =>
              refine ⟨k + 1, rest.drop ql.length, by omega, by go_num, by rw [← HM2.out, hft]; go_num, ?_, by rw [List.length_drop, ← HM2.out]; omega, HB2.out⟩
              have e : splice (X ++ rest) N CS = bs (flat (P.take (k + 1))) ++ rest.drop ql.length := by
                rw [splice, ← hXl, List.take_left, ← List.drop_drop, List.drop_left, hCSl, HFT.out, bs_append, HX.out, HCS.out, List.append_assoc]
              rw [← e]
              exact hg2.out
            case measure => simp [intOf]; omega
          · skip
            go_wp2_with (refine wpList_copy_splice rfl (.tmp 32) (.tmp 33) 26 26 rfl 5 Tryz.underlying26 Tryz.sizeB (some ⟨w.heap.size, m, none⟩) qa (N - m) (N - m) ql.length qc rfl rfl w.heap.size m (X ++ rest) 5 HG.out CS ?k1 ?k2 ?k3 ?k4 w.heap.size w HBW.out (Nat.le_refl _) ?_)
            case k1 => rw [hCSl]; exact (Nat.min_eq_left (by omega)).symm
            case k2 => intro hp; first | exact ⟨rfl, hsrc.out (by omega)⟩ | exact hsrc.out (by omega)
            case k3 => rw [hCSl, List.length_append, hXl]; omega
            case k4 => rw [HCS.out]; exact bs_one _
            intro w2 hg2 hb2
            try rw [hCSl]
            have HB2 := hide hb2
            clear hb2
            go_wp2
            go_roundw
            case rel =>
              refine ⟨k + 1, rest.drop ql.length, by omega, by go_num, by rw [← HM2.out, hft]; go_num, ?_, by rw [List.length_drop, ← HM2.out]; omega, HB2.out⟩
              have e : splice (X ++ rest) m CS = bs (flat (P.take (k + 1))) ++ rest.drop ql.length := by
                rw [splice, ← hXl, List.take_left, ← List.drop_drop, List.drop_left, hCSl, HFT.out, bs_append, HX.out, HCS.out, List.append_assoc]
              rw [← e]
              exact hg2.out
            case measure => simp [intOf]; omega
        · obtain rfl : k = P.length := by omega
          rw [List.take_length, ← HN.out] at hlen
          rw [List.take_length] at hg
          have hr0 : rest = [] := List.eq_nil_of_length_eq_zero (by omega)
          subst hr0
          rw [List.append_nil] at hg
          have HG := hide hg
          have HBW := hide hbw
          clear hlt hk hg hbw hlen
          go_wp2
          go_ret
          refine ⟨rfl, ⟨by rw [bs_length, HN.out, Nat.mul_one], .inr ⟨w.heap.size, N, (bs (flat P)).toArray, rfl, Nat.le_refl _, HG.out, Nat.le_refl _, by unfold maxLen; omega, by rw [List.size_toArray, bs_length, HN.out]; omega, ?_⟩⟩, Kept.of_below HBW.out⟩
          rw [List.toList_toArray, List.take_of_length_le (by rw [bs_length, ← HN.out]; omega)]
end Go.Proofs.YtidgofpmnlddaaaGreatDoor
