import Derived.RangeFuncNested
import Derived.RangeFuncBound
import Derived.RangeFuncCalls
import Derived.RangeFuncLeaves
import Derived.Test.YtcbhgpdookappaaDoorBase
namespace Go.Proofs.YtcbhgpdookappaaDoor.Ds
open Go.RowKit

/-! A range over an iterator that may itself hold a range over an iterator, in a loop of its own. -/
/-- What an iterator may do between two rounds: new blocks come; of what stood, only what is no cells may turn, from s on. -/
structure KeptN (s : Nat) (A B : World) : Prop where
  os : B.os = A.os
  tape : B.tape = A.tape
  output : B.output = A.output
  size : A.heap.size ≤ B.heap.size
  block : ∀ (k : Nat) (o : Obj), A.heap[k]? = some o → B.heap[k]? = some o ∨ (s ≤ k ∧ o.isCells = false ∧ ∃ o', B.heap[k]? = some o' ∧ o'.isCells = false)
theorem size_of_some {W : World} {l : Nat} {o : Obj} (h : W.heap[l]? = some o) : l < W.heap.size := (Array.getElem?_eq_some_iff.1 h).1
theorem KeptN.of_kept {s : Nat} {A B : World} (k : Kept (fun _ => False) A B) : KeptN s A B := ⟨k.os, k.tape, k.output, k.size, fun _ _ h => .inl (k.heap h (fun f => f))⟩
theorem KeptN.refl (s : Nat) (A : World) : KeptN s A A := .of_kept (Kept.refl _ _)
theorem KeptN.trans {s : Nat} {A B C : World} (h : KeptN s A B) (k : KeptN s B C) : KeptN s A C :=
  ⟨k.os.trans h.os, k.tape.trans h.tape, k.output.trans h.output, Nat.le_trans h.size k.size, fun i o ho => by
    rcases h.block i o ho with h1 | ⟨h1, h2, o', h3, h4⟩
    · exact k.block i o h1
    · rcases k.block i o' h3 with h5 | ⟨_, _, o'', h6, h7⟩
      · exact .inr ⟨h1, h2, o', h5, h4⟩
      · exact .inr ⟨h1, h2, o'', h6, h7⟩⟩
theorem KeptN.mono {s s' : Nat} {A B : World} (h : KeptN s A B) (hs : s' ≤ s) : KeptN s' A B :=
  ⟨h.os, h.tape, h.output, h.size, fun i o ho => (h.block i o ho).imp id fun ⟨h1, r⟩ => ⟨Nat.le_trans hs h1, r⟩⟩
theorem KeptN.cells {s : Nat} {A B : World} (h : KeptN s A B) {k : Nat} {cs : Array Value} {t : TypeId} {p : Nat × Nat} (ho : A.heap[k]? = some (.cells cs t p)) : B.heap[k]? = some (.cells cs t p) := by
  rcases h.block k _ ho with h1 | ⟨_, h2, _⟩
  · exact h1
  · cases h2
theorem KeptN.low {s : Nat} {A B : World} (h : KeptN s A B) {k : Nat} {o : Obj} (hk : k < s) (ho : A.heap[k]? = some o) : B.heap[k]? = some o := by
  rcases h.block k _ ho with h1 | ⟨h2, _⟩
  · exact h1
  · omega
theorem KeptN.put {A : World} {l : Nat} {o : Obj} (o' : Obj) (ho : A.heap[l]? = some o) (hn : o.isCells = false) (hn' : o'.isCells = false) : KeptN l A (A.putObj l o') := by
  refine ⟨rfl, rfl, rfl, by rw [World.putObj_size]; exact Nat.le_refl _, fun k x hx => ?_⟩
  by_cases e : k = l
  · subst e
    rw [ho] at hx
    cases hx
    exact .inr ⟨Nat.le_refl _, hn, o', World.putObj_heap_same (size_of_some ho), hn'⟩
  · exact .inl (by rw [World.putObj_heap_other e]; exact hx)
theorem KeptN.cell {s : Nat} {A B : World} (h : KeptN s A B) {p : Addr} {v : Value} (hc : A.cell? p = some v) : B.cell? p = some v := by
  obtain ⟨o, ho⟩ : ∃ o, A.heap[p.block]? = some o := ⟨_, Array.getElem?_eq_getElem (World.block_lt_of_cell? A p hc)⟩
  rcases h.block _ _ ho with h1 | ⟨_, h2, _⟩
  · exact (World.cell?_of_block (h1.trans ho.symm)).trans hc
  · unfold World.cell? at hc
    rw [ho] at hc
    cases o <;> simp_all [Obj.isCells]
/-- What a round leaves alone from s on: all but cells of a type in T. -/
structure Above (s : Nat) (T : TypeId → Prop) (A B : World) : Prop where
  size : A.heap.size ≤ B.heap.size
  same : ∀ (k : Nat) (o : Obj), s ≤ k → A.heap[k]? = some o → (∀ cs t p, o = .cells cs t p → ¬ T t) → B.heap[k]? = some o
theorem Above.trans {s : Nat} {T : TypeId → Prop} {A B C : World} (h : Above s T A B) (k : Above s T B C) : Above s T A C :=
  ⟨Nat.le_trans h.size k.size, fun i o hi ho ht => k.same i o hi (h.same i o hi ho ht) ht⟩
theorem Above.mono {s s' : Nat} {T : TypeId → Prop} {A B : World} (h : Above s T A B) (hs : s ≤ s') : Above s' T A B := ⟨h.size, fun i o hi => h.same i o (Nat.le_trans hs hi)⟩
theorem Above.of_kept {s : Nat} {T : TypeId → Prop} {F : Nat → Prop} {A B : World} (k : Kept F A B) (hF : ∀ i, F i → i < s) : Above s T A B :=
  ⟨k.size, fun i o hi ho _ => k.heap ho (fun f => by have := hF i f; omega)⟩
theorem Above.cells {s : Nat} {T : TypeId → Prop} {A B : World} (h : Above s T A B) {k : Nat} (hk : s ≤ k) {cs : Array Value} {t : TypeId} {p : Nat × Nat} (ho : A.heap[k]? = some (.cells cs t p)) (ht : ¬ T t) : B.heap[k]? = some (.cells cs t p) :=
  h.same k _ hk ho fun _ _ _ e => by cases e; exact ht
theorem Above.other {s : Nat} {T : TypeId → Prop} {A B : World} (h : Above s T A B) {k : Nat} (hk : s ≤ k) {o : Obj} (ho : A.heap[k]? = some o) (hn : o.isCells = false) : B.heap[k]? = some o :=
  h.same k _ hk ho fun _ _ _ e => by subst e; cases hn

/-- The iterator's contract: whatever loop calls it, whose J lets it know what it reads (Kn). -/
def SeqN {α : Type} (F : Fence) (n : Nat) (P : Program) (g : Nat) (lb : Array Value) (encs : α → Array Value) (Kn : World → Prop) (T : TypeId → Prop) (M : List α → α → Prop) (S : List α → Prop) : Prop :=
  ∀ (l : Nat) (J Jx : List α → World → Prop) (W : World), (∀ pre A, J pre A → Kn A) → (∀ pre A B, J pre A → KeptN W.heap.size A B → J pre B) → (∀ pre A B, Jx pre A → KeptN W.heap.size A B → Jx pre B) →
    (∀ pre x B, M pre x → J pre B → W.heap.size ≤ B.heap.size → YieldAt F (n - 1) P l (encs x) B fun e C =>
      Above W.heap.size T B C ∧ ((e = .returned (.bool true) ∧ J (pre ++ [x]) C) ∨ (e = .returned (.bool false) ∧ Jx (pre ++ [x]) C))) →
    J [] W → CallsIn F n P g (#[.func (.yield l) #[] #[]] ++ lb) W fun e C =>
      (∃ v, e = .returned v) ∧ Above W.heap.size T W C ∧ ((∃ xs, S xs ∧ J xs C) ∨ (∃ pre, Jx pre C))

/-- Both blocks of the loop's own book-keeping lie as they lay. -/
def Still (D : Nat) (W W' : World) : Prop := ∀ k, k = D ∨ k = D + 1 → W'.heap[k]? = W.heap[k]?
/-- How a round's body may be left. -/
def leftN {α : Type} (D : Nat) (T : TypeId → Prop) (I : List α → World → Prop) (Ix : Code → List α → World → Prop) (xs : List α) (W : World) : Exit → Act → World → Prop
  | .normal, _, C => Still D W C ∧ Above (D + 2) T W C ∧ I xs C
  | .ret, _, C => Still D W C ∧ Above (D + 2) T W C ∧ Ix .ret xs C
  | .exit id, _, C => Still D W C ∧ Above (D + 2) T W C ∧ Ix (.exit id) xs C
  | .goto t, _, C => Still D W C ∧ Above (D + 2) T W C ∧ Ix (.goto t) xs C
  | .panic _, _, _ => False
  | .outgrown, _, _ => False
variable {F : Fence} {n : Nat} {P : Program}
theorem range_n {α : Type} {g : Operand} {ps : Array Tmp} {assign body : Code} {Q : Exit → Act → World → Prop} {a : Act} {w : World}
    (hro : F.round = none) (h1 : 1 ≤ n) {gf : Nat} {lb : Array Value} (hg : a.eval g = .func (.func gf) #[] lb) (hFg : F.fn gf) (eg : ∀ args w, (callFunc gf args).run P w = .ok (.enter gf args) w)
    {encs : α → Array Value} {Kn : World → Prop} {T : TypeId → Prop} {M : List α → α → Prop} {S : List α → Prop} (hseq : SeqN F (n - 1) P gf lb encs Kn T M S) (hps : ∀ x, (encs x).size = ps.size)
    (I : List α → World → Prop) (Ix : Code → List α → World → Prop) (hK : ∀ pre A, I pre A → Kn A)
    (hI : ∀ pre A B, I pre A → KeptN (w.heap.size + 1) A B → I pre B)
    (hIx : ∀ c pre A B, Ix c pre A → KeptN (w.heap.size + 1) A B → Ix c pre B)
    (h0 : ∀ r, I [] ((w.alloc (.deferred (some []))).alloc (.loop r))) (Ax : α → Act → World → Prop)
    (hAx : ∀ x a' A B, Ax x a' A → KeptN (w.heap.size + 1) A B → Ax x a' B)
    (hassign : ∀ (l : Nat) (x : α) (B : World) (K : Act → World → Prop), w.heap.size + 2 ≤ B.heap.size → (∀ a' B', Kept (fun _ => False) B B' → Ax x a' B' → K a' B') →
      assign.wpIn (F.inRound l) (n - 1 - 1) P (Exit.then K (fun _ _ _ => False)) { tmps := (ps.zip (encs x)).foldl (fun t (p, v) => t.setIfInBounds p v) a.tmps, defers := [] } B)
    (hbody : ∀ (l : Nat) (pre : List α) (x : α) (a' : Act) (B : World), M pre x → I pre B → w.heap.size + 2 ≤ B.heap.size → B.heap[w.heap.size]? = some (.deferred (some [])) → (∃ r, B.heap[w.heap.size + 1]? = some (.loop r)) → Ax x a' B → body.wpIn (F.inRound l) (n - 1 - 1) P (leftN w.heap.size T I Ix (pre ++ [x]) B) a' B)
    (hdone : ∀ (xs : List α) (W : World), S xs → I xs W → Above (w.heap.size + 2) T w W → w.heap.size + 2 ≤ W.heap.size → W.heap[w.heap.size]? = some (.deferred (some [])) → Q .normal { a with defers := { target := .collected w.heap.size, args := #[] } :: a.defers } W)
    (hstop : ∀ (c : Code) (pre : List α) (W : World), Ix c pre W → Above (w.heap.size + 2) T w W → w.heap.size + 2 ≤ W.heap.size → W.heap[w.heap.size]? = some (.deferred (some [])) → c.wpIn F n P Q { a with defers := { target := .collected w.heap.size, args := #[] } :: a.defers } W) :
    (Code.rangeFunc g ps assign body).wpIn F n P Q a w := by
  refine wpIn_rangeFunc fun fn hfn => ?_
  rw [hro]
  obtain ⟨R, hR⟩ : ∃ R : LoopState → Option Code → Loop, ∀ st pe, R st pe = { state := st, pending := pe, fn, tmps := a.tmps, params := ps, assign, body, defers := w.heap.size } := ⟨_, fun _ _ => rfl⟩
  obtain ⟨W1, hW1⟩ : ∃ W1, W1 = (w.alloc (.deferred (some []))).alloc (.loop (R .ready none)) := ⟨_, rfl⟩
  have hs1 : W1.heap.size = w.heap.size + 2 := by rw [hW1]; simp
  obtain ⟨l, hl⟩ : ∃ l, l = w.heap.size + 1 := ⟨_, rfl⟩
  have q1 : W1.heap[l]? = some (.loop (R .ready none)) := by
    have := World.alloc_heap_new (w.alloc (.deferred (some []))) (.loop (R .ready none))
    rw [World.size_alloc, ← hW1, ← hl] at this
    exact this
  have q2 : W1.heap[w.heap.size]? = some (.deferred (some [])) := by
    rw [hW1]
    exact (Kept.alloc _ _).heap (World.alloc_heap_new w _) (fun f => f)
  have kw : Above (w.heap.size + 2) T w W1 := by
    rw [hW1]
    exact Above.of_kept ((Kept.alloc _ _).trans (Kept.alloc _ _) (fun _ f => f.elim)) (fun _ f => f.elim)
  refine ⟨l, [{ target := .collected w.heap.size, args := #[] }], W1, { target := .fn (.func gf) lb, args := #[.func (.yield l) #[] #[]] }, W1, gf, #[.func (.yield l) #[] #[]] ++ lb, W1, ?_, ?_, ?_, ?_, fun _ => h1, ?_⟩
  · rw [hW1, hl, hR]
    exact run_enterLoop_outer _ _ _ _ _
  · simp only [resolve, hg]
    simp [go_sem]
  · intro f' hf'
    simp only [Target.leads, Option.some.injEq] at hf'
    exact hf' ▸ hFg
  · simp [invoke, go_sem, eg]
  have step : ∀ (st : LoopState) (jump : Option Code) (C : World), C.heap[l]? = some (.loop (R .busy none)) → C.heap[w.heap.size]? = some (.deferred (some [])) →
      st = (if jump.isNone then .ready else .done) → (Instr.endRound l jump).run P C = .ok (.bool jump.isNone) (C.putObj l (.loop (R st jump))) ∧
      (C.putObj l (.loop (R st jump))).heap[l]? = some (.loop (R st jump)) ∧ (C.putObj l (.loop (R st jump))).heap[w.heap.size]? = some (.deferred (some [])) ∧ KeptN (w.heap.size + 1) C (C.putObj l (.loop (R st jump))) := by
    intro st jump C c1 c2 e
    have := run_endRound (P := P) jump c1
    rw [hR] at this
    refine ⟨by rw [e, hR]; exact this, World.putObj_heap_same (size_of_some c1), ?_, by rw [← hl]; exact KeptN.put _ c1 rfl rfl⟩
    rw [World.putObj_heap_other (by omega)]
    exact c2
  refine (hseq l (fun pre A => I pre A ∧ A.heap[l]? = some (.loop (R .ready none)) ∧ A.heap[w.heap.size]? = some (.deferred (some [])))
    (fun pre A => ∃ c, Ix c pre A ∧ A.heap[l]? = some (.loop (R .done (some c))) ∧ A.heap[w.heap.size]? = some (.deferred (some [])))
    W1 (fun pre A h => hK pre A h.1)
    (fun pre A B h k => ⟨hI pre A B h.1 (k.mono (by omega)), k.low (by omega) h.2.1, k.low (by omega) h.2.2⟩)
    (fun pre A B ⟨c, h1, h2, h3⟩ k => ⟨c, hIx c pre A B h1 (k.mono (by omega)), k.low (by omega) h2, k.low (by omega) h3⟩) ?_ ⟨by rw [hW1]; exact h0 _, q1, q2⟩).mono ?_
  · rintro pre x B0 hmx ⟨hi, hA1, hA2⟩ hlo
    have hy := run_yield (P := P) (args := encs x) hA1 (by rw [hR]; exact hps x)
    rw [hR] at hy
    refine ⟨fn, _, assign, body, hy, roundIn_of_wpIn hfn (hassign l x B0 _ (by omega) fun a' B kB0 hax => ?_)⟩
    have hB1 := kB0.heap hA1 (fun f => f)
    have hB2 := kB0.heap hA2 (fun f => f)
    have hiB := hI pre B0 B hi (.of_kept kB0)
    have hbr := run_beginRound (P := P) hB1 (by rw [hR])
    have eb : ({ R .ready none with state := .busy } : Loop) = R .busy none := by rw [hR, hR]
    rw [eb] at hbr
    refine ⟨_, hbr, ?_⟩
    have lB := size_of_some hB1
    have b1 : (B.putObj l (.loop (R .busy none))).heap[l]? = some (.loop (R .busy none)) := World.putObj_heap_same lB
    have b2 : (B.putObj l (.loop (R .busy none))).heap[w.heap.size]? = some (.deferred (some [])) := by
      rw [World.putObj_heap_other (by omega)]
      exact hB2
    have kp : KeptN (w.heap.size + 1) B (B.putObj l (.loop (R .busy none))) := by
      rw [← hl]
      exact KeptN.put _ hB1 rfl rfl
    have ab : ∀ (X Y : World) (o : Obj), X.heap[l]? = some o → Above (w.heap.size + 2) T X Y → ∀ r, Above (w.heap.size + 2) T X (Y.putObj l r) := by
      intro X Y o _ hxy r
      refine ⟨by rw [World.putObj_size]; exact hxy.size, fun k o hk ho ht => ?_⟩
      rw [World.putObj_heap_other (by omega)]
      exact hxy.same k o hk ho ht
    have a0 : Above (w.heap.size + 2) T B0 (B.putObj l (.loop (R .busy none))) := ab B0 B _ hA1 (.of_kept kB0 (fun _ f => f.elim)) _
    have hbd := hbody l pre x a' (B.putObj l (.loop (R .busy none))) hmx (hI pre _ _ hiB kp) (by rw [World.putObj_size]; have := kB0.size; omega) b2 ⟨_, by rw [hl] at b1; rw [hl]; exact b1⟩ (hAx x a' _ _ hax kp)
    refine wpIn_mono hbd ?_
    have c12 : ∀ C, Still w.heap.size (B.putObj l (.loop (R .busy none))) C → C.heap[l]? = some (.loop (R .busy none)) ∧ C.heap[w.heap.size]? = some (.deferred (some [])) := fun C hs => ⟨(hs l (.inr hl)).trans b1, (hs _ (.inl rfl)).trans b2⟩
    have hsz : W1.heap.size = w.heap.size + 2 := hs1
    intro e a3 C hp
    cases e with
    | normal =>
      obtain ⟨s1, s2, s3, s4⟩ := step .ready none C (c12 C hp.1).1 (c12 C hp.1).2 rfl
      exact ⟨_, _, s1, by rw [hsz]; exact ab B0 C _ hA1 (a0.trans hp.2.1) _, .inl ⟨rfl, hI _ C _ hp.2.2 s4, s2, s3⟩⟩
    | ret =>
      obtain ⟨s1, s2, s3, s4⟩ := step .done (some .ret) C (c12 C hp.1).1 (c12 C hp.1).2 rfl
      exact ⟨_, _, s1, by rw [hsz]; exact ab B0 C _ hA1 (a0.trans hp.2.1) _, .inr ⟨rfl, .ret, hIx _ _ C _ hp.2.2 s4, s2, s3⟩⟩
    | exit id =>
      obtain ⟨s1, s2, s3, s4⟩ := step .done (some (.exit id)) C (c12 C hp.1).1 (c12 C hp.1).2 rfl
      exact ⟨_, _, s1, by rw [hsz]; exact ab B0 C _ hA1 (a0.trans hp.2.1) _, .inr ⟨rfl, .exit id, hIx _ _ C _ hp.2.2 s4, s2, s3⟩⟩
    | goto t =>
      obtain ⟨s1, s2, s3, s4⟩ := step .done (some (.goto t)) C (c12 C hp.1).1 (c12 C hp.1).2 rfl
      exact ⟨_, _, s1, by rw [hsz]; exact ab B0 C _ hA1 (a0.trans hp.2.1) _, .inr ⟨rfl, .goto t, hIx _ _ C _ hp.2.2 s4, s2, s3⟩⟩
    | panic _ => exact hp.elim
    | outgrown => exact hp.elim
  · rintro e C ⟨⟨v, rfl⟩, hab, (⟨xs, hS, hi, hA1, hA2⟩ | ⟨pre, c, hi, hA1, hA2⟩)⟩
    · have hel := run_endLoop (P := P) hA1 (by rw [hR]; simp)
      rw [hR] at hel
      have kp : KeptN (w.heap.size + 1) C (C.putObj l (.loop (R .done none))) := by rw [← hl]; exact KeptN.put _ hA1 rfl rfl
      rw [hs1] at hab
      refine ⟨none, _, hel, hdone xs _ hS (hI _ C _ hi (by rw [← hl]; exact KeptN.put _ hA1 rfl rfl)) ?_ (by rw [World.putObj_size]; have := hab.size; omega) ?_⟩
      · refine kw.trans ⟨by rw [World.putObj_size]; exact hab.size, fun k o hk ho ht => ?_⟩
        rw [World.putObj_heap_other (by omega)]
        exact hab.same k o hk ho ht
      · rw [World.putObj_heap_other (by omega)]
        exact hA2
    · have hel := run_endLoop (P := P) hA1 (by rw [hR]; simp)
      rw [hR] at hel
      rw [hs1] at hab
      refine ⟨some c, _, hel, hstop c pre _ (hIx _ _ C _ hi (by rw [← hl]; exact KeptN.put _ hA1 rfl rfl)) ?_ (by rw [World.putObj_size]; have := hab.size; omega) ?_⟩
      · refine kw.trans ⟨by rw [World.putObj_size]; exact hab.size, fun k o hk ho ht => ?_⟩
        rw [World.putObj_heap_other (by omega)]
        exact hab.same k o hk ho ht
      · rw [World.putObj_heap_other (by omega)]
        exact hA2
theorem above_self {T : TypeId → Prop} {W A : World} (h : W.heap.size ≤ A.heap.size) : Above W.heap.size T W A := ⟨h, fun k o hk ho _ => by have := size_of_some ho; omega⟩
/-- The marks that a function's ranges have left on its way out, each of a block of its own. -/
def marks (bs : List Nat) : List Deferred := bs.map (fun D => ({ target := .collected D, args := #[] } : Deferred))
structure Marks (s t : Nat) (W : World) (bs : List Nat) : Prop where
  nodup : bs.Nodup
  at_ : ∀ D, D ∈ bs → s ≤ D ∧ D < t ∧ W.heap[D]? = some (.deferred (some []))
theorem Marks.nil (s t : Nat) (W : World) : Marks s t W [] := ⟨List.nodup_nil, fun _ h => by cases h⟩
theorem Marks.keptN {s t u : Nat} {A B : World} {bs : List Nat} (h : Marks s t A bs) (k : KeptN u A B) (hu : t ≤ u) : Marks s t B bs :=
  ⟨h.nodup, fun D hD => by obtain ⟨h1, h2, h3⟩ := h.at_ D hD; exact ⟨h1, h2, k.low (by omega) h3⟩⟩
theorem Marks.above {s t u : Nat} {T : TypeId → Prop} {A B : World} {bs : List Nat} (h : Marks s t A bs) (k : Above u T A B) (hu : u ≤ s) : Marks s t B bs :=
  ⟨h.nodup, fun D hD => by obtain ⟨h1, h2, h3⟩ := h.at_ D hD; exact ⟨h1, h2, k.other (by omega) h3 rfl⟩⟩
theorem Marks.mono {s t t' : Nat} {A : World} {bs : List Nat} (h : Marks s t A bs) (ht : t ≤ t') : Marks s t' A bs :=
  ⟨h.nodup, fun D hD => by obtain ⟨h1, h2, h3⟩ := h.at_ D hD; exact ⟨h1, by omega, h3⟩⟩
theorem Marks.cons {s t D : Nat} {A : World} {bs : List Nat} (h : Marks s t A bs) (hs : s ≤ D) (ht : t ≤ D) (hD : A.heap[D]? = some (.deferred (some []))) : Marks s (D + 1) A (D :: bs) :=
  ⟨List.nodup_cons.2 ⟨fun hm => by have := (h.at_ D hm).2.1; omega, h.nodup⟩, fun E hE => by
    rcases List.mem_cons.1 hE with rfl | hE
    · exact ⟨hs, by omega, hD⟩
    · obtain ⟨h1, h2, h3⟩ := h.at_ E hE; exact ⟨h1, by omega, h3⟩⟩
theorem room_none {F : Fence} (hd : F.depth = none) (k : Nat) : F.room k := fun d h => by rw [hd] at h; cases h
theorem round_any {F : Fence} (hd : F.depth = none) {m m' : Nat} {P : Program} {l : Nat} {f : FuncId} {tmps : Array Value} {assign body : Code} {w : World} {R : Ending → World → Prop}
    (h : RoundIn F m P l f tmps assign body w R) : RoundIn F m' P l f tmps assign body w R := ⟨h.1, fun c cs _ => h.2 c cs (room_none hd _)⟩
theorem leaves_marks {fn : Func} {tmps : Array Value} {R : Ending → World → Prop} {s : Nat} : ∀ (bs : List Nat) (W : World), bs.Nodup → (∀ D, D ∈ bs → s ≤ D ∧ W.heap[D]? = some (.deferred (some []))) →
    (∀ W', KeptN s W W' → LeavesInM F n P fn tmps R [] .returning W') → LeavesInM F n P fn tmps R (marks bs) .returning W
  | [], W, _, _, h => h W (KeptN.refl _ _)
  | D :: bs, W, hn, hm, h => by
    obtain ⟨h1, h2⟩ := hm D (List.mem_cons_self ..)
    rw [List.nodup_cons] at hn
    refine ⟨by simp, .inl ⟨D, _, rfl, run_takeDeferred h2, ?_⟩⟩
    have kp : KeptN s W (W.putObj D (.deferred none)) := (KeptN.put _ h2 rfl rfl).mono h1
    refine leaves_marks bs _ hn.2 (fun E hE => ?_) fun W' k => h W' (kp.trans k)
    obtain ⟨h3, h4⟩ := hm E (List.mem_cons_of_mem _ hE)
    refine ⟨h3, ?_⟩
    rw [World.putObj_heap_other (fun e => by subst e; exact hn.1 hE)]
    exact h4
end Go.Proofs.YtcbhgpdookappaaDoor.Ds
