import Derived.Test.YteeimpjjmdpbgaaDoorRga
import Derived.Sort.QuietIn
import Derived.OwnWalkIn
namespace Go.Proofs.YteeimpjjmdpbgaaDoor
open Go.RowKit

variable {F : Fence} {n : Nat} {P : Program}
/-- The same law, for a loop that boxes its last variable: the frame behind the assignment is f x Bx. -/
theorem range_mf {α : Type} {g : Operand} {ps : Array Tmp} {assign body : Code} {Q : Exit → Act → World → Prop} {a : Act} {w : World}
    (hro : F.round = none) (h1 : 1 ≤ n) {gf : Nat} {lb : Array Value} (hg : a.eval g = .func (.func gf) #[] lb) (hFg : F.fn gf) (eg : ∀ args w, (callFunc gf args).run P w = .ok (.enter gf args) w)
    {encs : α → Array Value} {Kn : World → Prop} {M : List α → α → Nat → World → Prop} {S : List α → Prop} (hseq : SeqM F (n - 1) P gf lb encs Kn M S) (hps : ∀ x, (encs x).size = ps.size)
    (I : List α → World → Prop) (Ix : Code → List α → World → Prop) (hK : ∀ pre A, I pre A → Kn A)
    (hI : ∀ pre A r r', I pre A → A.heap[w.heap.size + 1]? = some (.loop r) → I pre (A.putObj (w.heap.size + 1) (.loop r')))
    (hIx : ∀ c pre A r r', Ix c pre A → A.heap[w.heap.size + 1]? = some (.loop r) → Ix c pre (A.putObj (w.heap.size + 1) (.loop r')))
    (hM : ∀ pre x s B B' r, M pre x s B → B.heap[w.heap.size + 1]? = some (.loop r) → Kept (fun i => i = w.heap.size + 1) B B' → M pre x s B')
    (h0 : ∀ r, I [] ((w.alloc (.deferred (some []))).alloc (.loop r))) (ob : α → Obj) (hob : ∀ x r, ob x ≠ .loop r) (f : α → Nat → Act)
    (hassign : ∀ (l s : Nat) (x : α) (B : World) (K : Act → World → Prop), s ≤ B.heap.size → (∀ Bx B', s ≤ Bx → Kept (fun _ => False) B B' → B'.heap[Bx]? = some (ob x) → K (f x Bx) B') →
      assign.wpIn (F.inRound l) (n - 1 - 1) P (Exit.then K (fun _ _ _ => False)) { tmps := (ps.zip (encs x)).foldl (fun t (p, v) => t.setIfInBounds p v) a.tmps, defers := [] } B)
    (hbody : ∀ (l : Nat) (pre : List α) (x : α) (Bx : Nat) (A B : World), I pre A → Kept (fun _ => False) A B → M pre x A.heap.size B → w.heap.size + 1 < A.heap.size → A.heap.size ≤ Bx → B.heap[Bx]? = some (ob x) → body.wpIn (F.inRound l) (n - 1 - 1) P (leftBy w.heap.size I Ix (pre ++ [x]) B) (f x Bx) B)
    (hdone : ∀ (xs : List α) (A W : World), S xs → I xs A → Kept (fun _ => False) A W → W.heap[w.heap.size]? = some (.deferred (some [])) → Q .normal { a with defers := { target := .collected w.heap.size, args := #[] } :: a.defers } W)
    (hstop : ∀ (c : Code) (pre : List α) (A W : World), Ix c pre A → Kept (fun _ => False) A W → W.heap[w.heap.size]? = some (.deferred (some [])) → c.wpIn F n P Q { a with defers := { target := .collected w.heap.size, args := #[] } :: a.defers } W) :
    (Code.rangeFunc g ps assign body).wpIn F n P Q a w := by
  refine range_m hro h1 hg hFg eg hseq hps I Ix hK hI hIx hM h0 (fun x s a' W => ∃ Bx, s ≤ Bx ∧ W.heap[Bx]? = some (ob x) ∧ a' = f x Bx) ?_ ?_ ?_ hdone hstop
  · rintro x s a' B r r' ⟨Bx, h1, h2, rfl⟩ hr
    refine ⟨Bx, h1, ?_, rfl⟩
    rw [World.putObj_heap_other (fun e => by rw [e, hr] at h2; exact hob x r (Option.some.inj h2).symm)]
    exact h2
  · intro l s x B K hs hK
    exact hassign l s x B K hs fun Bx B' h1 h2 h3 => hK _ B' h2 ⟨Bx, h1, h3, rfl⟩
  · rintro l pre x a' A B hi k hm hl ⟨Bx, h1, h2, rfl⟩
    exact hbody l pre x Bx A B hi k hm hl h1 h2
/-- A loop of j rounds at most, walked round by round. -/
def Turns (P : Program) (c : Code) (Q : Exit → Act → World → Prop) : Nat → Act → World → Prop
  | 0, a, w => c.wp P (Exit.then (fun _ _ => False) Q) a w
  | j + 1, a, w => c.wp P (Exit.then (Turns P c Q j) Q) a w
theorem least {p : Nat → Prop} (h : ∃ j, p j) : ∃ j, p j ∧ ∀ i, p i → j ≤ i := by
  obtain ⟨j, hj⟩ := h
  induction j using Nat.strongRecOn with
  | _ j ih =>
    by_cases hex : ∃ i, i < j ∧ p i
    · obtain ⟨i, hi, hp⟩ := hex
      exact ih i hi hp
    · refine ⟨j, hj, fun i hp => ?_⟩
      rcases Nat.lt_or_ge i j with h | h
      · exact (hex ⟨i, h, hp⟩).elim
      · exact h
open Classical in
theorem wp_turns {c : Code} {Q : Exit → Act → World → Prop} {a : Act} {w : World} (j : Nat) (h : Turns P c Q j a w) : (Code.loop c).wp P Q a w := by
  refine wp_loop (fun a w => ∃ j, Turns P c Q j a w) (fun a w => if h : ∃ j, Turns P c Q j a w then Classical.choose (least h) else 0) ⟨j, h⟩ ?_
  intro a w hI
  have hs := (Classical.choose_spec (least hI)).1
  rw [dif_pos hI]
  cases e : Classical.choose (least hI) with
  | zero =>
    rw [e] at hs
    exact wp_mono hs fun x a' w' hq => by
      cases x with
      | normal => exact hq.elim
      | _ => exact hq
  | succ i =>
    rw [e] at hs
    exact wp_mono hs fun x a' w' hq => by
      cases x with
      | normal =>
        have hex : ∃ j, Turns P c Q j a' w' := ⟨i, hq⟩
        refine ⟨hex, ?_⟩
        rw [dif_pos hex]
        have := (Classical.choose_spec (least hex)).2 i hq
        omega
      | _ => exact hq
/-- An operation that is no defer, in a round as elsewhere. -/
def noDefer (o : Oper) : Bool := match o.op with
  | .defer _ => false
  | _ => true
theorem noDefer_ne {o : Oper} (h : noDefer o = true) : ∀ c, o.op ≠ .defer c := by
  intro c e
  unfold noDefer at h
  rw [e] at h
  cases h
theorem oper_round {l : Nat} {o : Oper} {a : Act} {w : World} {K : Act → World → Prop} {Q : Exit → Act → World → Prop} (hro : F.round = none) (hd : noDefer o = true) (hh : o.wpIn F n P a w K Q) : o.wpIn (F.inRound l) n P a w K Q := by
  obtain ⟨h1, h2⟩ := hh
  refine ⟨h1, ?_⟩
  rw [hro, Oper.semAt_none] at h2
  have e : (F.inRound l).round = some l := rfl
  rw [e, Oper.semAt_some l _ _ (noDefer_ne hd)]
  generalize (execOp a.eval o).run P w = r at h2 ⊢
  cases r with
  | ok x w' => cases x <;> exact h2
  | halt x w' => cases x <;> exact h2
theorem any_round {l : Nat} {md : Region.Mode} {ops : Array Oper} {Q : Exit → Act → World → Prop} (hro : F.round = none) (hd : ∀ (i : Nat) (o : Oper), ops[i]? = some o → noDefer o = true) : ∀ (fuel : Nat) (listed : Array Bool) (a : Act) (w : World), wpAnyIn F n P md ops Q fuel listed a w → wpAnyIn (F.inRound l) n P md ops Q fuel listed a w
  | 0, _, _, _, h => h
  | fuel + 1, listed, a, w, h => by
    refine ⟨h.1, fun i hi => ?_⟩
    have h2 := wpOpIn_mono (fun a' w' => any_round (l := l) hro hd fuel (listed.setIfInBounds i true) a' w') (h.2 i hi)
    unfold wpOpIn at h2 ⊢
    cases ho : ops[i]? with
    | none => simp only [ho] at h2; exact h2
    | some o =>
      simp only [ho] at h2
      simp only []
      split
      · rename_i hw
        rw [if_pos hw] at h2
        exact oper_round hro (hd i o ho) h2
      · rename_i hw
        rw [if_neg hw] at h2
        exact h2
/-- A region that draws its order and only reads, in a round: one walk. -/
theorem quiet_round {l id : Nat} {Q : Exit → Act → World → Prop} {a : Act} {w : World} {ls : List Oper} (hro : F.round = none) (hm : P.follows .mixedOrders = true) (hB : Region.lexB .any ls.toArray = true) (hd : ls.all noDefer = true)
    (h : wpQuietIn F n P ls.toArray (fun w' => ∃ n, w' = w.drewN n) (fun a' => ∀ w', (∃ n, w' = w.drewN n) → Q .normal a' w') ls a) : (Code.region id ls.toArray true).wpIn (F.inRound l) n P Q a w := by
  simp only [Region.lexB, Bool.and_eq_true] at hB
  have hC : (fun w' => ∃ n, w' = w.drewN n) { w with drawn := w.drawn + 1 } := ⟨1, rfl⟩
  have h1 := wpAnyQIn_lex (F := F) (n := n) (C := fun w' => ∃ n, w' = w.drewN n) (md := .any) hB.1 ls 0 (Array.replicate ls.toArray.size false) a (by simp) (by simpa using hB.2) h
  have h2 := wpAnyIn_of_quiet (Q := fun a' => ∀ w', (∃ n, w' = w.drewN n) → Q .normal a' w') (Q' := Q) hro (fun _ w' hw' h => h w' hw') _ _ _ _ hC h1
  refine wpIn_region_any hm (any_round hro (fun i o ho => ?_) _ _ _ _ (by simpa using h2))
  rw [List.getElem?_toArray] at ho
  exact List.all_eq_true.1 hd o (List.mem_of_getElem? ho)
end Go.Proofs.YteeimpjjmdpbgaaDoor
