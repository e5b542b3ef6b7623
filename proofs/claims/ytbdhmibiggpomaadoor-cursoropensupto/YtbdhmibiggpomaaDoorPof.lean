import Derived.Test.YtbdhmibiggpomaaDoorRgb
import Derived.Test.YtbdhmibiggpomaaDoorAnyz
import Derived.OrdersHeld
import Derived.OrdersIn
namespace Go.Proofs.YtbdhmibiggpomaaDoor
open Go.RowKit

variable {P : Program}
theorem rowsIn_wideP {n : Nat} {row : String} {args : Array Value} {w : World} {R : Value → World → Prop} (h : Go.Rows P row args w R) : RowsIn Fence.wide n P row args w R :=
  fun c cs _ => let ⟨v, w', r, s⟩ := h c cs; ⟨v, w', r, stepsIn_wide.2 s⟩
theorem oper_wide {n : Nat} {o : Oper} {a : Act} {w : World} {K : Act → World → Prop} {Q : Exit → Act → World → Prop} (h : o.wp P a w K Q) : o.wpIn Fence.wide n P a w K Q := by
  refine ⟨fun _ _ => trivial, ?_⟩
  have e : Fence.wide.round = none := rfl
  rw [e, Oper.semAt_none]
  unfold Oper.wp at h
  generalize (execOp a.eval o).run P w = r at h ⊢
  cases r with
  | ok x w' =>
    cases x with
    | enter f args => exact ⟨fun hx => by simp [Fence.wide] at hx, callsIn_wide.2 h⟩
    | row r args => exact ⟨fun hx => by simp [Fence.wide] at hx, rowsIn_wideP h⟩
    | round l f tmps assign body => exact False.elim h
    | _ => exact h
  | halt x w' => cases x <;> exact h
theorem any_wide {n : Nat} {md : Region.Mode} {ops : Array Oper} {Q : Exit → Act → World → Prop} (hno : ¬ LetsOut Q) : ∀ (fuel : Nat) (listed : Array Bool) (a : Act) (w : World), wpAny P md ops Q fuel listed a w → wpAnyIn Fence.wide n P md ops Q fuel listed a w
  | 0, _, _, _, h => h
  | fuel + 1, listed, a, w, h => by
    refine ⟨h.1, fun i hi => ?_⟩
    have h2 := wpOp_mono (fun a' w' => any_wide (n := n) hno fuel (listed.setIfInBounds i true) a' w') (h.2 i hi)
    unfold wpOp at h2
    unfold wpOpIn
    cases ho : ops[i]? with
    | none => simp only [ho] at h2; exact h2
    | some o =>
      simp only [ho] at h2
      simp only []
      split
      · rename_i hw
        rw [if_pos hw] at h2
        rcases h2 with h2 | h2
        · exact oper_wide h2
        · exact absurd h2.2 hno
      · rename_i hw
        rw [if_neg hw] at h2
        exact ⟨fun _ _ => trivial, h2⟩
/-- A region that draws its order, in a round, an operation at a time. -/
theorem held_round {l id n : Nat} {S : World → Prop} {Q : Exit → Act → World → Prop} {a : Act} {w : World} {ls : List Oper} (hm : P.follows .mixedOrders = true) (hd : ls.all noDefer = true) (hno : ¬ LetsOut Q)
    (h : wpAnyH P .any ls.toArray Q S ls.toArray.size (Array.replicate ls.toArray.size false) a { w with drawn := w.drawn + 1 }) : (Code.region id ls.toArray true).wpIn (Fence.wide.inRound l) n P Q a w := by
  refine wpIn_region_any hm (any_round rfl (fun i o ho => ?_) _ _ _ _ (any_wide hno _ _ _ _ (wpAny_of_held _ _ _ _ h)))
  rw [List.getElem?_toArray] at ho
  exact List.all_eq_true.1 hd o (List.mem_of_getElem? ho)
theorem held_wide {id n : Nat} {S : World → Prop} {Q : Exit → Act → World → Prop} {a : Act} {w : World} {ops : Array Oper} (hm : P.follows .mixedOrders = true)
    (h : wpAnyH P .any ops Q S ops.size (Array.replicate ops.size false) a { w with drawn := w.drawn + 1 }) : (Code.region id ops true).wpIn Fence.wide n P Q a w :=
  wpIn_wide.2 (wp_region_held hm h)
/-- Only the plain end. -/
def onlyN (Q : Exit → Act → World → Prop) : Exit → Act → World → Prop
  | .normal, a, w => Q .normal a w
  | _, _, _ => False
theorem wp_onlyN {c : Code} {Q : Exit → Act → World → Prop} {a : Act} {w : World} (h : c.wp P (onlyN Q) a w) : c.wp P Q a w :=
  wp_mono h (fun e a' w' hq => by cases e <;> first | exact hq | exact hq.elim)
variable {F : Fence} {n : Nat}
/-- A range over a function whose variable is a slot: the frame behind the assignment is f x. -/
theorem range_n {α : Type} {g : Operand} {ps : Array Tmp} {assign body : Code} {Q : Exit → Act → World → Prop} {a : Act} {w : World}
    (hro : F.round = none) (h1 : 1 ≤ n) {gf : Nat} {lb : Array Value} (hg : a.eval g = .func (.func gf) #[] lb) (hFg : F.fn gf) (eg : ∀ args w, (callFunc gf args).run P w = .ok (.enter gf args) w)
    {encs : α → Array Value} {Kn : World → Prop} {M : List α → α → Nat → World → Prop} {S : List α → Prop} (hseq : SeqM F (n - 1) P gf lb encs Kn M S) (hps : ∀ x, (encs x).size = ps.size)
    (I : List α → World → Prop) (Ix : Code → List α → World → Prop) (hK : ∀ pre A, I pre A → Kn A)
    (hI : ∀ pre A r r', I pre A → A.heap[w.heap.size + 1]? = some (.loop r) → I pre (A.putObj (w.heap.size + 1) (.loop r')))
    (hIx : ∀ c pre A r r', Ix c pre A → A.heap[w.heap.size + 1]? = some (.loop r) → Ix c pre (A.putObj (w.heap.size + 1) (.loop r')))
    (hM : ∀ pre x s B B' r, M pre x s B → B.heap[w.heap.size + 1]? = some (.loop r) → Kept (fun i => i = w.heap.size + 1) B B' → M pre x s B')
    (h0 : ∀ r, I [] ((w.alloc (.deferred (some []))).alloc (.loop r))) (f : α → Act)
    (hassign : ∀ (l : Nat) (x : α) (B : World) (K : Act → World → Prop), (∀ B', Kept (fun _ => False) B B' → K (f x) B') →
      assign.wpIn (F.inRound l) (n - 1 - 1) P (Exit.then K (fun _ _ _ => False)) { tmps := (ps.zip (encs x)).foldl (fun t (p, v) => t.setIfInBounds p v) a.tmps, defers := [] } B)
    (hbody : ∀ (l : Nat) (pre : List α) (x : α) (A B : World), I pre A → Kept (fun _ => False) A B → M pre x A.heap.size B → w.heap.size + 1 < A.heap.size → body.wpIn (F.inRound l) (n - 1 - 1) P (leftBy w.heap.size I Ix (pre ++ [x]) B) (f x) B)
    (hdone : ∀ (xs : List α) (A W : World), S xs → I xs A → Kept (fun _ => False) A W → W.heap[w.heap.size]? = some (.deferred (some [])) → Q .normal { a with defers := { target := .collected w.heap.size, args := #[] } :: a.defers } W)
    (hstop : ∀ (c : Code) (pre : List α) (A W : World), Ix c pre A → Kept (fun _ => False) A W → W.heap[w.heap.size]? = some (.deferred (some [])) → c.wpIn F n P Q { a with defers := { target := .collected w.heap.size, args := #[] } :: a.defers } W) :
    (Code.rangeFunc g ps assign body).wpIn F n P Q a w := by
  refine range_m hro h1 hg hFg eg hseq hps I Ix hK hI hIx hM h0 (fun x _ a' _ => a' = f x) ?_ ?_ ?_ hdone hstop
  · exact fun _ _ _ _ _ _ h _ => h
  · intro l s x B K _ hK
    exact hassign l x B K fun B' h2 => hK _ B' h2 rfl
  · rintro l pre x a' A B hi k hm hl rfl
    exact hbody l pre x A B hi k hm hl
end Go.Proofs.YtbdhmibiggpomaaDoor
