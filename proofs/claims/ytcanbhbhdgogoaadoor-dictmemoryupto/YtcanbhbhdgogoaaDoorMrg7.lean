import Derived.Test.YtcanbhbhdgogoaaDoorRga
import Derived.Test.YtcanbhbhdgogoaaDoorDbg
import Derived.Shelf.Abstract
import Derived.Shelf.RegionOpen
import Derived.WalkKit
import Derived.OwnWalkIn
import Derived.TacticsInMore
import Derived.LoopNIn
import Derived.LoopIn
import Derived.Sort.QuietIn
namespace Go.Proofs.YtcanbhbhdgogoaaDoor
open Go.ChangeShapes Go.WideShapes Go.ChangeAt Go.RowKit Go.Shelf
attribute [local go_sem] Oper.semAt_some

/-- The entry at a place. -/
def eat (E : List En) (i : Nat) : En := match E[i]? with | some e => e | none => ⟨ByteArray.empty, 0, 0, 0, 0⟩
theorem eat_at {E : List En} {i : Nat} (h : i < E.length) : eat E i = E[i] := by unfold eat; rw [List.getElem?_eq_getElem h]
/-- What the iterator reads. -/
structure WkK (E : List En) (ws bd : Nat) (va : Value) (bf bp f : Nat) (W : World) : Prop where
  dct : Dct W ws bd va E
  fst : W.cell? ⟨bf, 0, none⟩ = some (.int .i64 f)
  ptr : W.cell? ⟨bp, 0, none⟩ = some (.pointer (some ⟨bd, 0, none⟩))
theorem WkK.kept {E : List En} {ws bd : Nat} {va : Value} {bf bp f : Nat} {W W' : World} (h : WkK E ws bd va bf bp f W) (k : Kept (fun _ => False) W W') : WkK E ws bd va bf bp f W' :=
  ⟨h.dct.kept k, k.cell h.fst (fun f => f), k.cell h.ptr (fun f => f)⟩
def WkM (E : List En) (f : Nat) (pre : List Nat) (x : Nat) (_ : Nat) (_ : World) : Prop := x = f + pre.length ∧ x < E.length
def encW (E : List En) (x : Nat) : Array Value := #[.int .i64 x, enV (eat E x)]
set_option maxRecDepth 20000 in
set_option maxHeartbeats 4000000 in
theorem walk_seq (hC : ClnOk) (m : Nat) (hm : 1 ≤ m) (E : List En) (ws bd : Nat) (va : Value) (bf bp f : Nat) (hn : E.length ≤ 1099511627776) (hk : ∀ e ∈ E, e.k.size ≤ 281474976710656) :
    SeqM Fence.wide m Tryd.prog 59 #[.pointer (some ⟨bf, 0, none⟩), .pointer (some ⟨bp, 0, none⟩)] (encW E) (WkK E ws bd va bf bp f) (WkM E f) (fun xs => xs.length = E.length - f) := by
  intro l J Jx W hK hY h0
  obtain ⟨n, hne⟩ : ∃ n, n = E.length := ⟨_, rfl⟩
  have HN := hideQ hne
  have HY := hideQ hY
  have HK := hideQ hK
  have H0 := hideQ h0
  have z0 := (hK [] W h0).fst
  have HKs := hideQ hk
  have HCl := hideQ hC
  rw [← hne] at hn
  clear hne hY hK h0 hk hC
  refine callsIn_of_wp Tryd.func59 rfl trivial ?_ rfl
  simp only [Tryd.ntmps59, List.size_toArray, List.length_cons, List.length_nil, Nat.reduceAdd, Nat.reduceSub, Array.replicate_succ, Array.replicate_zero, List.push_toArray, List.append_toArray, List.nil_append, List.cons_append]
  gi_wp2
  gi_loopw [4] (fun at_ wr => ∃ (p : Nat) (pre : List Nat) (A : World), at_ = .int .i64 p ∧ p = f + pre.length ∧ (pre.length = 0 ∨ p ≤ n) ∧ Hid (J pre A) ∧ Hid (Kept (fun _ => False) A wr)) (fun at_ _ => n - (intOf at_).toNat)
  case atStart => exact ⟨f, [], W, rfl, rfl, .inl rfl, H0.out, Kept.refl _ _⟩
  case round =>
    obtain ⟨p, pre, A, rfl, hp, hpn, HJ, HA⟩ := hrel
    have hkn := (HK.out pre A HJ.out).kept HA.out
    have hc := hkn.dct.cell
    have hq := hkn.ptr
    obtain ⟨a, c, rfl⟩ := hkn.dct.shape
    rw [← HN.out] at hc
    clear z0 H0
    by_cases hlt : p < n
    · have hpp : (p : Int) < (n : Int) := by omega
      have hpE : p < E.length := by rw [← HN.out]; exact hlt
      have CH := hideQ (handed_any HCl.out wr ws bd p _ E hkn.dct hpE (HKs.out _ (List.getElem_mem hpE)))
      have YY : Hid (∀ W4, Kept (fun _ => False) wr W4 → YieldAt Fence.wide (m - 1) Tryd.prog l #[.int .i64 p, enV E[p]] W4 fun e C => (e = .returned (.bool true) ∧ Hid (J (pre ++ [p]) C)) ∨ (e = .returned (.bool false) ∧ Hid (Jx (pre ++ [p]) C))) := hideQ (fun W4 k4 => by
        have r := HY.out pre p A W4 HJ.out (HA.out.trans k4 (fun _ f => f.elim)) ⟨hp, hpE⟩
        unfold encW at r
        rw [eat_at hpE] at r
        exact r)
      have hp2 : p + 1 = f + (pre ++ [p]).length := by rw [List.length_append]; simp; omega
      have HP2 := hideQ hp2
      clear hkn HY HK HJ HA hp hp2 HKs HCl
      generalize E[p] = en at *
      gi_wp2_with (refine ⟨trivial, ?_⟩; gi_at_call 60; refine (callsIn_wide.2 CH.out).mono ?_; clear CH; rintro e W4 ⟨rfl, k4⟩; obtain ⟨fn, tmps, assign, body', hy, hR⟩ := YY.out W4 k4; clear YY k4)
      refine hR.mono ?_
      rintro e W5 (⟨rfl, HJ5⟩ | ⟨rfl, HX5⟩)
      · gi_wp2
        go_roundw
        case rel => exact ⟨p + 1, pre ++ [p], W5, by go_num, HP2.out, .inr (by omega), HJ5, Kept.refl _ _⟩
        case measure => simp [intOf]; omega
      · gi_wp2
        refine bodyPost_ret (results_none rfl _ _ _) rfl ?_
        exact ⟨⟨_, rfl⟩, .inr ⟨_, W5, HX5.out, Kept.refl _ _⟩⟩
    · have hpp : ¬ ((p : Int) < (n : Int)) := by omega
      have d1 : decide ((p : Int) < (n : Int)) = false := decide_eq_false hpp
      have d2 : decide (p < n) = false := decide_eq_false hlt
      have HFin : Hid (pre.length = E.length - f) := hideQ (by rw [← HN.out]; omega)
      clear hkn HY HK HKs HCl hp hpn
      gi_wp2
      refine bodyPost_end (results_none rfl _ _ _) rfl ?_
      exact ⟨⟨_, rfl⟩, .inl ⟨pre, HFin.out, A, HJ.out, HA.out⟩⟩
set_option maxRecDepth 20000 in
set_option maxHeartbeats 2000000 in
theorem walk_any (i : Int) (w : World) (ws bd : Nat) (va : Value) (E : List En) (h : Dct w ws bd va E) (hi1 : -9223372036854775808 ≤ i) (hi2 : i ≤ 9223372036854775807) : Calls Tryd.prog 34 #[.pointer (some ⟨bd, 0, none⟩), .int .i64 i] w fun e w' => (∃ bf bp, e = .returned (.func (.func 59) #[] #[.pointer (some ⟨bf, 0, none⟩), .pointer (some ⟨bp, 0, none⟩)]) ∧ WkK E ws bd va bf bp i.toNat w' ∧ w.heap.size ≤ bf ∧ w.heap.size ≤ bp) ∧ Kept (fun _ => False) w w' := by
  have hmf : ∀ (fn : Fn) (first cap : Array Value) (w : World), (Instr.makeFunc fn first cap).run Tryd.prog w = .ok (.func fn first cap) w := fun _ _ _ _ => rfl
  have HD := hideQ h
  clear h
  go_enter Tryd.func34, Tryd.ntmps34
  go_wp2
  · have K1 := Kept.alloc w (.cells #[.pointer (some ⟨bd, 0, none⟩)] 38)
    have K2 := Kept.alloc (w.alloc (.cells #[.pointer (some ⟨bd, 0, none⟩)] 38)) (.cells #[.int .i64 0] 3)
    go_ret
    refine ⟨⟨w.heap.size + 1, w.heap.size, rfl, ⟨HD.out.kept (K1.trans K2 (fun _ f => f.elim)), ?_, K2.cell (by simp) (fun f => f)⟩, by omega, Nat.le_refl _⟩, K1.trans K2 (fun _ f => f.elim)⟩
    rw [show i.toNat = 0 by omega]
    simp
  · have K1 := Kept.alloc w (.cells #[.pointer (some ⟨bd, 0, none⟩)] 38)
    have K2 := Kept.alloc (w.alloc (.cells #[.pointer (some ⟨bd, 0, none⟩)] 38)) (.cells #[.int .i64 i] 3)
    go_ret
    refine ⟨⟨w.heap.size + 1, w.heap.size, rfl, ⟨HD.out.kept (K1.trans K2 (fun _ f => f.elim)), ?_, K2.cell (by simp) (fun f => f)⟩, by omega, Nat.le_refl _⟩, K1.trans K2 (fun _ f => f.elim)⟩
    rw [show (i.toNat : Int) = i by omega]
    simp
end Go.Proofs.YtcanbhbhdgogoaaDoor
namespace Go.Proofs.YtcanbhbhdgogoaaDoor
open Go.RowKit

variable {F : Fence} {n : Nat} {P : Program}
/-- The same law, for a loop that boxes its last variable: the frame behind the assignment is f x Bx. -/
theorem range_mf {α : Type} {g : Operand} {ps : Array Tmp} {assign body : Code} {Q : Exit → Act → World → Prop} {a : Act} {w : World}
    (hro : F.round = none) (h1 : 1 ≤ n) {gf : Nat} {lb : Array Value} (hg : a.eval g = .func (.func gf) #[] lb) (hFg : F.fn gf) (eg : ∀ args w, (callFunc gf args).run P w = .ok (.enter gf args) w)
    {encs : α → Array Value} {Kn : World → Prop} {M : List α → α → Nat → World → Prop} {S : List α → Prop} (hseq : SeqM F (n - 1) P gf lb encs Kn M S) (hps : ∀ x, (encs x).size = ps.size)
    (I : List α → World → Prop) (Ix : Code → List α → World → Prop) (hK : ∀ pre A, I pre A → Kn A)
    (hI : ∀ pre A r r', I pre A → A.heap[w.heap.size + 1]? = some (.loop r) → I pre (A.putObj (w.heap.size + 1) (.loop r')))
    (hIx : ∀ c pre A r r', Ix c pre A → A.heap[w.heap.size + 1]? = some (.loop r) → Ix c pre (A.putObj (w.heap.size + 1) (.loop r')))
    (hM : ∀ pre x s B B' r, M pre x s B → B.heap[w.heap.size + 1]? = some (.loop r) → Kept (fun i => i = w.heap.size + 1) B B' → M pre x s B')
    (h0 : ∀ r, I [] ((w.alloc (.deferred (some []))).alloc (.loop r))) (ob : α → Obj) (hob : ∀ x r, ob x ≠ .loop r) (f : α → Nat → Act)
    (hassign : ∀ (l s : Nat) (x : α) (B : World) (K : Act → World → Prop), s ≤ B.heap.size → (∀ Bx B', s ≤ Bx → Kept (fun _ => False) B B' → B'.heap[Bx]? = some (ob x) → K (f x Bx) B') →
      assign.wpIn (F.inRound l) (n - 1 - 1) P (Exit.then K (fun _ _ _ => False)) { tmps := (ps.zip (encs x)).foldl (fun t (p, v) => t.setIfInBounds p v) a.tmps, defers := [] } B)
    (hbody : ∀ (l : Nat) (pre : List α) (x : α) (Bx : Nat) (A B : World), I pre A → Kept (fun _ => False) A B → M pre x A.heap.size B → w.heap.size + 1 < A.heap.size → A.heap.size ≤ Bx → B.heap[Bx]? = some (ob x) → body.wpIn (F.inRound l) (n - 1 - 1) P (leftBy w.heap.size I Ix (pre ++ [x]) B) (f x Bx) B)
    (hdone : ∀ (xs : List α) (A W : World), S xs → I xs A → Kept (fun _ => False) A W → W.heap[w.heap.size]? = some (.deferred (some [])) → Q .normal { a with defers := { target := .collected w.heap.size, args := #[] } :: a.defers } W)
    (hstop : ∀ (c : Code) (pre : List α) (A W : World), Ix c pre A → Kept (fun _ => False) A W → W.heap[w.heap.size]? = some (.deferred (some [])) → c.wpIn F n P Q { a with defers := { target := .collected w.heap.size, args := #[] } :: a.defers } W) :
    (Code.rangeFunc g ps assign body).wpIn F n P Q a w := by
  refine range_m hro h1 hg hFg eg hseq hps I Ix hK hI hIx hM h0 (fun x s a' W => ∃ Bx, s ≤ Bx ∧ W.heap[Bx]? = some (ob x) ∧ a' = f x Bx) ?_ ?_ ?_ hdone hstop
  · rintro x s a' B r r' ⟨Bx, h1, h2, rfl⟩ hr
    refine ⟨Bx, h1, ?_, rfl⟩
    rw [World.putObj_heap_other (fun e => by rw [e, hr] at h2; exact hob x r (Option.some.inj h2).symm)]
    exact h2
  · intro l s x B K hs hK
    exact hassign l s x B K hs fun Bx B' h1 h2 h3 => hK _ B' h2 ⟨Bx, h1, h3, rfl⟩
  · rintro l pre x a' A B hi k hm hl ⟨Bx, h1, h2, rfl⟩
    exact hbody l pre x Bx A B hi k hm hl h1 h2
/-- A loop of j rounds at most, walked round by round. -/
def Turns (P : Program) (c : Code) (Q : Exit → Act → World → Prop) : Nat → Act → World → Prop
  | 0, a, w => c.wp P (Exit.then (fun _ _ => False) Q) a w
  | j + 1, a, w => c.wp P (Exit.then (Turns P c Q j) Q) a w
theorem least {p : Nat → Prop} (h : ∃ j, p j) : ∃ j, p j ∧ ∀ i, p i → j ≤ i := by
  obtain ⟨j, hj⟩ := h
  induction j using Nat.strongRecOn with
  | _ j ih =>
    by_cases hex : ∃ i, i < j ∧ p i
    · obtain ⟨i, hi, hp⟩ := hex
      exact ih i hi hp
    · refine ⟨j, hj, fun i hp => ?_⟩
      rcases Nat.lt_or_ge i j with h | h
      · exact (hex ⟨i, h, hp⟩).elim
      · exact h
open Classical in
theorem wp_turns {c : Code} {Q : Exit → Act → World → Prop} {a : Act} {w : World} (j : Nat) (h : Turns P c Q j a w) : (Code.loop c).wp P Q a w := by
  refine wp_loop (fun a w => ∃ j, Turns P c Q j a w) (fun a w => if h : ∃ j, Turns P c Q j a w then Classical.choose (least h) else 0) ⟨j, h⟩ ?_
  intro a w hI
  have hs := (Classical.choose_spec (least hI)).1
  rw [dif_pos hI]
  cases e : Classical.choose (least hI) with
  | zero =>
    rw [e] at hs
    exact wp_mono hs fun x a' w' hq => by
      cases x with
      | normal => exact hq.elim
      | _ => exact hq
  | succ i =>
    rw [e] at hs
    exact wp_mono hs fun x a' w' hq => by
      cases x with
      | normal =>
        have hex : ∃ j, Turns P c Q j a' w' := ⟨i, hq⟩
        refine ⟨hex, ?_⟩
        rw [dif_pos hex]
        have := (Classical.choose_spec (least hex)).2 i hq
        omega
      | _ => exact hq
/-- An operation that is no defer, in a round as elsewhere. -/
def noDefer (o : Oper) : Bool := match o.op with
  | .defer _ => false
  | _ => true
theorem noDefer_ne {o : Oper} (h : noDefer o = true) : ∀ c, o.op ≠ .defer c := by
  intro c e
  unfold noDefer at h
  rw [e] at h
  cases h
theorem oper_round {l : Nat} {o : Oper} {a : Act} {w : World} {K : Act → World → Prop} {Q : Exit → Act → World → Prop} (hro : F.round = none) (hd : noDefer o = true) (hh : o.wpIn F n P a w K Q) : o.wpIn (F.inRound l) n P a w K Q := by
  obtain ⟨h1, h2⟩ := hh
  refine ⟨h1, ?_⟩
  rw [hro, Oper.semAt_none] at h2
  have e : (F.inRound l).round = some l := rfl
  rw [e, Oper.semAt_some l _ _ (noDefer_ne hd)]
  generalize (execOp a.eval o).run P w = r at h2 ⊢
  cases r with
  | ok x w' => cases x <;> exact h2
  | halt x w' => cases x <;> exact h2
theorem any_round {l : Nat} {md : Region.Mode} {ops : Array Oper} {Q : Exit → Act → World → Prop} (hro : F.round = none) (hd : ∀ (i : Nat) (o : Oper), ops[i]? = some o → noDefer o = true) : ∀ (fuel : Nat) (listed : Array Bool) (a : Act) (w : World), wpAnyIn F n P md ops Q fuel listed a w → wpAnyIn (F.inRound l) n P md ops Q fuel listed a w
  | 0, _, _, _, h => h
  | fuel + 1, listed, a, w, h => by
    refine ⟨h.1, fun i hi => ?_⟩
    have h2 := wpOpIn_mono (fun a' w' => any_round (l := l) hro hd fuel (listed.setIfInBounds i true) a' w') (h.2 i hi)
    unfold wpOpIn at h2 ⊢
    cases ho : ops[i]? with
    | none => simp only [ho] at h2; exact h2
    | some o =>
      simp only [ho] at h2
      simp only []
      split
      · rename_i hw
        rw [if_pos hw] at h2
        exact oper_round hro (hd i o ho) h2
      · rename_i hw
        rw [if_neg hw] at h2
        exact h2
/-- A region that draws its order and only reads, in a round: one walk. -/
theorem quiet_round {l id : Nat} {Q : Exit → Act → World → Prop} {a : Act} {w : World} {ls : List Oper} (hro : F.round = none) (hm : P.follows .mixedOrders = true) (hB : Region.lexB .any ls.toArray = true) (hd : ls.all noDefer = true)
    (h : wpQuietIn F n P ls.toArray (fun w' => ∃ n, w' = w.drewN n) (fun a' => ∀ w', (∃ n, w' = w.drewN n) → Q .normal a' w') ls a) : (Code.region id ls.toArray true).wpIn (F.inRound l) n P Q a w := by
  simp only [Region.lexB, Bool.and_eq_true] at hB
  have hC : (fun w' => ∃ n, w' = w.drewN n) { w with drawn := w.drawn + 1 } := ⟨1, rfl⟩
  have h1 := wpAnyQIn_lex (F := F) (n := n) (C := fun w' => ∃ n, w' = w.drewN n) (md := .any) hB.1 ls 0 (Array.replicate ls.toArray.size false) a (by simp) (by simpa using hB.2) h
  have h2 := wpAnyIn_of_quiet (Q := fun a' => ∀ w', (∃ n, w' = w.drewN n) → Q .normal a' w') (Q' := Q) hro (fun _ w' hw' h => h w' hw') _ _ _ _ hC h1
  refine wpIn_region_any hm (any_round hro (fun i o ho => ?_) _ _ _ _ (by simpa using h2))
  rw [List.getElem?_toArray] at ho
  exact List.all_eq_true.1 hd o (List.mem_of_getElem? ho)
end Go.Proofs.YtcanbhbhdgogoaaDoor
namespace Go.Proofs.YtcanbhbhdgogoaaDoor
open Go.ChangeShapes Go.WideShapes Go.ChangeAt Go.RowKit Go.Shelf
attribute [local go_sem] Oper.semAt_some

theorem run_equalIn_funcD {P : Program} (w : World) (d : Nat) {t : TypeId} {ps rs : Array TypeId} {v : Bool} (f : Fn) (ts lb : Array Value) (h : P.underlying t = some (.func ps rs v)) : (Op.equalIn (d + 1) t (.func f ts lb) .nilFunc).run P w = .ok false w := by
  simp [Op.equalIn, run_underlying h]
theorem run_eql_funcD {P : Program} (w : World) {t : TypeId} {ps rs : Array TypeId} {v : Bool} (f : Fn) (ts lb : Array Value) (h : P.underlying t = some (.func ps rs v)) : (binOp .eql t (.func f ts lb) .nilFunc).run P w = .ok (.bool false) w := by
  simp only [binOp]
  simp [Op.equal, Op.maxDepth, run_equalIn_funcD w 9999 f ts lb h]
theorem lt_of_cellD {w : World} {b o : Nat} {v : Value} (h : w.cell? ⟨b, o, none⟩ = some v) : b < w.heap.size := by
  unfold World.cell? at h
  cases hx : w.heap[b]? with
  | none => simp [hx] at h
  | some y => exact (Array.getElem?_eq_some_iff.1 hx).1
/-- Where the loop of 'walked' stands. -/
structure WdI (b : Nat) (Wc : World) (f : Nat) (pre : List Nat) (A : World) : Prop where
  k : Kept (fun j => j = b) Wc A
  i : A.heap[b]? = some (.cells #[.int .i64 ((f + pre.length : Nat) : Int)] 3 (0, 0))
theorem WdI.same {b : Nat} {Wc A B : World} {f : Nat} {pre : List Nat} (h : WdI b Wc f pre A) (k : Kept (fun _ => False) A B) : WdI b Wc f pre B :=
  ⟨h.k.trans k (fun _ f => f.elim), k.heap h.i (fun f => f)⟩
set_option maxRecDepth 20000 in
set_option maxHeartbeats 4000000 in
theorem walked_any (hC : ClnOk) (i : Int) (w : World) (ws bd : Nat) (va : Value) (E : List En) (a : Option Addr) (c : Nat) (h : Dct w ws bd va E) (hE : EsAt w a E) (hn : E.length ≤ 1099511627776) (hk : ∀ e ∈ E, e.k.size ≤ 281474976710656) (hi1 : -9223372036854775808 ≤ i) (hi2 : i ≤ 9223372036854775807) :
    Calls Tryd.prog 15 #[.pointer (some ⟨bd, 0, none⟩), .slice a E.length c, .int .i64 i] w fun e w' => e = .returned (.bool true) ∧ Kept (fun _ => False) w w' := by
  refine (callsIn_wide (n := 9)).1 ?_
  have CW : Hid (∀ W, Kept (fun _ => False) w W → Calls Tryd.prog 34 #[.pointer (some ⟨bd, 0, none⟩), .int .i64 i] W fun e w' => ∃ bf bp, e = .returned (.func (.func 59) #[] #[.pointer (some ⟨bf, 0, none⟩), .pointer (some ⟨bp, 0, none⟩)]) ∧ Hid (WkK E ws bd va bf bp i.toNat w') ∧ Hid (W.heap.size ≤ bf ∧ W.heap.size ≤ bp) ∧ Hid (Kept (fun _ => False) W w')) := hideQ (fun W k => (walk_any i W ws bd va E (h.kept k) hi1 hi2).mono (fun e w' ⟨⟨bf, bp, he, h1, h2, h3⟩, k'⟩ => ⟨bf, bp, he, hideQ h1, hideQ ⟨h2, h3⟩, hideQ k'⟩))
  have EF := fun (W : World) (f : Fn) (ts lb : Array Value) => run_eql_funcD (P := Tryd.prog) W f ts lb Tryd.underlying74
  have HE := hideQ hE
  have HKs := hideQ hk
  have HCl := hideQ hC
  have HBd : Hid (bd < w.heap.size ∧ ∀ k, va.ownBlock = some k → k < w.heap.size) := hideQ ⟨lt_of_block h.blk, fun k hk => (h.own.lt k hk).2⟩
  obtain ⟨n, hne⟩ : ∃ n, n = E.length := ⟨_, rfl⟩
  rw [← hne] at hn ⊢
  have HN := hideQ hne
  clear hne hE hk hC h
  refine callsIn_of_wp_marks Tryd.func15 rfl trivial ?_ rfl
  simp only [Tryd.ntmps15, List.size_toArray, List.length_cons, List.length_nil, Nat.reduceAdd, Nat.reduceSub, Array.replicate_succ, Array.replicate_zero, List.push_toArray, List.append_toArray, List.nil_append, List.cons_append]
  by_cases hneg : i < 0
  · have d0 : decide (i < 0) = true := decide_eq_true hneg
    have fz : (0 : Int) = ((i.toNat : Nat) : Int) := by omega
    have A1 := Kept.alloc w (.cells #[.slice a n c] 22)
    have A2 := Kept.alloc (w.alloc (.cells #[.slice a n c] 22)) (.cells #[.bool false] 4)
    have A3 := Kept.alloc ((w.alloc (.cells #[.slice a n c] 22)).alloc (.cells #[.bool false] 4)) (.cells #[.int .i64 0] 3)
    have KA := A1.trans (A2.trans A3 (fun _ f => f.elim)) (fun _ f => f.elim)
    have b4 := A3.heap (A2.heap (heap_alloc_new w (.cells #[.slice a n c] 22)) (fun f => f)) (fun f => f)
    have b6 := A3.heap (heap_alloc_new (w.alloc (.cells #[.slice a n c] 22)) (.cells #[.bool false] 4)) (fun f => f)
    have b7 := heap_alloc_new ((w.alloc (.cells #[.slice a n c] 22)).alloc (.cells #[.bool false] 4)) (.cells #[.int .i64 0] 3)
    have e1 : (w.alloc (.cells #[.slice a n c] 22)).heap.size = w.heap.size + 1 := by simp
    have e2 : ((w.alloc (.cells #[.slice a n c] 22)).alloc (.cells #[.bool false] 4)).heap.size = w.heap.size + 1 + 1 := by simp
    rw [e1] at b6
    rw [e2] at b7
    have HFz := hideQ fz
    have HKA := hideQ KA
    have H4 := hideQ b4
    have H6 := hideQ b6
    have H7 := hideQ b7
    clear A1 A2 A3 KA b4 b6 b7 e1 e2 fz
    gi_wp2_with (refine ⟨trivial, ?_⟩; gi_at_call 34; refine Stp.go ?_)
    refine ⟨?_⟩
    refine (callsIn_wide.2 (CW.out _ HKA.out)).mono ?_
    rintro e Wc ⟨bf, bp, rfl, HW, HBf, K1⟩
    have G4 := hideQ (K1.out.heap H4.out (fun f => f))
    have G6 := hideQ (K1.out.heap H6.out (fun f => f))
    have G7 := K1.out.heap H7.out (fun f => f)
    rw [HFz.out] at G7
    have G7 := hideQ G7
    have HKc := hideQ (HKA.out.trans K1.out (fun _ f => f.elim))
    have hbf : w.heap.size + 3 ≤ bf ∧ w.heap.size + 3 ≤ bp := by have := HBf.out; simp at this; omega
    have hWc : w.heap.size + 3 ≤ Wc.heap.size := by have := K1.out.size; simp at this; omega
    clear H4 H6 H7 HKA K1 HBf CW d0
    gi_wp2
    have SQ := walk_seq HCl.out 8 (by decide) E ws bd va bf bp i.toNat (by rw [← HN.out]; exact hn) HKs.out
    refine' range_mf (α := Nat) rfl (by decide) (gf := 59) (lb := #[.pointer (some ⟨bf, 0, none⟩), .pointer (some ⟨bp, 0, none⟩)]) rfl trivial (enters_of Tryd.func59 (by kernel_rfl) rfl) SQ (fun _ => rfl)
      (fun p A => WdI (w.heap.size + 1 + 1) Wc i.toNat p A) (fun _ _ _ => False) ?hK ?hI ?hIx ?hM ?h0 (fun x => .cells #[.string (eat E x).k, .int .i64 (eat E x).d, .int .i64 (eat E x).t, .int .i64 (eat E x).p, .int .i64 (eat E x).s] 31 (0, 0)) (fun x r e => by cases e) _ ?assign ?body ?done ?stop
    case hK =>
      intro p A h
      have q1 := HBd.out
      exact ⟨⟨h.k.heap HW.out.dct.blk (fun e => by omega), h.k.row HW.out.dct.own (fun k hk e => by have := q1.2 k hk; omega), HW.out.dct.new⟩, h.k.cell HW.out.fst (fun e => by simp only at e; omega), h.k.cell HW.out.ptr (fun e => by simp only at e; omega)⟩
    case hI => exact fun p A r r' h _ => ⟨h.k.trans (kept_put1 A _ _) (fun j hj => .inr (by omega)), (kept_put1 A _ _).heap h.i (fun e => by omega)⟩
    case hIx => exact fun _ _ _ _ _ h _ => h
    case hM => exact fun pre x s B B' r h _ _ => h
    case h0 =>
      intro r
      have kk : Kept (fun _ => False) Wc ((Wc.alloc (.deferred (some []))).alloc (.loop r)) := (Kept.alloc _ _).trans (Kept.alloc _ _) (fun _ f => f.elim)
      exact ⟨kk.mono fun _ f => f.elim, kk.heap G7.out (fun f => f)⟩
    case assign =>
      intro l s x B K hs hK
      have hX := heap_alloc_new B (.cells #[.string (eat E x).k, .int .i64 (eat E x).d, .int .i64 (eat E x).t, .int .i64 (eat E x).p, .int .i64 (eat E x).s] 31)
      simp only [encW, enV]
      gi_wp2
      generalize B.heap.size = Bx at hX hs ⊢
      exact hK Bx _ hs (Kept.alloc _ _) hX
    case body =>
      rintro l p x Bx A B hI kAB hM hlt hBx hX
      obtain ⟨hx, hxE⟩ := hM
      have hB := hI.same kAB
      have r7 := hB.i
      rw [← hx] at r7
      have c7 := cell_of_one r7
      have z7 := free_of_one r7
      have c4 := cell_of_one (hB.k.heap G4.out (fun e => by omega))
      obtain ⟨bE, oE, rfl, hcE⟩ := HE.out (by intro e; rw [e] at hxE; simp at hxE)
      obtain ⟨w0, w1, w2, w3, w4⟩ := hcE x hxE
      have hbE : bE < w.heap.size := lt_of_cellD w0
      have y0 := hB.k.cell (HKc.out.cell w0 (fun f => f)) (fun e => by simp only at e; omega)
      have y1 := hB.k.cell (HKc.out.cell w1 (fun f => f)) (fun e => by simp only at e; omega)
      have y2 := hB.k.cell (HKc.out.cell w2 (fun f => f)) (fun e => by simp only at e; omega)
      have y3 := hB.k.cell (HKc.out.cell w3 (fun f => f)) (fun e => by simp only at e; omega)
      have y4 := hB.k.cell (HKc.out.cell w4 (fun f => f)) (fun e => by simp only at e; omega)
      have x0 : B.cell? ⟨Bx, 0, none⟩ = some (.string (eat E x).k) := cell_of_row _ _ 0 _ _ _ hX
      have x1 : B.cell? ⟨Bx, 1, none⟩ = some (.int .i64 (eat E x).d) := cell_of_row _ _ 1 _ _ _ hX
      have x2 : B.cell? ⟨Bx, 2, none⟩ = some (.int .i64 (eat E x).t) := cell_of_row _ _ 2 _ _ _ hX
      have x3 : B.cell? ⟨Bx, 3, none⟩ = some (.int .i64 (eat E x).p) := cell_of_row _ _ 3 _ _ _ hX
      have x4 : B.cell? ⟨Bx, 4, none⟩ = some (.int .i64 (eat E x).s) := cell_of_row _ _ 4 _ _ _ hX
      rw [eat_at hxE] at x0 x1 x2 x3 x4
      have hxn : x < n := by rw [HN.out]; exact hxE
      have FIN : Hid (∀ j, Still Wc.heap.size B ((B.drewN j).setCell ⟨w.heap.size + 1 + 1, 0, none⟩ (.int .i64 ((x : Int) + 1))) ∧ WdI (w.heap.size + 1 + 1) Wc i.toNat (p ++ [x]) ((B.drewN j).setCell ⟨w.heap.size + 1 + 1, 0, none⟩ (.int .i64 ((x : Int) + 1)))) := hideQ (by
        intro j
        have ks := ((Kept.drewN B j).mono fun _ f => f.elim (C := _ ∨ _)).trans (Kept.setCell (B.drewN j) ⟨w.heap.size + 1 + 1, 0, none⟩ (.int .i64 ((x : Int) + 1))) (fun k hk => .inl hk)
        refine ⟨Still.of_kept ks (by have := kAB.size; omega) (fun k hk h => by simp only at h; omega), hB.k.trans ks (fun k hk => .inl hk), ?_⟩
        have := one_setCell (w := B.drewN j) (u := .int .i64 ((x : Int) + 1)) r7
        rw [show ((i.toNat + (p ++ [x]).length : Nat) : Int) = (x : Int) + 1 by rw [List.length_append]; simp; omega]
        exact this)
      generalize E[x] = en at *
      obtain ⟨k, d, t, p', s⟩ := en
      simp only at x0 x1 x2 x3 x4 y0 y1 y2 y3 y4
      have i1 : (x : Int) < (n : Int) := by omega
      have i2 : decide (n ≤ x) = false := decide_eq_false (by omega)
      have i3 : decide ((n : Int) ≤ (x : Int)) = false := decide_eq_false (by omega)
      clear hI kAB hB r7 hX hcE w0 w1 w2 w3 w4 hxE hx hlt hBx SQ HE
      gi_wp2
      refine quiet_round rfl (by kernel_rfl) (by kernel_rfl) (by kernel_rfl) ?_
      repeat (gi_big_quiet_step (fail))
      refine wpQuietIn_nil ?_
      intro _ hw'
      obtain ⟨nq, hw''⟩ := hw'
      subst hw''
      gi_wp2
      all_goals exact FIN.out nq
    case done =>
      intro xs A W5 hS hI k hD
      have hB := hI.same k
      obtain ⟨z, hz⟩ : ∃ z, z = i.toNat + xs.length := ⟨_, rfl⟩
      have r7 := hB.i
      rw [← hz] at r7
      have hzn : n ≤ z := by rw [HN.out]; omega
      have c7 := cell_of_one r7
      have c4 := cell_of_one (hB.k.heap G4.out (fun e => by omega))
      have r6 := hB.k.heap G6.out (fun e => by omega)
      have c6 := cell_of_one r6
      have z6 := free_of_one r6
      have i1 : (n : Int) ≤ (z : Int) := by omega
      have i2 : decide ((n : Int) ≤ (z : Int)) = true := decide_eq_true i1
      have i3 : decide (n ≤ z) = true := decide_eq_true hzn
      have HK5 : Hid (Kept (fun j => j = w.heap.size + 1 + 1) Wc W5) := hideQ hB.k
      have HD5 := hideQ hD
      have R6 := hideQ r6
      clear hB hI k hS hz r7 r6 SQ HE hD
      gi_wp2
      have hD2 : (W5.setCell ⟨w.heap.size + 1, 0, none⟩ (.bool true)).heap[Wc.heap.size]? = some (.deferred (some [])) := (Kept.setCell W5 ⟨w.heap.size + 1, 0, none⟩ (.bool true)).heap HD5.out (fun e => by simp only at e; omega)
      have r6 := one_setCell (u := .bool true) R6.out
      refine ⟨by simp, .inl ⟨_, _, rfl, run_takeDeferred hD2, ?_⟩⟩
      have c9 : ((W5.setCell ⟨w.heap.size + 1, 0, none⟩ (.bool true)).putObj Wc.heap.size (.deferred none)).cell? ⟨w.heap.size + 1, 0, none⟩ = some (.bool true) := cell_of_one ((kept_put1 _ _ _).heap r6 (fun e => by omega))
      refine ⟨.bool true, by simp [results, Tryd.results15, go_sem, c9], rfl, ?_⟩
      exact ((HKc.out.trans HK5.out (fun j hj => .inr (by omega))).trans (Kept.setCell W5 ⟨w.heap.size + 1, 0, none⟩ (.bool true)) (fun j hj => .inr (by simp only at hj; omega))).trans (kept_put1 _ _ _) (fun j hj => .inr (by omega))
    case stop => exact fun _ _ _ _ h _ _ => h.elim
  · have d0 : decide (i < 0) = false := decide_eq_false hneg
    have fz : (i : Int) = ((i.toNat : Nat) : Int) := by omega
    have A1 := Kept.alloc w (.cells #[.slice a n c] 22)
    have A2 := Kept.alloc (w.alloc (.cells #[.slice a n c] 22)) (.cells #[.bool false] 4)
    have A3 := Kept.alloc ((w.alloc (.cells #[.slice a n c] 22)).alloc (.cells #[.bool false] 4)) (.cells #[.int .i64 i] 3)
    have KA := A1.trans (A2.trans A3 (fun _ f => f.elim)) (fun _ f => f.elim)
    have b4 := A3.heap (A2.heap (heap_alloc_new w (.cells #[.slice a n c] 22)) (fun f => f)) (fun f => f)
    have b6 := A3.heap (heap_alloc_new (w.alloc (.cells #[.slice a n c] 22)) (.cells #[.bool false] 4)) (fun f => f)
    have b7 := heap_alloc_new ((w.alloc (.cells #[.slice a n c] 22)).alloc (.cells #[.bool false] 4)) (.cells #[.int .i64 i] 3)
    have e1 : (w.alloc (.cells #[.slice a n c] 22)).heap.size = w.heap.size + 1 := by simp
    have e2 : ((w.alloc (.cells #[.slice a n c] 22)).alloc (.cells #[.bool false] 4)).heap.size = w.heap.size + 1 + 1 := by simp
    rw [e1] at b6
    rw [e2] at b7
    have HFz := hideQ fz
    have HKA := hideQ KA
    have H4 := hideQ b4
    have H6 := hideQ b6
    have H7 := hideQ b7
    clear A1 A2 A3 KA b4 b6 b7 e1 e2 fz
    gi_wp2_with (refine ⟨trivial, ?_⟩; gi_at_call 34; refine Stp.go ?_)
    refine ⟨?_⟩
    refine (callsIn_wide.2 (CW.out _ HKA.out)).mono ?_
    rintro e Wc ⟨bf, bp, rfl, HW, HBf, K1⟩
    have G4 := hideQ (K1.out.heap H4.out (fun f => f))
    have G6 := hideQ (K1.out.heap H6.out (fun f => f))
    have G7 := K1.out.heap H7.out (fun f => f)
    rw [HFz.out] at G7
    have G7 := hideQ G7
    have HKc := hideQ (HKA.out.trans K1.out (fun _ f => f.elim))
    have hbf : w.heap.size + 3 ≤ bf ∧ w.heap.size + 3 ≤ bp := by have := HBf.out; simp at this; omega
    have hWc : w.heap.size + 3 ≤ Wc.heap.size := by have := K1.out.size; simp at this; omega
    clear H4 H6 H7 HKA K1 HBf CW d0
    gi_wp2
    have SQ := walk_seq HCl.out 8 (by decide) E ws bd va bf bp i.toNat (by rw [← HN.out]; exact hn) HKs.out
    refine' range_mf (α := Nat) rfl (by decide) (gf := 59) (lb := #[.pointer (some ⟨bf, 0, none⟩), .pointer (some ⟨bp, 0, none⟩)]) rfl trivial (enters_of Tryd.func59 (by kernel_rfl) rfl) SQ (fun _ => rfl)
      (fun p A => WdI (w.heap.size + 1 + 1) Wc i.toNat p A) (fun _ _ _ => False) ?hK ?hI ?hIx ?hM ?h0 (fun x => .cells #[.string (eat E x).k, .int .i64 (eat E x).d, .int .i64 (eat E x).t, .int .i64 (eat E x).p, .int .i64 (eat E x).s] 31 (0, 0)) (fun x r e => by cases e) _ ?assign ?body ?done ?stop
    case hK =>
      intro p A h
      have q1 := HBd.out
      exact ⟨⟨h.k.heap HW.out.dct.blk (fun e => by omega), h.k.row HW.out.dct.own (fun k hk e => by have := q1.2 k hk; omega), HW.out.dct.new⟩, h.k.cell HW.out.fst (fun e => by simp only at e; omega), h.k.cell HW.out.ptr (fun e => by simp only at e; omega)⟩
    case hI => exact fun p A r r' h _ => ⟨h.k.trans (kept_put1 A _ _) (fun j hj => .inr (by omega)), (kept_put1 A _ _).heap h.i (fun e => by omega)⟩
    case hIx => exact fun _ _ _ _ _ h _ => h
    case hM => exact fun pre x s B B' r h _ _ => h
    case h0 =>
      intro r
      have kk : Kept (fun _ => False) Wc ((Wc.alloc (.deferred (some []))).alloc (.loop r)) := (Kept.alloc _ _).trans (Kept.alloc _ _) (fun _ f => f.elim)
      exact ⟨kk.mono fun _ f => f.elim, kk.heap G7.out (fun f => f)⟩
    case assign =>
      intro l s x B K hs hK
      have hX := heap_alloc_new B (.cells #[.string (eat E x).k, .int .i64 (eat E x).d, .int .i64 (eat E x).t, .int .i64 (eat E x).p, .int .i64 (eat E x).s] 31)
      simp only [encW, enV]
      gi_wp2
      generalize B.heap.size = Bx at hX hs ⊢
      exact hK Bx _ hs (Kept.alloc _ _) hX
    case body =>
      rintro l p x Bx A B hI kAB hM hlt hBx hX
      obtain ⟨hx, hxE⟩ := hM
      have hB := hI.same kAB
      have r7 := hB.i
      rw [← hx] at r7
      have c7 := cell_of_one r7
      have z7 := free_of_one r7
      have c4 := cell_of_one (hB.k.heap G4.out (fun e => by omega))
      obtain ⟨bE, oE, rfl, hcE⟩ := HE.out (by intro e; rw [e] at hxE; simp at hxE)
      obtain ⟨w0, w1, w2, w3, w4⟩ := hcE x hxE
      have hbE : bE < w.heap.size := lt_of_cellD w0
      have y0 := hB.k.cell (HKc.out.cell w0 (fun f => f)) (fun e => by simp only at e; omega)
      have y1 := hB.k.cell (HKc.out.cell w1 (fun f => f)) (fun e => by simp only at e; omega)
      have y2 := hB.k.cell (HKc.out.cell w2 (fun f => f)) (fun e => by simp only at e; omega)
      have y3 := hB.k.cell (HKc.out.cell w3 (fun f => f)) (fun e => by simp only at e; omega)
      have y4 := hB.k.cell (HKc.out.cell w4 (fun f => f)) (fun e => by simp only at e; omega)
      have x0 : B.cell? ⟨Bx, 0, none⟩ = some (.string (eat E x).k) := cell_of_row _ _ 0 _ _ _ hX
      have x1 : B.cell? ⟨Bx, 1, none⟩ = some (.int .i64 (eat E x).d) := cell_of_row _ _ 1 _ _ _ hX
      have x2 : B.cell? ⟨Bx, 2, none⟩ = some (.int .i64 (eat E x).t) := cell_of_row _ _ 2 _ _ _ hX
      have x3 : B.cell? ⟨Bx, 3, none⟩ = some (.int .i64 (eat E x).p) := cell_of_row _ _ 3 _ _ _ hX
      have x4 : B.cell? ⟨Bx, 4, none⟩ = some (.int .i64 (eat E x).s) := cell_of_row _ _ 4 _ _ _ hX
      rw [eat_at hxE] at x0 x1 x2 x3 x4
      have hxn : x < n := by rw [HN.out]; exact hxE
      have FIN : Hid (∀ j, Still Wc.heap.size B ((B.drewN j).setCell ⟨w.heap.size + 1 + 1, 0, none⟩ (.int .i64 ((x : Int) + 1))) ∧ WdI (w.heap.size + 1 + 1) Wc i.toNat (p ++ [x]) ((B.drewN j).setCell ⟨w.heap.size + 1 + 1, 0, none⟩ (.int .i64 ((x : Int) + 1)))) := hideQ (by
        intro j
        have ks := ((Kept.drewN B j).mono fun _ f => f.elim (C := _ ∨ _)).trans (Kept.setCell (B.drewN j) ⟨w.heap.size + 1 + 1, 0, none⟩ (.int .i64 ((x : Int) + 1))) (fun k hk => .inl hk)
        refine ⟨Still.of_kept ks (by have := kAB.size; omega) (fun k hk h => by simp only at h; omega), hB.k.trans ks (fun k hk => .inl hk), ?_⟩
        have := one_setCell (w := B.drewN j) (u := .int .i64 ((x : Int) + 1)) r7
        rw [show ((i.toNat + (p ++ [x]).length : Nat) : Int) = (x : Int) + 1 by rw [List.length_append]; simp; omega]
        exact this)
      generalize E[x] = en at *
      obtain ⟨k, d, t, p', s⟩ := en
      simp only at x0 x1 x2 x3 x4 y0 y1 y2 y3 y4
      have i1 : (x : Int) < (n : Int) := by omega
      have i2 : decide (n ≤ x) = false := decide_eq_false (by omega)
      have i3 : decide ((n : Int) ≤ (x : Int)) = false := decide_eq_false (by omega)
      clear hI kAB hB r7 hX hcE w0 w1 w2 w3 w4 hxE hx hlt hBx SQ HE
      gi_wp2
      refine quiet_round rfl (by kernel_rfl) (by kernel_rfl) (by kernel_rfl) ?_
      repeat (gi_big_quiet_step (fail))
      refine wpQuietIn_nil ?_
      intro _ hw'
      obtain ⟨nq, hw''⟩ := hw'
      subst hw''
      gi_wp2
      all_goals exact FIN.out nq
    case done =>
      intro xs A W5 hS hI k hD
      have hB := hI.same k
      obtain ⟨z, hz⟩ : ∃ z, z = i.toNat + xs.length := ⟨_, rfl⟩
      have r7 := hB.i
      rw [← hz] at r7
      have hzn : n ≤ z := by rw [HN.out]; omega
      have c7 := cell_of_one r7
      have c4 := cell_of_one (hB.k.heap G4.out (fun e => by omega))
      have r6 := hB.k.heap G6.out (fun e => by omega)
      have c6 := cell_of_one r6
      have z6 := free_of_one r6
      have i1 : (n : Int) ≤ (z : Int) := by omega
      have i2 : decide ((n : Int) ≤ (z : Int)) = true := decide_eq_true i1
      have i3 : decide (n ≤ z) = true := decide_eq_true hzn
      have HK5 : Hid (Kept (fun j => j = w.heap.size + 1 + 1) Wc W5) := hideQ hB.k
      have HD5 := hideQ hD
      have R6 := hideQ r6
      clear hB hI k hS hz r7 r6 SQ HE hD
      gi_wp2
      have hD2 : (W5.setCell ⟨w.heap.size + 1, 0, none⟩ (.bool true)).heap[Wc.heap.size]? = some (.deferred (some [])) := (Kept.setCell W5 ⟨w.heap.size + 1, 0, none⟩ (.bool true)).heap HD5.out (fun e => by simp only at e; omega)
      have r6 := one_setCell (u := .bool true) R6.out
      refine ⟨by simp, .inl ⟨_, _, rfl, run_takeDeferred hD2, ?_⟩⟩
      have c9 : ((W5.setCell ⟨w.heap.size + 1, 0, none⟩ (.bool true)).putObj Wc.heap.size (.deferred none)).cell? ⟨w.heap.size + 1, 0, none⟩ = some (.bool true) := cell_of_one ((kept_put1 _ _ _).heap r6 (fun e => by omega))
      refine ⟨.bool true, by simp [results, Tryd.results15, go_sem, c9], rfl, ?_⟩
      exact ((HKc.out.trans HK5.out (fun j hj => .inr (by omega))).trans (Kept.setCell W5 ⟨w.heap.size + 1, 0, none⟩ (.bool true)) (fun j hj => .inr (by simp only at hj; omega))).trans (kept_put1 _ _ _) (fun j hj => .inr (by omega))
    case stop => exact fun _ _ _ _ h _ _ => h.elim
end Go.Proofs.YtcanbhbhdgogoaaDoor
