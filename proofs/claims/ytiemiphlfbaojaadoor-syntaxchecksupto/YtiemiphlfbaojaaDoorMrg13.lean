import Derived.Test.YtiemiphlfbaojaaDoorMrg6
import Derived.Test.YtiemiphlfbaojaaDoorMrg1
namespace Go.Proofs.YtiemiphlfbaojaaDoor
open Go.ChangeShapes Go.WideShapes Go.ChangeAt Go.RowKit
variable {w : World}

/-! Check. -/
def tnL (x : Lx) : Tn := ⟨(x.k : Int), bq x.t, x.n, (x.a : Int), (x.e : Int)⟩
def rowL (L : List Lx) : List Tn := L.map tnL
theorem rw_list {L : List Lx} {g : Nat} (h : ∀ k y, L[k]? = some y → LxAt w g k y) : Rw w (some ⟨g, 0, none⟩) (rowL L) := fun _ => ⟨g, 0, rfl, fun j y hy => by
  unfold rowL at hy
  rw [List.getElem?_map] at hy
  obtain ⟨x, hx, rfl⟩ := Option.map_eq_some_iff.1 hy
  obtain ⟨c0, c1, c2, c3, c4⟩ := h j x hx
  rw [Nat.zero_add]
  exact ⟨c0, c1, c2, c3, c4⟩⟩
/-- The tokens of a text end with the end. -/
theorem end_list {l : List UInt8} {L : List Lx} (h : scanF l = (L, none)) : EndR (rowL L) := by
  obtain ⟨A, hA, _⟩ := scan_beside l [] (by rw [h])
  rw [h] at hA
  have hA : L = A ++ [endT l.length] := hA
  subst hA
  refine ⟨tnL (endT l.length), ?_, rfl⟩
  unfold rowL
  rw [List.getElem?_map, List.length_map, List.length_append]
  show Option.map tnL ((A ++ [endT l.length])[A.length + 1 - 1]?) = _
  rw [Nat.add_sub_cancel, List.getElem?_append_right (Nat.le_refl _), Nat.sub_self]
  rfl
/-- What Check answers. -/
def ckPost (w : World) (ad : Addr) (l : List UInt8) (x : Ending) (w' : World) : Prop :=
  ((∃ L, scanF l = (L, none) ∧ (((runR (rowL L)).1 = true ∧ x = .returned (.tuple #[.int .i64 (((runR (rowL L)).2.top.n : Nat) : Int), .int .i64 0, .nilIface])) ∨ ((runR (rowL L)).1 = false ∧ x = .returned (.tuple #[.int .i64 0, .int .i64 (tkA (rowL L) (runR (rowL L)).2.at').a, synV ad])))) ∨ (∃ f : Nat, (scanF l).2 = some f ∧ x = .returned (.tuple #[.int .i64 0, .int .i64 (f : Int), synV ad]))) ∧ Kept (fun _ => False) w w'
set_option maxRecDepth 20000 in
set_option maxHeartbeats 4000000 in
theorem check_any (l : List UInt8) (ad : Addr) (hC : ClsAt w) (hS : SynAt w ad) (hl : l.length ≤ 400000000000 - 1) : Calls Tryd.prog 6 #[.string (bq l)] w (ckPost w ad l) := by
  cases hZ : (scanF l).2 with
  | none =>
    obtain ⟨L, hL⟩ : ∃ L, L = (scanF l).1 := ⟨_, rfl⟩
    obtain ⟨n, hn⟩ : ∃ n, n = L.length := ⟨_, rfl⟩
    have h1 : scanF l = (L, none) := by rw [hL, ← hZ]
    obtain ⟨p0, p1, -⟩ := scan_pos l hZ
    rw [← hL, ← hn] at p0 p1
    have C1 := hideL (scan_list l L n w ad hC hS (by omega) h1 hn p0)
    have hrl : (rowL L).length = n := by unfold rowL; rw [List.length_map, hn]
    have C2 := hideL (fun W (k : Kept (fun _ => False) w W) g c (h : ∀ k y, L[k]? = some y → LxAt W g k y) => judge_any (w := W) (rc := c) n ad hrl.symm (rw_list h) (by omega) (end_list h1) (hS.later k))
    have HP : Hid (∀ x w1 w2, Kept (fun _ => False) w w1 → jdPost w1 ad (rowL L) x w2 → ckPost w ad l x w2) := hideL (fun x w1 w2 k q => ⟨.inl ⟨L, h1, q.1⟩, k.trans q.2 (fun _ f => f.elim)⟩)
    have HJ : Hid (∀ x w1 w2, jdPost w1 ad (rowL L) x w2 → ∃ z1 z2 er, x = .returned (.tuple #[.int .i64 z1, .int .i64 z2, er])) := hideL (fun x w1 w2 q => by rcases q.1 with ⟨_, e⟩ | ⟨_, e⟩ <;> exact ⟨_, _, _, e⟩)
    generalize ckPost w ad l = Q at *
    generalize hJP : (fun w1 => jdPost w1 ad (rowL L)) = JP at *
    have HJP : Hid (∀ w1, jdPost w1 ad (rowL L) = JP w1) := hideL (fun w1 => by rw [← hJP])
    generalize bq l = s at *
    clear hC hS hl hZ hL hn h1 p1 hrl hJP
    go_enter Tryd.func6, Tryd.ntmps6
    go_wp2_with (first
      | (go_at_call 12; refine C1.out.mono ?_; clear C1; rintro x W1 ⟨⟨g1, c1, rfl, l1⟩, k1⟩; have K1 := hideL k1; have L1 := hideL l1; clear k1 l1)
      | (go_at_call 13; refine (C2.out _ K1.out _ _ L1.out).mono ?_; clear C2; intro x W2 q2; have HQ := hideL (HP.out x W1 W2 K1.out q2); obtain ⟨z1, z2, er, rfl⟩ := HJ.out x W1 W2 q2; clear q2))
    go_ret3
    exact HQ.out
  | some f =>
    have C1 := hideL (scan_some l w ad hC hS (by omega) f hZ)
    have HP : Hid (∀ w', Kept (fun _ => False) w w' → ckPost w ad l (.returned (.tuple #[.int .i64 0, .int .i64 (f : Int), .iface 120 (.pointer (some ad))])) w') := hideL (fun w' k => ⟨.inr ⟨f, hZ, rfl⟩, k⟩)
    generalize ckPost w ad l = Q at *
    generalize bq l = s at *
    clear hC hS hl hZ
    go_enter Tryd.func6, Tryd.ntmps6
    go_wp2_with (go_at_call 12; refine C1.out.mono ?_; clear C1; rintro x W1 ⟨rfl, k1⟩; have K1 := hideL k1; clear k1)
    go_ret3
    exact HP.out _ K1.out
end Go.Proofs.YtiemiphlfbaojaaDoor
namespace Go.Proofs.YtiemiphlfbaojaaDoor
open Go.ChangeShapes Go.WideShapes Go.ChangeAt Go.RowKit

/-! A row and what stands ahead of its place i: both runs go alike up to that place; where the longer one takes the token there, the shorter one has missed its kind. -/
abbrev Res := (Nat ⊕ Bool) × MS
/-- The shorter run has come to its end, and has missed the kind kk. -/
def Lag (i kk : Nat) (s : MS) : Prop := s.at' = i ∧ s.mi.testBit kk = true
def LagR (i kk : Nat) (x : Res) : Prop := Lag i kk x.2 ∧ ∀ b, x.1 = .inr b → b = false
structure SimT (i kk : Nat) (F F' : MS → Bool × MS) : Prop where
  sim : ∀ s, s.at' ≤ i → (F' s = F s ∧ (F s).2.at' ≤ i) ∨ ((F' s).1 = false ∧ Lag i kk (F' s).2 ∧ i < (F s).2.at')
  lag : ∀ s, Lag i kk s → (F' s).1 = false ∧ Lag i kk (F' s).2
  le : ∀ s, s.at' ≤ (F s).2.at'
structure SimG (i kk : Nat) (G G' : MS → Res) : Prop where
  sim : ∀ s, s.at' ≤ i → (G' s = G s ∧ (G s).2.at' ≤ i) ∨ (LagR i kk (G' s) ∧ i < (G s).2.at')
  le : ∀ s, s.at' ≤ (G s).2.at'
def LagG (i kk : Nat) (G' : MS → Res) : Prop := ∀ s, Lag i kk s → LagR i kk (G' s)
variable {R : List Tn} {i kk : Nat} {y : Tn}
theorem tkA_take {a : Nat} (h : a < i) : tkA (R.take i) a = tkA R a := by unfold tkA; rw [List.getElem?_take, if_pos h]
theorem tkA_end (a : Nat) (h : i ≤ a) : tkA (R.take i) a = noT := by unfold tkA; rw [List.getElem?_take, if_neg (by omega)]; rfl
theorem sim_tk (hy : R[i]? = some y) (k : Nat) (f : Tn → Bool) (hf : f noT = false) (hk : f y = true → k = kk) : SimT i kk (fun s => (tkB R f s, tkS R k f s)) (fun s => (tkB (R.take i) f s, tkS (R.take i) k f s)) := by
  have hA : tkA R i = y := by unfold tkA; rw [hy]; rfl
  refine ⟨fun s hs => ?_, fun s hs => ?_, fun s => (adv_tk k f hf).le s⟩
  · rcases Nat.lt_or_ge s.at' i with q | q
    · left
      refine ⟨?_, ?_⟩
      · show (f (tkA (R.take i) s.at'), s.pass k (f (tkA (R.take i) s.at'))) = (f (tkA R s.at'), s.pass k (f (tkA R s.at')))
        rw [tkA_take q]
      · show (s.pass k (f (tkA R s.at'))).at' ≤ i
        unfold MS.pass
        split
        · exact q
        · exact hs
    · have e : s.at' = i := by omega
      have e1 : f (tkA (R.take i) s.at') = false := by rw [tkA_end _ q]; exact hf
      cases ht : f (tkA R s.at') with
      | false =>
        left
        refine ⟨?_, ?_⟩
        · show (f (tkA (R.take i) s.at'), s.pass k (f (tkA (R.take i) s.at'))) = (f (tkA R s.at'), s.pass k (f (tkA R s.at')))
          rw [e1, ht]
        · show (s.pass k (f (tkA R s.at'))).at' ≤ i
          rw [ht]
          exact hs
      | true =>
        right
        have hkk : k = kk := hk (by rw [e, hA] at ht; exact ht)
        refine ⟨e1, ?_, ?_⟩
        · show Lag i kk (s.pass k (f (tkA (R.take i) s.at')))
          rw [e1]
          refine ⟨e, ?_⟩
          show (s.mi ||| 1 <<< k).testBit kk = true
          subst hkk
          simp [Nat.testBit_or, Nat.one_shiftLeft]
        · show i < (s.pass k (f (tkA R s.at'))).at'
          rw [ht]
          show i < s.at' + 1
          omega
  · have e1 : f (tkA (R.take i) s.at') = false := by rw [tkA_end _ (by rw [hs.1]; exact Nat.le_refl _)]; exact hf
    refine ⟨e1, ?_⟩
    show Lag i kk (s.pass k (f (tkA (R.take i) s.at')))
    rw [e1]
    refine ⟨hs.1, ?_⟩
    show (s.mi ||| 1 <<< k).testBit kk = true
    rw [Nat.testBit_or, hs.2]
    rfl
theorem SimT.or {p q p' q' : MS → Bool × MS} (hp : SimT i kk p p') (hq : SimT i kk q q') : SimT i kk (orT p q) (orT p' q') := by
  have hl : ∀ s, Lag i kk s → (orT p' q' s).1 = false ∧ Lag i kk (orT p' q' s).2 := fun s hs => by
    obtain ⟨h1, h2⟩ := hp.lag s hs
    unfold orT
    rw [if_neg (by rw [h1]; decide)]
    exact hq.lag _ h2
  refine ⟨fun s hs => ?_, hl, fun s => ?_⟩
  · rcases hp.sim s hs with ⟨e, h⟩ | ⟨h1, h2, h3⟩
    · unfold orT
      rw [e]
      cases hb : (p s).1 with
      | true => left; exact ⟨rfl, h⟩
      | false => exact hq.sim _ h
    · right
      have : orT p' q' s = q' (p' s).2 := by unfold orT; rw [if_neg (by rw [h1]; decide)]
      rw [this]
      refine ⟨(hq.lag _ h2).1, (hq.lag _ h2).2, ?_⟩
      unfold orT
      split
      · exact h3
      · exact Nat.lt_of_lt_of_le h3 (hq.le _)
  · unfold orT
    split
    · exact hp.le s
    · exact Nat.le_trans (hp.le s) (hq.le _)
theorem SimT.and {p q p' q' : MS → Bool × MS} (hp : SimT i kk p p') (hq : SimT i kk q q') : SimT i kk (andT p q) (andT p' q') := by
  refine ⟨fun s hs => ?_, fun s hs => ?_, fun s => ?_⟩
  · rcases hp.sim s hs with ⟨e, h⟩ | ⟨h1, h2, h3⟩
    · unfold andT
      rw [e]
      cases hb : (p s).1 with
      | true => exact hq.sim _ h
      | false => left; exact ⟨rfl, h⟩
    · right
      have : andT p' q' s = p' s := by unfold andT; rw [if_neg (by rw [h1]; decide)]
      rw [this]
      refine ⟨h1, h2, ?_⟩
      unfold andT
      split
      · exact Nat.lt_of_lt_of_le h3 (hq.le _)
      · exact h3
  · obtain ⟨h1, h2⟩ := hp.lag s hs
    unfold andT
    rw [if_neg (by rw [h1]; decide)]
    exact ⟨h1, h2⟩
  · unfold andT
    split
    · exact Nat.le_trans (hp.le s) (hq.le _)
    · exact hp.le s
/-- A test, and what follows by its answer; a taking whose answer does not matter; a change that leaves place and bits. -/
def brT (F : MS → Bool × MS) (A T : MS → Res) (s : MS) : Res := if (F s).1 then A (F s).2 else T (F s).2
theorem SimG.br {F F' : MS → Bool × MS} {A A' T T' : MS → Res} (hF : SimT i kk F F') (hA : SimG i kk A A') (hT : SimG i kk T T') (hl : LagG i kk T') : SimG i kk (brT F A T) (brT F' A' T') := by
  refine ⟨fun s hs => ?_, fun s => ?_⟩
  · rcases hF.sim s hs with ⟨e, h⟩ | ⟨h1, h2, h3⟩
    · unfold brT
      rw [e]
      cases hb : (F s).1 with
      | true => exact hA.sim _ h
      | false => exact hT.sim _ h
    · right
      refine ⟨?_, ?_⟩
      · unfold brT
        rw [if_neg (by rw [h1]; decide)]
        exact hl _ h2
      · unfold brT
        split
        · exact Nat.lt_of_lt_of_le h3 (hA.le _)
        · exact Nat.lt_of_lt_of_le h3 (hT.le _)
  · unfold brT
    split
    · exact Nat.le_trans (hF.le s) (hA.le _)
    · exact Nat.le_trans (hF.le s) (hT.le _)
theorem LagG.br {F F' : MS → Bool × MS} {A' T' : MS → Res} (hF : SimT i kk F F') (hl : LagG i kk T') : LagG i kk (brT F' A' T') := fun s hs => by
  obtain ⟨h1, h2⟩ := hF.lag s hs
  unfold brT
  rw [if_neg (by rw [h1]; decide)]
  exact hl _ h2
theorem SimG.sq {F F' : MS → Bool × MS} {A A' : MS → Res} (hF : SimT i kk F F') (hA : SimG i kk A A') (hl : LagG i kk A') : SimG i kk (fun s => A (F s).2) (fun s => A' (F' s).2) := by
  refine ⟨fun s hs => ?_, fun s => Nat.le_trans (hF.le s) (hA.le _)⟩
  rcases hF.sim s hs with ⟨e, h⟩ | ⟨h1, h2, h3⟩
  · rw [e]
    exact hA.sim _ h
  · right
    exact ⟨hl _ h2, Nat.lt_of_lt_of_le h3 (hA.le _)⟩
theorem LagG.sq {F F' : MS → Bool × MS} {A' : MS → Res} (hF : SimT i kk F F') (hl : LagG i kk A') : LagG i kk (fun s => A' (F' s).2) := fun s hs => hl _ (hF.lag s hs).2
theorem SimG.up {A A' : MS → Res} (u : MS → MS) (h1 : ∀ s, (u s).at' = s.at') (hA : SimG i kk A A') : SimG i kk (fun s => A (u s)) (fun s => A' (u s)) :=
  ⟨fun s hs => hA.sim _ (by rw [h1]; exact hs), fun s => by have := hA.le (u s); rw [h1] at this; exact this⟩
theorem LagG.up {A' : MS → Res} (u : MS → MS) (h1 : ∀ s, (u s).at' = s.at') (h2 : ∀ s, (u s).mi = s.mi) (hl : LagG i kk A') : LagG i kk (fun s => A' (u s)) := fun s hs => hl _ ⟨by rw [h1]; exact hs.1, by rw [h2]; exact hs.2⟩
theorem sim_leaf (x : Nat ⊕ Bool) (u : MS → MS) (h1 : ∀ s, (u s).at' = s.at') : SimG i kk (fun s => (x, u s)) (fun s => (x, u s)) := ⟨fun s hs => .inl ⟨rfl, by show (u s).at' ≤ i; rw [h1]; exact hs⟩, fun s => by show s.at' ≤ (u s).at'; rw [h1]; exact Nat.le_refl _⟩
theorem lag_leaf (x : Nat ⊕ Bool) (hx : x ≠ .inr true) (u : MS → MS) (h1 : ∀ s, (u s).at' = s.at') (h2 : ∀ s, (u s).mi = s.mi) : LagG i kk (fun s => (x, u s)) := fun s hs => ⟨⟨by show (u s).at' = i; rw [h1]; exact hs.1, by show (u s).mi.testBit kk = true; rw [h2]; exact hs.2⟩, fun b hb => by
  cases b with
  | false => rfl
  | true => exact absurd hb hx⟩
end Go.Proofs.YtiemiphlfbaojaaDoor
namespace Go.Proofs.YtiemiphlfbaojaaDoor
open Go.ChangeShapes Go.WideShapes Go.ChangeAt Go.RowKit
variable {R : List Tn} {i kk : Nat} {y : Tn}

/-! Both runs side by side. -/
structure At14 (R : List Tn) (i kk : Nat) (y : Tn) : Prop where
  hy : R[i]? = some y
  hk : (kk : Int) = y.k
theorem sm_K (h : At14 R i kk y) (k : Nat) : SimT i kk (tK R k) (tK (R.take i) k) := sim_tk h.hy k (isK k) (by unfold isK noT; simp) (fun e => by
  have e : (y.k == (k : Int)) = true := e
  have := h.hk
  have e2 := eq_of_beq e
  omega)
theorem sm_St (h : At14 R i kk y) : SimT i kk (tSt R) (tSt (R.take i)) := sim_tk h.hy 2 isSt rfl (fun e => by
  unfold isSt at e
  rw [Bool.and_eq_true] at e
  have := h.hk
  have e2 := eq_of_beq e.1
  omega)
theorem sm_Ed (h : At14 R i kk y) : SimT i kk (tEd R) (tEd (R.take i)) := sim_tk h.hy 20 isEd rfl (fun e => by
  unfold isEd at e
  rw [Bool.and_eq_true] at e
  have := h.hk
  have e2 := eq_of_beq e.1
  omega)
theorem sm_Sl (h : At14 R i kk y) : SimT i kk (tSl R) (tSl (R.take i)) := sim_tk h.hy 20 isSl rfl (fun e => by
  unfold isSl at e
  rw [Bool.and_eq_true] at e
  have := h.hk
  have e2 := eq_of_beq e.1
  omega)
theorem sm_Side (h : At14 R i kk y) : SimT i kk (tSide R) (tSide (R.take i)) := ((sm_K h 1).or (sm_K h 3)).or (sm_St h)
theorem sm_Sides (h : At14 R i kk y) : SimT i kk (tSides R) (tSides (R.take i)) := (((sm_Side h).and (sm_K h 7)).and (sm_Side h)).and ((sm_K h 11).or (sm_K h 13))
theorem sm_Join (h : At14 R i kk y) : SimT i kk (tJoin R) (tJoin (R.take i)) := ((sm_K h 5).or (sm_K h 4)).or (sm_K h 17)
def LF (l : Nat) (s : MS) : Res := (.inl l, s)
def NO (s : MS) : Res := (.inr false, s)
def YE (s : MS) : Res := (.inr true, s)
theorem sm_LF (l : Nat) : SimG i kk (LF l) (LF l) := sim_leaf (.inl l) id (fun _ => rfl)
theorem lg_LF (l : Nat) : LagG i kk (LF l) := lag_leaf (.inl l) (by simp) id (fun _ => rfl) (fun _ => rfl)
theorem sm_NO : SimG i kk NO NO := sim_leaf (.inr false) id (fun _ => rfl)
theorem lg_NO : LagG i kk NO := lag_leaf (.inr false) (by simp) id (fun _ => rfl) (fun _ => rfl)
theorem sm_YE : SimG i kk YE YE := sim_leaf (.inr true) id (fun _ => rfl)
/-- A pass and its lag, for a row and its beginning. -/
structure Both (i kk : Nat) (G G' : MS → Res) : Prop where
  g : SimG i kk G G'
  l : LagG i kk G'
theorem Both.br {F F' : MS → Bool × MS} {A A' T T' : MS → Res} (hF : SimT i kk F F') (hA : SimG i kk A A') (hT : Both i kk T T') : Both i kk (brT F A T) (brT F' A' T') := ⟨SimG.br hF hA hT.g hT.l, LagG.br hF hT.l⟩
theorem bt_LF (l : Nat) : Both i kk (LF l) (LF l) := ⟨sm_LF l, lg_LF l⟩
theorem bt_NO : Both i kk NO NO := ⟨sm_NO, lg_NO⟩
theorem bt_0 (h : At14 R i kk y) : Both i kk (stp0 R) (stp0 (R.take i)) := by
  have hF := (sm_K h 15).or (sm_K h 16)
  refine ⟨⟨fun s hs => ?_, fun s => hF.le s⟩, fun s hs => ⟨⟨(hF.lag s hs).2.1, (hF.lag s hs).2.2⟩, fun b hb => by cases hb⟩⟩
  rcases hF.sim s hs with ⟨e, q⟩ | ⟨_, h2, h3⟩
  · left
    refine ⟨?_, q⟩
    unfold stp0
    rw [e]
  · right
    exact ⟨⟨⟨h2.1, h2.2⟩, fun b hb => by cases hb⟩, h3⟩
theorem bt_1 (h : At14 R i kk y) : Both i kk (stp1 R) (stp1 (R.take i)) :=
  Both.br (sm_K h 6) (sim_leaf (.inl 1) (fun s => { s with top := { s.top with t := s.top.t + 1 } }) (fun _ => rfl)) (Both.br (sm_St h) (sm_LF 3) (Both.br (sm_K h 1) (sm_LF 4) (bt_LF 2)))
theorem bt_S (h : At14 R i kk y) : Both i kk (stpS R) (stpS (R.take i)) := Both.br (sm_Sides h) (sm_LF 5) bt_NO
theorem bt_2e (h : At14 R i kk y) : Both i kk (stp2e R) (stp2e (R.take i)) :=
  Both.br (sm_K h 3) (SimG.sq (sm_Sl h) (sm_LF 5) (lg_LF 5)) (Both.br (sm_K h 1) (SimG.sq (sm_Ed h) (sm_LF 5) (lg_LF 5)) (Both.br (sm_K h 2) (sm_LF 5) bt_NO))
theorem bt_2 (h : At14 R i kk y) : Both i kk (stp2 R) (stp2 (R.take i)) :=
  Both.br (sm_K h 8) (sim_leaf (.inl 0) MS.open' (fun _ => rfl)) (Both.br (sm_K h 10) (bt_S h).g (Both.br (sm_K h 12) (bt_S h).g (bt_2e h)))
theorem bt_3 (h : At14 R i kk y) : Both i kk (stp3 R) (stp3 (R.take i)) := Both.br (sm_K h 14) (Both.br (sm_St h) (sm_LF 5) bt_NO).g (bt_LF 5)
theorem bt_4 (h : At14 R i kk y) : Both i kk (stp4 R) (stp4 (R.take i)) := Both.br (sm_K h 14) (sm_LF 2) ⟨SimG.sq (sm_Ed h) (sm_LF 5) (lg_LF 5), LagG.sq (sm_Ed h) (lg_LF 5)⟩
theorem bt_5n (h : At14 R i kk y) : Both i kk (brT (tK R 0) YE (LF 0)) (brT (tK (R.take i) 0) YE (LF 0)) := Both.br (sm_K h 0) sm_YE (bt_LF 0)
theorem bt_5c (h : At14 R i kk y) (l : Lv) (r : List Lv) : Both i kk (brT (tK R 9) (fun s => LF 5 (tK R 21 (s.close' l r)).2) (LF 0)) (brT (tK (R.take i) 9) (fun s => LF 5 (tK (R.take i) 21 (s.close' l r)).2) (LF 0)) :=
  Both.br (sm_K h 9) (SimG.up (A := fun s => LF 5 (tK R 21 s).2) (A' := fun s => LF 5 (tK (R.take i) 21 s).2) (fun s => s.close' l r) (fun _ => rfl) (SimG.sq (sm_K h 21) (sm_LF 5) (lg_LF 5))) (bt_LF 0)
theorem e5_nil (R : List Tn) {s : MS} (h : s.ou = []) : stp5e R s = brT (tK R 0) YE (LF 0) s := by unfold stp5e; rw [h]; rfl
theorem e5_cons (R : List Tn) {s : MS} {l : Lv} {r : List Lv} (h : s.ou = l :: r) : stp5e R s = brT (tK R 9) (fun s => LF 5 (tK R 21 (s.close' l r)).2) (LF 0) s := by unfold stp5e; rw [h]; rfl
theorem bt_5e (h : At14 R i kk y) : Both i kk (stp5e R) (stp5e (R.take i)) := by
  refine ⟨⟨fun s hs => ?_, fun s => ?_⟩, fun s hs => ?_⟩
  · cases ho : s.ou with
    | nil => rw [e5_nil R ho, e5_nil (R.take i) ho]; exact (bt_5n h).g.sim s hs
    | cons l r => rw [e5_cons R ho, e5_cons (R.take i) ho]; exact (bt_5c h l r).g.sim s hs
  · cases ho : s.ou with
    | nil => rw [e5_nil R ho]; exact (bt_5n h).g.le s
    | cons l r => rw [e5_cons R ho]; exact (bt_5c h l r).g.le s
  · cases ho : s.ou with
    | nil => rw [e5_nil (R.take i) ho]; exact (bt_5n h).l s hs
    | cons l r => rw [e5_cons (R.take i) ho]; exact (bt_5c h l r).l s hs
theorem e5_s (R : List Tn) {s : MS} (h : s.top.s = true) : stp5u R s = stp5e R s := by unfold stp5u; rw [if_pos h]
theorem e5_p (R : List Tn) {s : MS} (h : s.top.s = false) : stp5u R s = brT (tJoin R) (LF 1) (stp5e R) s := by unfold stp5u; rw [if_neg (by rw [h]; decide)]; rfl
theorem bt_5u (h : At14 R i kk y) : Both i kk (stp5u R) (stp5u (R.take i)) := by
  have hj : Both i kk (brT (tJoin R) (LF 1) (stp5e R)) (brT (tJoin (R.take i)) (LF 1) (stp5e (R.take i))) := Both.br (sm_Join h) (sm_LF 1) (bt_5e h)
  refine ⟨⟨fun s hs => ?_, fun s => ?_⟩, fun s hs => ?_⟩
  · cases ho : s.top.s with
    | true => rw [e5_s R ho, e5_s (R.take i) ho]; exact (bt_5e h).g.sim s hs
    | false => rw [e5_p R ho, e5_p (R.take i) ho]; exact hj.g.sim s hs
  · cases ho : s.top.s with
    | true => rw [e5_s R ho]; exact (bt_5e h).g.le s
    | false => rw [e5_p R ho]; exact hj.g.le s
  · cases ho : s.top.s with
    | true => rw [e5_s (R.take i) ho]; exact (bt_5e h).l s hs
    | false => rw [e5_p (R.take i) ho]; exact hj.l s hs
theorem bt_5 (h : At14 R i kk y) : Both i kk (stp5 R) (stp5 (R.take i)) :=
  Both.br ((sm_K h 18).or (sm_K h 19)) (sim_leaf (.inl 5) (fun s => { s with ne := s.ne + 1 }) (fun _ => rfl)) ⟨SimG.up MS.endU (fun _ => rfl) (bt_5u h).g, LagG.up MS.endU (fun _ => rfl) (fun _ => rfl) (bt_5u h).l⟩
theorem bt_M (h : At14 R i kk y) (lab : Nat) : Both i kk (stpM R lab) (stpM (R.take i) lab) := by
  unfold stpM
  split
  · exact bt_0 h
  split
  · exact bt_1 h
  split
  · exact bt_2 h
  split
  · exact bt_3 h
  split
  · exact bt_4 h
  · exact bt_5 h
theorem runF_eq (R : List Tn) (f lab : Nat) (s : MS) : runF R (f + 1) lab s = match (stpM R lab s).1 with
    | .inr b => (b, (stpM R lab s).2)
    | .inl l => runF R f l (stpM R lab s).2 := by
  rw [runF]
  rcases stpM R lab s with ⟨l | b, s'⟩ <;> rfl
theorem lag_run (h : At14 R i kk y) : ∀ (f lab : Nat) (s : MS), Lag i kk s → (runF (R.take i) f lab s).1 = false ∧ Lag i kk (runF (R.take i) f lab s).2 := by
  intro f
  induction f with
  | zero => intro lab s hs; exact ⟨rfl, hs⟩
  | succ f ih =>
    intro lab s hs
    obtain ⟨h1, h2⟩ := (bt_M h lab).l s hs
    rw [runF_eq]
    cases hx : (stpM (R.take i) lab s).1 with
    | inl l => exact ih l _ h1
    | inr b => exact ⟨h2 b hx, h1⟩
theorem le_run (h : At14 R i kk y) : ∀ (f lab : Nat) (s : MS), s.at' ≤ (runF R f lab s).2.at' := by
  intro f
  induction f with
  | zero => intro lab s; exact Nat.le_refl _
  | succ f ih =>
    intro lab s
    have h1 := (bt_M h lab).g.le s
    rw [runF_eq]
    cases hx : (stpM R lab s).1 with
    | inl l => exact Nat.le_trans h1 (ih l _)
    | inr b => exact h1
/-- The two runs: alike up to the place, or the longer one goes on and the shorter one has missed its kind. -/
theorem sim_run (h : At14 R i kk y) : ∀ (f lab : Nat) (s : MS), s.at' ≤ i → (runF (R.take i) f lab s = runF R f lab s ∧ (runF R f lab s).2.at' ≤ i) ∨ ((runF (R.take i) f lab s).1 = false ∧ Lag i kk (runF (R.take i) f lab s).2 ∧ i < (runF R f lab s).2.at') := by
  intro f
  induction f with
  | zero => intro lab s hs; exact .inl ⟨rfl, hs⟩
  | succ f ih =>
    intro lab s hs
    rw [runF_eq, runF_eq]
    rcases (bt_M h lab).g.sim s hs with ⟨e, q⟩ | ⟨⟨h1, h2⟩, h3⟩
    · rw [e]
      cases hx : (stpM R lab s).1 with
      | inl l => exact ih l _ q
      | inr b => exact .inl ⟨rfl, q⟩
    · right
      have ha : i < (match (stpM R lab s).1 with
          | .inr b => (b, (stpM R lab s).2)
          | .inl l => runF R f l (stpM R lab s).2).2.at' := by
        cases hx : (stpM R lab s).1 with
        | inl l => exact Nat.lt_of_lt_of_le h3 (le_run h f l _)
        | inr b => exact h3
      cases hy : (stpM (R.take i) lab s).1 with
      | inl l => exact ⟨(lag_run h f l _ h1).1, (lag_run h f l _ h1).2, ha⟩
      | inr b => exact ⟨h2 b hy, h1, ha⟩
end Go.Proofs.YtiemiphlfbaojaaDoor
namespace Go.Proofs.YtiemiphlfbaojaaDoor
open Go.ChangeShapes Go.WideShapes Go.ChangeAt Go.RowKit
variable {R : List Tn}

/-! What is missed at a place was asked there in vain. -/
def MiOk (R : List Tn) (s : MS) : Prop := ∀ k, s.mi.testBit k = true → k = 2 ∨ k = 20 ∨ (tkA R s.at').k ≠ (k : Int)
def PrF (R : List Tn) (F : MS → Bool × MS) : Prop := ∀ s, MiOk R s → MiOk R (F s).2
def PrG (R : List Tn) (G : MS → Res) : Prop := ∀ s, MiOk R s → MiOk R (G s).2
theorem mi_zero {s : MS} (h : s.mi = 0) : MiOk R s := fun k hk => by rw [h, Nat.zero_testBit] at hk; cases hk
theorem pr_tk (k : Nat) (f : Tn → Bool) (hf : ∀ y, f y = false → k = 2 ∨ k = 20 ∨ y.k ≠ (k : Int)) : PrF R (fun s => (tkB R f s, tkS R k f s)) := by
  intro s hs
  show MiOk R (s.pass k (f (tkA R s.at')))
  unfold MS.pass
  cases hq : f (tkA R s.at') with
  | true => exact mi_zero rfl
  | false =>
    intro j hj
    have hj : (s.mi ||| 1 <<< k).testBit j = true := hj
    rw [Nat.testBit_or, Bool.or_eq_true] at hj
    rcases hj with q | q
    · exact hs j q
    · rw [Nat.one_shiftLeft, Nat.testBit_two_pow] at q
      have e : k = j := by simpa using q
      subst e
      exact hf _ hq
theorem pr_K (k : Nat) : PrF R (tK R k) := pr_tk k (isK k) (fun y h => .inr (.inr (by
  have h : (y.k == (k : Int)) = false := h
  exact beq_eq_false_iff_ne.1 h)))
theorem pr_St : PrF R (tSt R) := pr_tk 2 isSt (fun _ _ => .inl rfl)
theorem pr_Ed : PrF R (tEd R) := pr_tk 20 isEd (fun _ _ => .inr (.inl rfl))
theorem pr_Sl : PrF R (tSl R) := pr_tk 20 isSl (fun _ _ => .inr (.inl rfl))
theorem PrF.or {p q : MS → Bool × MS} (hp : PrF R p) (hq : PrF R q) : PrF R (orT p q) := fun s hs => by
  unfold orT
  split
  · exact hp s hs
  · exact hq _ (hp s hs)
theorem PrF.and {p q : MS → Bool × MS} (hp : PrF R p) (hq : PrF R q) : PrF R (andT p q) := fun s hs => by
  unfold andT
  split
  · exact hq _ (hp s hs)
  · exact hp s hs
theorem pr_Side : PrF R (tSide R) := ((pr_K 1).or (pr_K 3)).or pr_St
theorem pr_Sides : PrF R (tSides R) := ((pr_Side.and (pr_K 7)).and pr_Side).and ((pr_K 11).or (pr_K 13))
theorem pr_Join : PrF R (tJoin R) := ((pr_K 5).or (pr_K 4)).or (pr_K 17)
theorem PrG.br {F : MS → Bool × MS} {A T : MS → Res} (hF : PrF R F) (hA : PrG R A) (hT : PrG R T) : PrG R (brT F A T) := fun s hs => by
  unfold brT
  split
  · exact hA _ (hF s hs)
  · exact hT _ (hF s hs)
theorem PrG.sq {F : MS → Bool × MS} {A : MS → Res} (hF : PrF R F) (hA : PrG R A) : PrG R (fun s => A (F s).2) := fun s hs => hA _ (hF s hs)
theorem PrG.up {A : MS → Res} (u : MS → MS) (h1 : ∀ s, (u s).at' = s.at') (h2 : ∀ s, (u s).mi = s.mi) (hA : PrG R A) : PrG R (fun s => A (u s)) := fun s hs => hA _ (fun k hk => by rw [h1]; exact hs k (by rw [← h2 s]; exact hk))
theorem pr_LF (l : Nat) : PrG R (LF l) := fun _ hs => hs
theorem pr_NO : PrG R NO := fun _ hs => hs
theorem pr_YE : PrG R YE := fun _ hs => hs
theorem pr_0 : PrG R (stp0 R) := fun s hs => ((pr_K 15).or (pr_K 16)) s hs
theorem pr_1 : PrG R (stp1 R) := PrG.br (pr_K 6) (PrG.up (A := LF 1) (fun s => { s with top := { s.top with t := s.top.t + 1 } }) (fun _ => rfl) (fun _ => rfl) (pr_LF 1)) (PrG.br pr_St (pr_LF 3) (PrG.br (pr_K 1) (pr_LF 4) (pr_LF 2)))
theorem pr_S : PrG R (stpS R) := PrG.br pr_Sides (pr_LF 5) pr_NO
theorem pr_2e : PrG R (stp2e R) := PrG.br (pr_K 3) (PrG.sq (A := LF 5) pr_Sl (pr_LF 5)) (PrG.br (pr_K 1) (PrG.sq (A := LF 5) pr_Ed (pr_LF 5)) (PrG.br (pr_K 2) (pr_LF 5) pr_NO))
theorem pr_2 : PrG R (stp2 R) := PrG.br (pr_K 8) (PrG.up (A := LF 0) MS.open' (fun _ => rfl) (fun _ => rfl) (pr_LF 0)) (PrG.br (pr_K 10) pr_S (PrG.br (pr_K 12) pr_S pr_2e))
theorem pr_3 : PrG R (stp3 R) := PrG.br (pr_K 14) (PrG.br pr_St (pr_LF 5) pr_NO) (pr_LF 5)
theorem pr_4 : PrG R (stp4 R) := PrG.br (pr_K 14) (pr_LF 2) (PrG.sq (A := LF 5) pr_Ed (pr_LF 5))
theorem pr_5e : PrG R (stp5e R) := fun s hs => by
  cases ho : s.ou with
  | nil => rw [e5_nil R ho]; exact PrG.br (pr_K 0) pr_YE (pr_LF 0) s hs
  | cons l r => rw [e5_cons R ho]; exact PrG.br (pr_K 9) (PrG.up (A := fun s => LF 5 (tK R 21 s).2) (fun s => s.close' l r) (fun _ => rfl) (fun _ => rfl) (PrG.sq (A := LF 5) (pr_K 21) (pr_LF 5))) (pr_LF 0) s hs
theorem pr_5u : PrG R (stp5u R) := fun s hs => by
  cases ho : s.top.s with
  | true => rw [e5_s R ho]; exact pr_5e s hs
  | false => rw [e5_p R ho]; exact PrG.br pr_Join (pr_LF 1) pr_5e s hs
theorem pr_5 : PrG R (stp5 R) := PrG.br ((pr_K 18).or (pr_K 19)) (PrG.up (A := LF 5) (fun s => { s with ne := s.ne + 1 }) (fun _ => rfl) (fun _ => rfl) (pr_LF 5)) (PrG.up (A := stp5u R) MS.endU (fun _ => rfl) (fun _ => rfl) pr_5u)
theorem pr_M (lab : Nat) : PrG R (stpM R lab) := by
  unfold stpM
  split
  · exact pr_0
  split
  · exact pr_1
  split
  · exact pr_2
  split
  · exact pr_3
  split
  · exact pr_4
  · exact pr_5
theorem mi_run : ∀ (f lab : Nat) (s : MS), MiOk R s → MiOk R (runF R f lab s).2 := by
  intro f
  induction f with
  | zero => intro lab s hs; exact hs
  | succ f ih =>
    intro lab s hs
    have h1 := pr_M lab s hs
    rw [runF_eq]
    cases hx : (stpM R lab s).1 with
    | inl l => exact ih l _ h1
    | inr b => exact h1
/-! What Follow tells of the beginnings of a row. -/
/-- The run with more fuel than is needed. -/
def runX (R : List Tn) (f : Nat) : Bool × MS := runF R f 0 s00
def folX (R : List Tn) (f : Nat) : List Int := if (runX R f).1 || decide ((runX R f).2.at' < R.length) then [] else lackL (runX R f).2.mi 22
theorem lack_mem {m k : Nat} (hk : k ≤ 21) : ((k : Int) ∈ lackL m 22) ↔ m.testBit k = true := by
  unfold lackL
  rw [List.mem_map]
  constructor
  · rintro ⟨j, hj, e⟩
    have e : j = k := by omega
    subst e
    exact (List.mem_filter.1 hj).2
  · intro h
    exact ⟨k, List.mem_filter.2 ⟨List.mem_range.2 (by omega), h⟩, rfl⟩
/-- A token that the run goes past may follow what stands ahead of it. -/
theorem fol_past {i kk : Nat} {y : Tn} (h : At14 R i kk y) (hk : kk ≤ 21) (f : Nat) (hp : i < (runX R f).2.at') : y.k ∈ folX (R.take i) f ∧ 0 < (folX (R.take i) f).length := by
  have hi := (List.getElem?_eq_some_iff.1 h.hy).1
  have hl : (R.take i).length = i := by rw [List.length_take]; omega
  have hm : y.k ∈ folX (R.take i) f := by
    rcases sim_run h f 0 s00 (Nat.zero_le _) with ⟨e, q⟩ | ⟨h1, h2, h3⟩
    · have q : (runX R f).2.at' ≤ i := q
      omega
    · unfold folX runX
      rw [h1, hl, h2.1, decide_eq_false (Nat.lt_irrefl _)]
      show y.k ∈ lackL _ 22
      rw [← h.hk]
      exact (lack_mem hk).2 h2.2
  exact ⟨hm, List.length_pos_of_mem hm⟩
/-- At the fault: what follows is what was asked in vain. -/
theorem fol_fault {i kk : Nat} {y : Tn} (h : At14 R i kk y) (hk : kk ≤ 21) (f : Nat) (hb : (runX R f).1 = false) (hp : (runX R f).2.at' = i) (h2 : kk ≠ 2) (h20 : kk ≠ 20) : y.k ∉ folX (R.take i) f := by
  have hi := (List.getElem?_eq_some_iff.1 h.hy).1
  have hl : (R.take i).length = i := by rw [List.length_take]; omega
  have hm := mi_run f 0 s00 (mi_zero (R := R) rfl)
  rcases sim_run h f 0 s00 (Nat.zero_le _) with ⟨e, q⟩ | ⟨_, _, h3⟩
  · intro hin
    have e : runX (R.take i) f = runX R f := e
    unfold folX at hin
    rw [e, hl, hb, hp, decide_eq_false (Nat.lt_irrefl _)] at hin
    have hin : y.k ∈ lackL (runX R f).2.mi 22 := hin
    rw [← h.hk] at hin
    have ht := (lack_mem hk).1 hin
    have hm : MiOk R (runX R f).2 := hm
    rcases hm kk ht with q1 | q1 | q1
    · exact h2 q1
    · exact h20 q1
    · apply q1
      rw [hp]
      unfold tkA
      rw [h.hy]
      exact h.hk.symm
  · have h3 : i < (runX R f).2.at' := h3
    omega
end Go.Proofs.YtiemiphlfbaojaaDoor
namespace Go.Proofs.YtiemiphlfbaojaaDoor
open Go.ChangeShapes Go.WideShapes Go.ChangeAt Go.RowKit
variable {w : World} {b rc : Nat} {a0 : Option Addr} {R : List Tn}

/-! Follow, told by a run with more fuel than is needed; the law's has. -/
theorem goo_startF (R : List Tn) (f : Nat) (hf : R.length * 10 + 4 < f) : Goo R (runX R f) 0 s00 := ⟨⟨Nat.le_refl _, Nat.le_refl _, trivial⟩, fun _ => rfl, Nat.zero_le _, f, rfl, by unfold rkM s00 lrk; simp; omega⟩
set_option maxRecDepth 20000 in
set_option maxHeartbeats 4000000 in
theorem follow_anyF (f : Nat) (hf : R.length * 10 + 4 < f) (n : Nat) (hn : n = R.length) (hR : Rw w a0 R) (hr : R.length ≤ 500000000000) : Calls Tryd.prog 9 #[.slice a0 n rc] w (lkPost w (folX R f) (folX R f).length) := by
  subst hn
  have CR := hideL (run_any (mc_start (rc := rc) hR hr) (goo_startF R f hf))
  unfold rnPost at CR
  have HP : Hid (∀ a c L w', folX R f = L → Gro w w' 3 1 (.slice a L.length c) L.length (iv L) → lkPost w (folX R f) (folX R f).length (.returned (.slice a L.length c)) w') := hideL (fun a c L w' e g => by subst e; exact ⟨a, c, rfl, g⟩)
  generalize lkPost w (folX R f) (folX R f).length = Q at *
  obtain ⟨B, t, hZ⟩ : ∃ B t, runX R f = (B, t) := ⟨_, _, rfl⟩
  have hfo : folX R f = if B || decide (t.at' < R.length) then [] else lackL t.mi 22 := by unfold folX; rw [hZ]
  rw [hZ] at CR
  dsimp only at CR
  have HK0 := hideL (Kept.alloc w (.cells #[.slice a0 R.length rc, .int .i64 0, .int .u32 0, .int .i64 0, .int .i64 0, .int .i64 0, .bool false, .slice none 0 0] 53))
  clear hZ hR hf
  cases B with
  | true =>
    have HF : Hid (folX R f = []) := hideL (by rw [hfo]; rfl)
    generalize R.length = n at *
    clear hfo
    go_enter Tryd.func9, Tryd.ntmps9
    go_wp2_with (go_at_call 17; refine CR.out.mono ?_; clear CR; rintro e W1 ⟨rfl, v1, h1⟩; have H1 := hideL h1; clear h1)
    exact HP.out none 0 [] _ HF.out ⟨⟨rfl, .inl ⟨rfl, rfl⟩⟩, H1.out.kept⟩
  | false =>
    by_cases hlt : t.at' < R.length
    · have HF : Hid (folX R f = []) := hideL (by rw [hfo, decide_eq_true hlt]; rfl)
      have hz : (t.at' : Int) < (R.length : Int) := by omega
      generalize R.length = n at *
      clear hfo
      go_enter Tryd.func9, Tryd.ntmps9
      go_wp2_with (go_at_call 17; refine CR.out.mono ?_; clear CR; rintro e W1 ⟨rfl, v1, h1⟩; have H1 := hideL h1; have x1 := H1.out.cells.2.1; clear h1)
      exact HP.out none 0 [] _ HF.out ⟨⟨rfl, .inl ⟨rfl, rfl⟩⟩, H1.out.kept⟩
    · have HF : Hid (folX R f = lackL t.mi 22) := hideL (by rw [hfo, decide_eq_false hlt]; rfl)
      have hz : ¬ (t.at' : Int) < (R.length : Int) := by omega
      have CL := hideL (fun W v1 (h : Mc w W w.heap.size rc a0 R v1 t) => lacking_any h)
      generalize R.length = n at *
      clear hfo
      unfold lkPost at CL
      go_enter Tryd.func9, Tryd.ntmps9
      go_wp2_with (first
        | (go_at_call 17; refine CR.out.mono ?_; clear CR; rintro e W1 ⟨rfl, v1, h1⟩; have H1 := hideL h1; have x1 := H1.out.cells.2.1; clear h1)
        | (go_at_call 18; refine (CL.out _ _ H1.out).mono ?_; clear CL; rintro e W2 ⟨a2, c2, rfl, g2⟩; have G2 := hideL (g2.baseA H1.out.kept); clear g2))
      exact HP.out _ _ _ _ HF.out G2.out
end Go.Proofs.YtiemiphlfbaojaaDoor
namespace Go.Proofs.YtiemiphlfbaojaaDoor
open Go.ChangeShapes Go.WideShapes Go.ChangeAt Go.RowKit
variable {R : List Tn}

/-! The tokens of a text: their kinds, their places; where the recogniser ends. -/
def EdR (R : List Tn) (x : (Nat ⊕ Bool) × MS) : Prop := x.1 = .inr true → ∃ p, x.2.at' = p + 1 ∧ isK 0 (tkA R p) = true
theorem ed_go {l : Nat} {s : MS} : EdR R (.inl l, s) := fun h => by cases h
theorem ed_no {s : MS} : EdR R (.inr false, s) := fun h => by cases h
theorem ed_5e (s : MS) : EdR R (stp5e R s) := by
  unfold stp5e
  split
  · split
    · rename_i _ q
      intro _
      have q : isK 0 (tkA R s.at') = true := q
      refine ⟨s.at', ?_, q⟩
      show (tkS R 0 (isK 0) s).at' = s.at' + 1
      unfold tkS
      rw [q]
      rfl
    · exact ed_go
  · split <;> exact ed_go
theorem ed_stp (lab : Nat) (s : MS) : EdR R (stpM R lab s) := by
  have hS : ∀ t : MS, EdR R (stpS R t) := fun t => by
    unfold stpS
    split
    · exact ed_go
    · exact ed_no
  unfold stpM
  split
  · exact ed_go
  split
  · unfold stp1
    split
    · exact ed_go
    · split
      · exact ed_go
      · split <;> exact ed_go
  split
  · unfold stp2
    split
    · exact ed_go
    · split
      · exact hS _
      · split
        · exact hS _
        · unfold stp2e
          split
          · exact ed_go
          · split
            · exact ed_go
            · split
              · exact ed_go
              · exact ed_no
  split
  · unfold stp3
    split
    · split
      · exact ed_go
      · exact ed_no
    · exact ed_go
  split
  · unfold stp4
    split <;> exact ed_go
  · unfold stp5
    split
    · exact ed_go
    · unfold stp5u
      split
      · exact ed_5e _
      · split
        · exact ed_go
        · exact ed_5e _
theorem run_true : ∀ (f lab : Nat) (s : MS), (runF R f lab s).1 = true → ∃ p, (runF R f lab s).2.at' = p + 1 ∧ isK 0 (tkA R p) = true := by
  intro f
  induction f with
  | zero => intro lab s h; cases h
  | succ f ih =>
    intro lab s
    have h1 := ed_stp (R := R) lab s
    rw [runF_eq]
    cases hx : (stpM R lab s).1 with
    | inl l => exact ih l _
    | inr b =>
      intro hb
      have hb : b = true := hb
      subst hb
      exact h1 hx
theorem cl_small (c : UInt8) (h : isB c = false) (h2 : cl c ≠ 101) : cl c ≤ 21 := by
  have := u8_all (fun c => isB c || cl c == 101 || decide (cl c ≤ 21)) (by decide +kernel) c
  simp [h, h2] at this
  exact this
theorem kd_small (l : List UInt8) : kdF l ≤ 21 := by
  have hr : rsv l ≤ 21 := by
    unfold rsv
    repeat' split
    all_goals omega
  unfold kdF
  repeat' split
  all_goals omega
theorem tok_small (c : UInt8) (r : List UInt8) (t : Tk) (hb : cl c ≠ 101) (h : tokF (c :: r) = some t) : t.k ≤ 21 := by
  rw [tokF] at h
  split at h
  · obtain ⟨m, hm, rfl⟩ := Option.map_eq_some_iff.1 h
    exact kd_small _
  · rename_i hn
    split at h
    · obtain ⟨m, hm, rfl⟩ := Option.map_eq_some_iff.1 h
      show 3 ≤ 21
      omega
    · split at h
      · split at h
        · cases h; show 20 ≤ 21; omega
        · rw [numT_some h]; show 20 ≤ 21; omega
      · split at h
        · split at h
          · rw [numT_some h]; show 19 ≤ 21; omega
          · rw [numT_some h]; show 18 ≤ 21; omega
        · split at h
          · rw [numT_some h]; show 21 ≤ 21; omega
          · cases h
            exact cl_small c (by simpa using hn) hb
theorem scf_small : ∀ (f k : Nat) (l : List UInt8), ∀ x ∈ (scF f k l).1, x.k ≤ 21 := by
  intro f
  induction f with
  | zero => intro k l x hx; cases hx
  | succ f ih =>
    intro k l x hx
    cases l with
    | nil =>
      rw [sc_nil] at hx
      have hx := List.mem_singleton.1 hx
      subst hx
      show 0 ≤ 21
      omega
    | cons c r =>
      by_cases hb : cl c = 101
      · rw [sc_blank f k c r hb] at hx
        exact ih _ _ x hx
      · cases ht : tokF (c :: r) with
        | none => rw [sc_bad f k c r hb ht] at hx; cases hx
        | some t =>
          rw [sc_tok f k c r hb t ht] at hx
          rcases List.mem_cons.1 hx with rfl | hx
          · exact tok_small c r t hb ht
          · exact ih _ _ x hx
theorem scan_small (l : List UInt8) : ∀ x ∈ (scanF l).1, x.k ≤ 21 := scf_small _ _ _
theorem cov_rise (l : List UInt8) : ∀ (L : List Lx) (a : Nat), Cov l a L → (∀ x ∈ L, a ≤ x.a) ∧ (∀ (i j : Nat) x y, i < j → L[i]? = some x → L[j]? = some y → x.a < y.a ∧ x.k ≠ 0) := by
  intro L
  induction L with
  | nil => intro a h; exact h.elim
  | cons x M ih =>
    intro a h
    cases M with
    | nil =>
      obtain ⟨rfl, h2, _⟩ := h
      refine ⟨fun z hz => ?_, fun i j u v hij hu hv => ?_⟩
      · have hz := List.mem_singleton.1 hz
        subst hz
        exact h2
      · have := (List.getElem?_eq_some_iff.1 hv).1
        simp at this
        omega
    | cons y M =>
      obtain ⟨h1, h2, _, _, h5, _, h7⟩ := h
      obtain ⟨g1, g2⟩ := ih x.e h7
      refine ⟨fun z hz => ?_, fun i j u v hij hu hv => ?_⟩
      · rcases List.mem_cons.1 hz with rfl | hz
        · exact h1
        · have := g1 z hz; omega
      · cases j with
        | zero => omega
        | succ j =>
          rw [List.getElem?_cons_succ] at hv
          cases i with
          | zero =>
            rw [List.getElem?_cons_zero] at hu
            cases hu
            have := g1 v (List.mem_of_getElem? hv)
            exact ⟨by omega, h5⟩
          | succ i =>
            rw [List.getElem?_cons_succ] at hu
            exact g2 i j u v (by omega) hu hv
/-- What the law leans on: the tokens' row. -/
structure TkR (L : List Lx) : Prop where
  small : ∀ x ∈ L, x.k ≤ 21
  rise : ∀ (i j : Nat) x y, i < j → L[i]? = some x → L[j]? = some y → x.a < y.a ∧ x.k ≠ 0
theorem tkr_of {l : List UInt8} {L : List Lx} (h : scanF l = (L, none)) : TkR L := by
  have h1 : (scanF l).1 = L := by rw [h]
  have h2 := (cov_rise l _ 0 (scan_cov l (by rw [h]))).2
  have h3 := scan_small l
  rw [h1] at h2 h3
  exact ⟨h3, h2⟩
theorem row_at {L : List Lx} {i : Nat} {x : Lx} (h : L[i]? = some x) : (rowL L)[i]? = some (tnL x) := by
  unfold rowL
  rw [List.getElem?_map, h]
  rfl
theorem run_whole {l : List UInt8} {L : List Lx} (h : scanF l = (L, none)) (hr : (runR (rowL L)).1 = true) : (runR (rowL L)).2.at' = L.length := by
  obtain ⟨p, hp, hk⟩ := run_true _ _ _ hr
  have hp : (runR (rowL L)).2.at' = p + 1 := hp
  rw [hp]
  have hin : p < (rowL L).length := by
    rcases Nat.lt_or_ge p (rowL L).length with q | q
    · exact q
    · unfold tkA at hk
      rw [List.getElem?_eq_none q] at hk
      exact absurd hk (by decide)
  have hl : (rowL L).length = L.length := by unfold rowL; rw [List.length_map]
  rw [hl] at hin
  rcases Nat.lt_or_ge (p + 1) L.length with q | q
  · have e1 : L[p]? = some L[p] := List.getElem?_eq_getElem hin
    have e2 : L[p + 1]? = some L[p + 1] := List.getElem?_eq_getElem q
    have := ((tkr_of h).rise p (p + 1) _ _ (by omega) e1 e2).2
    unfold tkA at hk
    rw [row_at e1] at hk
    unfold isK tnL at hk
    simp at hk
    exact absurd hk this
  · omega
end Go.Proofs.YtiemiphlfbaojaaDoor
