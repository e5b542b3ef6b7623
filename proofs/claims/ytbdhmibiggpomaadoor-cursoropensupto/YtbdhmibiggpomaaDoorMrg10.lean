import Derived.Test.YtbdhmibiggpomaaDoorBase
import Derived.Test.YtbdhmibiggpomaaDoorPoc
import Derived.Test.YtbdhmibiggpomaaDoorPbb
import Derived.Test.YtbdhmibiggpomaaDoorAnyz
import Derived.Test.YtbdhmibiggpomaaDoorPof
import Derived.Test.YtbdhmibiggpomaaDoorMrg5
import Derived.Lib.SliceRun
import Derived.Test.YtbdhmibiggpomaaDoorShg
import Derived.Test.YtbdhmibiggpomaaDoorPxg
import Derived.Test.YtbdhmibiggpomaaDoorPxh
namespace Go.Proofs.YtbdhmibiggpomaaDoor
open Go.ChangeShapes Go.WideShapes Go.ChangeAt Go.RowKit

/-- Rising, each once. -/
def Rsg (l : List Int) : Prop := l.Pairwise (· < ·)
/-- Rising lists with the same numbers are the same. -/
theorem rsg_eq : ∀ {A B : List Int}, Rsg A → Rsg B → (∀ x, x ∈ A ↔ x ∈ B) → A = B
  | [], [], _, _, _ => rfl
  | [], b :: B, _, _, h => absurd ((h b).2 List.mem_cons_self) (by simp)
  | a :: A, [], _, _, h => absurd ((h a).1 List.mem_cons_self) (by simp)
  | a :: A, b :: B, hA, hB, h => by
    unfold Rsg at hA hB
    rw [List.pairwise_cons] at hA hB
    have e : a = b := by
      have h1 := (h a).1 List.mem_cons_self
      have h2 := (h b).2 List.mem_cons_self
      rcases List.mem_cons.1 h1 with q | q
      · exact q
      · rcases List.mem_cons.1 h2 with r | r
        · exact r.symm
        · have := hA.1 b r
          have := hB.1 a q
          omega
    subst e
    congr 1
    refine rsg_eq hA.2 hB.2 (fun x => ?_)
    have hx := h x
    rw [List.mem_cons, List.mem_cons] at hx
    constructor
    · intro m
      rcases hx.1 (.inr m) with q | q
      · have := hA.1 x m
        omega
      · exact q
    · intro m
      rcases hx.2 (.inr m) with q | q
      · have := hB.1 x m
        omega
      · exact q
theorem Rsg.lt {l : List Int} (h : Rsg l) {i j : Nat} (hij : i < j) (hj : j < l.length) : (l[i]'(by omega)) < l[j] := (List.pairwise_iff_getElem.1 h) i j (by omega) hj hij
theorem rsg_drop {l : List Int} (h : Rsg l) {i : Nat} {y : Int} (hi : i < l.length) (hy : y ∈ l.drop i) : l[i] ≤ y := by
  obtain ⟨k, hk, rfl⟩ := List.mem_iff_getElem.1 hy
  rw [List.length_drop] at hk
  rw [List.getElem_drop]
  rcases Nat.eq_zero_or_pos k with rfl | hp
  · simp
  · exact Int.le_of_lt (h.lt (by omega) (by omega))
/-- Two rising lists are put together: so far. -/
structure Un (A B O : List Int) (i j : Nat) : Prop where
  ia : i ≤ A.length
  jb : j ≤ B.length
  rs : Rsg O
  mem : ∀ x, x ∈ O ↔ x ∈ A.take i ∨ x ∈ B.take j
  la : ∀ o ∈ O, ∀ y ∈ A.drop i, o < y
  lb : ∀ o ∈ O, ∀ y ∈ B.drop j, o < y
theorem un_zero (A B : List Int) : Un A B [] 0 0 := ⟨Nat.zero_le _, Nat.zero_le _, List.Pairwise.nil, fun x => by simp, fun o h => by simp at h, fun o h => by simp at h⟩
theorem un_end {A B O : List Int} {i j : Nat} (h : Un A B O i j) (hi : ¬ i < A.length) (hj : ¬ j < B.length) : ∀ x, x ∈ O ↔ x ∈ A ∨ x ∈ B := by
  intro x
  rw [h.mem, List.take_of_length_le (by omega), List.take_of_length_le (by omega)]
/-- A list behind a step: what is taken of it, and what is left. -/
theorem stp_mem {A : List Int} {i : Nat} {x : Int} {k : Bool} (hk : k = true → ∃ hi : i < A.length, A[i] = x) (y : Int) : (y ∈ A.take (if k then i + 1 else i) ∨ y = x) ↔ (y ∈ A.take i ∨ y = x) := by
  cases k with
  | false => simp
  | true =>
    obtain ⟨hi, e⟩ := hk rfl
    simp only [if_true]
    rw [List.take_succ_eq_append_getElem hi, List.mem_append, List.mem_singleton, e]
    constructor
    · rintro ((h | h) | h)
      · exact .inl h
      · exact .inr h
      · exact .inr h
    · rintro (h | h)
      · exact .inl (.inl h)
      · exact .inr h
theorem stp_left {A : List Int} (hA : Rsg A) {i : Nat} {x : Int} {k : Bool} (hle : ∀ hi : i < A.length, x ≤ A[i]) (hk : k = true ↔ ∃ hi : i < A.length, A[i] = x) : ∀ y ∈ A.drop (if k then i + 1 else i), x < y := by
  intro y hy
  cases k with
  | false =>
    simp only [Bool.false_eq_true, if_false] at hy
    rcases Nat.lt_or_ge i A.length with hi | hi
    · have h1 := rsg_drop hA hi hy
      have h2 := hle hi
      have h3 : A[i] ≠ x := fun e => by
        have := hk.2 ⟨hi, e⟩
        cases this
      omega
    · rw [List.drop_eq_nil_of_le hi] at hy
      cases hy
  | true =>
    obtain ⟨hi, e⟩ := hk.1 rfl
    simp only [if_true] at hy
    rcases Nat.lt_or_ge (i + 1) A.length with h1 | h1
    · have h2 := rsg_drop hA h1 hy
      have h3 := hA.lt (show i < i + 1 by omega) h1
      omega
    · rw [List.drop_eq_nil_of_le h1] at hy
      cases hy
theorem drop_sub {A : List Int} {i : Nat} {k : Bool} {y : Int} (h : y ∈ A.drop (if k then i + 1 else i)) : y ∈ A.drop i := by
  cases k with
  | false => simpa using h
  | true =>
    simp only [if_true] at h
    rw [← List.drop_drop] at h
    exact List.mem_of_mem_drop h
/-- The lesser of the two next ones is put behind. -/
theorem Un.step {A B O : List Int} {i j : Nat} (h : Un A B O i j) (hA : Rsg A) (hB : Rsg B) {x : Int} {ka kb : Bool} (ha : ∀ hi : i < A.length, x ≤ A[i]) (hb : ∀ hj : j < B.length, x ≤ B[j]) (hka : ka = true ↔ ∃ hi : i < A.length, A[i] = x) (hkb : kb = true ↔ ∃ hj : j < B.length, B[j] = x) (hx : ka = true ∨ kb = true) : Un A B (O ++ [x]) (if ka then i + 1 else i) (if kb then j + 1 else j) := by
  have hxo : ∀ o ∈ O, o < x := by
    intro o ho
    rcases hx with q | q
    · obtain ⟨hi, e⟩ := hka.1 q
      have := h.la o ho A[i] (List.mem_iff_getElem.2 ⟨0, by rw [List.length_drop]; omega, by simp⟩)
      omega
    · obtain ⟨hj, e⟩ := hkb.1 q
      have := h.lb o ho B[j] (List.mem_iff_getElem.2 ⟨0, by rw [List.length_drop]; omega, by simp⟩)
      omega
  refine ⟨?_, ?_, ?_, fun y => ?_, fun o ho y hy => ?_, fun o ho y hy => ?_⟩
  · split
    · rename_i q
      obtain ⟨hi, -⟩ := hka.1 q
      omega
    · exact h.ia
  · split
    · rename_i q
      obtain ⟨hj, -⟩ := hkb.1 q
      omega
    · exact h.jb
  · unfold Rsg
    rw [List.pairwise_append]
    exact ⟨h.rs, List.pairwise_singleton _ _, fun a ha' b hb' => by rw [List.mem_singleton] at hb'; subst hb'; exact hxo a ha'⟩
  · have m1 := stp_mem (A := A) (i := i) (k := ka) (fun q => hka.1 q) y
    have m2 := stp_mem (A := B) (i := j) (k := kb) (fun q => hkb.1 q) y
    have m3 := h.mem y
    rw [List.mem_append, List.mem_singleton, m3]
    have hin : y = x → y ∈ A.take (if ka then i + 1 else i) ∨ y ∈ B.take (if kb then j + 1 else j) := by
      intro e
      subst e
      rcases hx with q | q
      · obtain ⟨hi, e⟩ := hka.1 q
        left
        rw [if_pos q, List.take_succ_eq_append_getElem hi, List.mem_append, List.mem_singleton]
        exact .inr e.symm
      · obtain ⟨hj, e⟩ := hkb.1 q
        right
        rw [if_pos q, List.take_succ_eq_append_getElem hj, List.mem_append, List.mem_singleton]
        exact .inr e.symm
    constructor
    · rintro ((q | q) | q)
      · rcases m1.2 (.inl q) with r | r
        · exact .inl r
        · exact hin r
      · rcases m2.2 (.inl q) with r | r
        · exact .inr r
        · exact hin r
      · exact hin q
    · rintro (q | q)
      · rcases m1.1 (.inl q) with r | r
        · exact .inl (.inl r)
        · exact .inr r
      · rcases m2.1 (.inl q) with r | r
        · exact .inl (.inr r)
        · exact .inr r
  · rcases List.mem_append.1 ho with q | q
    · exact h.la o q y (drop_sub hy)
    · rw [List.mem_singleton] at q
      subst q
      exact stp_left hA ha hka y hy
  · rcases List.mem_append.1 ho with q | q
    · exact h.lb o q y (drop_sub hy)
    · rw [List.mem_singleton] at q
      subst q
      exact stp_left hB hb hkb y hy
/-- The end of a binary search. -/
theorem btw_end {l : List Int} (h : Rsg l) {lo hi : Int} {f : Nat} (h1 : ∀ k (hk : k < l.length), k < f → l[k] < lo) (h2 : ∀ k (hk : k < l.length), f ≤ k → lo ≤ l[k]) : (∃ hf : f < l.length, l[f] ≤ hi) ↔ ∃ y ∈ l, lo ≤ y ∧ y ≤ hi := by
  constructor
  · rintro ⟨hf, hle⟩
    exact ⟨l[f], List.getElem_mem hf, h2 f hf (Nat.le_refl _), hle⟩
  · rintro ⟨y, hy, hlo, hhi⟩
    obtain ⟨k, hk, rfl⟩ := List.mem_iff_getElem.1 hy
    have hfk : f ≤ k := by
      rcases Nat.lt_or_ge k f with q | q
      · have := h1 k hk q
        omega
      · exact q
    refine ⟨by omega, ?_⟩
    rcases Nat.lt_or_ge f k with q | q
    · have := h.lt q hk
      omega
    · obtain rfl : f = k := by omega
      exact hhi
theorem btw_low {l : List Int} (h : Rsg l) {lo : Int} {m : Nat} (hm : m < l.length) (hl : l[m] < lo) : ∀ k (hk : k < l.length), k < m + 1 → l[k] < lo := by
  intro k hk hkm
  rcases Nat.lt_or_ge k m with q | q
  · have := h.lt q hm
    omega
  · obtain rfl : k = m := by omega
    exact hl
theorem btw_high {l : List Int} (h : Rsg l) {lo : Int} {m : Nat} (hm : m < l.length) (hl : ¬ l[m] < lo) : ∀ k (hk : k < l.length), m ≤ k → lo ≤ l[k] := by
  intro k hk hkm
  rcases Nat.lt_or_ge m k with q | q
  · have := h.lt q hk
    omega
  · obtain rfl : k = m := by omega
    omega
end Go.Proofs.YtbdhmibiggpomaaDoor

namespace Go.Proofs.YtbdhmibiggpomaaDoor
open Go.ChangeShapes Go.WideShapes Go.ChangeAt Go.RowKit

/-- A list of numbers in a list of lists. -/
structure Il where
  a : Option Addr
  c : Nat
  l : List Int
def LiAt (w : World) (a : Option Addr) (L : List Il) : Prop :=
  L ≠ [] → ∃ b off, a = some ⟨b, off, none⟩ ∧ ∀ k (h : k < L.length), w.cell? ⟨b, off + k, none⟩ = some (.slice L[k].a L[k].l.length L[k].c) ∧ IntsAt w L[k].a L[k].l
def InL (l : List Int) : Prop := ∀ x ∈ l, 0 ≤ x ∧ x ≤ 2147483646
theorem InL.at {l : List Int} (h : InL l) {k : Nat} (hk : k < l.length) : 0 ≤ l[k]?.getD 0 ∧ l[k]?.getD 0 ≤ 2147483646 := by
  rw [List.getElem?_eq_getElem hk]
  exact h _ (List.getElem_mem hk)
set_option maxRecDepth 20000 in
set_option maxHeartbeats 4000000 in
theorem keepLimits_in (l : List Int) (a : Option Addr) (c : Nat) (W : World) (h : IntsAt W a l) (hl : l.length ≤ 1099511627776) (hi : InL l) :
    Calls Tryd.prog 50 #[.slice a l.length c] W fun e w' => e = .returned (.bool true) ∧ w' = W := by
  have HI := hideP hi
  have HA := hideP h
  obtain ⟨n, hn⟩ : ∃ n, n = l.length := ⟨_, rfl⟩
  have HN := hideP hn
  rw [← hn] at hl ⊢
  clear h hi hn
  go_enter Tryd.func50, Tryd.ntmps50
  go_wp2
  go_loopw [7] (fun s7 wr => ∃ k : Nat, k ≤ n ∧ s7 = .int .i64 k ∧ wr = W) (fun s7 _ => n - (intOf s7).toNat)
  case atStart => exact ⟨0, by omega, rfl, rfl⟩
  case round =>
    obtain ⟨k, hk, rfl, rfl⟩ := hrel
    by_cases hlt : k < n
    · have hkl : k < l.length := by rw [← HN.out]; exact hlt
      obtain ⟨b, off, rfl, hc⟩ := HA.out (by intro e; rw [e] at hkl; simp at hkl)
      have y0 := hc k hkl
      obtain ⟨h1, h2⟩ := HI.out.at hkl
      generalize l[k]?.getD 0 = x at *
      have e1 : decide (x < 0) = false := decide_eq_false (by omega)
      have e2 : decide (2147483646 < x) = false := decide_eq_false (by omega)
      have e3 : ¬ x < 0 := by omega
      have e4 : ¬ 2147483646 < x := by omega
      have hkk : (k : Int) < (n : Int) := by omega
      clear hc
      go_wp2
      go_roundw
      case rel => exact ⟨k + 1, by omega, by go_num, trivial⟩
      case measure => simp [intOf]; omega
    · obtain rfl : k = n := by omega
      go_wp2
      go_ret
      exact ⟨rfl, rfl⟩
def spw (o : Int) (w : Nat) (l : List Int) : List (Int × Nat) := l.map (fun p => (p - o, w))
def spk (L : List Il) (O : List Int) : Nat → List (Int × Nat)
  | 0 => []
  | k + 1 => spk L O k ++ spw (O[k]?.getD 0) k (match L[k]? with | some x => x.l | none => [])
theorem spw_take (o : Int) (w : Nat) (l : List Int) (j : Nat) (h : j < l.length) : spw o w (l.take (j + 1)) = spw o w (l.take j) ++ [(l[j]?.getD 0 - o, w)] := by
  unfold spw
  rw [List.take_succ_eq_append_getElem h, List.map_append, List.getElem?_eq_getElem h]
  rfl
theorem spk_word (L : List Il) (O : List Int) : ∀ (k : Nat) (x : Int × Nat), x ∈ spk L O k → x.2 < k
  | 0, _, h => by cases h
  | k + 1, x, h => by
    rw [spk] at h
    rcases List.mem_append.1 h with q | q
    · have := spk_word L O k x q
      omega
    · obtain ⟨p, _, rfl⟩ := List.mem_map.1 q
      exact Nat.lt_succ_self k
theorem spk_at (L : List Il) (O : List Int) (hin : ∀ x ∈ L, InL x.l) (hio : InL O) : ∀ (k : Nat) (x : Int × Nat), x ∈ spk L O k → -2147483648 ≤ x.1 ∧ x.1 ≤ 2147483648
  | 0, _, h => by cases h
  | k + 1, x, h => by
    rw [spk] at h
    rcases List.mem_append.1 h with q | q
    · exact spk_at L O hin hio k x q
    · obtain ⟨p, hp, rfl⟩ := List.mem_map.1 q
      have ho : 0 ≤ O[k]?.getD 0 ∧ O[k]?.getD 0 ≤ 2147483646 := by
        rcases Nat.lt_or_ge k O.length with q | q
        · exact hio.at q
        · rw [List.getElem?_eq_none q]; simp
      have hpp : 0 ≤ p ∧ p ≤ 2147483646 := by
        rcases Nat.lt_or_ge k L.length with q | q
        · rw [List.getElem?_eq_getElem q] at hp
          exact hin _ (List.getElem_mem q) p hp
        · rw [List.getElem?_eq_none q] at hp
          cases hp
      simp only
      omega
/-- A phrase within its limits. -/
def gdp (L : List Il) (O : List Int) (sl : Int) : Prop := L.length = O.length ∧ (0 ≤ sl ∧ sl ≤ 2147483647) ∧ InL O ∧ ∀ x ∈ L, InL x.l
/-- From b on, up to sl further, each word stands. -/
def okw (L : List Il) (O : List Int) (sl b : Int) : Bool := (List.range L.length).all (fun k => (match L[k]? with | some x => x.l | none => []).any (fun y => decide (b ≤ y - O[k]?.getD 0) && decide (y - O[k]?.getD 0 ≤ b + sl)))
theorem spk_mem {L : List Il} {O : List Int} : ∀ {n : Nat} {y : Int × Nat}, y ∈ spk L O n ↔ ∃ k, ∃ hk : k < L.length, k < n ∧ ∃ p ∈ L[k].l, y = (p - O[k]?.getD 0, k)
  | 0, y => by simp [spk]
  | n + 1, y => by
    rw [spk, List.mem_append, spk_mem]
    constructor
    · rintro (⟨k, hk, hn, p, hp, rfl⟩ | h)
      · exact ⟨k, hk, by omega, p, hp, rfl⟩
      · obtain ⟨p, hp, rfl⟩ := List.mem_map.1 h
        rcases Nat.lt_or_ge n L.length with q | q
        · rw [List.getElem?_eq_getElem q] at hp
          exact ⟨n, q, by omega, p, hp, rfl⟩
        · rw [List.getElem?_eq_none q] at hp
          cases hp
    · rintro ⟨k, hk, hn, p, hp, rfl⟩
      rcases Nat.lt_or_ge k n with q | q
      · exact .inl ⟨k, hk, q, p, hp, rfl⟩
      · obtain rfl : k = n := by omega
        right
        rw [List.getElem?_eq_getElem hk]
        exact List.mem_map.2 ⟨p, hp, rfl⟩
theorem okw_iff {L : List Il} {O : List Int} {sl b : Int} : okw L O sl b = true ↔ ∀ k (hk : k < L.length), ∃ y ∈ L[k].l, b ≤ y - O[k]?.getD 0 ∧ y - O[k]?.getD 0 ≤ b + sl := by
  unfold okw
  rw [List.all_eq_true]
  constructor
  · intro h k hk
    have := h k (List.mem_range.2 hk)
    rw [List.getElem?_eq_getElem hk, List.any_eq_true] at this
    obtain ⟨y, hy, hd⟩ := this
    simp only [Bool.and_eq_true, decide_eq_true_eq] at hd
    exact ⟨y, hy, hd⟩
  · intro h k hk
    have hk := List.mem_range.1 hk
    obtain ⟨y, hy, hd⟩ := h k hk
    rw [List.getElem?_eq_getElem hk, List.any_eq_true]
    exact ⟨y, hy, by simp only [Bool.and_eq_true, decide_eq_true_eq]; exact hd⟩
/-- A rising list of all places at which a word begins the phrase. -/
structure Alp (L : List Il) (O : List Int) (A : List Int) : Prop where
  rs : Rsg A
  mem : ∀ b, b ∈ A ↔ ∃ k, ∃ hk : k < L.length, ∃ p ∈ L[k].l, b = p - O[k]?.getD 0
end Go.Proofs.YtbdhmibiggpomaaDoor

namespace Go.Proofs.YtbdhmibiggpomaaDoor
open Go.ChangeShapes Go.WideShapes Go.ChangeAt Go.RowKit

/-- The document and the positions at the place u - 1. -/
def docU (P : List Po) : Nat → Int
  | 0 => -1
  | q + 1 => match P[q]? with | some x => x.d | none => 2147483647
def posU (P : List Po) : Nat → List Int
  | 0 => []
  | q + 1 => match P[q]? with | some x => x.ps | none => []
/-- The moves from the place u - 1 to the place q. -/
def mvU (n u q : Nat) : Nat := if q = u then 1 else if q = n then nbp n - u / 16 + 1 else if u / 16 = q / 16 then q + 1 - u else q / 16 - u / 16 + q % 16 + 1
/-- The world that a cursor's list lies in, and a bound below which nothing lies that the cursor has read. -/
structure Bs where
  w : World
  lo : Nat
/-- A cursor at the place u - 1, as it lies at cb. -/
structure CuAt (W0 : Bs) (W : World) (cb bl : Nat) (P : List Po) (u : Nat) (mv nb : Int) (bv : Value) (pa : Option Addr) (pc : Nat) (ask : Bool) : Prop where
  new : W0.w.heap.size ≤ cb
  kept : Kept (fun _ => False) W0.w W
  opd : Opd W0.w bl P
  obj : W.heap[cb]? = some (.cells #[.int .i64 ((u : Int) - 1), .int .i64 (docU P u), .int .i64 mv, .pointer (some ⟨bl, 0, none⟩), .int .i64 nb, bv, .slice pa (posU P u).length pc, .bool ask] 64 (0, 0))
  pos : IntsAt W pa (posU P u)
  far : posU P u ≠ [] → ∃ b off, pa = some ⟨b, off, none⟩ ∧ b ≠ cb ∧ W0.lo ≤ b
  low : W0.lo ≤ W.heap.size
theorem far_ne {pa : Option Addr} {cb lo : Nat} (h : ∃ b off, pa = some ⟨b, off, none⟩ ∧ b ≠ cb ∧ lo ≤ b) : ∃ b off, pa = some ⟨b, off, none⟩ ∧ ¬ (b = cb) := by
  obtain ⟨b, off, e, h1, _⟩ := h
  exact ⟨b, off, e, h1⟩
theorem CuAt.opn {W0 : Bs} {W : World} {cb bl : Nat} {P : List Po} {u : Nat} {mv nb : Int} {bv : Value} {pa : Option Addr} {pc : Nat} {ask : Bool} (h : CuAt W0 W cb bl P u mv nb bv pa pc ask) : Opd W bl P := h.opd.kept h.kept
theorem CuAt.cells {W0 : Bs} {W : World} {cb bl : Nat} {P : List Po} {u : Nat} {mv nb : Int} {bv : Value} {pa : Option Addr} {pc : Nat} {ask : Bool} (h : CuAt W0 W cb bl P u mv nb bv pa pc ask) :
    W.cell? ⟨cb, 0, none⟩ = some (.int .i64 ((u : Int) - 1)) ∧ W.cell? ⟨cb, 1, none⟩ = some (.int .i64 (docU P u)) ∧ W.cell? ⟨cb, 2, none⟩ = some (.int .i64 mv) ∧ W.cell? ⟨cb, 3, none⟩ = some (.pointer (some ⟨bl, 0, none⟩)) ∧ W.cell? ⟨cb, 4, none⟩ = some (.int .i64 nb) ∧ W.cell? ⟨cb, 5, none⟩ = some bv ∧ W.cell? ⟨cb, 6, none⟩ = some (.slice pa (posU P u).length pc) ∧ W.cell? ⟨cb, 7, none⟩ = some (.bool ask) := by
  have hc := fun j => cell_of_row W cb j _ _ _ h.obj
  refine ⟨?_, ?_, ?_, ?_, ?_, ?_, ?_, ?_⟩ <;> (rw [hc]; rfl)
theorem CuAt.later {W0 : Bs} {W W' : World} {cb bl : Nat} {P : List Po} {u : Nat} {mv nb : Int} {bv : Value} {pa : Option Addr} {pc : Nat} {ask : Bool} (h : CuAt W0 W cb bl P u mv nb bv pa pc ask) (k : Kept (fun _ => False) W W') : CuAt W0 W' cb bl P u mv nb bv pa pc ask :=
  ⟨h.new, h.kept.trans k (fun _ f => f.elim), h.opd, k.heap h.obj (fun f => f), h.pos.kept k, h.far, Nat.le_trans h.low k.size⟩
/-- Nothing is read yet: the bound may be raised. -/
theorem CuAt.raise {X : World} {l lo : Nat} {W : World} {cb bl : Nat} {P : List Po} {nb : Int} {bv : Value} {pa : Option Addr} {pc : Nat} {mv : Int} {ask : Bool} (h : CuAt ⟨X, l⟩ W cb bl P 0 mv nb bv pa pc ask) (hlo : lo ≤ W.heap.size) : CuAt ⟨X, lo⟩ W cb bl P 0 mv nb bv pa pc ask :=
  ⟨h.new, h.kept, h.opd, h.obj, h.pos, fun e => (e rfl).elim, hlo⟩
set_option maxRecDepth 20000 in
set_option maxHeartbeats 2000000 in
theorem copen_good (P : List Po) (a : Option Addr) (c : Nat) (ad : Nat → Addr) (w : World) (hA : BytesAt w a (img P)) (hg : gdl (-1) P) (hl : (img P).length ≤ 1073741824) (hE : ErQ w ad) :
    Calls Tryd.prog 12 #[.slice a (img P).length c] w fun e w' => ∃ cb bl W0, e = .returned (.tuple #[.pointer (some ⟨cb, 0, none⟩), .nilIface]) ∧ CuAt ⟨W0, 0⟩ w' cb bl P 0 0 (-1) (.slice none 0 0) none 0 false ∧ w.heap.size ≤ cb ∧ Kept (fun _ => False) w W0 ∧ Kept (fun _ => False) w w' := by
  have CO := hideP (popen_good P a c ad w hA hg hl hE)
  generalize (img P).length = N at *
  clear hA hg hl hE
  go_enter Tryd.func12, Tryd.ntmps12
  go_wp2_with (go_at_call 10; refine CO.out.mono ?_; clear CO; rintro e W1 ⟨bl, rfl, ho, k1⟩; have HO := hideP ho; have HK1 := hideP k1; clear ho k1)
  go_ret2
  have kA := Kept.alloc W1 (.cells #[.int .i64 (-1), .int .i64 (-1), .int .i64 0] 62)
  have kB := Kept.alloc (W1.alloc (.cells #[.int .i64 (-1), .int .i64 (-1), .int .i64 0] 62)) (.cells #[.int .i64 (-1), .int .i64 (-1), .int .i64 0, .pointer (some ⟨bl, 0, none⟩), .int .i64 (-1), .slice none 0 0, .slice none 0 0, .bool false] 64)
  have gB := heap_alloc_new (W1.alloc (.cells #[.int .i64 (-1), .int .i64 (-1), .int .i64 0] 62)) (.cells #[.int .i64 (-1), .int .i64 (-1), .int .i64 0, .pointer (some ⟨bl, 0, none⟩), .int .i64 (-1), .slice none 0 0, .slice none 0 0, .bool false] 64)
  have z1 : (W1.alloc (.cells #[.int .i64 (-1), .int .i64 (-1), .int .i64 0] 62)).heap.size = W1.heap.size + 1 := by simp
  rw [z1] at gB
  have hs := HK1.out.size
  exact ⟨W1.heap.size + 1, bl, _, rfl, ⟨Nat.le_of_eq z1, kB, HO.out.kept kA, gB, fun e => (e rfl).elim, fun e => (e rfl).elim, Nat.zero_le _⟩, by omega, HK1.out.trans kA (fun _ f => f.elim), (HK1.out.trans kA (fun _ f => f.elim)).trans kB (fun _ f => f.elim)⟩
theorem cdocs_any {W0 : Bs} (W : World) {cb bl : Nat} {P : List Po} {u : Nat} {mv nb : Int} {bv : Value} {pa : Option Addr} {pc : Nat} {ask : Bool} (h : CuAt W0 W cb bl P u mv nb bv pa pc ask) : Calls Tryd.prog 17 #[.pointer (some ⟨cb, 0, none⟩)] W fun e w' => e = .returned (.int .i64 ((P.length : Nat) : Int)) ∧ w' = W := by
  have CD := hideP (docs_of bl P W h.opn)
  obtain ⟨-, -, -, c3, -, -, -, -⟩ := h.cells
  clear h
  generalize P.length = n at *
  go_enter Tryd.func17, Tryd.ntmps17
  go_wp2_with (go_at_call 19; refine CD.out.mono ?_; clear CD; rintro e W1 ⟨rfl, rfl⟩)
  go_ret
  exact ⟨rfl, rfl⟩
theorem cdoc_any {W0 : Bs} (W : World) {cb bl : Nat} {P : List Po} {u : Nat} {mv nb : Int} {bv : Value} {pa : Option Addr} {pc : Nat} {ask : Bool} (h : CuAt W0 W cb bl P u mv nb bv pa pc ask) : Calls Tryd.prog 30 #[.pointer (some ⟨cb, 0, none⟩)] W fun e w' => e = .returned (.int .i64 (docU P u)) ∧ w' = W := by
  obtain ⟨-, c1, -, -, -, -, -, -⟩ := h.cells
  clear h
  generalize docU P u = d at *
  go_enter Tryd.func30, Tryd.ntmps30
  go_wp2
  go_ret
  exact ⟨rfl, rfl⟩
theorem cmoves_any {W0 : Bs} (W : World) {cb bl : Nat} {P : List Po} {u : Nat} {mv nb : Int} {bv : Value} {pa : Option Addr} {pc : Nat} {ask : Bool} (h : CuAt W0 W cb bl P u mv nb bv pa pc ask) : Calls Tryd.prog 32 #[.pointer (some ⟨cb, 0, none⟩)] W fun e w' => e = .returned (.int .i64 mv) ∧ w' = W := by
  obtain ⟨-, -, c2, -, -, -, -, -⟩ := h.cells
  clear h
  go_enter Tryd.func32, Tryd.ntmps32
  go_wp2
  go_ret
  exact ⟨rfl, rfl⟩
theorem cfreq_any {W0 : Bs} (W : World) {cb bl : Nat} {P : List Po} {u : Nat} {mv nb : Int} {bv : Value} {pa : Option Addr} {pc : Nat} {ask : Bool} (h : CuAt W0 W cb bl P u mv nb bv pa pc ask) : Calls Tryd.prog 14 #[.pointer (some ⟨cb, 0, none⟩)] W fun e w' => e = .returned (.int .i64 (((posU P u).length : Nat) : Int)) ∧ w' = W := by
  obtain ⟨-, -, -, -, -, -, c6, -⟩ := h.cells
  clear h
  generalize (posU P u).length = d at *
  go_enter Tryd.func14, Tryd.ntmps14
  go_wp2
  go_ret
  exact ⟨rfl, rfl⟩
set_option maxRecDepth 20000 in
set_option maxHeartbeats 2000000 in
theorem cmovesTo_any {W0 : Bs} (W : World) {cb bl : Nat} {P : List Po} {u : Nat} {mv nb : Int} {bv : Value} {pa : Option Addr} {pc : Nat} {ask : Bool} (h : CuAt W0 W cb bl P u mv nb bv pa pc ask) (q : Nat) (hu : u ≤ q) (hq : q ≤ P.length) (hl : P.length ≤ 1099511627776) : Calls Tryd.prog 53 #[.pointer (some ⟨cb, 0, none⟩), .int .i64 q] W fun e w' => e = .returned (.int .i64 ((mvU P.length u q : Nat) : Int)) ∧ w' = W := by
  have CD := hideP (cdocs_any W h)
  have CB := hideP (blocks_of bl P W h.opn)
  obtain ⟨c0, -, -, c3, -, -, -, -⟩ := h.cells
  clear h
  obtain ⟨V, hV⟩ : ∃ V, V = mvU P.length u q := ⟨_, rfl⟩
  rw [← hV]
  generalize P.length = n at *
  obtain ⟨u1, hu1⟩ : ∃ u1, u1 = u / 16 := ⟨_, rfl⟩
  obtain ⟨q1, hq1⟩ : ∃ q1, q1 = q / 16 := ⟨_, rfl⟩
  obtain ⟨q2, hq2⟩ : ∃ q2, q2 = q % 16 := ⟨_, rfl⟩
  obtain ⟨m, hm⟩ : ∃ m, m = nbp n := ⟨_, rfl⟩
  rw [← hm] at CB
  have t1 : (u : Int).tdiv 16 = (u1 : Int) := by rw [Int.tdiv_eq_ediv_of_nonneg (by omega)]; omega
  have t2 : (q : Int).tdiv 16 = (q1 : Int) := by rw [Int.tdiv_eq_ediv_of_nonneg (by omega)]; omega
  have t3 : (q : Int).tmod 16 = (q2 : Int) := by rw [Int.tmod_eq_emod_of_nonneg (by omega)]; omega
  have s1 : (u : Int) / 16 = (u1 : Int) := by omega
  have s2 : (q : Int) / 16 = (q1 : Int) := by omega
  have s3 : (q : Int) % 16 = (q2 : Int) := by omega
  have hmu : u1 ≤ m := by rw [hm, hu1]; unfold nbp; omega
  have hml : m ≤ 1099511627776 := by rw [hm]; unfold nbp; omega
  unfold mvU at hV
  rw [← hm, ← hu1, ← hq1, ← hq2] at hV
  have huq : u1 ≤ q1 := by omega
  have b1 : q1 ≤ 1099511627776 := by omega
  have b2 : q2 ≤ 16 := by omega
  clear hu1 hq1 hq2 hm
  by_cases h1 : q = u
  · rw [if_pos h1] at hV
    subst h1 hV
    go_enter Tryd.func53, Tryd.ntmps53
    go_wp2
    go_ret
    exact ⟨rfl, rfl⟩
  rw [if_neg h1] at hV
  have e1 : ((q : Int) == (u : Int)) = false := by rw [beq_eq_false_iff_ne]; omega
  by_cases h2 : q = n
  · rw [if_pos h2] at hV
    have HV : Hid ((V : Int) = (m : Int) - (u1 : Int) + 1) := hideP (by omega)
    have e2 : ((q : Int) == (n : Int)) = true := by rw [beq_iff_eq]; omega
    clear hV h2
    go_enter Tryd.func53, Tryd.ntmps53
    go_wp2_with (first
      | (go_at_call 17; refine CD.out.mono ?_; clear CD; rintro e W1 ⟨rfl, rfl⟩)
      | (go_at_call 21; refine CB.out.mono ?_; clear CB; rintro e W1 ⟨rfl, rfl⟩))
    go_ret
    exact ⟨by rw [HV.out]; rfl, rfl⟩
  rw [if_neg h2] at hV
  have e2 : ((q : Int) == (n : Int)) = false := by rw [beq_eq_false_iff_ne]; omega
  by_cases h3 : u1 = q1
  · rw [if_pos h3] at hV
    have HV : Hid ((V : Int) = (q : Int) - ((u : Int) - 1)) := hideP (by omega)
    have e3 : ((u1 : Int) == (q1 : Int)) = true := by rw [beq_iff_eq]; omega
    clear hV h3
    go_enter Tryd.func53, Tryd.ntmps53
    go_wp2_with (go_at_call 17; refine CD.out.mono ?_; clear CD; rintro e W1 ⟨rfl, rfl⟩)
    go_ret
    exact ⟨by rw [HV.out]; rfl, rfl⟩
  rw [if_neg h3] at hV
  have HV : Hid ((V : Int) = (q1 : Int) - (u1 : Int) + (q2 : Int) + 1) := hideP (by omega)
  have e3 : ((u1 : Int) == (q1 : Int)) = false := by rw [beq_eq_false_iff_ne]; omega
  clear hV h3
  go_enter Tryd.func53, Tryd.ntmps53
  go_wp2_with (go_at_call 17; refine CD.out.mono ?_; clear CD; rintro e W1 ⟨rfl, rfl⟩)
  go_ret
  exact ⟨by rw [HV.out]; rfl, rfl⟩
end Go.Proofs.YtbdhmibiggpomaaDoor

namespace Go.Proofs.YtbdhmibiggpomaaDoor
open Go.ChangeShapes Go.WideShapes Go.ChangeAt Go.RowKit

/-- A cursor's cells, whatever they are. -/
structure CuR (W0 : Bs) (W : World) (cb bl : Nat) (P : List Po) (cs : Array Value) : Prop where
  new : W0.w.heap.size ≤ cb
  kept : Kept (fun _ => False) W0.w W
  opd : Opd W0.w bl P
  obj : W.heap[cb]? = some (.cells cs 64 (0, 0))
  low : W0.lo ≤ W.heap.size
theorem CuAt.raw {W0 : Bs} {W : World} {cb bl : Nat} {P : List Po} {u : Nat} {mv nb : Int} {bv : Value} {pa : Option Addr} {pc : Nat} {ask : Bool} (h : CuAt W0 W cb bl P u mv nb bv pa pc ask) : CuR W0 W cb bl P #[.int .i64 ((u : Int) - 1), .int .i64 (docU P u), .int .i64 mv, .pointer (some ⟨bl, 0, none⟩), .int .i64 nb, bv, .slice pa (posU P u).length pc, .bool ask] := ⟨h.new, h.kept, h.opd, h.obj, h.low⟩
theorem CuR.cell {W0 : Bs} {W : World} {cb bl : Nat} {P : List Po} {cs : Array Value} (h : CuR W0 W cb bl P cs) (j : Nat) : W.cell? ⟨cb, j, none⟩ = cs[j]? := cell_of_row W cb j _ _ _ h.obj
theorem CuR.frozen {W0 : Bs} {W : World} {cb bl : Nat} {P : List Po} {cs : Array Value} (h : CuR W0 W cb bl P cs) (j : Nat) : W.frozen? ⟨cb, j, none⟩ = false := by simp [World.frozen?, h.obj]
theorem CuR.later {W0 : Bs} {W W' : World} {cb bl : Nat} {P : List Po} {cs : Array Value} (h : CuR W0 W cb bl P cs) (k : Kept (fun _ => False) W W') : CuR W0 W' cb bl P cs := ⟨h.new, h.kept.trans k (fun _ f => f.elim), h.opd, k.heap h.obj (fun f => f), Nat.le_trans h.low k.size⟩
theorem CuR.set {W0 : Bs} {W : World} {cb bl : Nat} {P : List Po} {cs : Array Value} (h : CuR W0 W cb bl P cs) (j : Nat) (v : Value) : CuR W0 (W.setCell ⟨cb, j, none⟩ v) cb bl P (cs.setIfInBounds j v) :=
  ⟨h.new, h.kept.trans (Kept.setCell W ⟨cb, j, none⟩ v) (fun i hi => .inr (by have := h.new; simp only at hi; omega)), h.opd, heap_setCell_same W cb j cs _ v h.obj, Nat.le_trans h.low (Kept.setCell W ⟨cb, j, none⟩ v).size⟩
theorem CuR.lt {W0 : Bs} {W : World} {cb bl : Nat} {P : List Po} {cs : Array Value} (h : CuR W0 W cb bl P cs) : cb < W.heap.size := by
  rcases Nat.lt_or_ge cb W.heap.size with q | q
  · exact q
  · have := h.obj
    rw [Array.getElem?_eq_none q] at this
    cases this
/-- Postings that lie in no cell of the cursor. -/
def FarB (lo cb : Nat) (a : Option Addr) (FL : List Pg) : Prop := (∀ g ∈ FL, g.ps ≠ [] → ∃ b off, g.a = some ⟨b, off, none⟩ ∧ b ≠ cb ∧ lo ≤ b) ∧ (FL ≠ [] → ∃ b, a = some ⟨b, 0, none⟩ ∧ b ≠ cb ∧ lo ≤ b)
theorem Far.farB {w w' : World} {a : Option Addr} {FL : List Pg} {lo cb : Nat} (h : Far w w' a FL) (hc : cb < w.heap.size) (hlo : lo ≤ w.heap.size) : FarB lo cb a FL :=
  ⟨fun g hg hne => by
    obtain ⟨b, off, e, h1, _⟩ := h.1 g hg hne
    exact ⟨b, off, e, by omega, by omega⟩, fun hne => by
    obtain ⟨b, e, h1⟩ := h.2 hne
    exact ⟨b, e, by omega, by omega⟩⟩
theorem PsAt.keptB {W W' : World} {lo cb : Nat} {a : Option Addr} {FL : List Pg} (h : PsAt W a FL) (f : FarB lo cb a FL) (k : Kept (fun i => i = cb) W W') : PsAt W' a FL := by
  intro hne
  obtain ⟨b, off, e, hc⟩ := h hne
  obtain ⟨b', e', hb, _⟩ := f.2 hne
  rw [e] at e'
  injection e' with e'
  injection e' with e1 e2
  subst e1
  refine ⟨b, off, e, fun j hj => ?_⟩
  obtain ⟨x0, x1, x2⟩ := hc j hj
  exact ⟨k.cell x0 hb, k.cell x1 hb, ints_step x2 k (fun hn => far_ne (f.1 _ (List.getElem_mem hj) hn))⟩
/-- The block that is kept is the one that its number tells. -/
def BkOk (W : World) (lo cb : Nat) (P : List Po) (nb : Int) (bv : Value) : Prop := ∀ k : Nat, nb = (k : Int) → ∃ (FL : List Pg) (a : Option Addr) (c : Nat), bv = .slice a FL.length c ∧ pol FL = blN P k ∧ PsAt W a FL ∧ FarB lo cb a FL
theorem BkOk.keptB {W W' : World} {lo cb : Nat} {P : List Po} {nb : Int} {bv : Value} (h : BkOk W lo cb P nb bv) (k : Kept (fun i => i = cb) W W') : BkOk W' lo cb P nb bv := fun j hj => by
  obtain ⟨FL, a, c, e1, e2, e3, e4⟩ := h j hj
  exact ⟨FL, a, c, e1, e2, e3.keptB e4 k, e4⟩
set_option maxRecDepth 20000 in
set_option maxHeartbeats 2000000 in
theorem creadBlock_any {W0 : Bs} (W : World) {cb bl : Nat} {P : List Po} {c0 c1 c2 c6 c7 bv : Value} {nb : Int} (k : Nat) (ad : Nat → Addr) (h : CuR W0 W cb bl P #[c0, c1, c2, .pointer (some ⟨bl, 0, none⟩), .int .i64 nb, bv, c6, c7]) (hb : BkOk W W0.lo cb P nb bv) (hk : k < nbp P.length) (hg : gdl (-1) P) (hl : (img P).length ≤ 1073741824) (hE : ErQ W ad) :
    Calls Tryd.prog 54 #[.pointer (some ⟨cb, 0, none⟩), .int .i64 k] W fun e w' => e = .returned (.tuple #[]) ∧ ∃ bv', CuR W0 w' cb bl P #[c0, c1, c2, .pointer (some ⟨bl, 0, none⟩), .int .i64 k, bv', c6, c7] ∧ BkOk w' W0.lo cb P k bv' ∧ Kept (fun i => i = cb) W w' := by
  have q3 := h.cell 3
  have q4 := h.cell 4
  simp only [List.getElem?_toArray, List.getElem?_cons_zero, List.getElem?_cons_succ] at q3 q4
  have HR := hideP h
  have HB := hideP hb
  by_cases hn : nb = (k : Int)
  · subst hn
    clear h hb
    go_enter Tryd.func54, Tryd.ntmps54
    go_wp2
    go_end0
    exact ⟨rfl, bv, HR.out, HB.out, Kept.refl _ _⟩
  · have hn1 : (nb != (k : Int)) = true := by rw [bne_iff_ne]; exact hn
    have CB := hideP (block_in bl P k ad W (h.opd.kept h.kept) hg hl hk hE)
    have hlt := h.lt
    have hlow := h.low
    clear h hb hE
    go_enter Tryd.func54, Tryd.ntmps54
    go_wp2_with (go_at_call 84; refine StpQ.go ?_)
    refine ⟨?_⟩
    refine CB.out.mono ?_
    clear CB
    rintro e W1 ⟨FL, pa, pc, hFL, rfl, hPs, hpc, hfar, k1⟩
    have hF := hfar.farB hlt hlow
    have hR1 := HR.out.later k1
    have f4 := hR1.frozen 4
    have f5 := hR1.frozen 5
    have p4 := hR1.cell 4
    have p5 := hR1.cell 5
    simp only [List.getElem?_toArray, List.getElem?_cons_zero, List.getElem?_cons_succ] at p4 p5
    have hR2 := (hR1.set 4 (.int .i64 (k : Int))).set 5 (.slice pa FL.length pc)
    have ks := (Kept.setCell W1 ⟨cb, 4, none⟩ (.int .i64 (k : Int))).trans (Kept.setCell (W1.setCell ⟨cb, 4, none⟩ (.int .i64 (k : Int))) ⟨cb, 5, none⟩ (.slice pa FL.length pc)) (fun _ h => .inl h)
    have HR2 := hideP hR2
    have HB2 : Hid (BkOk ((W1.setCell ⟨cb, 4, none⟩ (.int .i64 (k : Int))).setCell ⟨cb, 5, none⟩ (.slice pa FL.length pc)) W0.lo cb P k (.slice pa FL.length pc)) := hideP (fun j hj => by
      obtain rfl : k = j := by omega
      exact ⟨FL, pa, pc, rfl, hFL, hPs.keptB hF ks, hF⟩)
    have HK2 := hideP ((k1.mono (fun _ f => f.elim)).trans ks (fun _ h => .inl h))
    clear hR1 hR2 ks hFL hPs hpc hfar hF k1 q3 q4
    generalize FL.length = fl at *
    go_wp2
    go_end0
    exact ⟨rfl, _, HR2.out, HB2.out, HK2.out⟩
end Go.Proofs.YtbdhmibiggpomaaDoor

namespace Go.Proofs.YtbdhmibiggpomaaDoor
open Go.ChangeShapes Go.WideShapes Go.ChangeAt Go.RowKit

theorem CuR.drew {W0 : Bs} {W : World} {cb bl : Nat} {P : List Po} {cs : Array Value} (h : CuR W0 W cb bl P cs) : CuR W0 W.drew cb bl P cs := h.later (Kept.drew W)
theorem CuR.toAt {W0 : Bs} {W : World} {cb bl : Nat} {P : List Po} {u : Nat} {x0 d mv nb : Int} {bv : Value} {pa : Option Addr} {n pc : Nat} {ask : Bool} (h : CuR W0 W cb bl P #[.int .i64 x0, .int .i64 d, .int .i64 mv, .pointer (some ⟨bl, 0, none⟩), .int .i64 nb, bv, .slice pa n pc, .bool ask]) (h0 : x0 = (u : Int) - 1) (hd : d = docU P u) (hn : n = (posU P u).length) (hp : IntsAt W pa (posU P u)) (hf : posU P u ≠ [] → ∃ b off, pa = some ⟨b, off, none⟩ ∧ b ≠ cb ∧ W0.lo ≤ b) : CuAt W0 W cb bl P u mv nb bv pa pc ask := by
  subst h0 hd hn
  exact ⟨h.new, h.kept, h.opd, h.obj, hp, hf, h.low⟩
theorem docU_end (P : List Po) : docU P (P.length + 1) = 2147483647 := by simp [docU]
theorem posU_end (P : List Po) : posU P (P.length + 1) = [] := by simp [posU]
theorem blk_here (P : List Po) (FL : List Pg) (q q1 q2 : Nat) (h : pol FL = blN P q1) (hq : q < P.length) (h1 : q1 = q / 16) (h2 : q2 = q % 16) : ∃ hl : q2 < FL.length, P[q]? = some (FL[q2]).po := by
  have e : 16 * q1 + q2 = q := by omega
  have hlen : FL.length = (blN P q1).length := by rw [← h, pol_len]
  have hb : (blN P q1)[q2]? = P[q]? := by
    unfold blN
    rw [List.getElem?_take, if_pos (by omega), List.getElem?_drop, e]
  have hl : q2 < FL.length := by
    rw [hlen]; unfold blN; rw [List.length_take, List.length_drop]; omega
  refine ⟨hl, ?_⟩
  rw [← hb, ← h]
  simp [pol, List.getElem?_eq_getElem hl]
theorem docU_at (P : List Po) (q : Nat) (g : Pg) (h : P[q]? = some g.po) : docU P (q + 1) = g.d := by simp [docU, h, Pg.po]
theorem posU_at (P : List Po) (q : Nat) (g : Pg) (h : P[q]? = some g.po) : posU P (q + 1) = g.ps := by simp [posU, h, Pg.po]
/-- What the posting that was loaded holds. -/
def Sh (hb : Nat) (d : Int) (ga : Option Addr) (pn gc : Nat) (W : World) : Prop := W.cell? ⟨hb, 0, none⟩ = some (.int .i64 d) ∧ W.cell? ⟨hb, 1, none⟩ = some (.slice ga pn gc)
theorem Sh.of_row {W : World} {hb : Nat} {d : Int} {ga : Option Addr} {pn gc : Nat} {t : TypeId} {x : Nat × Nat} (h : W.heap[hb]? = some (.cells #[.int .i64 d, .slice ga pn gc] t x)) : Sh hb d ga pn gc W := by
  constructor <;> (rw [cell_of_row W hb _ _ _ _ h]; rfl)
theorem Sh.kept {W W' : World} {hb cb : Nat} {d : Int} {ga : Option Addr} {pn gc : Nat} (h : Sh hb d ga pn gc W) (k : Kept (fun i => i = cb) W W') (hne : hb ≠ cb) : Sh hb d ga pn gc W' := ⟨k.cell h.1 hne, k.cell h.2 hne⟩
theorem cdocsR_any {W0 : Bs} (W : World) {cb bl : Nat} {P : List Po} {c0 c1 c2 c4 c5 c6 c7 : Value} (h : CuR W0 W cb bl P #[c0, c1, c2, .pointer (some ⟨bl, 0, none⟩), c4, c5, c6, c7]) : Calls Tryd.prog 17 #[.pointer (some ⟨cb, 0, none⟩)] W fun e w' => e = .returned (.int .i64 ((P.length : Nat) : Int)) ∧ w' = W := by
  have CD := hideP (docs_of bl P W (h.opd.kept h.kept))
  have q3 := h.cell 3
  simp only [List.getElem?_toArray, List.getElem?_cons_zero, List.getElem?_cons_succ] at q3
  clear h
  generalize P.length = n at *
  go_enter Tryd.func17, Tryd.ntmps17
  go_wp2_with (go_at_call 19; refine CD.out.mono ?_; clear CD; rintro e W1 ⟨rfl, rfl⟩)
  go_ret
  exact ⟨rfl, rfl⟩
set_option maxRecDepth 20000 in
set_option maxHeartbeats 4000000 in
theorem cgoTo_any {W0 : Bs} (W : World) {cb bl : Nat} {P : List Po} {u : Nat} {mv : Nat} {nb : Int} {bv : Value} {pa : Option Addr} {pc : Nat} {ask : Bool} (q : Nat) (ad : Nat → Addr) (h : CuAt W0 W cb bl P u mv nb bv pa pc ask) (hb : BkOk W W0.lo cb P nb bv) (hu : u ≤ q) (hq : q ≤ P.length) (hmv : mv ≤ 2305843009213693952) (hln : P.length ≤ 1099511627776) (hg : gdl (-1) P) (hl : (img P).length ≤ 1073741824) (hE : ErQ W0.w ad) :
    Calls Tryd.prog 34 #[.pointer (some ⟨cb, 0, none⟩), .int .i64 q] W fun e w' => e = .returned (.tuple #[]) ∧ ∃ nb' bv' pa' pc', CuAt W0 w' cb bl P (q + 1) ((mv + mvU P.length u q : Nat) : Int) nb' bv' pa' pc' false ∧ (q < P.length → BkOk w' W0.lo cb P nb' bv') ∧ (posU P (q + 1) = [] → pa' = none) ∧ Kept (fun i => i = cb) W w' := by
  have hM : mvU P.length u q ≤ 2199023255552 := by
    unfold mvU nbp
    split
    · omega
    split
    · omega
    split <;> omega
  have CM := hideP (cmovesTo_any W.drew (h.later (Kept.drew W)) q hu hq hln)
  obtain ⟨X, hX⟩ : ∃ X, X = mvU P.length u q := ⟨_, rfl⟩
  rw [← hX] at CM hM ⊢
  obtain ⟨M, hMM⟩ : ∃ M : Nat, M = mv + X := ⟨_, rfl⟩
  rw [← hMM]
  have HE2 : Hid ((mv : Int) + (X : Int) = (M : Int)) := hideP (by omega)
  have hM2 : (M : Int) ≤ 4611686018427387904 := by omega
  have HEW : Hid (IntKind.i64.wrap ((mv : Int) + (X : Int)) = (M : Int)) := hideP (by rw [IntKind.wrap_i64]; omega)
  have hR := h.raw.drew
  have q2 := hR.cell 2
  have f2 := hR.frozen 2
  simp only [List.getElem?_toArray, List.getElem?_cons_zero, List.getElem?_cons_succ] at q2
  have HP := hideP h
  have HB := hideP hb
  clear h hb
  have HR1 := hideP (hR.set 2 (.int .i64 (M : Int)))
  simp only [List.setIfInBounds_toArray, List.set_cons_zero, List.set_cons_succ] at HR1
  have HK1 := hideP (((Kept.drew W).mono (G := fun i => i = cb) (fun _ f => f.elim)).trans (Kept.setCell W.drew ⟨cb, 2, none⟩ (.int .i64 (M : Int))) (fun _ h => .inl h))
  clear hR hX hMM
  go_enter Tryd.func34, Tryd.ntmps34
  go_wp2_with fail
  refine wp_region_held (S := AnyZ) (by kernel_rfl) ?_
  change wpAnyH _ _ _ _ _ _ _ _ (World.drew _)
  refine takeZ (i := 0) (d := 5) (v := .pointer (some ⟨cb, 0, none⟩)) rfl rfl (by kernel_rfl) (by kernel_rfl) (by kernel_rfl) (fun _ _ _ h => h) (Or.inl ⟨by rfl, fun W hW => ?_⟩) (anyZ _) ?_
  · (go_simp)
  simp only [Act.put, List.setIfInBounds_toArray, List.set_cons_zero, List.set_cons_succ]
  refine takeZ (i := 1) (d := 6) (v := .pointer (some ⟨cb, 0, none⟩)) rfl rfl (by kernel_rfl) (by kernel_rfl) (by kernel_rfl) (fun _ _ _ h => h) (Or.inl ⟨by rfl, fun W hW => ?_⟩) (anyZ _) ?_
  · (go_simp)
  simp only [Act.put, List.setIfInBounds_toArray, List.set_cons_zero, List.set_cons_succ]
  refine takeZ (i := 2) (d := 7) (v := .pointer (some ⟨cb, 0, none⟩)) rfl rfl (by kernel_rfl) (by kernel_rfl) (by kernel_rfl) (fun _ _ _ h => h) (Or.inl ⟨by rfl, fun W hW => ?_⟩) (anyZ _) ?_
  · (go_simp)
  simp only [Act.put, List.setIfInBounds_toArray, List.set_cons_zero, List.set_cons_succ]
  refine takeZ (i := 3) (d := 8) (v := .pointer (some ⟨cb, 2, none⟩)) rfl rfl (by kernel_rfl) (by kernel_rfl) (by kernel_rfl) (fun _ _ _ h => h) (Or.inl ⟨by rfl, fun W hW => ?_⟩) (anyZ _) ?_
  · (go_simp)
  simp only [Act.put, List.setIfInBounds_toArray, List.set_cons_zero, List.set_cons_succ]
  refine takeZ (i := 5) (d := 10) (v := .pointer (some ⟨cb, 0, none⟩)) rfl rfl (by kernel_rfl) (by kernel_rfl) (by kernel_rfl) (fun _ _ _ h => h) (Or.inl ⟨by rfl, fun W hW => ?_⟩) (anyZ _) ?_
  · (go_simp)
  simp only [Act.put, List.setIfInBounds_toArray, List.set_cons_zero, List.set_cons_succ]
  refine takeZ (i := 6) (d := 11) (v := .int .i64 q) rfl rfl (by kernel_rfl) (by kernel_rfl) (by kernel_rfl) (fun _ _ _ h => h) (Or.inl ⟨by rfl, fun W hW => ?_⟩) (anyZ _) ?_
  · (go_simp)
  simp only [Act.put, List.setIfInBounds_toArray, List.set_cons_zero, List.set_cons_succ]
  generalize W.drew = V at *
  refine wpAnyH_all (rs := [4, 7]) (by kernel_rfl) (by simp) ?_
  intro i hi
  obtain rfl | rfl : i = 4 ∨ i = 7 := by simpa using hi
  · unfold wpOp
    go_simp
    first | refine Or.inl ⟨(anyZ _), ?_⟩ | refine ⟨(anyZ _), ?_⟩ | (change wpAnyH _ _ _ _ _ _ _ _ _) | refine Or.inl ?_
    refine wpAnyH_all (rs := [7]) (by kernel_rfl) (by simp) ?_
    intro i hi
    obtain rfl : i = 7 := by simpa using hi
    unfold wpOp
    go_simp
    refine Or.inl (CM.out.mono ?_)
    rintro e V ⟨rfl, rfl⟩
    refine ⟨anyZ _, ?_⟩
    refine takeZ (i := 8) (d := 13) (v := .int .i64 M) rfl rfl (by kernel_rfl) (by kernel_rfl) (by kernel_rfl) (fun _ _ _ h => h) (Or.inl ⟨by rfl, fun W hW => ?_⟩) (anyZ _) ?_
    · (go_simp; first | exact HEW.out | (rw [HE2.out]) | (rw [HE2.out, IntKind.wrap_i64]; omega))
    simp only [Act.put, List.setIfInBounds_toArray, List.set_cons_zero, List.set_cons_succ]
    refine takeZ (i := 9) (d := 14) (v := .pointer (some ⟨cb, 0, none⟩)) rfl rfl (by kernel_rfl) (by kernel_rfl) (by kernel_rfl) (fun _ _ _ h => h) (Or.inl ⟨by rfl, fun W hW => ?_⟩) (anyZ _) ?_
    · (go_simp)
    simp only [Act.put, List.setIfInBounds_toArray, List.set_cons_zero, List.set_cons_succ]
    refine takeZ (i := 10) (d := 15) (v := .pointer (some ⟨cb, 0, none⟩)) rfl rfl (by kernel_rfl) (by kernel_rfl) (by kernel_rfl) (fun _ _ _ h => h) (Or.inl ⟨by rfl, fun W hW => ?_⟩) (anyZ _) ?_
    · (go_simp)
    simp only [Act.put, List.setIfInBounds_toArray, List.set_cons_zero, List.set_cons_succ]
    refine takeZ (i := 11) (d := 16) (v := .pointer (some ⟨cb, 2, none⟩)) rfl rfl (by kernel_rfl) (by kernel_rfl) (by kernel_rfl) (fun _ _ _ h => h) (Or.inl ⟨by rfl, fun W hW => ?_⟩) (anyZ _) ?_
    · (go_simp)
    simp only [Act.put, List.setIfInBounds_toArray, List.set_cons_zero, List.set_cons_succ]
    refine wpAnyH_all (rs := [12]) (by kernel_rfl) (by simp) ?_
    intro i hi
    obtain rfl : i = 12 := by simpa using hi
    unfold wpOp
    go_simp
    first | refine Or.inl ⟨(anyZ _), ?_⟩ | refine ⟨(anyZ _), ?_⟩ | (change wpAnyH _ _ _ _ _ _ _ _ _) | refine Or.inl ?_
    refine wpAnyH_done (by kernel_rfl) ?_ _
    generalize V.setCell ⟨cb, 2, none⟩ (.int .i64 (M : Int)) = V1 at *
    have p0 := HR1.out.cell 0
    have p7 := HR1.out.cell 7
    have f0 := HR1.out.frozen 0
    have f7 := HR1.out.frozen 7
    simp only [List.getElem?_toArray, List.getElem?_cons_zero, List.getElem?_cons_succ] at p0 p7
    have HR2 := hideP ((HR1.out.set 0 (.int .i64 (q : Int))).set 7 (.bool false))
    simp only [List.setIfInBounds_toArray, List.set_cons_zero, List.set_cons_succ] at HR2
    have HK2 := hideP (HK1.out.trans ((Kept.setCell V1 ⟨cb, 0, none⟩ (.int .i64 (q : Int))).trans (Kept.setCell (V1.setCell ⟨cb, 0, none⟩ (.int .i64 (q : Int))) ⟨cb, 7, none⟩ (.bool false)) (fun _ h => .inl h)) (fun _ h => .inl h))
    have HB2 := hideP (HB.out.keptB HK2.out)
    clear HB HR1 HK1 CM HP q2 f2
    go_wp2_with (go_at_call 17; refine StpQ.go ?_)
    refine ⟨?_⟩
    generalize (V1.setCell ⟨cb, 0, none⟩ (.int .i64 (q : Int))).setCell ⟨cb, 7, none⟩ (.bool false) = V2 at *
    clear p0 p7 f0 f7
    refine (cdocsR_any V2 HR2.out).mono ?_
    rintro e V3 ⟨rfl, rfl⟩
    by_cases hqn : q = P.length
    · have e2 : ((q : Int) == ((P.length : Nat) : Int)) = true := by rw [beq_iff_eq]; omega
      have p1 := HR2.out.cell 1
      have p5 := HR2.out.cell 5
      have p6 := HR2.out.cell 6
      have f1 := HR2.out.frozen 1
      have f5 := HR2.out.frozen 5
      have f6 := HR2.out.frozen 6
      simp only [List.getElem?_toArray, List.getElem?_cons_zero, List.getElem?_cons_succ] at p1 p5 p6
      have HR3 := hideP (((HR2.out.set 1 (.int .i64 2147483647)).set 6 (.slice none 0 0)).set 5 (.slice none 0 0))
      simp only [List.setIfInBounds_toArray, List.set_cons_zero, List.set_cons_succ] at HR3
      have HK3 := hideP (HK2.out.trans (((Kept.setCell V3 ⟨cb, 1, none⟩ (.int .i64 2147483647)).trans (Kept.setCell _ ⟨cb, 6, none⟩ (.slice none 0 0)) (fun _ h => .inl h)).trans (Kept.setCell _ ⟨cb, 5, none⟩ (.slice none 0 0)) (fun _ h => .inl h)) (fun _ h => .inl h))
      have HQN := hideP hqn
      clear HR2 HK2 HB2 hqn hg hl hE hu hq hmv hln hM hM2
      have hd := hideP (docU_end P)
      have hp := hideP (posU_end P)
      rw [← HQN.out] at hd hp
      go_wp2
      (try simp only [Exit.inBlock, Exit.then])
      refine bodyPost_ret (results_none rfl _ _ _) rfl ?_
      exact ⟨rfl, nb, .slice none 0 0, none, 0, HR3.out.toAt (by omega) hd.out.symm (by rw [hp.out]; rfl) (by rw [hp.out]; exact fun e => (e rfl).elim) (by rw [hp.out]; exact fun e => (e rfl).elim), fun h => absurd HQN.out (by omega), fun _ => rfl, HK3.out⟩
    have hlt : q < P.length := by omega
    have e2 : ((q : Int) == ((P.length : Nat) : Int)) = false := by rw [beq_eq_false_iff_ne]; omega
    obtain ⟨q1, hq1⟩ : ∃ q1, q1 = q / 16 := ⟨_, rfl⟩
    obtain ⟨q2, hq2⟩ : ∃ q2, q2 = q % 16 := ⟨_, rfl⟩
    have t2 : (q : Int).tdiv 16 = (q1 : Int) := by rw [Int.tdiv_eq_ediv_of_nonneg (by omega)]; omega
    have t3 : (q : Int).tmod 16 = (q2 : Int) := by rw [Int.tmod_eq_emod_of_nonneg (by omega)]; omega
    have s2 : (q : Int) / 16 = (q1 : Int) := by omega
    have s3 : (q : Int) % 16 = (q2 : Int) := by omega
    have hk1 : q1 < nbp P.length := by unfold nbp; omega
    have CR := hideP (creadBlock_any V3 q1 ad HR2.out HB2.out hk1 hg hl (hE.kept HR2.out.kept))
    have HLT := hideP hlt
    have HG := hideP hg
    have b1 : q1 ≤ 1099511627776 := by omega
    have b2 : q2 < 16 := by omega
    have HQ1 := hideP hq1
    have HQ2 := hideP hq2
    clear hq1 hq2 hlt hqn HR2 HB2 hg hl hE hu hq hmv hln hM hM2 hk1
    go_wp2_with (go_at_call 54; refine StpQ.go ?_)
    refine ⟨?_⟩
    refine CR.out.mono ?_
    clear CR
    rintro e V4 ⟨rfl, bv4, hR4, hB4, k4⟩
    obtain ⟨FL, a4, c4, hbv, hFL, hPs, hFar⟩ := hB4 q1 rfl
    subst hbv
    obtain ⟨hl4, hat⟩ := blk_here P FL q q1 q2 hFL HLT.out HQ1.out HQ2.out
    obtain ⟨b4, off4, ha4, hcl⟩ := hPs (fun e => by rw [e] at hl4; exact absurd hl4 (by simp))
    obtain ⟨x0, x1, x2⟩ := hcl q2 hl4
    obtain ⟨g, hgg⟩ : ∃ g, g = FL[q2] := ⟨_, rfl⟩
    have hfg := hFar.1 g (by rw [hgg]; exact List.getElem_mem hl4)
    rw [← hgg] at x0 x1 x2 hat
    have hd := docU_at P q g hat
    have hp := posU_at P q g hat
    have HNE : Hid (posU P (q + 1) ≠ []) := hideP (by rw [hp]; exact (gdl_pos HG.out g.po (List.mem_of_getElem? hat)).1)
    have HX2 := hideP x2
    have HFG := hideP hfg
    have HD := hideP hd
    have HPP := hideP hp
    have HR4 := hideP hR4
    have HB4 := hideP hB4
    have HK4 := hideP (HK2.out.trans k4 (fun _ h => .inl h))
    have p5 := hR4.cell 5
    simp only [List.getElem?_toArray, List.getElem?_cons_zero, List.getElem?_cons_succ] at p5
    clear hR4 hB4 hFL hPs hFar hcl hgg hfg hat hd hp x2 k4 HK2
    subst ha4
    have hq2l : (q2 : Int) < (FL.length : Int) := by omega
    generalize FL.length = fl at *
    obtain ⟨d, hd⟩ : ∃ d, d = g.d := ⟨_, rfl⟩
    obtain ⟨pn, hpn⟩ : ∃ pn, pn = g.ps.length := ⟨_, rfl⟩
    obtain ⟨ga, hga⟩ : ∃ ga, ga = g.a := ⟨_, rfl⟩
    obtain ⟨gc, hgc⟩ : ∃ gc, gc = g.c := ⟨_, rfl⟩
    rw [← hd] at x0 HD
    rw [← hpn, ← hga, ← hgc] at x1
    have HPN := hideP hpn
    have HGA := hideP hga
    clear hd hpn hga hgc
    have HRh := hideP (HR4.out.later (Kept.alloc V4 (.cells #[.int .i64 d, .slice ga pn gc] 42)))
    have HKh := hideP (HK4.out.trans (Kept.alloc V4 (.cells #[.int .i64 d, .slice ga pn gc] 42)) (fun _ f => f.elim))
    have gh := heap_alloc_new V4 (.cells #[.int .i64 d, .slice ga pn gc] 42)
    have HX5 := hideP (HX2.out.kept (Kept.alloc V4 (.cells #[.int .i64 d, .slice ga pn gc] 42)))
    have HB5 := hideP (HB4.out.keptB ((Kept.alloc V4 (.cells #[.int .i64 d, .slice ga pn gc] 42)).mono (fun _ f => f.elim)))
    have hne : V4.heap.size ≠ cb := Nat.ne_of_gt HR4.out.lt
    go_wp2_with fail
    generalize V4.heap.size = hb at *
    generalize V4.alloc (.cells #[.int .i64 d, .slice ga pn gc] 42) = V5 at *
    have hS5 : Sh hb d ga pn gc V5.drew := (Sh.of_row gh).kept ((Kept.drew V5).mono (fun _ f => f.elim)) hne
    have HR6 := hideP HRh.out.drew
    have HK6 := hideP (HKh.out.trans (Kept.drew V5) (fun _ f => f.elim))
    have HX6 := hideP (HX5.out.kept (Kept.drew V5))
    have HB6 := hideP (HB5.out.keptB ((Kept.drew V5).mono (fun _ f => f.elim)))
    clear HR4 HK4 HB4 HX2 HRh HKh HX5 HB5 gh x0 x1 p5
    refine wp_region_held (S := Sh hb d ga pn gc) (by kernel_rfl) ?_
    change wpAnyH _ _ _ _ _ _ _ _ (World.drew _)
    generalize V5.drew = V6 at *
    have p1 := HR6.out.cell 1
    have p6 := HR6.out.cell 6
    have f1 := HR6.out.frozen 1
    have f6 := HR6.out.frozen 6
    simp only [List.getElem?_toArray, List.getElem?_cons_zero, List.getElem?_cons_succ] at p1 p6
    have HR7 := hideP ((HR6.out.set 1 (.int .i64 d)).set 6 (.slice ga pn gc))
    simp only [List.setIfInBounds_toArray, List.set_cons_zero, List.set_cons_succ] at HR7
    have ks1 := Kept.setCell V6 ⟨cb, 1, none⟩ (.int .i64 d)
    have ks2 := ks1.trans (Kept.setCell (V6.setCell ⟨cb, 1, none⟩ (.int .i64 d)) ⟨cb, 6, none⟩ (.slice ga pn gc)) (fun _ h => .inl h)
    have hS6 := hS5.kept ks1 hne
    have hS7 := hS5.kept ks2 hne
    have HK7 := hideP (HK6.out.trans ks2 (fun _ h => .inl h))
    have HB7 := hideP (HB6.out.keptB ks2)
    have HX7 := hideP (ints_step HX6.out ks2 (fun hn => far_ne (HFG.out hn)))
    clear HR6 HK6 HB6 HX6 ks1 ks2
    refine takeZ (i := 0) (d := 51) (v := .pointer (some ⟨cb, 0, none⟩)) rfl rfl (by kernel_rfl) (by kernel_rfl) (by kernel_rfl) (fun _ _ _ h => h) (Or.inl ⟨by rfl, fun W hW => ?_⟩) hS5 ?_
    · (go_simp)
    simp only [Act.put, List.setIfInBounds_toArray, List.set_cons_zero, List.set_cons_succ]
    refine takeZ (i := 1) (d := 52) (v := .pointer (some ⟨cb, 0, none⟩)) rfl rfl (by kernel_rfl) (by kernel_rfl) (by kernel_rfl) (fun _ _ _ h => h) (Or.inl ⟨by rfl, fun W hW => ?_⟩) hS5 ?_
    · (go_simp)
    simp only [Act.put, List.setIfInBounds_toArray, List.set_cons_zero, List.set_cons_succ]
    refine takeZ (i := 2) (d := 53) (v := .pointer (some ⟨hb, 0, none⟩)) rfl rfl (by kernel_rfl) (by kernel_rfl) (by kernel_rfl) (fun _ _ _ h => h) (Or.inl ⟨by rfl, fun W hW => ?_⟩) hS5 ?_
    · (go_simp)
    simp only [Act.put, List.setIfInBounds_toArray, List.set_cons_zero, List.set_cons_succ]
    refine takeZ (i := 3) (d := 54) (v := .int .i64 d) rfl rfl (by kernel_rfl) (by kernel_rfl) (by kernel_rfl) (fun _ _ _ h => h) (Or.inl ⟨by rfl, fun W hW => ?_⟩) hS5 ?_
    · (obtain ⟨h0, h1⟩ := hW; go_simp)
    simp only [Act.put, List.setIfInBounds_toArray, List.set_cons_zero, List.set_cons_succ]
    refine takeZ (i := 4) (d := 55) (v := .pointer (some ⟨hb, 1, none⟩)) rfl rfl (by kernel_rfl) (by kernel_rfl) (by kernel_rfl) (fun _ _ _ h => h) (Or.inl ⟨by rfl, fun W hW => ?_⟩) hS5 ?_
    · (go_simp)
    simp only [Act.put, List.setIfInBounds_toArray, List.set_cons_zero, List.set_cons_succ]
    refine takeZ (i := 5) (d := 56) (v := .slice ga pn gc) rfl rfl (by kernel_rfl) (by kernel_rfl) (by kernel_rfl) (fun _ _ _ h => h) (Or.inl ⟨by rfl, fun W hW => ?_⟩) hS5 ?_
    · (obtain ⟨h0, h1⟩ := hW; go_simp)
    simp only [Act.put, List.setIfInBounds_toArray, List.set_cons_zero, List.set_cons_succ]
    refine takeZ (i := 6) (d := 57) (v := .pointer (some ⟨cb, 0, none⟩)) rfl rfl (by kernel_rfl) (by kernel_rfl) (by kernel_rfl) (fun _ _ _ h => h) (Or.inl ⟨by rfl, fun W hW => ?_⟩) hS5 ?_
    · (go_simp)
    simp only [Act.put, List.setIfInBounds_toArray, List.set_cons_zero, List.set_cons_succ]
    refine takeZ (i := 7) (d := 58) (v := .pointer (some ⟨cb, 0, none⟩)) rfl rfl (by kernel_rfl) (by kernel_rfl) (by kernel_rfl) (fun _ _ _ h => h) (Or.inl ⟨by rfl, fun W hW => ?_⟩) hS5 ?_
    · (go_simp)
    simp only [Act.put, List.setIfInBounds_toArray, List.set_cons_zero, List.set_cons_succ]
    refine takeZ (i := 8) (d := 59) (v := .pointer (some ⟨cb, 1, none⟩)) rfl rfl (by kernel_rfl) (by kernel_rfl) (by kernel_rfl) (fun _ _ _ h => h) (Or.inl ⟨by rfl, fun W hW => ?_⟩) hS5 ?_
    · (go_simp)
    simp only [Act.put, List.setIfInBounds_toArray, List.set_cons_zero, List.set_cons_succ]
    refine wpAnyH_all (rs := [9]) (by kernel_rfl) (by simp) ?_
    intro i hi
    obtain rfl : i = 9 := by simpa using hi
    unfold wpOp
    go_simp
    first | refine Or.inl ⟨hS6, ?_⟩ | refine ⟨hS6, ?_⟩ | (change wpAnyH _ _ _ _ _ _ _ _ _) | refine Or.inl ?_
    refine takeZ (i := 10) (d := 60) (v := .pointer (some ⟨cb, 0, none⟩)) rfl rfl (by kernel_rfl) (by kernel_rfl) (by kernel_rfl) (fun _ _ _ h => h) (Or.inl ⟨by rfl, fun W hW => ?_⟩) hS6 ?_
    · (go_simp)
    simp only [Act.put, List.setIfInBounds_toArray, List.set_cons_zero, List.set_cons_succ]
    refine takeZ (i := 11) (d := 61) (v := .pointer (some ⟨cb, 6, none⟩)) rfl rfl (by kernel_rfl) (by kernel_rfl) (by kernel_rfl) (fun _ _ _ h => h) (Or.inl ⟨by rfl, fun W hW => ?_⟩) hS6 ?_
    · (go_simp)
    simp only [Act.put, List.setIfInBounds_toArray, List.set_cons_zero, List.set_cons_succ]
    refine wpAnyH_all (rs := [12]) (by kernel_rfl) (by simp) ?_
    intro i hi
    obtain rfl : i = 12 := by simpa using hi
    unfold wpOp
    go_simp
    first | refine Or.inl ⟨hS7, ?_⟩ | refine ⟨hS7, ?_⟩ | (change wpAnyH _ _ _ _ _ _ _ _ _) | refine Or.inl ?_
    refine wpAnyH_done (by kernel_rfl) ?_ _
    go_end0
    exact ⟨rfl, q1, _, ga, gc, HR7.out.toAt (by omega) HD.out.symm (by rw [HPP.out]; exact HPN.out) (by rw [HPP.out]; have h := HX7.out; rw [← HGA.out] at h; exact h) (by rw [HPP.out, HGA.out]; exact HFG.out), fun _ => HB7.out, fun e => absurd e HNE.out, HK7.out⟩
  · unfold wpOp
    go_simp
    refine Or.inl (CM.out.mono ?_)
    rintro e V ⟨rfl, rfl⟩
    refine ⟨anyZ _, ?_⟩
    refine wpAnyH_all (rs := [4]) (by kernel_rfl) (by simp) ?_
    intro i hi
    obtain rfl : i = 4 := by simpa using hi
    unfold wpOp
    go_simp
    first | refine Or.inl ⟨(anyZ _), ?_⟩ | refine ⟨(anyZ _), ?_⟩ | (change wpAnyH _ _ _ _ _ _ _ _ _) | refine Or.inl ?_
    refine takeZ (i := 8) (d := 13) (v := .int .i64 M) rfl rfl (by kernel_rfl) (by kernel_rfl) (by kernel_rfl) (fun _ _ _ h => h) (Or.inl ⟨by rfl, fun W hW => ?_⟩) (anyZ _) ?_
    · (go_simp; first | exact HEW.out | (rw [HE2.out]) | (rw [HE2.out, IntKind.wrap_i64]; omega))
    simp only [Act.put, List.setIfInBounds_toArray, List.set_cons_zero, List.set_cons_succ]
    refine takeZ (i := 9) (d := 14) (v := .pointer (some ⟨cb, 0, none⟩)) rfl rfl (by kernel_rfl) (by kernel_rfl) (by kernel_rfl) (fun _ _ _ h => h) (Or.inl ⟨by rfl, fun W hW => ?_⟩) (anyZ _) ?_
    · (go_simp)
    simp only [Act.put, List.setIfInBounds_toArray, List.set_cons_zero, List.set_cons_succ]
    refine takeZ (i := 10) (d := 15) (v := .pointer (some ⟨cb, 0, none⟩)) rfl rfl (by kernel_rfl) (by kernel_rfl) (by kernel_rfl) (fun _ _ _ h => h) (Or.inl ⟨by rfl, fun W hW => ?_⟩) (anyZ _) ?_
    · (go_simp)
    simp only [Act.put, List.setIfInBounds_toArray, List.set_cons_zero, List.set_cons_succ]
    refine takeZ (i := 11) (d := 16) (v := .pointer (some ⟨cb, 2, none⟩)) rfl rfl (by kernel_rfl) (by kernel_rfl) (by kernel_rfl) (fun _ _ _ h => h) (Or.inl ⟨by rfl, fun W hW => ?_⟩) (anyZ _) ?_
    · (go_simp)
    simp only [Act.put, List.setIfInBounds_toArray, List.set_cons_zero, List.set_cons_succ]
    refine wpAnyH_all (rs := [12]) (by kernel_rfl) (by simp) ?_
    intro i hi
    obtain rfl : i = 12 := by simpa using hi
    unfold wpOp
    go_simp
    first | refine Or.inl ⟨(anyZ _), ?_⟩ | refine ⟨(anyZ _), ?_⟩ | (change wpAnyH _ _ _ _ _ _ _ _ _) | refine Or.inl ?_
    refine wpAnyH_done (by kernel_rfl) ?_ _
    generalize V.setCell ⟨cb, 2, none⟩ (.int .i64 (M : Int)) = V1 at *
    have p0 := HR1.out.cell 0
    have p7 := HR1.out.cell 7
    have f0 := HR1.out.frozen 0
    have f7 := HR1.out.frozen 7
    simp only [List.getElem?_toArray, List.getElem?_cons_zero, List.getElem?_cons_succ] at p0 p7
    have HR2 := hideP ((HR1.out.set 0 (.int .i64 (q : Int))).set 7 (.bool false))
    simp only [List.setIfInBounds_toArray, List.set_cons_zero, List.set_cons_succ] at HR2
    have HK2 := hideP (HK1.out.trans ((Kept.setCell V1 ⟨cb, 0, none⟩ (.int .i64 (q : Int))).trans (Kept.setCell (V1.setCell ⟨cb, 0, none⟩ (.int .i64 (q : Int))) ⟨cb, 7, none⟩ (.bool false)) (fun _ h => .inl h)) (fun _ h => .inl h))
    have HB2 := hideP (HB.out.keptB HK2.out)
    clear HB HR1 HK1 CM HP q2 f2
    go_wp2_with (go_at_call 17; refine StpQ.go ?_)
    refine ⟨?_⟩
    generalize (V1.setCell ⟨cb, 0, none⟩ (.int .i64 (q : Int))).setCell ⟨cb, 7, none⟩ (.bool false) = V2 at *
    clear p0 p7 f0 f7
    refine (cdocsR_any V2 HR2.out).mono ?_
    rintro e V3 ⟨rfl, rfl⟩
    by_cases hqn : q = P.length
    · have e2 : ((q : Int) == ((P.length : Nat) : Int)) = true := by rw [beq_iff_eq]; omega
      have p1 := HR2.out.cell 1
      have p5 := HR2.out.cell 5
      have p6 := HR2.out.cell 6
      have f1 := HR2.out.frozen 1
      have f5 := HR2.out.frozen 5
      have f6 := HR2.out.frozen 6
      simp only [List.getElem?_toArray, List.getElem?_cons_zero, List.getElem?_cons_succ] at p1 p5 p6
      have HR3 := hideP (((HR2.out.set 1 (.int .i64 2147483647)).set 6 (.slice none 0 0)).set 5 (.slice none 0 0))
      simp only [List.setIfInBounds_toArray, List.set_cons_zero, List.set_cons_succ] at HR3
      have HK3 := hideP (HK2.out.trans (((Kept.setCell V3 ⟨cb, 1, none⟩ (.int .i64 2147483647)).trans (Kept.setCell _ ⟨cb, 6, none⟩ (.slice none 0 0)) (fun _ h => .inl h)).trans (Kept.setCell _ ⟨cb, 5, none⟩ (.slice none 0 0)) (fun _ h => .inl h)) (fun _ h => .inl h))
      have HQN := hideP hqn
      clear HR2 HK2 HB2 hqn hg hl hE hu hq hmv hln hM hM2
      have hd := hideP (docU_end P)
      have hp := hideP (posU_end P)
      rw [← HQN.out] at hd hp
      go_wp2
      (try simp only [Exit.inBlock, Exit.then])
      refine bodyPost_ret (results_none rfl _ _ _) rfl ?_
      exact ⟨rfl, nb, .slice none 0 0, none, 0, HR3.out.toAt (by omega) hd.out.symm (by rw [hp.out]; rfl) (by rw [hp.out]; exact fun e => (e rfl).elim) (by rw [hp.out]; exact fun e => (e rfl).elim), fun h => absurd HQN.out (by omega), fun _ => rfl, HK3.out⟩
    have hlt : q < P.length := by omega
    have e2 : ((q : Int) == ((P.length : Nat) : Int)) = false := by rw [beq_eq_false_iff_ne]; omega
    obtain ⟨q1, hq1⟩ : ∃ q1, q1 = q / 16 := ⟨_, rfl⟩
    obtain ⟨q2, hq2⟩ : ∃ q2, q2 = q % 16 := ⟨_, rfl⟩
    have t2 : (q : Int).tdiv 16 = (q1 : Int) := by rw [Int.tdiv_eq_ediv_of_nonneg (by omega)]; omega
    have t3 : (q : Int).tmod 16 = (q2 : Int) := by rw [Int.tmod_eq_emod_of_nonneg (by omega)]; omega
    have s2 : (q : Int) / 16 = (q1 : Int) := by omega
    have s3 : (q : Int) % 16 = (q2 : Int) := by omega
    have hk1 : q1 < nbp P.length := by unfold nbp; omega
    have CR := hideP (creadBlock_any V3 q1 ad HR2.out HB2.out hk1 hg hl (hE.kept HR2.out.kept))
    have HLT := hideP hlt
    have HG := hideP hg
    have b1 : q1 ≤ 1099511627776 := by omega
    have b2 : q2 < 16 := by omega
    have HQ1 := hideP hq1
    have HQ2 := hideP hq2
    clear hq1 hq2 hlt hqn HR2 HB2 hg hl hE hu hq hmv hln hM hM2 hk1
    go_wp2_with (go_at_call 54; refine StpQ.go ?_)
    refine ⟨?_⟩
    refine CR.out.mono ?_
    clear CR
    rintro e V4 ⟨rfl, bv4, hR4, hB4, k4⟩
    obtain ⟨FL, a4, c4, hbv, hFL, hPs, hFar⟩ := hB4 q1 rfl
    subst hbv
    obtain ⟨hl4, hat⟩ := blk_here P FL q q1 q2 hFL HLT.out HQ1.out HQ2.out
    obtain ⟨b4, off4, ha4, hcl⟩ := hPs (fun e => by rw [e] at hl4; exact absurd hl4 (by simp))
    obtain ⟨x0, x1, x2⟩ := hcl q2 hl4
    obtain ⟨g, hgg⟩ : ∃ g, g = FL[q2] := ⟨_, rfl⟩
    have hfg := hFar.1 g (by rw [hgg]; exact List.getElem_mem hl4)
    rw [← hgg] at x0 x1 x2 hat
    have hd := docU_at P q g hat
    have hp := posU_at P q g hat
    have HNE : Hid (posU P (q + 1) ≠ []) := hideP (by rw [hp]; exact (gdl_pos HG.out g.po (List.mem_of_getElem? hat)).1)
    have HX2 := hideP x2
    have HFG := hideP hfg
    have HD := hideP hd
    have HPP := hideP hp
    have HR4 := hideP hR4
    have HB4 := hideP hB4
    have HK4 := hideP (HK2.out.trans k4 (fun _ h => .inl h))
    have p5 := hR4.cell 5
    simp only [List.getElem?_toArray, List.getElem?_cons_zero, List.getElem?_cons_succ] at p5
    clear hR4 hB4 hFL hPs hFar hcl hgg hfg hat hd hp x2 k4 HK2
    subst ha4
    have hq2l : (q2 : Int) < (FL.length : Int) := by omega
    generalize FL.length = fl at *
    obtain ⟨d, hd⟩ : ∃ d, d = g.d := ⟨_, rfl⟩
    obtain ⟨pn, hpn⟩ : ∃ pn, pn = g.ps.length := ⟨_, rfl⟩
    obtain ⟨ga, hga⟩ : ∃ ga, ga = g.a := ⟨_, rfl⟩
    obtain ⟨gc, hgc⟩ : ∃ gc, gc = g.c := ⟨_, rfl⟩
    rw [← hd] at x0 HD
    rw [← hpn, ← hga, ← hgc] at x1
    have HPN := hideP hpn
    have HGA := hideP hga
    clear hd hpn hga hgc
    have HRh := hideP (HR4.out.later (Kept.alloc V4 (.cells #[.int .i64 d, .slice ga pn gc] 42)))
    have HKh := hideP (HK4.out.trans (Kept.alloc V4 (.cells #[.int .i64 d, .slice ga pn gc] 42)) (fun _ f => f.elim))
    have gh := heap_alloc_new V4 (.cells #[.int .i64 d, .slice ga pn gc] 42)
    have HX5 := hideP (HX2.out.kept (Kept.alloc V4 (.cells #[.int .i64 d, .slice ga pn gc] 42)))
    have HB5 := hideP (HB4.out.keptB ((Kept.alloc V4 (.cells #[.int .i64 d, .slice ga pn gc] 42)).mono (fun _ f => f.elim)))
    have hne : V4.heap.size ≠ cb := Nat.ne_of_gt HR4.out.lt
    go_wp2_with fail
    generalize V4.heap.size = hb at *
    generalize V4.alloc (.cells #[.int .i64 d, .slice ga pn gc] 42) = V5 at *
    have hS5 : Sh hb d ga pn gc V5.drew := (Sh.of_row gh).kept ((Kept.drew V5).mono (fun _ f => f.elim)) hne
    have HR6 := hideP HRh.out.drew
    have HK6 := hideP (HKh.out.trans (Kept.drew V5) (fun _ f => f.elim))
    have HX6 := hideP (HX5.out.kept (Kept.drew V5))
    have HB6 := hideP (HB5.out.keptB ((Kept.drew V5).mono (fun _ f => f.elim)))
    clear HR4 HK4 HB4 HX2 HRh HKh HX5 HB5 gh x0 x1 p5
    refine wp_region_held (S := Sh hb d ga pn gc) (by kernel_rfl) ?_
    change wpAnyH _ _ _ _ _ _ _ _ (World.drew _)
    generalize V5.drew = V6 at *
    have p1 := HR6.out.cell 1
    have p6 := HR6.out.cell 6
    have f1 := HR6.out.frozen 1
    have f6 := HR6.out.frozen 6
    simp only [List.getElem?_toArray, List.getElem?_cons_zero, List.getElem?_cons_succ] at p1 p6
    have HR7 := hideP ((HR6.out.set 1 (.int .i64 d)).set 6 (.slice ga pn gc))
    simp only [List.setIfInBounds_toArray, List.set_cons_zero, List.set_cons_succ] at HR7
    have ks1 := Kept.setCell V6 ⟨cb, 1, none⟩ (.int .i64 d)
    have ks2 := ks1.trans (Kept.setCell (V6.setCell ⟨cb, 1, none⟩ (.int .i64 d)) ⟨cb, 6, none⟩ (.slice ga pn gc)) (fun _ h => .inl h)
    have hS6 := hS5.kept ks1 hne
    have hS7 := hS5.kept ks2 hne
    have HK7 := hideP (HK6.out.trans ks2 (fun _ h => .inl h))
    have HB7 := hideP (HB6.out.keptB ks2)
    have HX7 := hideP (ints_step HX6.out ks2 (fun hn => far_ne (HFG.out hn)))
    clear HR6 HK6 HB6 HX6 ks1 ks2
    refine takeZ (i := 0) (d := 51) (v := .pointer (some ⟨cb, 0, none⟩)) rfl rfl (by kernel_rfl) (by kernel_rfl) (by kernel_rfl) (fun _ _ _ h => h) (Or.inl ⟨by rfl, fun W hW => ?_⟩) hS5 ?_
    · (go_simp)
    simp only [Act.put, List.setIfInBounds_toArray, List.set_cons_zero, List.set_cons_succ]
    refine takeZ (i := 1) (d := 52) (v := .pointer (some ⟨cb, 0, none⟩)) rfl rfl (by kernel_rfl) (by kernel_rfl) (by kernel_rfl) (fun _ _ _ h => h) (Or.inl ⟨by rfl, fun W hW => ?_⟩) hS5 ?_
    · (go_simp)
    simp only [Act.put, List.setIfInBounds_toArray, List.set_cons_zero, List.set_cons_succ]
    refine takeZ (i := 2) (d := 53) (v := .pointer (some ⟨hb, 0, none⟩)) rfl rfl (by kernel_rfl) (by kernel_rfl) (by kernel_rfl) (fun _ _ _ h => h) (Or.inl ⟨by rfl, fun W hW => ?_⟩) hS5 ?_
    · (go_simp)
    simp only [Act.put, List.setIfInBounds_toArray, List.set_cons_zero, List.set_cons_succ]
    refine takeZ (i := 3) (d := 54) (v := .int .i64 d) rfl rfl (by kernel_rfl) (by kernel_rfl) (by kernel_rfl) (fun _ _ _ h => h) (Or.inl ⟨by rfl, fun W hW => ?_⟩) hS5 ?_
    · (obtain ⟨h0, h1⟩ := hW; go_simp)
    simp only [Act.put, List.setIfInBounds_toArray, List.set_cons_zero, List.set_cons_succ]
    refine takeZ (i := 4) (d := 55) (v := .pointer (some ⟨hb, 1, none⟩)) rfl rfl (by kernel_rfl) (by kernel_rfl) (by kernel_rfl) (fun _ _ _ h => h) (Or.inl ⟨by rfl, fun W hW => ?_⟩) hS5 ?_
    · (go_simp)
    simp only [Act.put, List.setIfInBounds_toArray, List.set_cons_zero, List.set_cons_succ]
    refine takeZ (i := 5) (d := 56) (v := .slice ga pn gc) rfl rfl (by kernel_rfl) (by kernel_rfl) (by kernel_rfl) (fun _ _ _ h => h) (Or.inl ⟨by rfl, fun W hW => ?_⟩) hS5 ?_
    · (obtain ⟨h0, h1⟩ := hW; go_simp)
    simp only [Act.put, List.setIfInBounds_toArray, List.set_cons_zero, List.set_cons_succ]
    refine takeZ (i := 6) (d := 57) (v := .pointer (some ⟨cb, 0, none⟩)) rfl rfl (by kernel_rfl) (by kernel_rfl) (by kernel_rfl) (fun _ _ _ h => h) (Or.inl ⟨by rfl, fun W hW => ?_⟩) hS5 ?_
    · (go_simp)
    simp only [Act.put, List.setIfInBounds_toArray, List.set_cons_zero, List.set_cons_succ]
    refine takeZ (i := 7) (d := 58) (v := .pointer (some ⟨cb, 0, none⟩)) rfl rfl (by kernel_rfl) (by kernel_rfl) (by kernel_rfl) (fun _ _ _ h => h) (Or.inl ⟨by rfl, fun W hW => ?_⟩) hS5 ?_
    · (go_simp)
    simp only [Act.put, List.setIfInBounds_toArray, List.set_cons_zero, List.set_cons_succ]
    refine takeZ (i := 8) (d := 59) (v := .pointer (some ⟨cb, 1, none⟩)) rfl rfl (by kernel_rfl) (by kernel_rfl) (by kernel_rfl) (fun _ _ _ h => h) (Or.inl ⟨by rfl, fun W hW => ?_⟩) hS5 ?_
    · (go_simp)
    simp only [Act.put, List.setIfInBounds_toArray, List.set_cons_zero, List.set_cons_succ]
    refine wpAnyH_all (rs := [9]) (by kernel_rfl) (by simp) ?_
    intro i hi
    obtain rfl : i = 9 := by simpa using hi
    unfold wpOp
    go_simp
    first | refine Or.inl ⟨hS6, ?_⟩ | refine ⟨hS6, ?_⟩ | (change wpAnyH _ _ _ _ _ _ _ _ _) | refine Or.inl ?_
    refine takeZ (i := 10) (d := 60) (v := .pointer (some ⟨cb, 0, none⟩)) rfl rfl (by kernel_rfl) (by kernel_rfl) (by kernel_rfl) (fun _ _ _ h => h) (Or.inl ⟨by rfl, fun W hW => ?_⟩) hS6 ?_
    · (go_simp)
    simp only [Act.put, List.setIfInBounds_toArray, List.set_cons_zero, List.set_cons_succ]
    refine takeZ (i := 11) (d := 61) (v := .pointer (some ⟨cb, 6, none⟩)) rfl rfl (by kernel_rfl) (by kernel_rfl) (by kernel_rfl) (fun _ _ _ h => h) (Or.inl ⟨by rfl, fun W hW => ?_⟩) hS6 ?_
    · (go_simp)
    simp only [Act.put, List.setIfInBounds_toArray, List.set_cons_zero, List.set_cons_succ]
    refine wpAnyH_all (rs := [12]) (by kernel_rfl) (by simp) ?_
    intro i hi
    obtain rfl : i = 12 := by simpa using hi
    unfold wpOp
    go_simp
    first | refine Or.inl ⟨hS7, ?_⟩ | refine ⟨hS7, ?_⟩ | (change wpAnyH _ _ _ _ _ _ _ _ _) | refine Or.inl ?_
    refine wpAnyH_done (by kernel_rfl) ?_ _
    go_end0
    exact ⟨rfl, q1, _, ga, gc, HR7.out.toAt (by omega) HD.out.symm (by rw [HPP.out]; exact HPN.out) (by rw [HPP.out]; have h := HX7.out; rw [← HGA.out] at h; exact h) (by rw [HPP.out, HGA.out]; exact HFG.out), fun _ => HB7.out, fun e => absurd e HNE.out, HK7.out⟩
end Go.Proofs.YtbdhmibiggpomaaDoor

namespace Go.Proofs.YtbdhmibiggpomaaDoor
open Go.ChangeShapes Go.WideShapes Go.ChangeAt Go.RowKit

/-- A cursor at the place u - 1, with so many moves. -/
def CuS (W0 : Bs) (W : World) (cb bl : Nat) (P : List Po) (u mv : Nat) (ask : Bool) : Prop := ∃ (nb : Int) (bv : Value) (pa : Option Addr) (pc : Nat), CuAt W0 W cb bl P u mv nb bv pa pc ask ∧ (u ≤ P.length → BkOk W W0.lo cb P nb bv) ∧ (posU P u = [] → pa = none)
theorem CuS.later {W0 : Bs} {W W' : World} {cb bl : Nat} {P : List Po} {u mv : Nat} {ask : Bool} (h : CuS W0 W cb bl P u mv ask) (k : Kept (fun _ => False) W W') : CuS W0 W' cb bl P u mv ask := by
  obtain ⟨nb, bv, pa, pc, h, hb, hn⟩ := h
  exact ⟨nb, bv, pa, pc, h.later k, fun hu => (hb hu).keptB (k.mono (fun _ f => f.elim)), hn⟩
theorem mvU_next (n u : Nat) : mvU n u u = 1 := by simp [mvU]
set_option maxRecDepth 20000 in
set_option maxHeartbeats 4000000 in
theorem cnext_in {W0 : Bs} (W : World) {cb bl : Nat} {P : List Po} {u mv : Nat} {ask : Bool} (ad : Nat → Addr) (h : CuS W0 W cb bl P u mv ask) (hu : u ≤ P.length) (hmv : mv ≤ 2305843009213693952) (hln : P.length ≤ 1099511627776) (hg : gdl (-1) P) (hl : (img P).length ≤ 1073741824) (hE : ErQ W0.w ad) :
    Calls Tryd.prog 13 #[.pointer (some ⟨cb, 0, none⟩)] W fun e w' => e = .returned (.int .i64 (docU P (u + 1))) ∧ CuS W0 w' cb bl P (u + 1) (mv + 1) false ∧ Kept (fun i => i = cb) W w' := by
  obtain ⟨nb, bv, pa, pc, h, hb', hn⟩ := h
  have hb := hb' hu
  have CD : Hid (∀ k, Calls Tryd.prog 17 #[.pointer (some ⟨cb, 0, none⟩)] (W.drewN k) fun e w'' => e = .returned (.int .i64 ((P.length : Nat) : Int)) ∧ ∃ m, w'' = W.drewN m) := hideP (fun k => (cdocs_any (W.drewN k) (h.later (Kept.drewN W k))).mono (fun _ _ q => ⟨q.1, k, q.2⟩))
  have CG : Hid (∀ k, Calls Tryd.prog 34 #[.pointer (some ⟨cb, 0, none⟩), .int .i64 u] (W.drewN k) fun e w' => e = .returned (.tuple #[]) ∧ ∃ nb' bv' pa' pc', CuAt W0 w' cb bl P (u + 1) ((mv + mvU P.length u u : Nat) : Int) nb' bv' pa' pc' false ∧ (u < P.length → BkOk w' W0.lo cb P nb' bv') ∧ (posU P (u + 1) = [] → pa' = none) ∧ Kept (fun i => i = cb) (W.drewN k) w') := hideP (fun k => cgoTo_any (W.drewN k) u ad (h.later (Kept.drewN W k)) (hb.keptB ((Kept.drewN W k).mono (fun _ f => f.elim))) (Nat.le_refl _) hu hmv hln hg hl hE)
  obtain ⟨c0, -, -, -, -, -, -, -⟩ := h.cells
  have hlt : (u : Int) - 1 < ((P.length : Nat) : Int) := by omega
  have hub : u ≤ 1099511627776 := by omega
  clear h hb hb' hE hg hl hu hln hmv hn
  go_enter Tryd.func13, Tryd.ntmps13
  go_wp2_with fail
  go_quiet ((exact CD.out _))
  clear CD
  have c0' : (W.drewN nq).cell? ⟨cb, 0, none⟩ = some (.int .i64 ((u : Int) - 1)) := (Kept.drewN W nq).cell c0 (fun f => f)
  go_wp2_with (go_at_call 34; refine StpQ.go ?_)
  refine ⟨?_⟩
  refine (CG.out nq).mono ?_
  clear CG
  rintro e W2 ⟨rfl, nb', bv', pa', pc', h2, hb2, hn2, k2⟩
  obtain ⟨-, c1, -, -, -, -, -, -⟩ := h2.cells
  have HS : Hid (CuS W0 W2 cb bl P (u + 1) (mv + 1) false) := hideP ⟨nb', bv', pa', pc', by rw [mvU_next] at h2; exact h2, fun hh => hb2 (by omega), hn2⟩
  have HK := hideP (((Kept.drewN W nq).mono (G := fun i => i = cb) (fun _ f => f.elim)).trans k2 (fun _ h => .inl h))
  clear h2 hb2 hn2 k2
  go_wp2
  go_ret
  exact ⟨rfl, HS.out, HK.out⟩
set_option maxRecDepth 20000 in
set_option maxHeartbeats 4000000 in
theorem cnext_end {W0 : Bs} (W : World) {cb bl : Nat} {P : List Po} {u mv : Nat} {ask : Bool} (h : CuS W0 W cb bl P u mv ask) (hu : u = P.length + 1) (hln : P.length ≤ 1099511627776) :
    Calls Tryd.prog 13 #[.pointer (some ⟨cb, 0, none⟩)] W fun e w' => e = .returned (.int .i64 2147483647) ∧ CuS W0 w' cb bl P u mv ask ∧ Kept (fun _ => False) W w' := by
  have HS := hideP h
  obtain ⟨nb, bv, pa, pc, h, hb', hn⟩ := h
  have CD : Hid (∀ k, Calls Tryd.prog 17 #[.pointer (some ⟨cb, 0, none⟩)] (W.drewN k) fun e w'' => e = .returned (.int .i64 ((P.length : Nat) : Int)) ∧ ∃ m, w'' = W.drewN m) := hideP (fun k => (cdocs_any (W.drewN k) (h.later (Kept.drewN W k))).mono (fun _ _ q => ⟨q.1, k, q.2⟩))
  obtain ⟨c0, c1, -, -, -, -, -, -⟩ := h.cells
  have hlt : ¬ (u : Int) - 1 < ((P.length : Nat) : Int) := by omega
  have hub : u ≤ 1099511627777 := by omega
  rw [hu, docU_end] at c1
  clear h hb' hln hn hu
  go_enter Tryd.func13, Tryd.ntmps13
  go_wp2_with fail
  go_quiet ((exact CD.out _))
  clear CD
  have c1' : (W.drewN nq).cell? ⟨cb, 1, none⟩ = some (.int .i64 2147483647) := (Kept.drewN W nq).cell c1 (fun f => f)
  go_wp2
  go_ret
  exact ⟨rfl, HS.out.later (Kept.drewN W nq), Kept.drewN W nq⟩
end Go.Proofs.YtbdhmibiggpomaaDoor

namespace Go.Proofs.YtbdhmibiggpomaaDoor
open Go.ChangeShapes Go.WideShapes Go.ChangeAt Go.RowKit

theorem is_len (l : List Int) : (is l).length = l.length := List.length_map ..
theorem ints_cells {W : World} {b off : Nat} {l : List Int} (h : ∀ k, k < l.length → W.cell? ⟨b, off + k, none⟩ = some (.int .i64 (l[k]?.getD 0))) : ∀ j u, (is l)[j]? = some u → W.cell? ((⟨b, off, none⟩ : Addr).add j) = some u := by
  intro j u hu
  have hp : (⟨b, off, none⟩ : Addr).add j = ⟨b, off + j, none⟩ := by unfold Addr.add; split <;> simp_all
  rw [hp]
  have hj : j < l.length := by
    rcases Nat.lt_or_ge j l.length with q | q
    · exact q
    · rw [List.getElem?_eq_none (by rw [is_len]; exact q)] at hu; cases hu
  rw [h j hj, ← hu]
  simp [is, List.getElem?_eq_getElem hj]
/-- Numbers that a list owns. -/
theorem gro_intsC {w0 w : World} {g c n : Nat} {l : List Int} (h : Gro w0 w 3 1 (.slice (some ⟨g, 0, none⟩) n c) n (is l)) (hn : n = l.length) : IntsAt w (some ⟨g, 0, none⟩) l := by
  intro hne
  obtain ⟨g', e, _, hc⟩ := h.cell (by rw [hn]; exact List.length_pos_iff.2 hne)
  injection e with e
  injection e with e
  subst e
  refine ⟨g, 0, rfl, fun k hk => ?_⟩
  rw [Nat.zero_add]
  exact hc k _ (by simp [is, List.getElem?_eq_getElem hk])
/-- What slices.Clone of numbers leaves. -/
def clPost (W : World) (l : List Int) (e : Ending) (w' : World) : Prop := ∃ (a : Option Addr) (c : Nat), e = .returned (.slice a l.length c) ∧ IntsAt w' a l ∧ (l ≠ [] → ∃ g, a = some ⟨g, 0, none⟩ ∧ W.heap.size ≤ g) ∧ Kept (fun _ => False) W w'
set_option maxRecDepth 20000 in
set_option maxHeartbeats 4000000 in
theorem clone_ints (W : World) (pa : Option Addr) (pc : Nat) (l : List Int) (h : IntsAt W pa l) (h0 : l = [] → pa = none) (hl : l.length ≤ 1099511627776) :
    Calls Tryd.prog 35 #[.slice pa l.length pc] W (clPost W l) := by
  by_cases hne : l = []
  · have hpa := h0 hne
    subst hne hpa
    have qe : ∀ (w : World) (a : Option Addr) (n c n' c' : Nat), (binOp .eql 40 (.slice a n c) (.slice none n' c')).run Tryd.prog w = .ok (.bool a.isNone) w := fun w a n c n' c' => Lib.run_eql_slice_nil w _ _ a n c n' c' Tryd.underlying40
    go_enter Tryd.func35, Tryd.ntmps35
    go_wp2
    go_ret
    exact ⟨none, 0, rfl, fun e => (e rfl).elim, fun e => (e rfl).elim, Kept.refl _ _⟩
  · unfold clPost
    obtain ⟨b, off, rfl, hc⟩ := h hne
    have hp : 0 < l.length := List.length_pos_iff.2 hne
    obtain ⟨n, hn⟩ : ∃ n, n = l.length := ⟨_, rfl⟩
    have HC := hideP hc
    have HG := hideP (gro_empty W W 3 1 (Kept.refl _ _))
    rw [← hn] at hp hl ⊢
    have HN := hideP hn
    have qe : ∀ (w : World) (a : Option Addr) (n c n' c' : Nat), (binOp .eql 40 (.slice a n c) (.slice none n' c')).run Tryd.prog w = .ok (.bool a.isNone) w := fun w a n c n' c' => Lib.run_eql_slice_nil w _ _ a n c n' c' Tryd.underlying40
    clear h h0 hc hne hn
    go_enter Tryd.func35, Tryd.ntmps35
    go_wp2_with (at_builtin; refine StpQ.go ?_)
    refine ⟨?_⟩
    obtain ⟨i0, hi, hz0, hz1, hz2⟩ := info_partsP Tryd.infoI
    refine wpList_catX rfl (.tmp 5) (.tmp 6) 40 rfl 3 i0 (.int .i64 0) 1 8 Tryd.underlying40 hi hz0 hz1 hz2 rfl (by decide) _ 0 [] (is l) rfl HG ⟨b, off, none⟩ n pc rfl (by rw [is_len, ← HN.out]; omega) ?_ (is_one _) hp (by omega) (by unfold maxLen; omega) ?_
    · exact ints_cells (fun k hk => (Kept.alloc W (.cells #[] 3)).cell (HC.out k hk) (fun f => f))
    intro g c' W2 hG2 hS2
    have HG3 := hideP hG2.out
    have HS3 := hideP hS2.out
    simp only [Nat.zero_add, List.nil_append] at HG3
    simp only [Nat.zero_add]
    go_wp2
    go_ret
    refine ⟨some ⟨g, 0, none⟩, c', rfl, gro_intsC HG3.out HN.out, fun _ => ⟨g, rfl, ?_⟩, HG3.out.kept⟩
    exact (HG3.out.own.lt g rfl).1
/-- The cursor's positions. -/
def Sp (cb : Nat) (pa : Option Addr) (pn pc : Nat) (W : World) : Prop := W.cell? ⟨cb, 6, none⟩ = some (.slice pa pn pc)
/-- What Positions leaves. -/
def poPost (W0 : Bs) (W : World) (cb bl : Nat) (P : List Po) (u mv : Nat) (e : Ending) (w' : World) : Prop := ∃ (a : Option Addr) (c : Nat), e = .returned (.slice a (posU P u).length c) ∧ IntsAt w' a (posU P u) ∧ (posU P u ≠ [] → ∃ g, a = some ⟨g, 0, none⟩ ∧ W.heap.size ≤ g) ∧ CuS W0 w' cb bl P u mv true ∧ Kept (fun i => i = cb) W w'
set_option maxRecDepth 20000 in
set_option maxHeartbeats 4000000 in
theorem cpos_true {W0 : Bs} (W : World) {cb bl : Nat} {P : List Po} {u mv : Nat} (h : CuS W0 W cb bl P u mv true) (hl : (posU P u).length ≤ 1099511627776) :
    Calls Tryd.prog 16 #[.pointer (some ⟨cb, 0, none⟩)] W (poPost W0 W cb bl P u mv) := by
  unfold poPost
  have HS := hideP h
  obtain ⟨nb, bv, pa, pc, h, hb', hn⟩ := h
  have CC := hideP (clone_ints W pa pc (posU P u) h.pos hn hl)
  obtain ⟨-, -, -, -, -, -, c6, c7⟩ := h.cells
  clear h hb' hn hl
  obtain ⟨pn, hpn⟩ : ∃ pn, pn = (posU P u).length := ⟨_, rfl⟩
  rw [← hpn] at CC c6
  have HPN := hideP hpn
  clear hpn
  go_enter Tryd.func16, Tryd.ntmps16
  go_wp2_with (go_at_call 35; refine StpQ.go ?_)
  refine ⟨?_⟩
  refine CC.out.mono ?_
  clear CC
  rintro e W1 ⟨a, c, rfl, hi, hg, k1⟩
  have HI := hideP hi
  have HG := hideP hg
  have HK := hideP k1
  clear hi hg k1
  rw [← HPN.out]
  go_wp2
  go_ret
  exact ⟨a, c, by rw [HPN.out]; rfl, HI.out, HG.out, HS.out.later HK.out, HK.out.mono (fun _ f => f.elim)⟩
set_option maxRecDepth 20000 in
set_option maxHeartbeats 4000000 in
theorem cpos_false {W0 : Bs} (W : World) {cb bl : Nat} {P : List Po} {u mv : Nat} (h : CuS W0 W cb bl P u mv false) (hl : (posU P u).length ≤ 1099511627776) (hmv : mv ≤ 2305843009213693952) :
    Calls Tryd.prog 16 #[.pointer (some ⟨cb, 0, none⟩)] W (poPost W0 W cb bl P u (mv + (posU P u).length)) := by
  unfold poPost
  obtain ⟨nb, bv, pa, pc, h, hb', hn⟩ := h
  obtain ⟨pn, hpn⟩ : ∃ pn, pn = (posU P u).length := ⟨_, rfl⟩
  obtain ⟨M, hM⟩ : ∃ M : Nat, M = mv + (posU P u).length := ⟨_, rfl⟩
  rw [← hM]
  have HE2 : Hid ((mv : Int) + (pn : Int) = (M : Int)) := hideP (by omega)
  have HEW : Hid (IntKind.i64.wrap ((mv : Int) + (pn : Int)) = (M : Int)) := hideP (by rw [IntKind.wrap_i64]; omega)
  have hM2 : (M : Int) ≤ 4611686018427387904 := by omega
  have hR := h.raw.drew
  rw [← hpn] at hR
  have hS0 : Sp cb pa pn pc W.drew := by have := hR.cell 6; exact this
  have q2 := hR.cell 2
  have f2 := hR.frozen 2
  simp only [List.getElem?_toArray, List.getElem?_cons_zero, List.getElem?_cons_succ] at q2
  have hR1 := hR.set 2 (.int .i64 (M : Int))
  have f7 := hR1.frozen 7
  have q7 := hR1.cell 7
  have hS1 : Sp cb pa pn pc (W.drew.setCell ⟨cb, 2, none⟩ (.int .i64 (M : Int))) := by have := hR1.cell 6; exact this
  have hR2 := hR1.set 7 (.bool true)
  have p6 := hR2.cell 6
  simp only [List.setIfInBounds_toArray, List.set_cons_zero, List.set_cons_succ, List.getElem?_toArray, List.getElem?_cons_zero, List.getElem?_cons_succ] at hR2 q7 p6
  have ks := ((((Kept.drew W).mono (G := fun i => i = cb) (fun _ f => f.elim)).trans (Kept.setCell W.drew ⟨cb, 2, none⟩ (.int .i64 (M : Int))) (fun _ h => .inl h))).trans (Kept.setCell (W.drew.setCell ⟨cb, 2, none⟩ (.int .i64 (M : Int))) ⟨cb, 7, none⟩ (.bool true)) (fun _ h => .inl h)
  have hpos := ints_step h.pos ks (fun hn => far_ne (h.far hn))
  have CC := hideP (clone_ints _ pa pc (posU P u) hpos hn hl)
  have hR2' := hR2
  rw [hpn] at hR2'
  have HS : Hid (CuS W0 ((W.drew.setCell ⟨cb, 2, none⟩ (.int .i64 (M : Int))).setCell ⟨cb, 7, none⟩ (.bool true)) cb bl P u M true) := hideP ⟨nb, bv, pa, pc, hR2'.toAt rfl rfl rfl hpos h.far, fun hu => (hb' hu).keptB ks, hn⟩
  have HK := hideP ks
  obtain ⟨-, -, -, -, -, -, -, c7⟩ := h.cells
  rw [← hpn] at CC
  have HPN := hideP hpn
  clear h hb' hn hl hmv hpn hM hR hR1 hR2 hR2' ks hpos
  go_enter Tryd.func16, Tryd.ntmps16
  go_wp2_with fail
  refine wp_region_held (S := Sp cb pa pn pc) (by kernel_rfl) ?_
  change wpAnyH _ _ _ _ _ _ _ _ (World.drew _)
  generalize W.drew = V at *
  refine takeZ (i := 0) (d := 8) (v := .pointer (some ⟨cb, 0, none⟩)) rfl rfl (by kernel_rfl) (by kernel_rfl) (by kernel_rfl) (fun _ _ _ h => h) (Or.inl ⟨by rfl, fun W hW => ?_⟩) hS0 ?_
  · (go_simp)
  simp only [Act.put, List.setIfInBounds_toArray, List.set_cons_zero, List.set_cons_succ]
  refine takeZ (i := 1) (d := 9) (v := .pointer (some ⟨cb, 0, none⟩)) rfl rfl (by kernel_rfl) (by kernel_rfl) (by kernel_rfl) (fun _ _ _ h => h) (Or.inl ⟨by rfl, fun W hW => ?_⟩) hS0 ?_
  · (go_simp)
  simp only [Act.put, List.setIfInBounds_toArray, List.set_cons_zero, List.set_cons_succ]
  refine takeZ (i := 2) (d := 10) (v := .pointer (some ⟨cb, 0, none⟩)) rfl rfl (by kernel_rfl) (by kernel_rfl) (by kernel_rfl) (fun _ _ _ h => h) (Or.inl ⟨by rfl, fun W hW => ?_⟩) hS0 ?_
  · (go_simp)
  simp only [Act.put, List.setIfInBounds_toArray, List.set_cons_zero, List.set_cons_succ]
  refine takeZ (i := 3) (d := 11) (v := .pointer (some ⟨cb, 2, none⟩)) rfl rfl (by kernel_rfl) (by kernel_rfl) (by kernel_rfl) (fun _ _ _ h => h) (Or.inl ⟨by rfl, fun W hW => ?_⟩) hS0 ?_
  · (go_simp)
  simp only [Act.put, List.setIfInBounds_toArray, List.set_cons_zero, List.set_cons_succ]
  refine takeZ (i := 5) (d := 13) (v := .pointer (some ⟨cb, 0, none⟩)) rfl rfl (by kernel_rfl) (by kernel_rfl) (by kernel_rfl) (fun _ _ _ h => h) (Or.inl ⟨by rfl, fun W hW => ?_⟩) hS0 ?_
  · (go_simp)
  simp only [Act.put, List.setIfInBounds_toArray, List.set_cons_zero, List.set_cons_succ]
  refine takeZ (i := 6) (d := 14) (v := .pointer (some ⟨cb, 0, none⟩)) rfl rfl (by kernel_rfl) (by kernel_rfl) (by kernel_rfl) (fun _ _ _ h => h) (Or.inl ⟨by rfl, fun W hW => ?_⟩) hS0 ?_
  · (go_simp)
  simp only [Act.put, List.setIfInBounds_toArray, List.set_cons_zero, List.set_cons_succ]
  refine takeZ (i := 7) (d := 15) (v := .pointer (some ⟨cb, 6, none⟩)) rfl rfl (by kernel_rfl) (by kernel_rfl) (by kernel_rfl) (fun _ _ _ h => h) (Or.inl ⟨by rfl, fun W hW => ?_⟩) hS0 ?_
  · (go_simp)
  simp only [Act.put, List.setIfInBounds_toArray, List.set_cons_zero, List.set_cons_succ]
  refine takeZ (i := 8) (d := 16) (v := .slice pa pn pc) rfl rfl (by kernel_rfl) (by kernel_rfl) (by kernel_rfl) (fun _ _ _ h => h) (Or.inl ⟨by rfl, fun W hW => ?_⟩) hS0 ?_
  · (have h6 := hW; unfold Sp at h6; go_simp)
  simp only [Act.put, List.setIfInBounds_toArray, List.set_cons_zero, List.set_cons_succ]
  refine takeZ (i := 9) (d := 17) (v := .int .i64 pn) rfl rfl (by kernel_rfl) (by kernel_rfl) (by kernel_rfl) (fun _ _ _ h => h) (Or.inl ⟨by rfl, fun W hW => ?_⟩) hS0 ?_
  · (go_simp)
  simp only [Act.put, List.setIfInBounds_toArray, List.set_cons_zero, List.set_cons_succ]
  refine wpAnyH_all (rs := [4]) (by kernel_rfl) (by simp) ?_
  intro i hi
  obtain rfl : i = 4 := by simpa using hi
  unfold wpOp
  go_simp
  first | refine Or.inl ⟨hS0, ?_⟩ | refine ⟨hS0, ?_⟩ | (change wpAnyH _ _ _ _ _ _ _ _ _) | refine Or.inl ?_
  refine takeZ (i := 10) (d := 18) (v := .int .i64 M) rfl rfl (by kernel_rfl) (by kernel_rfl) (by kernel_rfl) (fun _ _ _ h => h) (Or.inl ⟨by rfl, fun W hW => ?_⟩) hS0 ?_
  · (go_simp; first | exact HEW.out | (rw [HE2.out]) | (rw [HE2.out, IntKind.wrap_i64]; omega))
  simp only [Act.put, List.setIfInBounds_toArray, List.set_cons_zero, List.set_cons_succ]
  refine takeZ (i := 11) (d := 19) (v := .pointer (some ⟨cb, 0, none⟩)) rfl rfl (by kernel_rfl) (by kernel_rfl) (by kernel_rfl) (fun _ _ _ h => h) (Or.inl ⟨by rfl, fun W hW => ?_⟩) hS0 ?_
  · (go_simp)
  simp only [Act.put, List.setIfInBounds_toArray, List.set_cons_zero, List.set_cons_succ]
  refine takeZ (i := 12) (d := 20) (v := .pointer (some ⟨cb, 0, none⟩)) rfl rfl (by kernel_rfl) (by kernel_rfl) (by kernel_rfl) (fun _ _ _ h => h) (Or.inl ⟨by rfl, fun W hW => ?_⟩) hS0 ?_
  · (go_simp)
  simp only [Act.put, List.setIfInBounds_toArray, List.set_cons_zero, List.set_cons_succ]
  refine takeZ (i := 13) (d := 21) (v := .pointer (some ⟨cb, 2, none⟩)) rfl rfl (by kernel_rfl) (by kernel_rfl) (by kernel_rfl) (fun _ _ _ h => h) (Or.inl ⟨by rfl, fun W hW => ?_⟩) hS0 ?_
  · (go_simp)
  simp only [Act.put, List.setIfInBounds_toArray, List.set_cons_zero, List.set_cons_succ]
  refine wpAnyH_all (rs := [14]) (by kernel_rfl) (by simp) ?_
  intro i hi
  obtain rfl : i = 14 := by simpa using hi
  unfold wpOp
  go_simp
  first | refine Or.inl ⟨hS1, ?_⟩ | refine ⟨hS1, ?_⟩ | (change wpAnyH _ _ _ _ _ _ _ _ _) | refine Or.inl ?_
  refine wpAnyH_done (by kernel_rfl) ?_ _
  go_wp2_with (go_at_call 35; refine StpQ.go ?_)
  refine ⟨?_⟩
  refine CC.out.mono ?_
  clear CC
  rintro e W1 ⟨a, c, rfl, hi, hg, k1⟩
  have HI := hideP hi
  have HG := hideP hg
  have HK1 := hideP k1
  clear hi hg k1
  rw [← HPN.out]
  go_wp2
  go_ret
  exact ⟨a, c, by rw [HPN.out]; rfl, HI.out, fun e => by
    obtain ⟨g, e1, e2⟩ := HG.out e
    exact ⟨g, e1, Nat.le_trans HK.out.size e2⟩, HS.out.later HK1.out, HK.out.trans HK1.out (fun _ f => f.elim)⟩
end Go.Proofs.YtbdhmibiggpomaaDoor

namespace Go.Proofs.YtbdhmibiggpomaaDoor
open Go.ChangeShapes Go.WideShapes Go.ChangeAt Go.RowKit

theorem le_lastd : ∀ (F : List Po) (b : Int), gdl b F → ∀ x ∈ F, x.d ≤ lastd b F
  | [], _, _, _, hx => by cases hx
  | p :: F, b, h, x, hx => by
    rw [lastd]
    rcases List.mem_cons.1 hx with rfl | hx
    · exact (gdl_last F x.d h.2).1
    · exact le_lastd F p.d h.2 x hx
theorem le_last_take {P : List Po} {b : Int} (h : gdl b P) {i j : Nat} (hi : i < P.length) (hij : i < j) : P[i].d ≤ lastd b (P.take j) := by
  have hl : i < (P.take j).length := by rw [List.length_take]; omega
  have e : (P.take j)[i]'hl = P[i] := List.getElem_take
  rw [← e]
  exact le_lastd _ _ (gdl_take h j) _ (List.getElem_mem hl)
theorem gdl_lt {P : List Po} {b : Int} (h : gdl b P) {i j : Nat} (hj : j < P.length) (hij : i < j) : (P[i]'(by omega)).d < P[j].d := by
  have h1 := le_last_take h (i := i) (j := j) (by omega) hij
  have h2 := (gdl_at hj h).up
  omega
/-- The first place whose document is t or greater. -/
def plc (P : List Po) (t : Int) : Nat := P.findIdx (fun p => decide (t ≤ p.d))
theorem plc_all {P : List Po} {t : Int} (h : ∀ i (hi : i < P.length), P[i].d < t) : plc P t = P.length := by
  unfold plc
  rw [List.findIdx_eq_length]
  intro x hx
  obtain ⟨i, hi, rfl⟩ := List.getElem_of_mem hx
  have := h i hi
  simp; omega
theorem plc_at {P : List Po} {t : Int} {q : Nat} (hq : q < P.length) (h1 : t ≤ P[q].d) (h2 : ∀ i (hi : i < P.length), i < q → P[i].d < t) : plc P t = q := by
  unfold plc
  rw [List.findIdx_eq hq]
  refine ⟨by simpa using h1, fun j hj => ?_⟩
  have := h2 j (by omega) hj
  simp; omega
theorem plc_ge {P : List Po} {t : Int} {u : Nat} (hu : u ≤ P.length) (h : ∀ i (hi : i < P.length), i < u → P[i].d < t) : u ≤ plc P t := by
  rcases Nat.lt_or_ge (plc P t) u with q | q
  · have hl : plc P t < P.length := by omega
    have h1 : decide (t ≤ (P[plc P t]'hl).d) = true := List.findIdx_getElem (w := hl)
    have h2 := h _ hl q
    have h3 := of_decide_eq_true h1
    omega
  · exact q
theorem plc_le (P : List Po) (t : Int) : plc P t ≤ P.length := List.findIdx_le_length
theorem blk_get {P : List Po} {FL : List Pg} {k : Nat} (h : pol FL = blN P k) {i : Nat} (hi : i < FL.length) : ∃ hl : 16 * k + i < P.length, P[16 * k + i] = (FL[i]).po := by
  have hlen : FL.length = (blN P k).length := by rw [← h, pol_len]
  have hlb : (blN P k).length ≤ 16 := by unfold blN; rw [List.length_take]; omega
  have hb : (blN P k)[i]? = P[16 * k + i]? := by
    unfold blN
    rw [List.getElem?_take, if_pos (by omega), List.getElem?_drop]
  have he : (blN P k)[i]? = some (FL[i]).po := by rw [← h]; simp [pol, List.getElem?_eq_getElem hi]
  rw [he] at hb
  obtain ⟨hl, e⟩ := List.getElem?_eq_some_iff.1 hb.symm
  exact ⟨hl, e⟩
theorem plc_blk {P : List Po} {FL : List Pg} {k j : Nat} {t : Int} (h : pol FL = blN P k) (hlow : ∀ i (hi : i < P.length), i < 16 * k → P[i].d < t) (hj : j < FL.length) (hge : t ≤ FL[j].d) (hlt : ∀ i (hi : i < FL.length), i < j → FL[i].d < t) : plc P t = 16 * k + j := by
  obtain ⟨hl, e⟩ := blk_get h hj
  refine plc_at hl (by rw [e]; exact hge) (fun i hi hij => ?_)
  by_cases h16 : i < 16 * k
  · exact hlow i hi h16
  · obtain ⟨m, rfl⟩ : ∃ m, i = 16 * k + m := ⟨i - 16 * k, by omega⟩
    obtain ⟨hl2, e2⟩ := blk_get h (i := m) (by omega)
    rw [e2]
    exact hlt m (by omega) (by omega)
theorem blk_last {P : List Po} {FL : List Pg} {k : Nat} {t b : Int} (h : pol FL = blN P k) (hk : k < nbp P.length) (ht : t ≤ bbN b P (k + 1)) : ∃ i, ∃ hi : i < FL.length, t ≤ FL[i].d := by
  have hlen : FL.length = (blN P k).length := by rw [← h, pol_len]
  have hpos : 0 < (blN P k).length := by
    unfold blN
    unfold nbp at hk
    rw [List.length_take, List.length_drop]; omega
  have hpl : (pol FL).length = FL.length := pol_len FL
  rw [bbN_succ, ← h, lastd_get (pol FL) _ (by omega)] at ht
  refine ⟨(pol FL).length - 1, by omega, ?_⟩
  simpa [pol, Pg.po] using ht
set_option maxRecDepth 20000 in
set_option maxHeartbeats 2000000 in
theorem placeOf1_any (d t : Int) (ga : Option Addr) (pn gc bx : Nat) (W : World) (hx : W.cell? ⟨bx, 0, none⟩ = some (.int .i64 t)) :
    Calls Tryd.prog 80 (#[.agg #[.int .i64 d, .slice ga pn gc]] ++ #[.pointer (some ⟨bx, 0, none⟩)]) W fun e w' => e = .returned (.bool (decide (t ≤ d))) ∧ Kept (fun _ => False) W w' := by
  have hx' := (Kept.alloc W (.cells #[.int .i64 d, .slice ga pn gc] 42)).cell hx (fun f => f)
  have HK := hideP (Kept.alloc W (.cells #[.int .i64 d, .slice ga pn gc] 42))
  simp only [List.append_toArray, List.cons_append, List.nil_append]
  go_enter Tryd.func80, Tryd.ntmps80
  go_wp2
  go_ret
  exact ⟨rfl, HK.out⟩
/-- What slices.IndexFunc leaves. -/
def ixPost (W : World) (FL : List Pg) (t : Int) (e : Ending) (w' : World) : Prop := ∃ j : Nat, e = .returned (.int .i64 j) ∧ (∃ hj : j < FL.length, t ≤ FL[j].d) ∧ (∀ i (hi : i < FL.length), i < j → FL[i].d < t) ∧ Kept (fun _ => False) W w'
set_option maxRecDepth 20000 in
set_option maxHeartbeats 4000000 in
theorem indexFunc_any (FL : List Pg) (a : Option Addr) (c bx : Nat) (t : Int) (W : World) (hP : PsAt W a FL) (hx : W.cell? ⟨bx, 0, none⟩ = some (.int .i64 t)) (hl : FL.length ≤ 1099511627776) (hex : ∃ i, ∃ hi : i < FL.length, t ≤ FL[i].d) :
    Calls Tryd.prog 79 #[.slice a FL.length c, .func (.func 80) #[] #[.pointer (some ⟨bx, 0, none⟩)]] W (ixPost W FL t) := by
  have HP := hideP hP
  have HX := hideP hx
  have HE := hideP hex
  obtain ⟨n, hn⟩ : ∃ n, n = FL.length := ⟨_, rfl⟩
  have HN := hideP hn
  rw [← hn] at hl ⊢
  clear hP hx hex hn
  go_enter Tryd.func79, Tryd.ntmps79
  go_wp2
  go_loopw [8] (fun s8 wr => ∃ k : Nat, k ≤ n ∧ s8 = .int .i64 k ∧ Hid (∀ i (hi : i < FL.length), i < k → FL[i].d < t) ∧ Hid (Kept (fun _ => False) W wr)) (fun s8 _ => n - (intOf s8).toNat)
  case atStart => exact ⟨0, by omega, rfl, hideP (fun i _ h => by omega), hideP (Kept.refl _ _)⟩
  case round =>
    obtain ⟨k, hk, rfl, HL, HK⟩ := hrel
    by_cases hlt : k < n
    · have hkl : k < FL.length := by rw [← HN.out]; exact hlt
      obtain ⟨b, off, rfl, hc⟩ := HP.out (by intro e; rw [e] at hkl; simp at hkl)
      obtain ⟨x0, x1, -⟩ := hc k hkl
      have y0 := HK.out.cell x0 (fun f => f)
      have y1 := HK.out.cell x1 (fun f => f)
      obtain ⟨g, hg⟩ : ∃ g, g = FL[k] := ⟨_, rfl⟩
      rw [← hg] at y0 y1
      have CL := hideP (placeOf1_any g.d t g.a g.ps.length g.c bx wr (HK.out.cell HX.out (fun f => f)))
      simp only [List.append_toArray, List.cons_append, List.nil_append] at CL
      have HG := hideP hg
      have hkk : (k : Int) < (n : Int) := by omega
      clear x0 x1 hc hg
      generalize g.a = ga at *
      generalize g.ps.length = gn at *
      generalize g.c = gc at *
      by_cases hd : t ≤ g.d
      · have hdd : decide (t ≤ g.d) = true := decide_eq_true hd
        rw [hdd] at CL
        have HD := hideP hd
        clear hd hdd
        generalize hgd : g.d = gd at *
        have HGD := hideP hgd
        clear hgd
        go_wp2_with (go_at_call 80; refine CL.out.mono ?_; clear CL; rintro e W2 ⟨rfl, k2⟩; have HK2 := hideP (HK.out.trans k2 (fun _ f => f.elim)); clear k2)
        go_ret
        exact ⟨k, rfl, ⟨hkl, by rw [← HG.out, HGD.out]; exact HD.out⟩, HL.out, HK2.out⟩
      · have hdd : decide (t ≤ g.d) = false := decide_eq_false hd
        rw [hdd] at CL
        have HD : Hid (g.d < t) := hideP (by omega)
        clear hd hdd
        generalize hgd : g.d = gd at *
        have HGD := hideP hgd
        clear hgd
        go_wp2_with (go_at_call 80; refine CL.out.mono ?_; clear CL; rintro e W2 ⟨rfl, k2⟩; have HK2 := hideP (HK.out.trans k2 (fun _ f => f.elim)); clear k2)
        go_roundw
        case rel => exact ⟨k + 1, by omega, by go_num, hideP (fun i hi h => by
          rcases Nat.lt_or_ge i k with q | q
          · exact HL.out i hi q
          · obtain rfl : i = k := by omega
            rw [← HG.out, HGD.out]
            exact HD.out), HK2⟩
        case measure => simp [intOf]; omega
    · exfalso
      obtain ⟨i, hi, hti⟩ := HE.out
      have := HL.out i hi (by rw [← HN.out] at hi; omega)
      omega
end Go.Proofs.YtbdhmibiggpomaaDoor

namespace Go.Proofs.YtbdhmibiggpomaaDoor
open Go.ChangeShapes Go.WideShapes Go.ChangeAt Go.RowKit

theorem docU_in {P : List Po} {u : Nat} (hu : u < P.length) : docU P (u + 1) = P[u].d := by simp [docU, List.getElem?_eq_getElem hu]
theorem below_doc {P : List Po} {t : Int} {u : Nat} (hg : gdl (-1) P) (hu : u ≤ P.length) (hd : docU P u < t) : ∀ i (hi : i < P.length), i < u → P[i].d < t := by
  intro i hi hiu
  obtain ⟨q, rfl⟩ : ∃ q, u = q + 1 := ⟨u - 1, by omega⟩
  rw [docU_in (by omega)] at hd
  rcases Nat.lt_or_ge i q with h | h
  · have := gdl_lt hg (i := i) (j := q) (by omega) h
    omega
  · obtain rfl : i = q := by omega
    exact hd
set_option maxRecDepth 20000 in
set_option maxHeartbeats 8000000 in
theorem cplaceOf_any {W0 : Bs} (W : World) {cb bl : Nat} {P : List Po} {u mv : Nat} {ask : Bool} (t : Int) (ad : Nat → Addr) (h : CuS W0 W cb bl P u mv ask) (hu : u ≤ P.length) (hd : docU P u < t) (hln : P.length ≤ 1099511627776) (hg : gdl (-1) P) (hl : (img P).length ≤ 1073741824) (hE : ErQ W0.w ad) :
    Calls Tryd.prog 49 #[.pointer (some ⟨cb, 0, none⟩), .int .i64 t] W fun e w' => e = .returned (.int .i64 (plc P t : Nat)) ∧ CuS W0 w' cb bl P u mv ask ∧ Kept (fun i => i = cb) W w' := by
  obtain ⟨nb, bv, pa, pc, h, hb', hn⟩ := h
  have hb := hb' hu
  have hlow0 := below_doc hg hu hd
  have HH := hideP h
  have HB := hideP hb
  have HNN := hideP hn
  have hcb : cb < W.heap.size := h.raw.lt
  have HX : Hid ((W.alloc (.cells #[.int .i64 t] 3)).cell? ⟨W.heap.size, 0, none⟩ = some (.int .i64 t)) := hideP (by simp)
  have HK1 := hideP (Kept.alloc W (.cells #[.int .i64 t] 3))
  have c0 := (h.later (Kept.alloc W (.cells #[.int .i64 t] 3))).cells.1
  obtain ⟨k0, hk0⟩ : ∃ k0, k0 = u / 16 := ⟨_, rfl⟩
  have s0 : (u : Int) / 16 = (k0 : Int) := by omega
  have t0 : (u : Int).tdiv 16 = (k0 : Int) := by rw [Int.tdiv_eq_ediv_of_nonneg (by omega)]; omega
  have hk0b : k0 ≤ 1099511627776 := by omega
  have hub : u ≤ 1099511627776 := by omega
  have hkn : k0 ≤ nbp P.length := by unfold nbp; omega
  have HLOW : Hid (∀ i (hi : i < P.length), i < 16 * k0 → P[i].d < t) := hideP (fun i hi h16 => hlow0 i hi (by omega))
  have HGD := hideP hg
  have HIL := hideP hl
  have HER := hideP hE
  have hbx : W.heap.size ≠ cb := Nat.ne_of_gt hcb
  obtain ⟨nbn, hnbn⟩ : ∃ nbn, nbn = nbp P.length := ⟨_, rfl⟩
  have hnb2 : nbn ≤ 1099511627776 := by rw [hnbn]; unfold nbp; omega
  rw [← hnbn] at hkn
  have HNB := hideP hnbn
  clear h hb hb' hn hd hlow0 hg hl hE hk0 hcb hu hnbn hln
  go_enter Tryd.func49, Tryd.ntmps49
  go_wp2
  generalize W.heap.size = bx at *
  generalize W.alloc (.cells #[.int .i64 t] 3) = W1 at *
  clear s0 t0 c0
  go_loopw [5] (fun s5 wr => ∃ k : Nat, k ≤ nbn ∧ s5 = .int .i64 k ∧ Hid (∀ i (hi : i < P.length), i < 16 * k → P[i].d < t) ∧ Hid (Kept (fun _ => False) W1 wr)) (fun s5 _ => nbn - (intOf s5).toNat)
  case atStart => exact ⟨k0, hkn, rfl, HLOW, hideP (Kept.refl _ _)⟩
  case round =>
    obtain ⟨k, hk, rfl, HLk, HKk⟩ := hrel
    have hA := HH.out.later (HK1.out.trans HKk.out (fun _ f => f.elim))
    have CB := hideP (blocks_of bl P wr hA.opn)
    rw [← HNB.out] at CB
    have c3 := hA.cells.2.2.2.1
    by_cases hlt : k < nbn
    · have CS := hideP (skip_in bl P k wr hA.opn (by rw [← HNB.out]; exact hlt))
      obtain ⟨Lb, hLb⟩ : ∃ Lb, Lb = bbN (-1) P (k + 1) := ⟨_, rfl⟩
      rw [← hLb] at CS
      generalize ((blN P k).length : Nat) = y1 at CS
      generalize (atN P k : Nat) = y2 at CS
      generalize ((blk (bbN (-1) P k) (blN P k)).length : Nat) = y3 at CS
      have HLB := hideP hLb
      have HA := hideP hA
      have hkk : (k : Int) < (nbn : Int) := by omega
      clear hA hLb
      unfold skV at CS
      go_wp2_with (first
        | (go_at_call 21; refine CB.out.mono ?_; clear CB; rintro e W2 ⟨rfl, rfl⟩)
        | (go_at_call 78; refine StpQ.go ?_))
      refine ⟨?_⟩
      refine CS.out.mono ?_
      clear CS
      rintro e W2 ⟨rfl, k2⟩
      have HK2 := hideP (HKk.out.trans k2 (fun _ f => f.elim))
      have HK3 := hideP (HK2.out.trans (Kept.alloc W2 (.cells #[.int .i64 Lb, .int .i64 y1, .int .i64 y2, .int .i64 y3] 116)) (fun _ f => f.elim))
      have hx3 := HK3.out.cell HX.out (fun f => f)
      clear k2
      by_cases hL : Lb < t
      · have HLN : Hid (∀ i (hi : i < P.length), i < 16 * (k + 1) → P[i].d < t) := hideP (fun i hi h16 => by
          have h1 := le_last_take HGD.out hi h16
          have h2 := HLB.out
          unfold bbN at h2
          omega)
        go_wp2
        go_roundw
        case rel => exact ⟨k + 1, by omega, by go_num, HLN, HK3⟩
        case measure => simp [intOf]; omega
      · have HTL : Hid (t ≤ bbN (-1) P (k + 1)) := hideP (by rw [← HLB.out]; omega)
        go_wp2_with (go_at_call 54; refine StpQ.go ?_)
        refine ⟨?_⟩
        generalize W2.alloc (.cells #[.int .i64 Lb, .int .i64 y1, .int .i64 y2, .int .i64 y3] 116) = W3 at *
        have hkb : k < nbp P.length := by rw [← HNB.out]; exact hlt
        have hWK := HK1.out.trans HK3.out (fun _ f => f.elim)
        have hR3 := HH.out.raw.later hWK
        refine (creadBlock_any W3 k ad hR3 (HB.out.keptB (hWK.mono (fun _ f => f.elim))) hkb HGD.out HIL.out (HER.out.kept hR3.kept)).mono ?_
        rintro e W4 ⟨rfl, bv4, hR4, hB4, k4⟩
        obtain ⟨FL, a4, c4, hbv, hFL, hPs, hFar⟩ := hB4 k rfl
        subst hbv
        have hx4 := k4.cell hx3 hbx
        have hf16 : FL.length ≤ 16 := by rw [← pol_len, hFL]; unfold blN; rw [List.length_take]; omega
        have CI := hideP (indexFunc_any FL a4 c4 bx t W4 hPs hx4 (by omega) (blk_last hFL hkb HTL.out))
        have p5 := hR4.cell 5
        simp only [List.getElem?_toArray, List.getElem?_cons_zero, List.getElem?_cons_succ] at p5
        have hWK4 := (hWK.mono (G := fun i => i = cb) (fun _ f => f.elim)).trans k4 (fun _ h => .inl h)
        have HS : Hid (CuS W0 W4 cb bl P u mv ask) := hideP ⟨k, _, pa, pc, hR4.toAt rfl rfl rfl (ints_step HH.out.pos hWK4 (fun hn => far_ne (HH.out.far hn))) HH.out.far, fun _ => hB4, HNN.out⟩
        have HK4 := hideP hWK4
        have HFL := hideP hFL
        obtain ⟨fl, hfl⟩ : ∃ fl, fl = FL.length := ⟨_, rfl⟩
        rw [← hfl] at CI p5
        have HF16 := hideP hf16
        clear hR3 hR4 hB4 hFL hPs hFar hf16 hWK hWK4 hfl k4 hkb hx4 hx3 c3
        go_wp2_with (go_at_call 79; refine StpQ.go ?_)
        refine ⟨?_⟩
        refine CI.out.mono ?_
        clear CI
        rintro e W5 ⟨j, rfl, ⟨hj, hge⟩, hlt2, k5⟩
        have hq := plc_blk HFL.out HLk.out hj hge hlt2
        have HQ : Hid ((k : Int) * 16 + (j : Int) = ((plc P t : Nat) : Int)) := hideP (by omega)
        have hj16 : j ≤ 16 := by have := HF16.out; omega
        have HS5 := hideP (HS.out.later k5)
        have HK5 := hideP (HK4.out.trans k5 (fun _ f => f.elim))
        clear hq hge hlt2 k5 hj
        go_wp2
        go_ret
        exact ⟨by rw [← HQ.out]; rfl, HS5.out, HK5.out⟩
    · obtain rfl : k = nbn := by omega
      have CD := hideP (cdocs_any wr hA)
      have hq : plc P t = P.length := plc_all (fun i hi => HLk.out i hi (by have := HNB.out; unfold nbp at this; omega))
      have HQ : Hid (((P.length : Nat) : Int) = ((plc P t : Nat) : Int)) := hideP (by rw [hq])
      have hWK := HK1.out.trans HKk.out (fun _ f => f.elim)
      have HS : Hid (CuS W0 wr cb bl P u mv ask) := hideP ⟨nb, bv, pa, pc, hA, fun _ => HB.out.keptB (hWK.mono (fun _ f => f.elim)), HNN.out⟩
      have HK9 := hideP (hWK.mono (G := fun i => i = cb) (fun _ f => f.elim))
      clear hA hq hWK
      go_wp2_with (first
        | (go_at_call 21; refine CB.out.mono ?_; clear CB; rintro e W2 ⟨rfl, rfl⟩)
        | (go_at_call 17; refine CD.out.mono ?_; clear CD; rintro e W2 ⟨rfl, rfl⟩))
      go_ret
      exact ⟨by rw [← HQ.out]; rfl, HS.out, HK9.out⟩
set_option maxRecDepth 20000 in
set_option maxHeartbeats 8000000 in
theorem cadv_in {W0 : Bs} (W : World) {cb bl : Nat} {P : List Po} {u mv : Nat} {ask : Bool} (t : Int) (ad : Nat → Addr) (h : CuS W0 W cb bl P u mv ask) (hu : u ≤ P.length) (hd : docU P u < t) (hmv : mv ≤ 2305843009213693952) (hln : P.length ≤ 1099511627776) (hg : gdl (-1) P) (hl : (img P).length ≤ 1073741824) (hE : ErQ W0.w ad) :
    Calls Tryd.prog 31 #[.pointer (some ⟨cb, 0, none⟩), .int .i64 t] W fun e w' => e = .returned (.int .i64 (docU P (plc P t + 1))) ∧ CuS W0 w' cb bl P (plc P t + 1) (mv + mvU P.length u (plc P t)) false ∧ Kept (fun i => i = cb) W w' := by
  have CP : Hid (∀ k, Calls Tryd.prog 49 #[.pointer (some ⟨cb, 0, none⟩), .int .i64 t] (W.drewN k) fun e w' => e = .returned (.int .i64 (plc P t : Nat)) ∧ CuS W0 w' cb bl P u mv ask ∧ Kept (fun i => i = cb) (W.drewN k) w') := hideP (fun k => cplaceOf_any (W.drewN k) t ad (h.later (Kept.drewN W k)) hu hd hln hg hl hE)
  have hpu : u ≤ plc P t := plc_ge hu (below_doc hg hu hd)
  have hpl := plc_le P t
  have HG := hideP (fun (V : World) (hS : CuS W0 V cb bl P u mv ask) => (show Calls Tryd.prog 34 #[.pointer (some ⟨cb, 0, none⟩), .int .i64 (plc P t : Nat)] V fun e w' => e = .returned (.tuple #[]) ∧ CuS W0 w' cb bl P (plc P t + 1) (mv + mvU P.length u (plc P t)) false ∧ Kept (fun i => i = cb) V w' from by
    obtain ⟨nb, bv, pa, pc, h1, hb1, hn1⟩ := hS
    refine (cgoTo_any V (plc P t) ad h1 (hb1 hu) hpu hpl hmv hln hg hl hE).mono ?_
    rintro e w' ⟨he, nb', bv', pa', pc', h2, hb2, hn2, k2⟩
    exact ⟨he, ⟨nb', bv', pa', pc', h2, fun hh => hb2 (by omega), hn2⟩, k2⟩))
  obtain ⟨nb, bv, pa, pc, h, hb', hn⟩ := h
  have CD : Hid (∀ k, Calls Tryd.prog 17 #[.pointer (some ⟨cb, 0, none⟩)] (W.drewN k) fun e w'' => e = .returned (.int .i64 ((P.length : Nat) : Int)) ∧ ∃ m, w'' = W.drewN m) := hideP (fun k => (cdocs_any (W.drewN k) (h.later (Kept.drewN W k))).mono (fun _ _ q => ⟨q.1, k, q.2⟩))
  obtain ⟨c0, c1, -, -, -, -, -, -⟩ := h.cells
  have hlt : decide ((u : Int) - 1 < ((P.length : Nat) : Int)) = true := decide_eq_true (by omega)
  have hdd : decide (docU P u < t) = true := decide_eq_true hd
  have hub : u ≤ 1099511627776 := by omega
  clear h hb' hE hg hl hu hln hmv hn hpu hpl
  go_enter Tryd.func31, Tryd.ntmps31
  go_wp2_with fail
  go_quiet ((exact CD.out _))
  clear CD
  go_wp2_with (go_at_call 49; refine StpQ.go ?_)
  refine ⟨?_⟩
  refine (CP.out nq).mono ?_
  clear CP
  rintro e W2 ⟨rfl, hS2, k2⟩
  have HS2 := hideP hS2
  have HK2 := hideP (((Kept.drewN W nq).mono (G := fun i => i = cb) (fun _ f => f.elim)).trans k2 (fun _ h => .inl h))
  clear hS2 k2 c0 c1
  go_wp2_with (go_at_call 34; refine StpQ.go ?_)
  refine ⟨?_⟩
  refine (HG.out _ HS2.out).mono ?_
  clear HG HS2
  rintro e W3 ⟨rfl, hS3, k3⟩
  have HS3 := hideP hS3
  have HK3 := hideP (HK2.out.trans k3 (fun _ h => .inl h))
  obtain ⟨nb3, bv3, pa3, pc3, h3, -, -⟩ := hS3
  obtain ⟨-, d1, -, -, -, -, -, -⟩ := h3.cells
  clear h3 k3
  go_wp2
  go_ret
  exact ⟨rfl, HS3.out, HK3.out⟩
set_option maxRecDepth 20000 in
set_option maxHeartbeats 8000000 in
theorem cadv_no {W0 : Bs} (W : World) {cb bl : Nat} {P : List Po} {u mv : Nat} {ask : Bool} (t : Int) (h : CuS W0 W cb bl P u mv ask) (hln : P.length ≤ 1099511627776) (hu : u ≤ P.length + 1) (hno : ¬ docU P u < t ∨ u = P.length + 1) :
    Calls Tryd.prog 31 #[.pointer (some ⟨cb, 0, none⟩), .int .i64 t] W fun e w' => e = .returned (.int .i64 (docU P u)) ∧ CuS W0 w' cb bl P u mv ask ∧ Kept (fun _ => False) W w' := by
  have HS := hideP h
  obtain ⟨nb, bv, pa, pc, h, hb', hn⟩ := h
  have CD : Hid (∀ k, Calls Tryd.prog 17 #[.pointer (some ⟨cb, 0, none⟩)] (W.drewN k) fun e w'' => e = .returned (.int .i64 ((P.length : Nat) : Int)) ∧ ∃ m, w'' = W.drewN m) := hideP (fun k => (cdocs_any (W.drewN k) (h.later (Kept.drewN W k))).mono (fun _ _ q => ⟨q.1, k, q.2⟩))
  obtain ⟨c0, c1, -, -, -, -, -, -⟩ := h.cells
  have hub : u ≤ 1099511627777 := by omega
  by_cases hd : docU P u < t
  · have hdd : decide (docU P u < t) = true := decide_eq_true hd
    have hlt : decide ((u : Int) - 1 < ((P.length : Nat) : Int)) = false := decide_eq_false (by rcases hno with q | q <;> omega)
    clear h hb' hln hn hno hu
    go_enter Tryd.func31, Tryd.ntmps31
    go_wp2_with fail
    go_quiet ((exact CD.out _))
    clear CD
    have c1' := (Kept.drewN W nq).cell c1 (fun f => f)
    go_wp2
    go_ret
    exact ⟨rfl, HS.out.later (Kept.drewN W nq), Kept.drewN W nq⟩
  · have hdd : decide (docU P u < t) = false := decide_eq_false hd
    clear h hb' hln hn hno hu
    go_enter Tryd.func31, Tryd.ntmps31
    go_wp2_with fail
    go_quiet ((exact CD.out _))
    clear CD
    have c1' := (Kept.drewN W nq).cell c1 (fun f => f)
    go_wp2
    go_ret
    exact ⟨rfl, HS.out.later (Kept.drewN W nq), Kept.drewN W nq⟩
theorem CuAt.toS {W0 : Bs} {W : World} {cb bl : Nat} {P : List Po} (h : CuAt W0 W cb bl P 0 0 (-1) (.slice none 0 0) none 0 false) : CuS W0 W cb bl P 0 0 false := ⟨-1, _, none, 0, h, fun _ k hk => by omega, fun _ => rfl⟩
theorem cdocS {W0 : Bs} (W : World) {cb bl : Nat} {P : List Po} {u mv : Nat} {ask : Bool} (h : CuS W0 W cb bl P u mv ask) : Calls Tryd.prog 30 #[.pointer (some ⟨cb, 0, none⟩)] W fun e w' => e = .returned (.int .i64 (docU P u)) ∧ w' = W := by
  obtain ⟨nb, bv, pa, pc, h, -, -⟩ := h
  exact cdoc_any W h
theorem cmovesS {W0 : Bs} (W : World) {cb bl : Nat} {P : List Po} {u mv : Nat} {ask : Bool} (h : CuS W0 W cb bl P u mv ask) : Calls Tryd.prog 32 #[.pointer (some ⟨cb, 0, none⟩)] W fun e w' => e = .returned (.int .i64 (mv : Nat)) ∧ w' = W := by
  obtain ⟨nb, bv, pa, pc, h, -, -⟩ := h
  exact cmoves_any W h
theorem cfreqS {W0 : Bs} (W : World) {cb bl : Nat} {P : List Po} {u mv : Nat} {ask : Bool} (h : CuS W0 W cb bl P u mv ask) : Calls Tryd.prog 14 #[.pointer (some ⟨cb, 0, none⟩)] W fun e w' => e = .returned (.int .i64 (((posU P u).length : Nat) : Int)) ∧ w' = W := by
  obtain ⟨nb, bv, pa, pc, h, -, -⟩ := h
  exact cfreq_any W h
/-- Behind the changes of a block that is younger than w0, w0's blocks are as they were. -/
theorem Kept.young {w W W' : World} {cb : Nat} (h : Kept (fun _ => False) w W) (k : Kept (fun i => i = cb) W W') (hc : w.heap.size ≤ cb) : Kept (fun _ => False) w W' := h.trans k (fun i hi => .inr (by rw [hi]; exact hc))
end Go.Proofs.YtbdhmibiggpomaaDoor

namespace Go.Proofs.YtbdhmibiggpomaaDoor
open Go.ChangeShapes Go.WideShapes Go.ChangeAt Go.RowKit

/-- Spots as they lie in memory: a place and a word each. -/
def SpAt (w : World) (a : Option Addr) (L : List (Int × Nat)) : Prop :=
  L ≠ [] → ∃ b off, a = some ⟨b, off, none⟩ ∧ ∀ k (h : k < L.length), w.cell? ⟨b, off + k * 2, none⟩ = some (.int .i64 L[k].1) ∧ w.cell? ⟨b, off + k * 2 + 1, none⟩ = some (.int .i64 (L[k].2 : Nat))
theorem SpAt.kept {w w' : World} {a : Option Addr} {L : List (Int × Nat)} (h : SpAt w a L) (k : Kept (fun _ => False) w w') : SpAt w' a L := by
  intro hne
  obtain ⟨b, off, e, hc⟩ := h hne
  exact ⟨b, off, e, fun j hj => ⟨k.cell (hc j hj).1 (fun f => f), k.cell (hc j hj).2 (fun f => f)⟩⟩
/-- How many spots of each word are inside, how many words are met, and how far the window goes. -/
structure Wn where
  ins : List Int
  met : Int
  en : Nat
def inn (L : List (Int × Nat)) (lim : Int) : Nat → Wn → Wn
  | 0, s => s
  | f + 1, s => match L[s.en]? with
    | none => s
    | some x => if x.1 ≤ lim then inn L lim f ⟨s.ins.set x.2 ((s.ins[x.2]?).getD 0 + 1), if (s.ins[x.2]?).getD 0 = 0 then s.met + 1 else s.met, s.en + 1⟩ else s
def fre (L : List (Int × Nat)) (i : Nat) (x : Int × Nat) : Bool := decide (i = 0) || decide (((L[i - 1]?).getD (0, 0)).1 ≠ x.1)
def out (L : List (Int × Nat)) (wd : Nat) (sl : Int) : Nat → Wn × Nat
  | 0 => (⟨List.replicate wd 0, 0, 0⟩, 0)
  | i + 1 => match L[i]? with
    | none => out L wd sl i
    | some x =>
      let s := inn L (x.1 + sl) (L.length - (out L wd sl i).1.en) (out L wd sl i).1
      let v := (s.ins[x.2]?).getD 0 - 1
      (⟨s.ins.set x.2 v, if v = 0 then s.met - 1 else s.met, s.en⟩, if fre L i x && decide (s.met = wd) then (out L wd sl i).2 + 1 else (out L wd sl i).2)
def cbg (L : List (Int × Nat)) (wd : Nat) (sl : Int) : Nat := (out L wd sl L.length).2
/-- How great the numbers are after i rounds. -/
structure Bd (n wd i : Nat) (s : Wn) : Prop where
  en : s.en ≤ n
  len : s.ins.length = wd
  ins : ∀ v ∈ s.ins, -(i : Int) ≤ v ∧ v ≤ (s.en : Int)
  met : -(i : Int) ≤ s.met ∧ s.met ≤ (s.en : Int)
theorem Bd.at {n wd i : Nat} {s : Wn} (h : Bd n wd i s) {k : Nat} (hk : k < wd) : s.ins[k]? = some ((s.ins[k]?).getD 0) ∧ -(i : Int) ≤ (s.ins[k]?).getD 0 ∧ (s.ins[k]?).getD 0 ≤ (s.en : Int) := by
  have hl : k < s.ins.length := by rw [h.len]; exact hk
  rw [List.getElem?_eq_getElem hl]
  exact ⟨rfl, h.ins _ (List.getElem_mem hl)⟩
theorem mem_set_or {l : List Int} {k : Nat} {x y : Int} (h : y ∈ l.set k x) : y ∈ l ∨ y = x := (List.mem_or_eq_of_mem_set h)
theorem Bd.inner {n wd i : Nat} {s : Wn} (h : Bd n wd i s) (x : Nat) (hx : x < wd) (he : s.en < n) : Bd n wd i ⟨s.ins.set x ((s.ins[x]?).getD 0 + 1), if (s.ins[x]?).getD 0 = 0 then s.met + 1 else s.met, s.en + 1⟩ := by
  have h1 := h.at hx
  have h2 := h.met
  refine ⟨he, by rw [List.length_set]; exact h.len, fun v hv => ?_, ?_⟩
  · rcases mem_set_or hv with q | q
    · have := h.ins v q; simp only; omega
    · simp only; omega
  · simp only; split <;> omega
theorem Bd.outer {n wd i : Nat} {s : Wn} (h : Bd n wd i s) (x : Nat) (hx : x < wd) : Bd n wd (i + 1) ⟨s.ins.set x ((s.ins[x]?).getD 0 - 1), if (s.ins[x]?).getD 0 - 1 = 0 then s.met - 1 else s.met, s.en⟩ := by
  have h1 := h.at hx
  have h2 := h.met
  refine ⟨h.en, by rw [List.length_set]; exact h.len, fun v hv => ?_, ?_⟩
  · rcases mem_set_or hv with q | q
    · have := h.ins v q; simp only; omega
    · simp only; omega
  · simp only; split <;> omega
theorem inn_step {L : List (Int × Nat)} {lim : Int} {s : Wn} (h : s.en < L.length) (hle : L[s.en].1 ≤ lim) : inn L lim (L.length - s.en) s = inn L lim (L.length - (s.en + 1)) ⟨s.ins.set L[s.en].2 ((s.ins[L[s.en].2]?).getD 0 + 1), if (s.ins[L[s.en].2]?).getD 0 = 0 then s.met + 1 else s.met, s.en + 1⟩ := by
  obtain ⟨f, hf⟩ : ∃ f, L.length - s.en = f + 1 := ⟨L.length - s.en - 1, by omega⟩
  rw [hf, show L.length - (s.en + 1) = f by omega]
  conv => lhs; unfold inn
  rw [List.getElem?_eq_getElem h]
  simp only [if_pos hle]
theorem inn_stop {L : List (Int × Nat)} {lim : Int} {s : Wn} (h : s.en = L.length ∨ ∃ hl : s.en < L.length, ¬ L[s.en].1 ≤ lim) : inn L lim (L.length - s.en) s = s := by
  rcases h with h | ⟨hl, hn⟩
  · rw [show L.length - s.en = 0 by omega]; rfl
  · obtain ⟨f, hf⟩ : ∃ f, L.length - s.en = f + 1 := ⟨L.length - s.en - 1, by omega⟩
    rw [hf]
    unfold inn
    rw [List.getElem?_eq_getElem hl]
    simp only [if_neg hn]
theorem out_step {L : List (Int × Nat)} {wd : Nat} {sl : Int} {i : Nat} {s s2 : Wn} {cn : Nat} {x : Int × Nat} (h : (s, cn) = out L wd sl i) (hx : L[i]? = some x) (h2 : inn L (x.1 + sl) (L.length - s.en) s = s2) :
    out L wd sl (i + 1) = (⟨s2.ins.set x.2 ((s2.ins[x.2]?).getD 0 - 1), if (s2.ins[x.2]?).getD 0 - 1 = 0 then s2.met - 1 else s2.met, s2.en⟩, if fre L i x && decide (s2.met = wd) then cn + 1 else cn) := by
  conv => lhs; unfold out
  rw [hx, ← h]
  simp only [h2]
theorem madeI (n : Nat) : madeCells #[Value.int .i64 0] n = (is (List.replicate n (0 : Int))).toArray := by
  apply Array.ext
  · rw [size_madeCells, List.size_toArray, is_len, List.length_replicate]
  · intro i h1 h2
    simp [madeCells, is, Nat.mod_one]
/-- make([]int, n). -/
theorem make_ints (n : Nat) (W : World) (hn : n ≤ 1099511627776) :
    (Instr.makeSlice 40 (.int .i64 (n : Int)) (.int .i64 (n : Int))).run Tryd.prog W = .ok (.slice (some ⟨W.heap.size, 0, none⟩) n n) (W.alloc (.cells (is (List.replicate n (0 : Int))).toArray 3)) := by
  obtain ⟨i0, hi, hz0, hz1, hz2⟩ := info_partsP Tryd.infoI
  have q := run_make (P := Tryd.prog) W 40 3 i0 (.int .i64 0) Tryd.underlying40 hi hz0 .i64 .i64 (n : Int) (n : Int) (by omega) (by omega) (by rw [hz2]; omega) (by omega)
  rw [hz1, Nat.mul_one, Int.toNat_natCast] at q
  rw [q, show (Value.int .i64 0).cells = #[Value.int .i64 0] from rfl, madeI]
theorem ints_own (n : Nat) (W : World) (hn : n ≤ 1099511627776) : Gro W (W.alloc (.cells (is (List.replicate n (0 : Int))).toArray 3)) 3 1 (.slice (some ⟨W.heap.size, 0, none⟩) n n) n (is (List.replicate n 0)) := by
  refine ⟨⟨by rw [is_len, List.length_replicate]; omega, .inr ⟨W.heap.size, n, (is (List.replicate n 0)).toArray, rfl, Nat.le_refl _, heap_alloc_new W _, Nat.le_refl _, by unfold maxLen; omega, by simp [is_len], ?_⟩⟩, Kept.alloc W _⟩
  rw [List.toList_toArray, List.take_of_length_le (by rw [is_len, List.length_replicate]; omega)]
theorem is_get {l : List Int} {k : Nat} {x : Int} (h : l[k]? = some x) : (is l)[k]? = some (.int .i64 x) := by simp [is, h]
theorem is_set (l : List Int) (k : Nat) (x : Int) : (is l).set k (.int .i64 x) = is (l.set k x) := by simp [is, List.map_set]
set_option maxRecDepth 20000 in
set_option maxHeartbeats 8000000 in
theorem countBegins_any (L : List (Int × Nat)) (a : Option Addr) (c wd : Nat) (sl : Int) (W : World) (hS : SpAt W a L) (hl : L.length ≤ 1099511627776) (hw : wd ≤ 1099511627776) (hlw : ∀ x ∈ L, x.2 < wd) (hat : ∀ x ∈ L, -2147483648 ≤ x.1 ∧ x.1 ≤ 2147483648) (hsl : 0 ≤ sl ∧ sl ≤ 2147483648) :
    Calls Tryd.prog 51 #[.slice a L.length c, .int .i64 wd, .int .i64 sl] W fun e w' => e = .returned (.int .i64 (cbg L wd sl : Nat)) ∧ Kept (fun _ => False) W w' := by
  have HS := hideP hS
  have HLW := hideP hlw
  have HAT := hideP hat
  obtain ⟨n, hn⟩ : ∃ n, n = L.length := ⟨_, rfl⟩
  have HN := hideP hn
  rw [← hn] at hl ⊢
  clear hS hlw hat hn
  go_enter Tryd.func51, Tryd.ntmps51
  have mk := make_ints wd W hw
  have HG0 := hideP (ints_own wd W hw)
  go_wp2
  generalize W.heap.size = g at *
  generalize W.alloc (.cells (is (List.replicate wd (0 : Int))).toArray 3) = V0 at *
  clear mk
  go_loopw [8, 9, 10, 19] (fun s8 s9 s10 s19 wr => ∃ (i : Nat) (s : Wn) (cn : Nat), i ≤ n ∧ cn ≤ i ∧ s19 = .int .i64 i ∧ s8 = .int .i64 s.met ∧ s9 = .int .i64 s.en ∧ s10 = .int .i64 cn ∧ Hid ((s, cn) = out L wd sl i) ∧ Hid (Bd n wd i s) ∧ Hid (Gro W wr 3 1 (.slice (some ⟨g, 0, none⟩) wd wd) wd (is s.ins))) (fun _ _ _ s19 _ => n - (intOf s19).toNat)
  case atStart => exact ⟨0, ⟨List.replicate wd 0, 0, 0⟩, 0, by omega, by omega, rfl, rfl, rfl, rfl, hideP rfl, hideP ⟨Nat.zero_le _, List.length_replicate .., fun v hv => by rw [List.eq_of_mem_replicate hv]; simp, by simp⟩, HG0⟩
  case round =>
    obtain ⟨i, s, cn, hi, hcn, rfl, rfl, rfl, rfl, HO, HB, HG⟩ := hrel
    by_cases hlt : i < n
    · have hil : i < L.length := by rw [← HN.out]; exact hlt
      obtain ⟨b, off, rfl, hc⟩ := HS.out (by intro e; rw [e] at hil; simp at hil)
      obtain ⟨x, hx⟩ : ∃ x, x = L[i] := ⟨_, rfl⟩
      obtain ⟨z0, z1⟩ := hc i hil
      rw [← hx] at z0 z1
      have y0 := HG.out.kept.cell z0 (fun f => f)
      have y1 := HG.out.kept.cell z1 (fun f => f)
      have HX := hideP hx
      have hxm : x ∈ L := by rw [hx]; exact List.getElem_mem hil
      have hxw := HLW.out x hxm
      have hxa := HAT.out x hxm
      have hii : (i : Int) < (n : Int) := by omega
      have HC := hideP hc
      obtain ⟨hxa1, hxa2⟩ := hxa
      clear hx z0 z1 hc hxm
      have HG1 := hideP (HG.out.later (Kept.alloc wr (.cells #[.int .i64 x.1, .int .i64 (x.2 : Nat)] 135)))
      have gf := heap_alloc_new wr (.cells #[.int .i64 x.1, .int .i64 (x.2 : Nat)] 135)
      have hfg : wr.heap.size ≠ g := by
        have := (HG.out.own.lt g rfl).2
        omega
      obtain ⟨x1, hx1⟩ : ∃ x1, x1 = x.1 := ⟨_, rfl⟩
      obtain ⟨x2, hx2⟩ : ∃ x2, x2 = x.2 := ⟨_, rfl⟩
      rw [← hx1] at y0 gf HG1
      rw [← hx2] at y1 gf HG1
      rw [← hx1] at hxa1 hxa2
      rw [← hx2] at hxw
      have HX1 := hideP hx1
      have HX2 := hideP hx2
      clear hx1 hx2 HG
      go_wp2
      generalize wr.heap.size = fb at *
      generalize wr.alloc (.cells #[.int .i64 x1, .int .i64 (x2 : Nat)] 135) = V1 at *
      clear y0 y1
      obtain ⟨lim, hlim⟩ : ∃ lim, lim = x1 + sl := ⟨_, rfl⟩
      have HLIM := hideP hlim
      have HIN0 : Hid (inn L lim (L.length - s.en) s = inn L lim (L.length - s.en) s) := hideP rfl
      have h8 : s.en ≤ n := HB.out.en
      go_loopw [8, 9] (fun s8 s9 w2 => ∃ (s2 : Wn), s2.en ≤ n ∧ s8 = .int .i64 s2.met ∧ s9 = .int .i64 s2.en ∧ Hid (inn L lim (L.length - s.en) s = inn L lim (L.length - s2.en) s2) ∧ Hid (Bd n wd i s2) ∧ Hid (Gro W w2 3 1 (.slice (some ⟨g, 0, none⟩) wd wd) wd (is s2.ins)) ∧ Hid (w2.heap[fb]? = some (.cells #[.int .i64 x1, .int .i64 (x2 : Nat)] 135 (0, 0)))) (fun _ s9 _ => n - (intOf s9).toNat)
      case atStart => exact ⟨s, h8, rfl, rfl, HIN0, HB, HG1, hideP gf⟩
      case round =>
        obtain ⟨s2, hs2, rfl, rfl, HI2, HB2, HG2, HF2⟩ := hrel
        have v0 : wr.cell? ⟨fb, 0, none⟩ = some (.int .i64 x1) := by rw [cell_of_row _ fb 0 _ _ _ HF2.out]; rfl
        have v1 : wr.cell? ⟨fb, 1, none⟩ = some (.int .i64 (x2 : Nat)) := by rw [cell_of_row _ fb 1 _ _ _ HF2.out]; rfl
        have hlm : x1 + sl = lim := hlim.symm
        clear hlim
        by_cases hen : s2.en < n
        · have hel : s2.en < L.length := by rw [← HN.out]; exact hen
          obtain ⟨y, hy⟩ : ∃ y, y = L[s2.en] := ⟨_, rfl⟩
          obtain ⟨q0, q1⟩ := HC.out s2.en hel
          rw [← hy] at q0 q1
          have w0 := HG2.out.kept.cell q0 (fun f => f)
          have w1 := HG2.out.kept.cell q1 (fun f => f)
          have hym : y ∈ L := by rw [hy]; exact List.getElem_mem hel
          have hyw := HLW.out y hym
          have HY := hideP hy
          have hee : decide ((s2.en : Int) < (n : Int)) = true := decide_eq_true (by omega)
          have hee2 : (s2.en : Int) < (n : Int) := by omega
          obtain ⟨y1, hy1⟩ : ∃ y1, y1 = y.1 := ⟨_, rfl⟩
          obtain ⟨y2, hy2⟩ : ∃ y2, y2 = y.2 := ⟨_, rfl⟩
          rw [← hy1] at w0
          rw [← hy2] at w1 hyw
          have HY1 := hideP hy1
          have HY2 := hideP hy2
          clear hy q0 q1 hym hy1 hy2
          by_cases hle : y1 ≤ lim
          · have hld : decide (y1 ≤ lim) = true := decide_eq_true hle
            have hvv := HB2.out.at hyw
            obtain ⟨v, hv⟩ : ∃ v, v = (s2.ins[y2]?).getD 0 := ⟨_, rfl⟩
            rw [← hv] at hvv
            have HV := hideP hv
            obtain ⟨hv1, hv2, hv3⟩ := hvv
            have HBi := hideP (HB2.out.inner y2 hyw hen)
            rw [← hv] at HBi
            have HIi : Hid (inn L lim (L.length - s.en) s = inn L lim (L.length - (s2.en + 1)) ⟨s2.ins.set y2 (v + 1), if v = 0 then s2.met + 1 else s2.met, s2.en + 1⟩) := hideP (by
              rw [HI2.out, inn_step hel (by rw [← HY.out, ← HY1.out]; exact hle), ← HY.out, ← HY2.out, HV.out])
            have hmb := HB2.out.met
            obtain ⟨hmb1, hmb2⟩ := hmb
            clear hv
            go_wp2_with fail
            go_quiet (fail)
            have HG3 := hideP (HG2.out.later (Kept.drewN wr nq))
            have HF3 := hideP ((Kept.drewN wr nq).heap HF2.out (fun f => f))
            have w1' := (Kept.drewN wr nq).cell w1 (fun f => f)
            generalize wr.drewN nq = V3 at *
            have u0 : V3.cell? ⟨g, y2, none⟩ = some (.int .i64 v) := HG3.out.at (is_get hv1)
            have hset := HG3.out.set y2 (.int .i64 (v + 1))
            rw [is_set] at hset
            have u1 := hset.2
            have HG4 := hideP hset.1
            have HF4 : Hid ((V3.setCell ⟨g, y2, none⟩ (.int .i64 (v + 1))).heap[fb]? = some (.cells #[.int .i64 x1, .int .i64 (x2 : Nat)] 135 (0, 0))) := hideP ((Kept.setCell V3 ⟨g, y2, none⟩ (.int .i64 (v + 1))).heap HF3.out hfg)
            clear hset hv1 HG3 HF3 HG2 HF2 v0 v1 w0 w1
            by_cases hz : v = 0
            · have hzb : (v == 0) = true := by rw [beq_iff_eq]; exact hz
              have HZ := hideP hz
              clear hz
              go_wp2
              go_roundw
              case rel => exact ⟨⟨s2.ins.set y2 (v + 1), if v = 0 then s2.met + 1 else s2.met, s2.en + 1⟩, by simp only; omega, by rw [if_pos HZ.out], by go_num, HIi, HBi, HG4, HF4⟩
              case measure => simp [intOf]; omega
            · have hzb : (v == 0) = false := by rw [beq_eq_false_iff_ne]; exact hz
              go_wp2
              go_roundw
              case rel => exact ⟨⟨s2.ins.set y2 (v + 1), if v = 0 then s2.met + 1 else s2.met, s2.en + 1⟩, by simp only; omega, by rw [if_neg hz], by go_num, HIi, HBi, HG4, HF4⟩
              case measure => simp [intOf]; omega
          · have hld : decide (y1 ≤ lim) = false := decide_eq_false hle
            have HSTOP : Hid (inn L lim (L.length - s.en) s = s2) := hideP (by rw [HI2.out]; exact inn_stop (.inr ⟨hel, by rw [← HY.out, ← HY1.out]; exact hle⟩))
            go_wp2_with fail
            go_quiet (fail)
            have HG3 := hideP (HG2.out.later (Kept.drewN wr nq))
            have v0' := (Kept.drewN wr nq).cell v0 (fun f => f)
            have v1' := (Kept.drewN wr nq).cell v1 (fun f => f)
            clear HG2 HF2 v0 v1 w0 w1
            generalize wr.drewN nq = V3 at *
            have HXI : Hid (L[i]? = some x) := hideP (by rw [List.getElem?_eq_getElem hil, HX.out])
            have HIS : Hid (inn L (x.1 + sl) (L.length - s.en) s = s2) := hideP (by rw [← HX1.out, ← HLIM.out]; exact HSTOP.out)
            by_cases hi0 : i = 0
            · have e0 : ((i : Int) == 0) = true := by rw [beq_iff_eq]; omega
              obtain ⟨fr, hfr⟩ : ∃ fr, fr = true := ⟨_, rfl⟩
              have HFR : Hid (fr = fre L i x) := hideP (by rw [hfr]; unfold fre; simp [hi0])
              go_wp2_with fail
              go_quiet (fail)
              have HG4 := hideP (HG3.out.later (Kept.drewN V3 nq))
              have w1 := (Kept.drewN V3 nq).cell v1' (fun f => f)
              generalize V3.drewN nq = V4 at *
              rw [← hfr]
              clear hfr HG3 v0' v1'
              have hvv := HB2.out.at hxw
              obtain ⟨v, hv⟩ : ∃ v, v = (s2.ins[x2]?).getD 0 := ⟨_, rfl⟩
              rw [← hv] at hvv
              have HV := hideP hv
              obtain ⟨hv1, hv2, hv3⟩ := hvv
              have u0 : V4.cell? ⟨g, x2, none⟩ = some (.int .i64 v) := HG4.out.at (is_get hv1)
              have hset := HG4.out.set x2 (.int .i64 (v - 1))
              rw [is_set] at hset
              have u1 := hset.2
              have HG5 := hideP hset.1
              have HBo := hideP (HB2.out.outer x2 hxw)
              rw [← hv] at HBo
              have HST := hideP (out_step HO.out HXI.out HIS.out)
              clear hv hset hv1
              obtain ⟨hmb1, hmb2⟩ := HB2.out.met
              have hmv : (s2.met == (wd : Int)) = decide (s2.met = (wd : Int)) := rfl
              by_cases hz : v - 1 = 0
              all_goals
                have hzb : (v - 1 == 0) = decide (v - 1 = 0) := rfl
                by_cases hm : s2.met = (wd : Int)
                all_goals
                  cases fr
                  all_goals
                    first | rw [decide_eq_true hz] at hzb | rw [decide_eq_false hz] at hzb
                    first | rw [decide_eq_true hm] at hmv | rw [decide_eq_false hm] at hmv
                    have HZ := hideP hz
                    have HM := hideP hm
                    clear hz hm
                    go_wp2
                    go_roundw
                    case rel =>
                      refine ⟨i + 1, ⟨s2.ins.set x2 (v - 1), if v - 1 = 0 then s2.met - 1 else s2.met, s2.en⟩, if fre L i x && decide (s2.met = (wd : Int)) then cn + 1 else cn, by omega, by split <;> omega, by go_num, ?_, rfl, ?_, hideP ?_, HBo, HG5⟩
                      · first | rw [if_pos HZ.out] | rw [if_neg HZ.out]
                      · first
                          | rw [if_pos (by rw [← HFR.out]; simp [HM.out])]; go_num
                          | rw [if_neg (by rw [← HFR.out]; simp [HM.out])]
                      · rw [HST.out, ← HX2.out, HV.out]
                    case measure => simp [intOf]; omega

            · obtain ⟨j, rfl⟩ : ∃ j, i = j + 1 := ⟨i - 1, by omega⟩
              have e0 : (((j + 1 : Nat) : Int) == 0) = false := by rw [beq_eq_false_iff_ne]; omega
              have e0' : ((j : Int) + 1 == 0) = false := by rw [beq_eq_false_iff_ne]; omega
              have hjl : j < L.length := by omega
              have jc := HG3.out.kept.cell (HC.out j hjl).1 (fun f => f)
              have hjn : (j : Int) < (n : Int) := by omega
              obtain ⟨pj, hpj⟩ : ∃ pj, pj = L[j].1 := ⟨_, rfl⟩
              rw [← hpj] at jc
              obtain ⟨fr, hfr⟩ : ∃ fr, fr = (pj != x1) := ⟨_, rfl⟩
              have HFR : Hid (fr = fre L (j + 1) x) := hideP (by rw [hfr, hpj]; unfold fre; rw [Nat.add_sub_cancel, List.getElem?_eq_getElem hjl, HX1.out]; simp [bne]; rfl)
              have HFQ := hideP hfr
              clear hpj hfr
              go_wp2_with fail
              go_quiet (fail)
              have HG4 := hideP (HG3.out.later (Kept.drewN V3 nq))
              have w1 := (Kept.drewN V3 nq).cell v1' (fun f => f)
              generalize V3.drewN nq = V4 at *
              rw [← HFQ.out]
              clear HG3 v0' v1' jc HFQ
              have hvv := HB2.out.at hxw
              obtain ⟨v, hv⟩ : ∃ v, v = (s2.ins[x2]?).getD 0 := ⟨_, rfl⟩
              rw [← hv] at hvv
              have HV := hideP hv
              obtain ⟨hv1, hv2, hv3⟩ := hvv
              have u0 : V4.cell? ⟨g, x2, none⟩ = some (.int .i64 v) := HG4.out.at (is_get hv1)
              have hset := HG4.out.set x2 (.int .i64 (v - 1))
              rw [is_set] at hset
              have u1 := hset.2
              have HG5 := hideP hset.1
              have HBo := hideP (HB2.out.outer x2 hxw)
              rw [← hv] at HBo
              have HST := hideP (out_step HO.out HXI.out HIS.out)
              clear hv hset hv1
              obtain ⟨hmb1, hmb2⟩ := HB2.out.met
              have hmv : (s2.met == (wd : Int)) = decide (s2.met = (wd : Int)) := rfl
              by_cases hz : v - 1 = 0
              all_goals
                have hzb : (v - 1 == 0) = decide (v - 1 = 0) := rfl
                by_cases hm : s2.met = (wd : Int)
                all_goals
                  cases fr
                  all_goals
                    first | rw [decide_eq_true hz] at hzb | rw [decide_eq_false hz] at hzb
                    first | rw [decide_eq_true hm] at hmv | rw [decide_eq_false hm] at hmv
                    have HZ := hideP hz
                    have HM := hideP hm
                    clear hz hm
                    go_wp2
                    go_roundw
                    case rel =>
                      refine ⟨j + 1 + 1, ⟨s2.ins.set x2 (v - 1), if v - 1 = 0 then s2.met - 1 else s2.met, s2.en⟩, if fre L (j + 1) x && decide (s2.met = (wd : Int)) then cn + 1 else cn, by omega, by split <;> omega, by go_num, ?_, rfl, ?_, hideP ?_, HBo, HG5⟩
                      · first | rw [if_pos HZ.out] | rw [if_neg HZ.out]
                      · first
                          | rw [if_pos (by rw [← HFR.out]; simp [HM.out])]; go_num
                          | rw [if_neg (by rw [← HFR.out]; simp [HM.out])]
                      · rw [HST.out, ← HX2.out, HV.out]
                    case measure => simp [intOf]; omega
        · have hen2 : s2.en = n := by omega
          have hee : decide ((s2.en : Int) < (n : Int)) = false := decide_eq_false (by omega)
          have HSTOP : Hid (inn L lim (L.length - s.en) s = s2) := hideP (by rw [HI2.out]; exact inn_stop (.inl (by rw [hen2, HN.out])))
          clear hen2
          go_wp2_with fail
          go_quiet (fail)
          have HG3 := hideP (HG2.out.later (Kept.drewN wr nq))
          have v0' := (Kept.drewN wr nq).cell v0 (fun f => f)
          have v1' := (Kept.drewN wr nq).cell v1 (fun f => f)
          clear HG2 HF2 v0 v1
          generalize wr.drewN nq = V3 at *
          have HXI : Hid (L[i]? = some x) := hideP (by rw [List.getElem?_eq_getElem hil, HX.out])
          have HIS : Hid (inn L (x.1 + sl) (L.length - s.en) s = s2) := hideP (by rw [← HX1.out, ← HLIM.out]; exact HSTOP.out)
          by_cases hi0 : i = 0
          · have e0 : ((i : Int) == 0) = true := by rw [beq_iff_eq]; omega
            obtain ⟨fr, hfr⟩ : ∃ fr, fr = true := ⟨_, rfl⟩
            have HFR : Hid (fr = fre L i x) := hideP (by rw [hfr]; unfold fre; simp [hi0])
            go_wp2_with fail
            go_quiet (fail)
            have HG4 := hideP (HG3.out.later (Kept.drewN V3 nq))
            have w1 := (Kept.drewN V3 nq).cell v1' (fun f => f)
            generalize V3.drewN nq = V4 at *
            rw [← hfr]
            clear hfr HG3 v0' v1'
            have hvv := HB2.out.at hxw
            obtain ⟨v, hv⟩ : ∃ v, v = (s2.ins[x2]?).getD 0 := ⟨_, rfl⟩
            rw [← hv] at hvv
            have HV := hideP hv
            obtain ⟨hv1, hv2, hv3⟩ := hvv
            have u0 : V4.cell? ⟨g, x2, none⟩ = some (.int .i64 v) := HG4.out.at (is_get hv1)
            have hset := HG4.out.set x2 (.int .i64 (v - 1))
            rw [is_set] at hset
            have u1 := hset.2
            have HG5 := hideP hset.1
            have HBo := hideP (HB2.out.outer x2 hxw)
            rw [← hv] at HBo
            have HST := hideP (out_step HO.out HXI.out HIS.out)
            clear hv hset hv1
            obtain ⟨hmb1, hmb2⟩ := HB2.out.met
            have hmv : (s2.met == (wd : Int)) = decide (s2.met = (wd : Int)) := rfl
            by_cases hz : v - 1 = 0
            all_goals
              have hzb : (v - 1 == 0) = decide (v - 1 = 0) := rfl
              by_cases hm : s2.met = (wd : Int)
              all_goals
                cases fr
                all_goals
                  first | rw [decide_eq_true hz] at hzb | rw [decide_eq_false hz] at hzb
                  first | rw [decide_eq_true hm] at hmv | rw [decide_eq_false hm] at hmv
                  have HZ := hideP hz
                  have HM := hideP hm
                  clear hz hm
                  go_wp2
                  go_roundw
                  case rel =>
                    refine ⟨i + 1, ⟨s2.ins.set x2 (v - 1), if v - 1 = 0 then s2.met - 1 else s2.met, s2.en⟩, if fre L i x && decide (s2.met = (wd : Int)) then cn + 1 else cn, by omega, by split <;> omega, by go_num, ?_, rfl, ?_, hideP ?_, HBo, HG5⟩
                    · first | rw [if_pos HZ.out] | rw [if_neg HZ.out]
                    · first
                        | rw [if_pos (by rw [← HFR.out]; simp [HM.out])]; go_num
                        | rw [if_neg (by rw [← HFR.out]; simp [HM.out])]
                    · rw [HST.out, ← HX2.out, HV.out]
                  case measure => simp [intOf]; omega

          · obtain ⟨j, rfl⟩ : ∃ j, i = j + 1 := ⟨i - 1, by omega⟩
            have e0 : (((j + 1 : Nat) : Int) == 0) = false := by rw [beq_eq_false_iff_ne]; omega
            have e0' : ((j : Int) + 1 == 0) = false := by rw [beq_eq_false_iff_ne]; omega
            have hjl : j < L.length := by omega
            have jc := HG3.out.kept.cell (HC.out j hjl).1 (fun f => f)
            have hjn : (j : Int) < (n : Int) := by omega
            obtain ⟨pj, hpj⟩ : ∃ pj, pj = L[j].1 := ⟨_, rfl⟩
            rw [← hpj] at jc
            obtain ⟨fr, hfr⟩ : ∃ fr, fr = (pj != x1) := ⟨_, rfl⟩
            have HFR : Hid (fr = fre L (j + 1) x) := hideP (by rw [hfr, hpj]; unfold fre; rw [Nat.add_sub_cancel, List.getElem?_eq_getElem hjl, HX1.out]; simp [bne]; rfl)
            have HFQ := hideP hfr
            clear hpj hfr
            go_wp2_with fail
            go_quiet (fail)
            have HG4 := hideP (HG3.out.later (Kept.drewN V3 nq))
            have w1 := (Kept.drewN V3 nq).cell v1' (fun f => f)
            generalize V3.drewN nq = V4 at *
            rw [← HFQ.out]
            clear HG3 v0' v1' jc HFQ
            have hvv := HB2.out.at hxw
            obtain ⟨v, hv⟩ : ∃ v, v = (s2.ins[x2]?).getD 0 := ⟨_, rfl⟩
            rw [← hv] at hvv
            have HV := hideP hv
            obtain ⟨hv1, hv2, hv3⟩ := hvv
            have u0 : V4.cell? ⟨g, x2, none⟩ = some (.int .i64 v) := HG4.out.at (is_get hv1)
            have hset := HG4.out.set x2 (.int .i64 (v - 1))
            rw [is_set] at hset
            have u1 := hset.2
            have HG5 := hideP hset.1
            have HBo := hideP (HB2.out.outer x2 hxw)
            rw [← hv] at HBo
            have HST := hideP (out_step HO.out HXI.out HIS.out)
            clear hv hset hv1
            obtain ⟨hmb1, hmb2⟩ := HB2.out.met
            have hmv : (s2.met == (wd : Int)) = decide (s2.met = (wd : Int)) := rfl
            by_cases hz : v - 1 = 0
            all_goals
              have hzb : (v - 1 == 0) = decide (v - 1 = 0) := rfl
              by_cases hm : s2.met = (wd : Int)
              all_goals
                cases fr
                all_goals
                  first | rw [decide_eq_true hz] at hzb | rw [decide_eq_false hz] at hzb
                  first | rw [decide_eq_true hm] at hmv | rw [decide_eq_false hm] at hmv
                  have HZ := hideP hz
                  have HM := hideP hm
                  clear hz hm
                  go_wp2
                  go_roundw
                  case rel =>
                    refine ⟨j + 1 + 1, ⟨s2.ins.set x2 (v - 1), if v - 1 = 0 then s2.met - 1 else s2.met, s2.en⟩, if fre L (j + 1) x && decide (s2.met = (wd : Int)) then cn + 1 else cn, by omega, by split <;> omega, by go_num, ?_, rfl, ?_, hideP ?_, HBo, HG5⟩
                    · first | rw [if_pos HZ.out] | rw [if_neg HZ.out]
                    · first
                        | rw [if_pos (by rw [← HFR.out]; simp [HM.out])]; go_num
                        | rw [if_neg (by rw [← HFR.out]; simp [HM.out])]
                    · rw [HST.out, ← HX2.out, HV.out]
                  case measure => simp [intOf]; omega
    · obtain rfl : i = n := by omega
      go_wp2
      go_ret
      refine ⟨?_, HG.out.kept⟩
      have h := HO.out
      unfold cbg
      rw [← HN.out, ← h]
      rfl
end Go.Proofs.YtbdhmibiggpomaaDoor

namespace Go.Proofs.YtbdhmibiggpomaaDoor
open Go.ChangeShapes Go.WideShapes Go.ChangeAt Go.RowKit

/-- A spot's two cells. -/
def enS (x : Int × Nat) : List Value := [.int .i64 x.1, .int .i64 (x.2 : Nat)]
def sv (L : List (Int × Nat)) : List Value := L.flatMap enS
theorem sv_len (L : List (Int × Nat)) : (sv L).length = L.length * 2 := by
  induction L with
  | nil => rfl
  | cons x L ih => unfold sv at ih ⊢; rw [List.flatMap_cons, List.length_append, ih, List.length_cons]; simp only [enS, List.length_cons, List.length_nil]; omega
theorem sv_app (L : List (Int × Nat)) (x : Int × Nat) : sv (L ++ [x]) = sv L ++ enS x := by simp [sv]
theorem sv_get : ∀ (L : List (Int × Nat)) (k : Nat) (h : k < L.length), (sv L)[k * 2]? = some (.int .i64 L[k].1) ∧ (sv L)[k * 2 + 1]? = some (.int .i64 (L[k].2 : Nat))
  | x :: L, 0, _ => ⟨rfl, rfl⟩
  | x :: L, k + 1, h => by
    have := sv_get L k (by simpa using h)
    rw [show (k + 1) * 2 = k * 2 + 2 by omega]
    exact this
/-- cmp.Compare of two places. -/
def cfS (x y : Int × Nat) : Int := Lib.compareInt x.1 y.1
theorem ltS (x y : Int × Nat) : ltOf cfS x y = decide (x.1 < y.1) := by
  unfold ltOf cfS Lib.compareInt
  by_cases h : x.1 < y.1
  · simp [h]
  · by_cases h2 : x.1 > y.1 <;> simp [h, h2]
theorem swoS : Sort.SWO (ltOf cfS) := ⟨fun x => by rw [ltS]; simp, fun x y z h1 h2 => by rw [ltS] at *; simp at *; omega, fun x y z h1 h2 => by rw [ltS] at *; simp at *; omega⟩
set_option maxHeartbeats 1000000 in
theorem closureS (x y : Int × Nat) (W : World) : Calls Tryd.prog 82 #[.agg #[.int .i64 x.1, .int .i64 (x.2 : Nat)], .agg #[.int .i64 y.1, .int .i64 (y.2 : Nat)]] W fun e w' => e = .returned (.int .i64 (cfS x y)) ∧ ∃ q os', w' = Sort.grow (W.drewN q) os' := by
  have hcon := fun W' => AnyG.cmp_Compare_int Tryd.cmpInt x.1 y.1 W'
  change ∀ W', Calls Tryd.prog 83 _ _ _ at hcon
  unfold cfS
  generalize Lib.compareInt x.1 y.1 = r at hcon ⊢
  go_enter Tryd.func82, Tryd.ntmps82
  go_wp2_with (go_at_call 83; refine (hcon _).mono ?_; rintro e w' ⟨rfl, rfl⟩)
  go_ret
  exact ⟨rfl, 0, _, by rw [Sort.alloc_eq_grow, Sort.alloc_eq_grow, Sort.grow_grow]; rfl⟩
theorem cmpLaysS (blk off size : Nat) (w : World) : CmpLays Tryd.prog 82 #[] enS 2 cfS blk off size w := fun _ _ _ _ x y => closureS x y _
theorem kept_sort (enc : Int × Nat → List Value) (k : Nat) (w : World) (blk off n : Nat) (d : Array (Int × Nat)) (os : Array Obj) : Kept (fun i => i = blk) w (sortWorldK enc k w blk off n d os) := by
  refine ⟨rfl, rfl, rfl, size_sortWorldK_c enc k w blk off n d os, fun i hi hne => ?_⟩
  unfold sortWorldK
  simp only [Sort.grow, Sort.putRowK, Sort.putRow, Sort.mapBlock, Sort.ahead]
  rw [Array.getElem?_append_left (by simpa using hi), Array.getElem?_modify, if_neg (fun e => hne e.symm)]
theorem Gro.frozen {w0 w : World} {e : TypeId} {sz g c n : Nat} {xs : List Value} (h : Gro w0 w e sz (.slice (some ⟨g, 0, none⟩) n c) n xs) (k : Nat) : w.frozen? ⟨g, k, none⟩ = false := by
  rcases h.own.2 with ⟨e1, e2⟩ | ⟨g', cap, cur, e1, hg, hh, hn, hm, hs, ht⟩
  · cases e1
  · simp only [Value.slice.injEq, Option.some.injEq, Addr.mk.injEq, and_true, true_and] at e1
    obtain ⟨rfl, rfl⟩ := e1
    simp [World.frozen?, hh]
theorem Gro.holds {w0 w : World} {e : TypeId} {g c n : Nat} {L : List (Int × Nat)} (h : Gro w0 w e 2 (.slice (some ⟨g, 0, none⟩) n c) n (sv L)) : Sort.HoldsK enS 2 w g 0 L.toArray := by
  intro j hj
  rw [Sort.size_flatK, List.size_toArray] at hj
  refine ⟨?_, h.frozen _⟩
  rw [Sort.get_flatK _ _ _ _ (by rw [List.size_toArray]; exact hj), Nat.zero_add]
  have hk : j / 2 < L.length := by omega
  have hg := sv_get L (j / 2) hk
  have e1 : L.toArray[j / 2]! = L[j / 2] := by simp [hk]
  rw [e1]
  rcases Nat.mod_two_eq_zero_or_one j with q | q
  · rw [q]
    have := hg.1
    rw [show j / 2 * 2 = j by omega] at this
    exact h.at this
  · rw [q]
    have := hg.2
    rw [show j / 2 * 2 + 1 = j by omega] at this
    exact h.at this
theorem holds_spots {w : World} {g : Nat} {d : Array (Int × Nat)} (h : Sort.HoldsK enS 2 w g 0 d) : SpAt w (some ⟨g, 0, none⟩) d.toList := by
  intro _
  refine ⟨g, 0, rfl, fun k hk => ?_⟩
  have hk2 : k < d.size := by simpa using hk
  have h0 := (h.cell (i := k) (c := 0) hk2 (by decide)).1
  have h1 := (h.cell (i := k) (c := 1) hk2 (by decide)).1
  have e : d[k]! = d.toList[k] := by simp [hk2]
  rw [e] at h0 h1
  exact ⟨h0, h1⟩
set_option maxHeartbeats 1000000 in
/-- slices.SortFunc over spots that are not none. -/
theorem sort_spots {w0 w : World} {e : TypeId} {g c : Nat} {L : List (Int × Nat)} (h : Gro w0 w e 2 (.slice (some ⟨g, 0, none⟩) L.length c) L.length (sv L)) (hl : L.length ≤ 1099511627776) :
    Calls Tryd.prog 81 #[.slice (some ⟨g, 0, none⟩) L.length c, .func (.func 82) #[] #[]] w fun e w' => e = .returned (.tuple #[]) ∧ ∃ L2 : List (Int × Nat), L2 = (Sort.pdq (ltOf cfS) L.toArray 0 L.length (Lib.bitLen L.length) true true).toList ∧ L2.Perm L ∧ L2.Pairwise (fun x y => x.1 ≤ y.1) ∧ SpAt w' (some ⟨g, 0, none⟩) L2 ∧ Kept (fun i => i = g) w w' := by
  have eg : ∀ args w, (callFunc 82 args).run Tryd.prog w = .ok (.enter 82 args) w := enters_of Tryd.func82 (by kernel_rfl) rfl
  have hH := h.holds
  have hblk : g < w.heap.size := (h.own.lt g rfl).2
  have hcon := AnyQ.slices_SortFunc_eq Tryd.sortSpot 2 Tryd.isAgg135 Tryd.sizeOf135 enS (fun _ => rfl) (fun x v hv => by simp [enS] at hv; rcases hv with rfl | rfl <;> rfl) cfS swoS 82 #[] g 0 c L.toArray w eg (cmpLaysS g 0 L.toArray.size w) hH hblk (by rw [List.size_toArray]; omega)
  rw [List.size_toArray] at hcon
  refine hcon.mono ?_
  rintro e w' ⟨rfl, n, os, rfl⟩
  obtain ⟨hp, hs⟩ := Sort.pdq_sorts (ltOf cfS) swoS L.toArray 0 L.toArray.size (Lib.bitLen L.length) true true (Nat.zero_le _) (Nat.le_refl _) (Or.inl rfl)
  rw [List.size_toArray] at hp hs
  obtain ⟨D, hD⟩ : ∃ D, D = Sort.pdq (ltOf cfS) L.toArray 0 L.length (Lib.bitLen L.length) true true := ⟨_, rfl⟩
  rw [← hD] at hp hs ⊢
  have hsz : D.size = L.length := by have := hp.1; rwa [List.size_toArray] at this
  refine ⟨rfl, D.toList, rfl, ?_, ?_, holds_spots (holdsK_sortWorldK_c enS 2 w g 0 L.toArray D n os hH hblk (by rw [List.size_toArray]; exact hsz)), kept_sort ..⟩
  · have h3 := hp.2.2
    have e1 : D.extract 0 L.length = D := by rw [← hsz]; exact Array.extract_size
    have e2 : L.toArray.extract 0 L.length = L.toArray := by rw [show L.length = L.toArray.size by simp]; exact Array.extract_size
    rw [e1, e2] at h3
    simpa using h3
  · rw [List.pairwise_iff_getElem]
    intro i j hi hj hij
    have h4 := hs i j (Nat.zero_le _) hij (by simpa [hsz] using hj)
    rw [ltS] at h4
    have hj' : j < D.size := by simpa using hj
    have hi' : i < D.size := by simpa using hi
    simp [hi', hj'] at h4
    simpa using h4
end Go.Proofs.YtbdhmibiggpomaaDoor

namespace Go.Proofs.YtbdhmibiggpomaaDoor
open Go.ChangeShapes Go.WideShapes Go.ChangeAt Go.RowKit

theorem Tryd.infoSp : (Tryd.prog.info? 135).map (fun i => (i.zero, i.size, i.bytes)) = some (some (.agg #[.int .i64 0, .int .i64 0]), 2, 16) := by kernel_rfl
theorem enS_one (x : Int × Nat) : ∀ u ∈ enS x, u.oneCell' = true := by
  intro u hu
  simp [enS] at hu
  rcases hu with rfl | rfl <;> rfl
/-- What spotsOf leaves. -/
def soPost (W : World) (S : List (Int × Nat)) (e : Ending) (w' : World) : Prop := ∃ g c, ∃ L2 : List (Int × Nat), e = .returned (.slice (some ⟨g, 0, none⟩) L2.length c) ∧ L2 = (Sort.pdq (ltOf cfS) S.toArray 0 S.length (Lib.bitLen S.length) true true).toList ∧ L2.Perm S ∧ L2.Pairwise (fun x y => x.1 ≤ y.1) ∧ SpAt w' (some ⟨g, 0, none⟩) L2 ∧ Kept (fun _ => False) W w'
set_option maxRecDepth 20000 in
set_option maxHeartbeats 8000000 in
theorem spotsOf_some (L : List Il) (O : List Int) (a oa : Option Addr) (c oc : Nat) (W : World) (hL : LiAt W a L) (hO : IntsAt W oa O) (hlo : L.length = O.length) (hll : L.length ≤ 1099511627776) (hin : ∀ x ∈ L, InL x.l) (hio : InL O) (htl : ∀ k, k ≤ L.length → (spk L O k).length ≤ 1099511627776) (hne : spk L O L.length ≠ []) :
    Calls Tryd.prog 52 #[.slice a L.length c, .slice oa O.length oc] W (soPost W (spk L O L.length)) := by
  have HL := hideP hL
  have HO := hideP hO
  have HIN := hideP hin
  have HIO := hideP hio
  have HTL := hideP htl
  have HNE := hideP hne
  rw [← hlo]
  obtain ⟨n, hn⟩ : ∃ n, n = L.length := ⟨_, rfl⟩
  have HN := hideP hn
  have HLO := hideP hlo
  rw [← hn] at hll ⊢
  clear hL hO hin hio htl hne hlo hn
  go_enter Tryd.func52, Tryd.ntmps52
  go_wp2
  go_loopw [5, 12] (fun s5 s12 wr => ∃ (k m : Nat), k ≤ n ∧ s12 = .int .i64 k ∧ Hid (m = (spk L O k).length) ∧ Hid (Gro W wr 135 2 s5 m (sv (spk L O k)))) (fun _ s12 _ => n - (intOf s12).toNat)
  case atStart => exact ⟨0, 0, by omega, rfl, hideP rfl, hideP (gro_nil W _ _)⟩
  case round =>
    obtain ⟨k, m, hk, rfl, HM, HG⟩ := hrel
    by_cases hlt : k < n
    · have hkl : k < L.length := by rw [← HN.out]; exact hlt
      have hko : k < O.length := by rw [← HLO.out]; exact hkl
      obtain ⟨b, off, rfl, hc⟩ := HL.out (by intro e; rw [e] at hkl; simp at hkl)
      obtain ⟨ob, oo, rfl, ho⟩ := HO.out (by intro e; rw [e] at hko; simp at hko)
      obtain ⟨x, hx⟩ : ∃ x, x = L[k] := ⟨_, rfl⟩
      obtain ⟨z0, z1⟩ := hc k hkl
      rw [← hx] at z0 z1
      have y0 := HG.out.kept.cell z0 (fun f => f)
      have HZ1 := hideP z1
      have HX := hideP hx
      have HOC := hideP (ho k hko)
      have hob := HIO.out.at hko
      obtain ⟨o, hoo⟩ : ∃ o, o = O[k]?.getD 0 := ⟨_, rfl⟩
      rw [← hoo] at HOC hob
      obtain ⟨ho1, ho2⟩ := hob
      have HOO := hideP hoo
      have HXI : Hid (InL x.l) := hideP (HIN.out x (by rw [hx]; exact List.getElem_mem hkl))
      have hkk : (k : Int) < (n : Int) := by omega
      obtain ⟨xl, hxl⟩ : ∃ xl, xl = x.l.length := ⟨_, rfl⟩
      rw [← hxl] at y0
      have HXL := hideP hxl
      have HSP : Hid (spk L O (k + 1) = spk L O k ++ spw o k x.l) := hideP (by rw [spk, List.getElem?_eq_getElem hkl, ← hx, ← hoo])
      have hxlb : m + xl ≤ 1099511627776 := by
        have h1 := HTL.out (k + 1) hkl
        rw [HSP.out, List.length_append, spw, List.length_map, ← HM.out, ← HXL.out] at h1
        exact h1
      have HTL2 := hideP hxlb
      have hxlb : xl ≤ 1099511627776 := by omega
      generalize x.a = xa at *
      generalize x.c = xc at *
      clear z0 z1 hx hc ho hoo hxl
      go_wp2
      go_loopw [5, 19] (fun s5 s19 w2 => ∃ (j m2 : Nat), j ≤ xl ∧ Hid (m2 = m + j) ∧ s19 = .int .i64 j ∧ Hid (Gro W w2 135 2 s5 m2 (sv (spk L O k ++ spw o k (x.l.take j))))) (fun _ s19 _ => xl - (intOf s19).toNat)
      case atStart => exact ⟨0, m, by omega, hideP (by omega), rfl, by rw [List.take_zero, spw, List.map_nil, List.append_nil]; exact HG⟩
      case round =>
        obtain ⟨j, m2, hj, HM2, rfl, HG2⟩ := hrel
        by_cases hjl : j < xl
        · have hjx : j < x.l.length := by rw [← HXL.out]; exact hjl
          obtain ⟨xb, xo, rfl, hxc⟩ := HZ1.out (by intro e; rw [e] at hjx; simp at hjx)
          have y1 := HG2.out.kept.cell (hxc j hjx) (fun f => f)
          have y2 := HG2.out.kept.cell HOC.out (fun f => f)
          obtain ⟨hp1, hp2⟩ := HXI.out.at hjx
          have HST := hideP (spw_take o k x.l j hjx)
          obtain ⟨p, hp⟩ : ∃ p, p = x.l[j]?.getD 0 := ⟨_, rfl⟩
          rw [← hp] at y1 hp1 hp2 HST
          have hjj : (j : Int) < (xl : Int) := by omega
          clear hxc hp
          obtain ⟨sa, sc, rfl⟩ := HG2.out.shape
          go_wp2_with (at_builtin; refine StpQ.go ?_)
          refine ⟨?_⟩
          obtain ⟨i0, hi, hz0, hz1, hz2⟩ := info_partsP Tryd.infoSp
          refine wpList_push rfl (.tmp 23) (.tmp 32) 96 rfl 135 i0 (.agg #[.int .i64 0, .int .i64 0]) 2 16 Tryd.underlying96 hi hz0 hz1 hz2 rfl (by decide) (.slice sa m2 sc) m2 (sv (spk L O k ++ spw o k (x.l.take j))) (enS (p - o, k)) rfl HG2 rfl rfl (enS_one _) (hideP (by have := HTL2.out; have := HM2.out; omega)) (hideP (by have := HTL2.out; have := HM2.out; unfold maxLen; omega)) ?_
          intro a' c' W5 HG5
          have HG6 : Hid (Gro W W5 135 2 (.slice a' (m2 + 1) c') (m2 + 1) (sv (spk L O k ++ spw o k (x.l.take (j + 1))))) := hideP (by
            rw [HST.out, ← List.append_assoc, sv_app]
            exact HG5.out)
          clear HG5
          go_wp2
          go_roundw
          case rel => exact ⟨j + 1, m2 + 1, by omega, hideP (by have := HM2.out; omega), by go_num, HG6⟩
          case measure => simp [intOf]; omega
        · obtain rfl : j = xl := by omega
          have h6 := HG2.out
          rw [List.take_of_length_le (by rw [HXL.out]; exact Nat.le_refl _), ← HSP.out] at h6
          have HG6 := hideP h6
          clear h6
          have HM6 : Hid (m2 = (spk L O (k + 1)).length) := hideP (by rw [HSP.out, List.length_append, spw, List.length_map, ← HM.out, ← HXL.out]; exact HM2.out)
          go_wp2
          go_roundw
          case rel => exact ⟨k + 1, m2, by omega, by go_num, HM6, HG6⟩
          case measure => simp [intOf]; omega
    · obtain rfl : k = n := by omega
      obtain ⟨S, hS⟩ : ∃ S, S = spk L O k := ⟨_, rfl⟩
      have hne := HNE.out
      rw [← HN.out, ← hS] at hne
      have hg := HG.out
      have hm := HM.out
      rw [← hS] at hg hm
      have hmp : 0 < m := by rw [hm]; exact List.length_pos_iff.2 hne
      obtain ⟨sa, sc, rfl⟩ := hg.shape
      obtain ⟨g, rfl, -, -⟩ := hg.cell hmp
      subst hm
      have CS := hideP (sort_spots hg (by
        have h1 := HTL.out k (by rw [← HN.out]; exact Nat.le_refl _)
        rw [hS]; exact h1))
      have HGK := hideP hg.kept
      have HGW := hideP ((hg.own.lt g rfl).1)
      have HSS := hideP hS
      clear hg hS hne HG HM
      obtain ⟨sl, hsl⟩ : ∃ sl, sl = S.length := ⟨_, rfl⟩
      rw [← hsl] at CS hmp ⊢
      have HSL := hideP hsl
      clear hsl
      go_wp2_with (go_at_call 81; refine StpQ.go ?_)
      refine ⟨?_⟩
      refine CS.out.mono ?_
      clear CS
      rintro e W2 ⟨rfl, L2, h1, h2, h3, h4, h5⟩
      have H1 := hideP h1
      have H2 := hideP h2
      have H3 := hideP h3
      have H4 := hideP h4
      have H5 := hideP (HGK.out.trans h5 (fun i hi => .inr (by rw [hi]; exact HGW.out)))
      clear h1 h2 h3 h4 h5
      go_wp2
      go_ret
      have hl2 : L2.length = sl := by rw [H2.out.length_eq, HSL.out]
      rw [← HSS.out]
      exact ⟨g, sc, L2, by rw [hl2]; rfl, by rw [← HSL.out]; exact H1.out, H2.out, H3.out, H4.out, H5.out⟩
set_option maxRecDepth 20000 in
set_option maxHeartbeats 8000000 in
theorem phraseFreq_some (L : List Il) (O : List Int) (a oa : Option Addr) (c oc : Nat) (sl : Int) (W : World) (hL : LiAt W a L) (hO : IntsAt W oa O) (hlo : L.length = O.length) (hll : L.length ≤ 1048576) (hin : ∀ x ∈ L, InL x.l) (hlx : ∀ x ∈ L, x.l.length ≤ 1048576) (hio : InL O) (hsl : 0 ≤ sl ∧ sl ≤ 2147483647) (htl : ∀ k, k ≤ L.length → (spk L O k).length ≤ 1099511627776) (hne : spk L O L.length ≠ []) :
    Calls Tryd.prog 33 #[.slice a L.length c, .slice oa O.length oc, .int .i64 sl] W fun e w' => ∃ L2 : List (Int × Nat), L2 = (Sort.pdq (ltOf cfS) (spk L O L.length).toArray 0 (spk L O L.length).length (Lib.bitLen (spk L O L.length).length) true true).toList ∧ L2.Perm (spk L O L.length) ∧ L2.Pairwise (fun x y => x.1 ≤ y.1) ∧ e = .returned (.int .i64 (cbg L2 L.length sl : Nat)) ∧ Kept (fun _ => False) W w' := by
  have CK := hideP (fun W' (k : Kept (fun _ => False) W W') => keepLimits_in O oa oc W' (hO.kept k) (by omega) hio)
  have CS := hideP (spotsOf_some L O a oa c oc W hL hO hlo (by omega) hin hio htl hne)
  have CC := hideP (fun W' L2 (a2 : Option Addr) (c2 : Nat) (hS : SpAt W' a2 L2) (hp : L2.Perm (spk L O L.length)) => countBegins_any L2 a2 c2 L.length sl W' hS (by rw [hp.length_eq]; exact htl _ (Nat.le_refl _)) (by omega) (fun x hx => spk_word L O _ x (hp.mem_iff.1 hx)) (fun x hx => spk_at L O hin hio _ x (hp.mem_iff.1 hx)) (by omega))
  have HL := hideP hL
  have HIN := hideP hin
  have HLX := hideP hlx
  obtain ⟨s1, s2⟩ := hsl
  have e1 : decide (sl < 0) = false := decide_eq_false (by omega)
  have e2 : decide (2147483647 < sl) = false := decide_eq_false (by omega)
  have e3 : ¬ sl < 0 := by omega
  have e4 : ¬ 2147483647 < sl := by omega
  rw [← hlo] at CK CS ⊢
  obtain ⟨n, hn⟩ : ∃ n, n = L.length := ⟨_, rfl⟩
  have HN := hideP hn
  rw [← hn] at CK CS CC hll ⊢
  clear hL hO hin hlx hio htl hne hlo hn
  go_enter Tryd.func33, Tryd.ntmps33
  go_wp2_with (go_at_call 50; refine (CK.out _ (Kept.refl _ _)).mono ?_; clear CK; rintro e W1 ⟨rfl, rfl⟩)
  go_loopw [29] (fun s29 wr => ∃ k : Nat, k ≤ n ∧ s29 = .int .i64 k ∧ wr = W1) (fun s29 _ => n - (intOf s29).toNat)
  case atStart => exact ⟨0, by omega, rfl, rfl⟩
  case round =>
    obtain ⟨k, hk, rfl, rfl⟩ := hrel
    by_cases hlt : k < n
    · have hkl : k < L.length := by rw [← HN.out]; exact hlt
      obtain ⟨b, off, rfl, hc⟩ := HL.out (by intro e; rw [e] at hkl; simp at hkl)
      obtain ⟨z0, z1⟩ := hc k hkl
      have hm := List.getElem_mem hkl
      have CX := hideP (keepLimits_in L[k].l L[k].a L[k].c wr z1 (by have := HLX.out _ hm; omega) (HIN.out _ hm))
      generalize L[k].l.length = xl at *
      generalize L[k].a = xa at *
      generalize L[k].c = xc at *
      have hkk : (k : Int) < (n : Int) := by omega
      clear z1 hc hm
      go_wp2_with (go_at_call 50; refine CX.out.mono ?_; clear CX; rintro e W2 ⟨rfl, rfl⟩)
      go_roundw
      case rel => exact ⟨k + 1, by omega, by go_num, trivial⟩
      case measure => simp [intOf]; omega
    · obtain rfl : k = n := by omega
      go_wp2_with (go_at_call 52; refine StpQ.go ?_)
      refine ⟨?_⟩
      refine CS.out.mono ?_
      clear CS
      rintro e W2 ⟨g, c2, L2, rfl, h1, h2, h3, h4, k2⟩
      have CC2 := hideP (CC.out W2 L2 _ c2 h4 h2)
      have H1 := hideP h1
      have H2 := hideP h2
      have H3 := hideP h3
      have HK2 := hideP k2
      clear h1 h2 h3 h4 k2 CC
      obtain ⟨l2, hl2⟩ : ∃ l2, l2 = L2.length := ⟨_, rfl⟩
      rw [← hl2] at CC2 ⊢
      clear hl2
      go_wp2_with (go_at_call 51; refine StpQ.go ?_)
      refine ⟨?_⟩
      refine CC2.out.mono ?_
      clear CC2
      rintro e W3 ⟨rfl, k3⟩
      have HK3 := hideP (HK2.out.trans k3 (fun _ f => f.elim))
      clear k3
      go_wp2
      go_ret
      exact ⟨L2, H1.out, H2.out, H3.out, rfl, HK3.out⟩
end Go.Proofs.YtbdhmibiggpomaaDoor

namespace Go.Proofs.YtbdhmibiggpomaaDoor
open Go.ChangeShapes Go.WideShapes Go.ChangeAt Go.RowKit

theorem sorted5 : (Sort.pdq (ltOf cfS) #[((1 : Int), 0), (5, 0), (9, 0), (1, 1), (9, 1)] 0 5 (Lib.bitLen 5) true true).toList = [((1 : Int), 0), (1, 1), (5, 0), (9, 0), (9, 1)] := by
  kernel_rfl
theorem cbg5 : cbg [((1 : Int), 0), (1, 1), (5, 0), (9, 0), (9, 1)] 2 0 = 2 := by decide
end Go.Proofs.YtbdhmibiggpomaaDoor

namespace Go.Proofs.YtbdhmibiggpomaaDoor
open Go.ChangeShapes Go.WideShapes Go.ChangeAt Go.RowKit

/-- The postings of the chapter's first example. -/
def twl (k : Nat) : List Po := (List.range k).map (fun i : Nat => (⟨10 * (i : Int), [3]⟩ : Po))
theorem twl_step (k : Nat) : twl (k + 1) = twl k ++ [⟨10 * (k : Int), [3]⟩] := by unfold twl; rw [List.range_succ, List.map_append]; rfl
theorem twl_len (k : Nat) : (twl k).length = k := by simp [twl]
theorem twl_last (k : Nat) : lastd (-1) (twl (k + 1)) = 10 * (k : Int) := by rw [twl_step, lastd_append]; rfl
theorem twl_good : ∀ k, k ≤ 100 → gdl (-1) (twl k)
  | 0, _ => trivial
  | k + 1, h => by
    rw [twl_step, gdl_append]
    refine ⟨twl_good k (by omega), ?_, trivial⟩
    have hl : lastd (-1) (twl k) < 10 * (k : Int) := by
      cases k with
      | zero => decide
      | succ j => rw [twl_last]; omega
    exact ⟨by simp only; omega, by simp only; omega, hl, by simp, ⟨by decide, by decide, trivial⟩⟩
theorem twl_tot : ∀ k, tot (twl k) = k
  | 0 => rfl
  | k + 1 => by rw [twl_step, tot_append, twl_tot k]; rfl
set_option maxRecDepth 20000 in
set_option maxHeartbeats 4000000 in
theorem twenty_any (W : World) : Calls Tryd.prog 29 #[] W fun e w' => ∃ (FL : List Pg) (a : Option Addr) (c : Nat), e = .returned (.slice a FL.length c) ∧ pol FL = twl 20 ∧ PsAt w' a FL ∧ FL.length ≤ c ∧ Kept (fun _ => False) W w' := by
  go_enter Tryd.func29, Tryd.ntmps29
  go_wp2
  go_loopw [1, 2] (fun s1 s2 wr => ∃ (k : Nat) (FL : List Pg) (sa : Option Addr) (sc : Nat), k ≤ 20 ∧ s2 = .int .i64 k ∧ s1 = .slice sa k sc ∧ Hid (pol FL = twl k) ∧ Hid (Gps (fun _ => False) W wr (.slice sa k sc) k FL)) (fun _ s2 _ => 20 - (intOf s2).toNat)
  case atStart => exact ⟨0, [], none, 0, by omega, rfl, rfl, hideP rfl, hideP ⟨⟨rfl, .inl ⟨rfl, rfl⟩⟩, Kept.refl _ _, fun g hg => (by cases hg), fun g hg => (by cases hg)⟩⟩
  case round =>
    obtain ⟨k, FL, sa, sc, hk, rfl, rfl, HP, HG⟩ := hrel
    by_cases hlt : k < 20
    · have hkk : (k : Int) < 20 := by omega
      have kA := Kept.alloc wr (.cells #[.int .i64 3] 3)
      have HG1 := hideP (HG.out.step kA (fun _ f => f.elim))
      have GW := hideP HG1.out.own
      have hB : Hid (IntsAt (wr.alloc (.cells #[.int .i64 3] 3)) (some ⟨wr.heap.size, 0, none⟩) [3]) := hideP (fun _ => ⟨wr.heap.size, 0, rfl, fun j hj => by
        have : j = 0 := by simpa using hj
        subst this
        simp⟩)
      have s4 : W.heap.size ≤ (wr.alloc (.cells #[.int .i64 3] 3)).heap.size := HG1.out.kept.size
      have hz : (wr.alloc (.cells #[.int .i64 3] 3)).heap.size = wr.heap.size + 1 := by simp
      have HZ := hideP hz
      have HOB : Hid (Value.ownBlock (.slice sa k sc) ≠ some wr.heap.size) := hideP (fun e => by
        have := (HG.out.own.lt _ e).2
        omega)
      have HWS := hideP HG.out.kept.size
      clear kA hz
      go_wp2_with (at_builtin; refine wpList_pushG rfl _ _ rfl _ k (pcs FL) ⟨10 * (k : Int), some ⟨wr.heap.size, 0, none⟩, 1, [3]⟩ 1 rfl rfl GW s4 _ (by first | rfl | simp) rfl (by omega) ?_; intro gb c' W5 O5 K5 A5)
      have HG5 := hideP (HG1.out.more O5.out K5.out A5.out (M := [⟨10 * (k : Int), some ⟨wr.heap.size, 0, none⟩, 1, [3]⟩]) (fun g hg => by
        rw [List.mem_singleton] at hg
        subst hg
        exact hB.out) (fun g hg _ => by
        rw [List.mem_singleton] at hg
        subst hg
        exact ⟨wr.heap.size, 0, rfl, HWS.out, by rw [HZ.out]; omega, HOB.out⟩))
      have HP5 : Hid (pol (FL ++ [⟨10 * (k : Int), some ⟨wr.heap.size, 0, none⟩, 1, [3]⟩]) = twl (k + 1)) := hideP (by
        rw [twl_step, ← HP.out]
        simp [pol, Pg.po])
      clear O5 K5 A5 GW HG1 hB s4
      generalize (FL ++ [⟨10 * (k : Int), some ⟨wr.heap.size, 0, none⟩, 1, [3]⟩] : List Pg) = FL5 at *
      go_wp2
      go_roundw
      case rel => exact ⟨k + 1, FL5, _, c', by omega, by go_num, rfl, HP5, HG5⟩
      case measure => simp [intOf]; omega
    · obtain rfl : k = 20 := by omega
      have h1 := HG.out.at
      have HN := hideP h1.2.1
      have HC := hideP h1.2.2
      have HA := hideP h1.1
      clear h1
      go_wp2
      go_ret
      exact ⟨FL, sa, sc, by rw [← HN.out]; rfl, HP.out, HA.out, by rw [← HN.out]; exact HC.out, HG.out.kept⟩
end Go.Proofs.YtbdhmibiggpomaaDoor

namespace Go.Proofs.YtbdhmibiggpomaaDoor
open Go.ChangeShapes Go.WideShapes Go.ChangeAt Go.RowKit

/-- Numbers that have just been laid. -/
theorem ints_new (W : World) (l : List Int) : IntsAt (W.alloc (.cells (is l).toArray 3)) (some ⟨W.heap.size, 0, none⟩) l := by
  intro _
  refine ⟨W.heap.size, 0, rfl, fun k hk => ?_⟩
  rw [Nat.zero_add, cell_of_row _ _ _ _ _ _ (heap_alloc_new W _)]
  simp [is, List.getElem?_eq_getElem hk]
def V4 (V : World) : World := (((V.alloc (.cells #[.int .i64 1, .int .i64 5, .int .i64 9] 3)).alloc (.cells #[.int .i64 2, .int .i64 10] 3)).alloc (.cells #[.slice (some ⟨V.heap.size, 0, none⟩) 3 3, .slice (some ⟨V.heap.size + 1, 0, none⟩) 2 2] 40)).alloc (.cells #[.int .i64 0, .int .i64 1] 3)
theorem kept_V4 (V : World) : Kept (fun _ => False) V (V4 V) := (((Kept.alloc V _).trans (Kept.alloc _ _) (fun _ f => f.elim)).trans (Kept.alloc _ _) (fun _ f => f.elim)).trans (Kept.alloc _ _) (fun _ f => f.elim)
theorem phrase2 (V : World) : Calls Tryd.prog 33 #[.slice (some ⟨V.heap.size + 2, 0, none⟩) 2 2, .slice (some ⟨V.heap.size + 3, 0, none⟩) 2 2, .int .i64 0] (V4 V) fun e w' => e = .returned (.int .i64 2) ∧ Kept (fun _ => False) V w' := by
  have k1 := Kept.alloc V (.cells #[.int .i64 1, .int .i64 5, .int .i64 9] 3)
  obtain ⟨V1, hV1⟩ : ∃ V1, V1 = V.alloc (.cells #[.int .i64 1, .int .i64 5, .int .i64 9] 3) := ⟨_, rfl⟩
  have i1 : IntsAt V1 (some ⟨V.heap.size, 0, none⟩) [1, 5, 9] := by rw [hV1]; exact ints_new V [1, 5, 9]
  have z1 : V1.heap.size = V.heap.size + 1 := by rw [hV1]; simp
  obtain ⟨V2, hV2⟩ : ∃ V2, V2 = V1.alloc (.cells #[.int .i64 2, .int .i64 10] 3) := ⟨_, rfl⟩
  have i2 : IntsAt V2 (some ⟨V.heap.size + 1, 0, none⟩) [2, 10] := by rw [hV2, ← z1]; exact ints_new V1 [2, 10]
  have z2 : V2.heap.size = V.heap.size + 2 := by rw [hV2]; simp [z1]
  have k2 : Kept (fun _ => False) V1 V2 := by rw [hV2]; exact Kept.alloc _ _
  obtain ⟨V3, hV3⟩ : ∃ V3, V3 = V2.alloc (.cells #[.slice (some ⟨V.heap.size, 0, none⟩) 3 3, .slice (some ⟨V.heap.size + 1, 0, none⟩) 2 2] 40) := ⟨_, rfl⟩
  have k3 : Kept (fun _ => False) V2 V3 := by rw [hV3]; exact Kept.alloc _ _
  have z3 : V3.heap.size = V.heap.size + 3 := by rw [hV3]; simp [z2]
  have g3 : V3.heap[V.heap.size + 2]? = some (.cells #[.slice (some ⟨V.heap.size, 0, none⟩) 3 3, .slice (some ⟨V.heap.size + 1, 0, none⟩) 2 2] 40 (0, 0)) := by rw [hV3, ← z2]; exact heap_alloc_new V2 _
  obtain ⟨W4, hW4⟩ : ∃ W4, W4 = V3.alloc (.cells #[.int .i64 0, .int .i64 1] 3) := ⟨_, rfl⟩
  have k4 : Kept (fun _ => False) V3 W4 := by rw [hW4]; exact Kept.alloc _ _
  have i4 : IntsAt W4 (some ⟨V.heap.size + 3, 0, none⟩) [0, 1] := by rw [hW4, ← z3]; exact ints_new V3 [0, 1]
  have g4 := k4.heap g3 (fun f => f)
  have e4 : V4 V = W4 := by rw [hW4, hV3, hV2, hV1]; rfl
  have k24 := k3.trans k4 (fun _ f => f.elim)
  have k14 := k2.trans k24 (fun _ f => f.elim)
  have hL : LiAt W4 (some ⟨V.heap.size + 2, 0, none⟩) [⟨some ⟨V.heap.size, 0, none⟩, 3, [1, 5, 9]⟩, ⟨some ⟨V.heap.size + 1, 0, none⟩, 2, [2, 10]⟩] := by
    intro _
    refine ⟨V.heap.size + 2, 0, rfl, fun k hk => ?_⟩
    have : k = 0 ∨ k = 1 := by simp at hk; omega
    rcases this with rfl | rfl
    · exact ⟨by rw [cell_of_row _ _ _ _ _ _ g4]; rfl, i1.kept k14⟩
    · exact ⟨by rw [cell_of_row _ _ _ _ _ _ g4]; rfl, i2.kept k24⟩
  have hk := kept_V4 V
  rw [e4] at hk ⊢
  have h := phraseFreq_some [⟨some ⟨V.heap.size, 0, none⟩, 3, [1, 5, 9]⟩, ⟨some ⟨V.heap.size + 1, 0, none⟩, 2, [2, 10]⟩] [0, 1] (some ⟨V.heap.size + 2, 0, none⟩) (some ⟨V.heap.size + 3, 0, none⟩) 2 2 0 W4 hL i4 rfl (by simp) (by
    intro x hx
    simp at hx
    rcases hx with rfl | rfl <;> (intro y hy; simp at hy; omega)) (by
    intro x hx
    simp at hx
    rcases hx with rfl | rfl <;> simp) (by intro y hy; simp at hy; omega) (by decide) (by
    intro k hk
    have : k = 0 ∨ k = 1 ∨ k = 2 := by simp at hk; omega
    rcases this with rfl | rfl | rfl <;> simp [spk, spw]) (by simp [spk, spw])
  refine h.mono ?_
  rintro e w' ⟨L2, h1, -, -, rfl, k9⟩
  have hs : L2 = [((1 : Int), 0), (1, 1), (5, 0), (9, 0), (9, 1)] := h1.trans sorted5
  rw [hs]
  exact ⟨by rw [show (cbg [((1 : Int), 0), (1, 1), (5, 0), (9, 0), (9, 1)] [(⟨some ⟨V.heap.size, 0, none⟩, 3, [1, 5, 9]⟩ : Il), ⟨some ⟨V.heap.size + 1, 0, none⟩, 2, [2, 10]⟩].length 0) = 2 from cbg5]; rfl, hk.trans k9 (fun _ f => f.elim)⟩
theorem p20_17 : plc (twl 20) 165 = 17 := by decide +kernel
theorem p20_20 : plc (twl 20) 1000 = 20 := by decide +kernel
set_option maxRecDepth 20000 in
set_option maxHeartbeats 8000000 in
theorem fixed_any (ad : Nat → Addr) (W : World) (hE : ErQ W ad) : Calls Tryd.prog 11 #[] W fun e w' => e = .returned (.bool true) ∧ Kept (fun _ => False) W w' := by
  have C1 := hideP (twenty_any W)
  have HE := hideP hE
  have HG : Hid (gdl (-1) (twl 20)) := hideP (twl_good 20 (by decide))
  have HIL : Hid ((img (twl 20)).length ≤ 1073741824) := hideP (by have := img_le HG.out (by rw [twl_len]; decide) (by rw [twl_tot]; decide); omega)
  have CE : Hid (∀ (W1 : World) (FL : List Pg) (a : Option Addr) (c : Nat), pol FL = twl 20 → PsAt W1 a FL → FL.length ≤ c → Calls Tryd.prog 26 #[.slice a FL.length c] W1 fun e w' => ∃ g c', e = .returned (.tuple #[.slice (some ⟨g, 0, none⟩) (img (twl 20)).length c', .int .i64 0]) ∧ BytesAt w' (some ⟨g, 0, none⟩) (img (twl 20)) ∧ Kept (fun _ => False) W1 w') := hideP (fun W1 FL a c hp hP hc => by
    have hI : ∀ p ∈ pol FL, IsInts p.ps := by
      rw [hp]
      intro p hm
      obtain ⟨i, _, rfl⟩ := List.mem_map.1 hm
      intro x hx
      simp at hx
      omega
    have hl : FL.length = 20 := by rw [← pol_len, hp, twl_len]
    refine (dencode_any FL a c W1 hP (fun g hg => hI g.po (List.mem_map_of_mem hg)) (by omega) hc (by rw [hp, twl_tot]; decide)).mono ?_
    rintro e w' (⟨_, g, c', rfl, hG⟩ | ⟨hn, _⟩)
    · rw [hp] at hG ⊢
      exact ⟨g, c', rfl, (gro_bytes hG).1, hG.kept⟩
    · exact absurd ((flts_iff hI).2 (by rw [hp]; exact HG.out)) hn)
  clear hE
  go_enter Tryd.func11, Tryd.ntmps11
  go_wp2_with (go_at_call 29; refine StpQ.go ?_)
  refine ⟨?_⟩
  refine C1.out.mono ?_
  clear C1
  rintro e W1 ⟨FL, a, c, rfl, hp, hP, hc, k1⟩
  have CE1 := hideP (CE.out W1 FL a c hp hP hc)
  have HK1 := hideP k1
  obtain ⟨fl, hfl⟩ : ∃ fl, fl = FL.length := ⟨_, rfl⟩
  rw [← hfl] at CE1 ⊢
  clear CE hp hP hc k1 hfl
  go_wp2_with (go_at_call 26; refine StpQ.go ?_)
  refine ⟨?_⟩
  refine CE1.out.mono ?_
  clear CE1
  rintro e W2 ⟨g, c2, rfl, hB, k2⟩
  have hk2 := HK1.out.trans k2 (fun _ f => f.elim)
  have CO := hideP (copen_good (twl 20) (some ⟨g, 0, none⟩) c2 ad W2 hB HG.out HIL.out (HE.out.kept hk2))
  have HK2 := hideP hk2
  clear k2 hB hk2 HK1
  obtain ⟨il, hil⟩ : ∃ il, il = (img (twl 20)).length := ⟨_, rfl⟩
  rw [← hil] at CO ⊢
  clear hil
  go_wp2_with (go_at_call 12; refine StpQ.go ?_)
  refine ⟨?_⟩
  refine CO.out.mono ?_
  clear CO
  rintro e W3 ⟨cb, bl, W0, rfl, hA, hcb, k0, k3⟩
  have HS0 := hideP hA.toS
  have HE0 := hideP (HE.out.kept (HK2.out.trans k0 (fun _ f => f.elim)))
  have HK3 := hideP (HK2.out.trans k3 (fun _ f => f.elim))
  have HCB : Hid (W.heap.size ≤ cb) := hideP (Nat.le_trans HK2.out.size hcb)
  clear hA k0 k3 HK2 HE hcb
  have CD := hideP (cdocS W3 HS0.out)
  rw [show docU (twl 20) 0 = -1 from rfl] at CD
  have CN := hideP (cnext_in W3 ad HS0.out (Nat.zero_le _) (by decide) (by rw [twl_len]; decide) HG.out HIL.out HE0.out)
  rw [show docU (twl 20) (0 + 1) = 0 by decide +kernel] at CN
  go_wp2_with (first
    | (go_at_call 30; refine CD.out.mono ?_; clear CD; rintro e W4 ⟨rfl, rfl⟩)
    | (go_at_call 13; refine StpQ.go ?_))
  refine ⟨?_⟩
  refine CN.out.mono ?_
  clear CN
  rintro e W5 ⟨rfl, hS1, k5⟩
  have HS1 := hideP hS1
  have HK5 := hideP (HK3.out.young k5 HCB.out)
  have CA := hideP (cadv_in W5 165 ad HS1.out (by rw [twl_len]; decide) (by decide +kernel) (by decide) (by rw [twl_len]; decide) HG.out HIL.out HE0.out)
  rw [p20_17, twl_len, show docU (twl 20) (17 + 1) = 170 by decide +kernel, show 0 + 1 + mvU 20 (0 + 1) 17 = 4 by decide] at CA
  clear hS1 k5 HS0 HK3
  go_wp2_with (go_at_call 31; refine StpQ.go ?_)
  refine ⟨?_⟩
  refine CA.out.mono ?_
  clear CA
  rintro e W6 ⟨rfl, hS2, k6⟩
  have HS2 := hideP hS2
  have HK6 := hideP (HK5.out.young k6 HCB.out)
  have CM := hideP (cmovesS W6 HS2.out)
  have CF := hideP (cfreqS W6 HS2.out)
  rw [show (posU (twl 20) (17 + 1)).length = 1 by decide +kernel] at CF
  have CP := hideP (phrase2 W6)
  unfold V4 at CP
  clear hS2 k6 HS1 HK5
  go_wp2_with (first
    | (go_at_call 32; refine CM.out.mono ?_; clear CM; rintro e W7 ⟨rfl, rfl⟩)
    | (go_at_call 14; refine CF.out.mono ?_; clear CF; rintro e W8 ⟨rfl, rfl⟩)
    | (go_at_call 33; refine StpQ.go ?_))
  refine ⟨?_⟩
  refine CP.out.mono ?_
  clear CP
  rintro e W9 ⟨rfl, k9⟩
  have HS9 := hideP (HS2.out.later k9)
  have HK9 := hideP (HK6.out.trans k9 (fun _ f => f.elim))
  have CA := hideP (cadv_in W9 1000 ad HS9.out (by rw [twl_len]; decide) (by decide +kernel) (by decide) (by rw [twl_len]; decide) HG.out HIL.out HE0.out)
  rw [p20_20, twl_len, show docU (twl 20) (20 + 1) = 2147483647 by decide +kernel] at CA
  clear k9 HS2 HK6
  go_wp2_with (go_at_call 31; refine StpQ.go ?_)
  refine ⟨?_⟩
  refine CA.out.mono ?_
  clear CA
  rintro e W10 ⟨rfl, hS10, k10⟩
  have HK10 := hideP (HK9.out.young k10 HCB.out)
  clear hS10 k10
  go_wp2
  go_ret
  exact ⟨rfl, HK10.out⟩
end Go.Proofs.YtbdhmibiggpomaaDoor

namespace Go.Proofs.YtbdhmibiggpomaaDoor
open Go.ChangeShapes Go.WideShapes Go.ChangeAt Go.RowKit

set_option maxRecDepth 20000 in
set_option maxHeartbeats 2000000 in
/-- cursor.Open of bytes that are refused. -/
theorem copen_bad (l : List Int) (a : Option Addr) (c : Nat) (ad : Nat → Addr) (w : World) (hA : BytesAt w a l) (hI : IsBytes l) (hl : l.length ≤ 1073741824) (ho : opn l = none) (hE : ErQ w ad) :
    Calls Tryd.prog 12 #[.slice a l.length c] w fun e w' => e = .returned (.tuple #[.pointer none, .iface 176 (.pointer (some (ad 9)))]) ∧ Kept (fun _ => False) w w' := by
  have h := popen_any l a c ad w hA hI hl hE.p hE.v9
  rw [ho] at h
  have CO := hideP h
  generalize l.length = N at *
  clear hA hI hl hE ho h
  go_enter Tryd.func12, Tryd.ntmps12
  go_wp2_with (go_at_call 10; refine StpQ.go ?_)
  refine ⟨?_⟩
  refine CO.out.mono ?_
  clear CO
  rintro e W1 ⟨rfl, k1⟩
  rw [show errV (ad 9) = .iface 176 (.pointer (some (ad 9))) from rfl]
  have HK1 := hideP k1
  clear k1
  go_wp2
  go_ret2
  exact ⟨rfl, HK1.out⟩
theorem dpU_at {P : List Po} {i : Nat} (h : i < P.length) : docU P (i + 1) = P[i].d ∧ posU P (i + 1) = P[i].ps := by
  have e := List.getElem?_eq_getElem h
  exact ⟨by simp [docU, e], by simp [posU, e]⟩
theorem dpU_end (P : List Po) : docU P (P.length + 1) = 2147483647 ∧ posU P (P.length + 1) = [] := ⟨docU_end P, posU_end P⟩
theorem ps_le : ∀ {P : List Po} {i : Nat} (h : i < P.length), P[i].ps.length ≤ tot P
  | x :: P, 0, _ => by simp [tot]
  | x :: P, i + 1, h => by
    have := ps_le (P := P) (i := i) (by simpa using h)
    simp [tot]
    omega
set_option maxRecDepth 20000 in
set_option maxHeartbeats 16000000 in
/-- The law CursorOpens. -/
theorem opens_walk (l : List Int) (a : Option Addr) (c : Nat) (ad : Nat → Addr) (w : World) (hB : BytesAt w a l) (hI : IsBytes l) (hl : l.length ≤ 1048576) (hE : Errs13 w ad) :
    Calls Tryd.prog 4 #[.slice a l.length c] w fun e w' => e = .returned (.bool true) ∧ Kept (fun _ => False) w w' := by
  have HE := hideP hE
  have CF := hideP (fixed_any ad w hE.toQ)
  have CR : Hid (∀ W, Kept (fun _ => False) w W → Calls Tryd.prog 7 #[.slice a l.length c] W fun e w' => ddP W e w' (opn l)) := hideP (fun W k => ddec_any l a l.length c W rfl (hB.kept k) hI hl)
  cases ho : opn l with
  | none =>
    rw [ho] at CR
    have CO : Hid (∀ W, Kept (fun _ => False) w W → Calls Tryd.prog 12 #[.slice a l.length c] W fun e w' => e = .returned (.tuple #[.pointer none, .iface 176 (.pointer (some (ad 9)))]) ∧ Kept (fun _ => False) W w') := hideP (fun W k => copen_bad l a c ad W (hB.kept k) hI (by omega) ho (hE.kept k).toQ)
    have CNc : Hid (∀ W, Kept (fun _ => False) w W → Calls Tryd.prog 9 #[.iface 176 (.pointer (some (ad 9)))] W fun e w' => e = .returned (.int .i64 10) ∧ w' = W) := hideP (fun W k => num_corrupt (hE.kept k))
    generalize l.length = n at *
    clear hB hI hl hE ho
    go_enter Tryd.func4, Tryd.ntmps4
    go_wp2_with (go_at_call 11; refine StpQ.go ?_)
    refine ⟨?_⟩
    refine CF.out.mono ?_
    clear CF
    rintro e W1 ⟨rfl, k1⟩
    have CR1 := hideP (CR.out W1 k1)
    have HK1 := hideP k1
    clear CR k1
    go_wp2_with (go_at_call 7; refine StpQ.go ?_)
    refine ⟨?_⟩
    refine CR1.out.mono ?_
    clear CR1
    rintro e W2 ⟨rfl, k2⟩
    have hk2 := HK1.out.trans k2 (fun _ f => f.elim)
    have CO2 := hideP (CO.out W2 hk2)
    have HK2 := hideP hk2
    clear CO k2 hk2 HK1
    go_wp2_with (go_at_call 12; refine StpQ.go ?_)
    refine ⟨?_⟩
    refine CO2.out.mono ?_
    clear CO2
    rintro e W3 ⟨rfl, k3⟩
    have hk3 := HK2.out.trans k3 (fun _ f => f.elim)
    have CN3 := hideP (CNc.out W3 hk3)
    have HK3 := hideP hk3
    clear k3 hk3 HK2 CNc
    go_wp2_with (go_at_call 9; refine CN3.out.mono ?_; clear CN3; rintro e W5 ⟨rfl, h5⟩; obtain rfl := h5.symm)
    go_ret
    exact ⟨rfl, HK3.out⟩
  | some P =>
    rw [ho] at CR
    obtain ⟨hP1, hP2, -⟩ := opn_back hI ho
    obtain ⟨hs1, hs2⟩ := opn_small hI ho
    have hs3 : tot P ≤ 1048576 ∧ P.length ≤ 1048576 := by omega
    have HG := hideP hP2
    have HIL : Hid ((img P).length ≤ 1073741824) := hideP (by rw [← hP1]; omega)
    have CO : Hid (∀ W, Kept (fun _ => False) w W → Calls Tryd.prog 12 #[.slice a l.length c] W fun e w' => ∃ cb bl W0, e = .returned (.tuple #[.pointer (some ⟨cb, 0, none⟩), .nilIface]) ∧ CuAt ⟨W0, 0⟩ w' cb bl P 0 0 (-1) (.slice none 0 0) none 0 false ∧ W.heap.size ≤ cb ∧ Kept (fun _ => False) W W0 ∧ Kept (fun _ => False) W w') := hideP (fun W k => by
      have h := copen_good P a c ad W (by rw [← hP1]; exact hB.kept k) hP2 HIL.out (hE.kept k).toQ
      rw [← hP1] at h
      exact h)
    generalize l.length = n at *
    obtain ⟨hs4, hs5⟩ := hs3
    clear hB hI hE ho hP1 hP2
    go_enter Tryd.func4, Tryd.ntmps4
    go_wp2_with (go_at_call 11; refine StpQ.go ?_)
    refine ⟨?_⟩
    refine CF.out.mono ?_
    clear CF
    rintro e W1 ⟨rfl, k1⟩
    have CR1 := hideP (CR.out W1 k1)
    have HK1 := hideP k1
    clear CR k1
    go_wp2_with (go_at_call 7; refine StpQ.go ?_)
    refine ⟨?_⟩
    refine CR1.out.mono ?_
    clear CR1
    rintro e W2 ⟨PL, va, vc, hpl, rfl, hPs, k2⟩
    have hk2 := HK1.out.trans k2 (fun _ f => f.elim)
    have CO2 := hideP (CO.out W2 hk2)
    have HK2 := hideP hk2
    have HPs := hideP hPs
    have HPl := hideP hpl
    obtain ⟨N, hN⟩ : ∃ N, N = PL.length := ⟨_, rfl⟩
    rw [← hN]
    have HN := hideP hN
    have HNP : Hid (N = P.length) := hideP (by rw [hN, ← pol_len, hpl])
    have hNb : N ≤ 1048576 := by have := HNP.out; omega
    clear CO k2 hk2 HK1 hPs hpl hN
    go_wp2_with (go_at_call 12; refine StpQ.go ?_)
    refine ⟨?_⟩
    refine CO2.out.mono ?_
    clear CO2
    rintro e W3 ⟨cb, bl, W0, rfl, hA, hcb, k0, k3⟩
    have HS0 := hideP hA.toS
    have HK23 := hideP k3
    have HE0 := hideP (HE.out.kept (HK2.out.trans k0 (fun _ f => f.elim))).toQ
    have CN3 := hideP (num_nil W3)
    have HCB := hideP hcb
    clear hA k0 k3 hcb
    go_wp2_with (go_at_call 9; refine CN3.out.mono ?_; clear CN3; rintro e W5 ⟨rfl, h5⟩; obtain rfl := h5.symm)
    go_loopw [36] (fun s36 wr => ∃ (i mv : Nat) (ask : Bool), i ≤ N ∧ mv ≤ i * 1048577 ∧ s36 = .int .i64 i ∧ Hid (CuS ⟨W0, 0⟩ wr cb bl P i mv ask) ∧ Hid (Kept (fun _ => False) W2 wr)) (fun s36 _ => N - (intOf s36).toNat)
    case atStart => exact ⟨0, 0, false, by omega, by omega, rfl, HS0, HK23⟩
    case round =>
    obtain ⟨i, mv, ask, hi, hmv, rfl, HS, HK⟩ := hrel
    obtain ⟨Wr, hWr⟩ : ∃ Wr, Wr = wr := ⟨_, rfl⟩
    rw [← hWr] at HS HK ⊢
    clear hWr
    have hmvb : mv ≤ 2000000000000 := by
      have : i * 1048577 ≤ 1048576 * 1048577 := Nat.mul_le_mul_right _ (by omega)
      omega
    by_cases hlt : i < N
    · have hiP : i < P.length := by rw [← HNP.out]; exact hlt
      have hiL : i < PL.length := by rw [← HN.out]; exact hlt
      obtain ⟨b, off, rfl, hc⟩ := HPs.out (by intro e; rw [e] at hiL; simp at hiL)
      obtain ⟨x0, x1, x2⟩ := hc i hiL
      have y0 := HK.out.cell x0 (fun f => f)
      have y1 := HK.out.cell x1 (fun f => f)
      have hpo : PL[i].d = P[i].d ∧ PL[i].ps = P[i].ps := by
        have e : (pol PL)[i]? = P[i]? := by rw [HPl.out]
        unfold pol at e
        rw [List.getElem?_map, List.getElem?_eq_getElem hiL, List.getElem?_eq_getElem hiP] at e
        have e := Option.some.inj e
        rw [← e]
        exact ⟨rfl, rfl⟩
      obtain ⟨hdu, hpu⟩ := dpU_at hiP
      have hpl2 := ps_le hiP
      rw [hpo.1] at y0
      rw [hpo.2] at y1 x2
      have HX2 := hideP x2
      obtain ⟨d, hd⟩ : ∃ d, d = P[i].d := ⟨_, rfl⟩
      obtain ⟨ps, hps⟩ : ∃ ps, ps = P[i].ps := ⟨_, rfl⟩
      rw [← hd] at y0 hdu
      rw [← hps] at y1 hpu HX2 hpl2
      obtain ⟨pn, hpn⟩ : ∃ pn, pn = ps.length := ⟨_, rfl⟩
      rw [← hpn] at y1 hpl2
      have HPN := hideP hpn
      generalize PL[i].a = ga at *
      generalize PL[i].c = gc at *
      have HDU := hideP hdu
      have HPU := hideP hpu
      have hii : (i : Int) < (N : Int) := by omega
      clear hc x0 x1 x2 hpo hd hps hpn hdu hpu
      have HBx := hideP (heap_alloc_new Wr (.cells #[.int .i64 d, .slice ga pn gc] 42))
      have HSp := hideP (HS.out.later (Kept.alloc Wr (.cells #[.int .i64 d, .slice ga pn gc] 42)))
      have HKp := hideP (HK.out.trans (Kept.alloc Wr (.cells #[.int .i64 d, .slice ga pn gc] 42)) (fun _ f => f.elim))
      have HCW : Hid (cb < Wr.heap.size) := hideP (by
        obtain ⟨nb, bv, pa, pc, h, -, -⟩ := HS.out
        exact lt_of_block h.obj)
      clear HS HK
      have hB6 : Hid (Wr.heap.size ≠ cb) := hideP (by have := HCW.out; omega)
      have hS6 : (Wr.alloc (.cells #[.int .i64 d, .slice ga pn gc] 42)).drew.heap[Wr.heap.size]? = some (.cells #[.int .i64 d, .slice ga pn gc] 42 (0, 0)) := HBx.out
      have HSq := hideP (HSp.out.later (Kept.drew _))
      have HKq := hideP (HKp.out.trans (Kept.drew _) (fun _ f => f.elim))
      clear HSp HKp HBx
      go_wp2_with fail
      refine wp_region_held (S := fun V => V.heap[Wr.heap.size]? = some (.cells #[.int .i64 d, .slice ga pn gc] 42 (0, 0))) (by kernel_rfl) ?_
      change wpAnyH _ _ _ _ _ _ _ _ (World.drew _)
      generalize (Wr.alloc (.cells #[.int .i64 d, .slice ga pn gc] 42)).drew = V0 at *
      have CN := hideP (cnext_in V0 ad HSq.out (by omega) (by omega) (by omega) HG.out HIL.out HE0.out)
      rw [HDU.out] at CN
      refine takeZ (i := 0) (d := 40) (v := .pointer (some ⟨cb, 0, none⟩)) rfl rfl (by kernel_rfl) (by kernel_rfl) (by kernel_rfl) (fun _ _ _ h => h) (Or.inl ⟨by rfl, fun W hW => ?_⟩) hS6 ?_
      · (go_simp)
      simp only [Act.put, List.setIfInBounds_toArray, List.set_cons_zero, List.set_cons_succ]
      refine takeZ (i := 2) (d := 42) (v := .pointer (some ⟨Wr.heap.size, 0, none⟩)) rfl rfl (by kernel_rfl) (by kernel_rfl) (by kernel_rfl) (fun _ _ _ h => h) (Or.inl ⟨by rfl, fun W hW => ?_⟩) hS6 ?_
      · (go_simp)
      simp only [Act.put, List.setIfInBounds_toArray, List.set_cons_zero, List.set_cons_succ]
      refine takeZ (i := 3) (d := 43) (v := .int .i64 d) rfl rfl (by kernel_rfl) (by kernel_rfl) (by kernel_rfl) (fun _ _ _ h => h) (Or.inl ⟨by rfl, fun W hW => ?_⟩) hS6 ?_
      · (have q1 := (row2 hW).1.1; go_simp)
      simp only [Act.put, List.setIfInBounds_toArray, List.set_cons_zero, List.set_cons_succ]
      refine wpAnyH_all (rs := [1]) (by kernel_rfl) (by simp) ?_
      intro i' hi'
      obtain rfl : i' = 1 := by simpa using hi'
      unfold wpOp
      go_simp
      first | refine CN.out.mono ?_ | refine Or.inl (CN.out.mono ?_)
      clear CN
      rintro e V1 ⟨rfl, hS1, k1⟩
      have hS7 := k1.heap hS6 hB6.out
      refine ⟨hS7, ?_⟩
      have HS1 := hideP hS1
      have HK1 := hideP (HKq.out.trans k1 (fun j hj => .inr (by have := HCB.out; omega)))
      have CQ := hideP (cfreqS V1 hS1)
      rw [HPU.out, ← HPN.out] at CQ
      have CT := hideP (cpos_false V1 hS1 (by rw [HPU.out, ← HPN.out]; omega) (by omega))
      clear hS1 k1 hS6
      refine takeZ (i := 4) (d := 44) (v := .bool false) rfl rfl (by kernel_rfl) (by kernel_rfl) (by kernel_rfl) (fun _ _ _ h => h) (Or.inl ⟨by rfl, fun W hW => ?_⟩) hS7 ?_
      · (go_simp; first | done | simp)
      simp only [Act.put, List.setIfInBounds_toArray, List.set_cons_zero, List.set_cons_succ]
      refine takeZ (i := 5) (d := 45) (v := .bool false) rfl rfl (by kernel_rfl) (by kernel_rfl) (by kernel_rfl) (fun _ _ _ h => h) (Or.inl ⟨by rfl, fun W hW => ?_⟩) hS7 ?_
      · (go_simp)
      simp only [Act.put, List.setIfInBounds_toArray, List.set_cons_zero, List.set_cons_succ]
      refine takeZ (i := 6) (d := 46) (v := .pointer (some ⟨cb, 0, none⟩)) rfl rfl (by kernel_rfl) (by kernel_rfl) (by kernel_rfl) (fun _ _ _ h => h) (Or.inl ⟨by rfl, fun W hW => ?_⟩) hS7 ?_
      · (go_simp)
      simp only [Act.put, List.setIfInBounds_toArray, List.set_cons_zero, List.set_cons_succ]
      refine takeZ (i := 8) (d := 48) (v := .pointer (some ⟨Wr.heap.size, 1, none⟩)) rfl rfl (by kernel_rfl) (by kernel_rfl) (by kernel_rfl) (fun _ _ _ h => h) (Or.inl ⟨by rfl, fun W hW => ?_⟩) hS7 ?_
      · (go_simp)
      simp only [Act.put, List.setIfInBounds_toArray, List.set_cons_zero, List.set_cons_succ]
      refine takeZ (i := 9) (d := 49) (v := .slice ga pn gc) rfl rfl (by kernel_rfl) (by kernel_rfl) (by kernel_rfl) (fun _ _ _ h => h) (Or.inl ⟨by rfl, fun W hW => ?_⟩) hS7 ?_
      · (have q1 := (row2 hW).1.2; go_simp)
      simp only [Act.put, List.setIfInBounds_toArray, List.set_cons_zero, List.set_cons_succ]
      refine takeZ (i := 10) (d := 50) (v := .int .i64 pn) rfl rfl (by kernel_rfl) (by kernel_rfl) (by kernel_rfl) (fun _ _ _ h => h) (Or.inl ⟨by rfl, fun W hW => ?_⟩) hS7 ?_
      · (go_simp)
      simp only [Act.put, List.setIfInBounds_toArray, List.set_cons_zero, List.set_cons_succ]
      refine wpAnyH_all (rs := [7]) (by kernel_rfl) (by simp) ?_
      intro i' hi'
      obtain rfl : i' = 7 := by simpa using hi'
      unfold wpOp
      go_simp
      first | refine CQ.out.mono ?_ | refine Or.inl (CQ.out.mono ?_)
      clear CQ
      rintro e V2 ⟨rfl, h2⟩
      obtain rfl : V1 = V2 := h2.symm
      refine ⟨hS7, ?_⟩
      refine takeZ (i := 11) (d := 51) (v := .bool false) rfl rfl (by kernel_rfl) (by kernel_rfl) (by kernel_rfl) (fun _ _ _ h => h) (Or.inl ⟨by rfl, fun W hW => ?_⟩) hS7 ?_
      · (go_simp; first | done | simp)
      simp only [Act.put, List.setIfInBounds_toArray, List.set_cons_zero, List.set_cons_succ]
      refine takeZ (i := 12) (d := 52) (v := .bool false) rfl rfl (by kernel_rfl) (by kernel_rfl) (by kernel_rfl) (fun _ _ _ h => h) (Or.inl ⟨by rfl, fun W hW => ?_⟩) hS7 ?_
      · (go_simp)
      simp only [Act.put, List.setIfInBounds_toArray, List.set_cons_zero, List.set_cons_succ]
      refine takeZ (i := 13) (d := 53) (v := .bool false) rfl rfl (by kernel_rfl) (by kernel_rfl) (by kernel_rfl) (fun _ _ _ h => h) (Or.inl ⟨by rfl, fun W hW => ?_⟩) hS7 ?_
      · (go_simp)
      simp only [Act.put, List.setIfInBounds_toArray, List.set_cons_zero, List.set_cons_succ]
      refine takeZ (i := 14) (d := 54) (v := .pointer (some ⟨cb, 0, none⟩)) rfl rfl (by kernel_rfl) (by kernel_rfl) (by kernel_rfl) (fun _ _ _ h => h) (Or.inl ⟨by rfl, fun W hW => ?_⟩) hS7 ?_
      · (go_simp)
      simp only [Act.put, List.setIfInBounds_toArray, List.set_cons_zero, List.set_cons_succ]
      refine takeZ (i := 16) (d := 56) (v := .pointer (some ⟨Wr.heap.size, 1, none⟩)) rfl rfl (by kernel_rfl) (by kernel_rfl) (by kernel_rfl) (fun _ _ _ h => h) (Or.inl ⟨by rfl, fun W hW => ?_⟩) hS7 ?_
      · (go_simp)
      simp only [Act.put, List.setIfInBounds_toArray, List.set_cons_zero, List.set_cons_succ]
      refine takeZ (i := 17) (d := 57) (v := .slice ga pn gc) rfl rfl (by kernel_rfl) (by kernel_rfl) (by kernel_rfl) (fun _ _ _ h => h) (Or.inl ⟨by rfl, fun W hW => ?_⟩) hS7 ?_
      · (have q1 := (row2 hW).1.2; go_simp)
      simp only [Act.put, List.setIfInBounds_toArray, List.set_cons_zero, List.set_cons_succ]
      refine wpAnyH_all (rs := [15]) (by kernel_rfl) (by simp) ?_
      intro i' hi'
      obtain rfl : i' = 15 := by simpa using hi'
      unfold wpOp
      go_simp
      first | refine CT.out.mono ?_ | refine Or.inl (CT.out.mono ?_)
      clear CT
      rintro e V3 ⟨pa, pc, rfl, hi3, -, hS3, k3⟩
      have hS8 := k3.heap hS7 hB6.out
      refine ⟨hS8, ?_⟩
      rw [HPU.out] at hi3 hS3 ⊢
      have hk3 := HK1.out.trans k3 (fun j hj => .inr (by have := HCB.out; omega))
      have CM := hideP (sameInts_true ps pa ga pc gc V3 hi3 (HX2.out.kept hk3) (by rw [← HPN.out]; omega))
      rw [← HPN.out] at CM hS3 ⊢
      have HS3 := hideP hS3
      have HK3 := hideP hk3
      clear hi3 hS3 k3 hk3 hS7 HS1 HK1
      refine wpAnyH_all (rs := [18]) (by kernel_rfl) (by simp) ?_
      intro i' hi'
      obtain rfl : i' = 18 := by simpa using hi'
      unfold wpOp
      go_simp
      first | refine CM.out.mono ?_ | refine Or.inl (CM.out.mono ?_)
      clear CM
      rintro e V4 ⟨rfl, m4, h4⟩
      have hS9 : V4.heap[Wr.heap.size]? = some (.cells #[.int .i64 d, .slice ga pn gc] 42 (0, 0)) := by rw [h4]; exact hS8
      refine ⟨hS9, ?_⟩
      have HS4 : Hid (CuS ⟨W0, 0⟩ V4 cb bl P (i + 1) (mv + 1 + pn) true) := hideP (by rw [h4]; exact HS3.out.later (Kept.drewN V3 m4))
      have HK4 : Hid (Kept (fun _ => False) W2 V4) := hideP (by rw [h4]; exact HK3.out.trans (Kept.drewN V3 m4) (fun _ f => f.elim))
      clear h4 hS8 HS3 HK3
      refine takeZ (i := 19) (d := 59) (v := .bool false) rfl rfl (by kernel_rfl) (by kernel_rfl) (by kernel_rfl) (fun _ _ _ h => h) (Or.inl ⟨by rfl, fun W hW => ?_⟩) hS9 ?_
      · (go_simp)
      simp only [Act.put, List.setIfInBounds_toArray, List.set_cons_zero, List.set_cons_succ]
      refine takeZ (i := 20) (d := 60) (v := .bool false) rfl rfl (by kernel_rfl) (by kernel_rfl) (by kernel_rfl) (fun _ _ _ h => h) (Or.inl ⟨by rfl, fun W hW => ?_⟩) hS9 ?_
      · (go_simp)
      simp only [Act.put, List.setIfInBounds_toArray, List.set_cons_zero, List.set_cons_succ]
      refine wpAnyH_done (by kernel_rfl) ?_ _
      have hmv2 : mv + 1 + pn ≤ (i + 1) * 1048577 := by rw [Nat.succ_mul]; omega
      go_wp2
      go_roundw
      case rel => exact ⟨i + 1, mv + 1 + pn, true, by omega, hmv2, by go_num, HS4, HK4⟩
      case measure => simp [intOf]; omega
    obtain rfl : i = N := by omega
    have hii : ¬ (i : Int) < (i : Int) := by omega
    obtain ⟨hde, hpe⟩ := dpU_end P
    have CN := hideP (cnext_in Wr ad HS.out (by have := HNP.out; omega) (by omega) (by omega) HG.out HIL.out HE0.out)
    rw [show docU P (i + 1) = 2147483647 by rw [HNP.out]; exact hde] at CN
    have HPE : Hid (posU P (i + 1) = []) := hideP (by rw [HNP.out]; exact hpe)
    clear hde hpe hlt hi
    go_wp2_with (go_at_call 13; refine StpQ.go ?_)
    refine ⟨?_⟩
    refine CN.out.mono ?_
    clear CN
    rintro e V1 ⟨rfl, hS1, k1⟩
    have hk1 := HK.out.trans k1 (fun j hj => .inr (by have := HCB.out; omega))
    have CQ := hideP (cfreqS V1 hS1)
    rw [HPE.out] at CQ
    have CT := hideP (cpos_false V1 hS1 (by rw [HPE.out]; simp) (by omega))
    have HK1 := hideP hk1
    clear hS1 k1 hk1 HS HK
    go_wp2_with (first
      | (go_at_call 14; refine CQ.out.mono ?_; clear CQ; rintro e V2 ⟨rfl, h2⟩; obtain rfl := h2.symm)
      | (go_at_call 16; refine StpQ.go ?_))
    refine ⟨?_⟩
    refine CT.out.mono ?_
    clear CT
    rintro e V3 ⟨pa, pc, rfl, -, -, hS3, k3⟩
    rw [HPE.out]
    have hk3 := HK1.out.trans k3 (fun j hj => .inr (by have := HCB.out; omega))
    have CD : Hid (Calls Tryd.prog 17 #[.pointer (some ⟨cb, 0, none⟩)] V3 fun e w' => e = .returned (.int .i64 ((i : Nat) : Int)) ∧ w' = V3) := hideP (by
      obtain ⟨nb, bv, pa', pc', h, -, -⟩ := hS3
      rw [HNP.out]
      exact cdocs_any V3 h)
    have HKz := hideP (HK2.out.trans hk3 (fun _ f => f.elim))
    have ee : ((i : Int) == (i : Int)) = true := by simp
    clear hS3 k3 hk3 HK1
    go_wp2_with (go_at_call 17; refine CD.out.mono ?_; clear CD; rintro e V4 ⟨rfl, h4⟩; obtain rfl := h4.symm)
    go_ret
    exact ⟨by first | rfl | simp, HKz.out⟩
end Go.Proofs.YtbdhmibiggpomaaDoor
