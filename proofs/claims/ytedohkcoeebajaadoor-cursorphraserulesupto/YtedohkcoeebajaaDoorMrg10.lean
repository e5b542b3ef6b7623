import Derived.Test.YtedohkcoeebajaaDoorBase
import Derived.Test.YtedohkcoeebajaaDoorPoc
namespace Go.Proofs.YtedohkcoeebajaaDoor
open Go.ChangeShapes Go.WideShapes Go.ChangeAt Go.RowKit

/-- Rising, each once. -/
def Rsg (l : List Int) : Prop := l.Pairwise (· < ·)
/-- Rising lists with the same numbers are the same. -/
theorem rsg_eq : ∀ {A B : List Int}, Rsg A → Rsg B → (∀ x, x ∈ A ↔ x ∈ B) → A = B
  | [], [], _, _, _ => rfl
  | [], b :: B, _, _, h => absurd ((h b).2 List.mem_cons_self) (by simp)
  | a :: A, [], _, _, h => absurd ((h a).1 List.mem_cons_self) (by simp)
  | a :: A, b :: B, hA, hB, h => by
    unfold Rsg at hA hB
    rw [List.pairwise_cons] at hA hB
    have e : a = b := by
      have h1 := (h a).1 List.mem_cons_self
      have h2 := (h b).2 List.mem_cons_self
      rcases List.mem_cons.1 h1 with q | q
      · exact q
      · rcases List.mem_cons.1 h2 with r | r
        · exact r.symm
        · have := hA.1 b r
          have := hB.1 a q
          omega
    subst e
    congr 1
    refine rsg_eq hA.2 hB.2 (fun x => ?_)
    have hx := h x
    rw [List.mem_cons, List.mem_cons] at hx
    constructor
    · intro m
      rcases hx.1 (.inr m) with q | q
      · have := hA.1 x m
        omega
      · exact q
    · intro m
      rcases hx.2 (.inr m) with q | q
      · have := hB.1 x m
        omega
      · exact q
theorem Rsg.lt {l : List Int} (h : Rsg l) {i j : Nat} (hij : i < j) (hj : j < l.length) : (l[i]'(by omega)) < l[j] := (List.pairwise_iff_getElem.1 h) i j (by omega) hj hij
theorem rsg_drop {l : List Int} (h : Rsg l) {i : Nat} {y : Int} (hi : i < l.length) (hy : y ∈ l.drop i) : l[i] ≤ y := by
  obtain ⟨k, hk, rfl⟩ := List.mem_iff_getElem.1 hy
  rw [List.length_drop] at hk
  rw [List.getElem_drop]
  rcases Nat.eq_zero_or_pos k with rfl | hp
  · simp
  · exact Int.le_of_lt (h.lt (by omega) (by omega))
/-- Two rising lists are put together: so far. -/
structure Un (A B O : List Int) (i j : Nat) : Prop where
  ia : i ≤ A.length
  jb : j ≤ B.length
  rs : Rsg O
  mem : ∀ x, x ∈ O ↔ x ∈ A.take i ∨ x ∈ B.take j
  la : ∀ o ∈ O, ∀ y ∈ A.drop i, o < y
  lb : ∀ o ∈ O, ∀ y ∈ B.drop j, o < y
theorem un_zero (A B : List Int) : Un A B [] 0 0 := ⟨Nat.zero_le _, Nat.zero_le _, List.Pairwise.nil, fun x => by simp, fun o h => by simp at h, fun o h => by simp at h⟩
theorem un_end {A B O : List Int} {i j : Nat} (h : Un A B O i j) (hi : ¬ i < A.length) (hj : ¬ j < B.length) : ∀ x, x ∈ O ↔ x ∈ A ∨ x ∈ B := by
  intro x
  rw [h.mem, List.take_of_length_le (by omega), List.take_of_length_le (by omega)]
/-- A list behind a step: what is taken of it, and what is left. -/
theorem stp_mem {A : List Int} {i : Nat} {x : Int} {k : Bool} (hk : k = true → ∃ hi : i < A.length, A[i] = x) (y : Int) : (y ∈ A.take (if k then i + 1 else i) ∨ y = x) ↔ (y ∈ A.take i ∨ y = x) := by
  cases k with
  | false => simp
  | true =>
    obtain ⟨hi, e⟩ := hk rfl
    simp only [if_true]
    rw [List.take_succ_eq_append_getElem hi, List.mem_append, List.mem_singleton, e]
    constructor
    · rintro ((h | h) | h)
      · exact .inl h
      · exact .inr h
      · exact .inr h
    · rintro (h | h)
      · exact .inl (.inl h)
      · exact .inr h
theorem stp_left {A : List Int} (hA : Rsg A) {i : Nat} {x : Int} {k : Bool} (hle : ∀ hi : i < A.length, x ≤ A[i]) (hk : k = true ↔ ∃ hi : i < A.length, A[i] = x) : ∀ y ∈ A.drop (if k then i + 1 else i), x < y := by
  intro y hy
  cases k with
  | false =>
    simp only [Bool.false_eq_true, if_false] at hy
    rcases Nat.lt_or_ge i A.length with hi | hi
    · have h1 := rsg_drop hA hi hy
      have h2 := hle hi
      have h3 : A[i] ≠ x := fun e => by
        have := hk.2 ⟨hi, e⟩
        cases this
      omega
    · rw [List.drop_eq_nil_of_le hi] at hy
      cases hy
  | true =>
    obtain ⟨hi, e⟩ := hk.1 rfl
    simp only [if_true] at hy
    rcases Nat.lt_or_ge (i + 1) A.length with h1 | h1
    · have h2 := rsg_drop hA h1 hy
      have h3 := hA.lt (show i < i + 1 by omega) h1
      omega
    · rw [List.drop_eq_nil_of_le h1] at hy
      cases hy
theorem drop_sub {A : List Int} {i : Nat} {k : Bool} {y : Int} (h : y ∈ A.drop (if k then i + 1 else i)) : y ∈ A.drop i := by
  cases k with
  | false => simpa using h
  | true =>
    simp only [if_true] at h
    rw [← List.drop_drop] at h
    exact List.mem_of_mem_drop h
/-- The lesser of the two next ones is put behind. -/
theorem Un.step {A B O : List Int} {i j : Nat} (h : Un A B O i j) (hA : Rsg A) (hB : Rsg B) {x : Int} {ka kb : Bool} (ha : ∀ hi : i < A.length, x ≤ A[i]) (hb : ∀ hj : j < B.length, x ≤ B[j]) (hka : ka = true ↔ ∃ hi : i < A.length, A[i] = x) (hkb : kb = true ↔ ∃ hj : j < B.length, B[j] = x) (hx : ka = true ∨ kb = true) : Un A B (O ++ [x]) (if ka then i + 1 else i) (if kb then j + 1 else j) := by
  have hxo : ∀ o ∈ O, o < x := by
    intro o ho
    rcases hx with q | q
    · obtain ⟨hi, e⟩ := hka.1 q
      have := h.la o ho A[i] (List.mem_iff_getElem.2 ⟨0, by rw [List.length_drop]; omega, by simp⟩)
      omega
    · obtain ⟨hj, e⟩ := hkb.1 q
      have := h.lb o ho B[j] (List.mem_iff_getElem.2 ⟨0, by rw [List.length_drop]; omega, by simp⟩)
      omega
  refine ⟨?_, ?_, ?_, fun y => ?_, fun o ho y hy => ?_, fun o ho y hy => ?_⟩
  · split
    · rename_i q
      obtain ⟨hi, -⟩ := hka.1 q
      omega
    · exact h.ia
  · split
    · rename_i q
      obtain ⟨hj, -⟩ := hkb.1 q
      omega
    · exact h.jb
  · unfold Rsg
    rw [List.pairwise_append]
    exact ⟨h.rs, List.pairwise_singleton _ _, fun a ha' b hb' => by rw [List.mem_singleton] at hb'; subst hb'; exact hxo a ha'⟩
  · have m1 := stp_mem (A := A) (i := i) (k := ka) (fun q => hka.1 q) y
    have m2 := stp_mem (A := B) (i := j) (k := kb) (fun q => hkb.1 q) y
    have m3 := h.mem y
    rw [List.mem_append, List.mem_singleton, m3]
    have hin : y = x → y ∈ A.take (if ka then i + 1 else i) ∨ y ∈ B.take (if kb then j + 1 else j) := by
      intro e
      subst e
      rcases hx with q | q
      · obtain ⟨hi, e⟩ := hka.1 q
        left
        rw [if_pos q, List.take_succ_eq_append_getElem hi, List.mem_append, List.mem_singleton]
        exact .inr e.symm
      · obtain ⟨hj, e⟩ := hkb.1 q
        right
        rw [if_pos q, List.take_succ_eq_append_getElem hj, List.mem_append, List.mem_singleton]
        exact .inr e.symm
    constructor
    · rintro ((q | q) | q)
      · rcases m1.2 (.inl q) with r | r
        · exact .inl r
        · exact hin r
      · rcases m2.2 (.inl q) with r | r
        · exact .inr r
        · exact hin r
      · exact hin q
    · rintro (q | q)
      · rcases m1.1 (.inl q) with r | r
        · exact .inl (.inl r)
        · exact .inr r
      · rcases m2.1 (.inl q) with r | r
        · exact .inl (.inr r)
        · exact .inr r
  · rcases List.mem_append.1 ho with q | q
    · exact h.la o q y (drop_sub hy)
    · rw [List.mem_singleton] at q
      subst q
      exact stp_left hA ha hka y hy
  · rcases List.mem_append.1 ho with q | q
    · exact h.lb o q y (drop_sub hy)
    · rw [List.mem_singleton] at q
      subst q
      exact stp_left hB hb hkb y hy
/-- The end of a binary search. -/
theorem btw_end {l : List Int} (h : Rsg l) {lo hi : Int} {f : Nat} (h1 : ∀ k (hk : k < l.length), k < f → l[k] < lo) (h2 : ∀ k (hk : k < l.length), f ≤ k → lo ≤ l[k]) : (∃ hf : f < l.length, l[f] ≤ hi) ↔ ∃ y ∈ l, lo ≤ y ∧ y ≤ hi := by
  constructor
  · rintro ⟨hf, hle⟩
    exact ⟨l[f], List.getElem_mem hf, h2 f hf (Nat.le_refl _), hle⟩
  · rintro ⟨y, hy, hlo, hhi⟩
    obtain ⟨k, hk, rfl⟩ := List.mem_iff_getElem.1 hy
    have hfk : f ≤ k := by
      rcases Nat.lt_or_ge k f with q | q
      · have := h1 k hk q
        omega
      · exact q
    refine ⟨by omega, ?_⟩
    rcases Nat.lt_or_ge f k with q | q
    · have := h.lt q hk
      omega
    · obtain rfl : f = k := by omega
      exact hhi
theorem btw_low {l : List Int} (h : Rsg l) {lo : Int} {m : Nat} (hm : m < l.length) (hl : l[m] < lo) : ∀ k (hk : k < l.length), k < m + 1 → l[k] < lo := by
  intro k hk hkm
  rcases Nat.lt_or_ge k m with q | q
  · have := h.lt q hm
    omega
  · obtain rfl : k = m := by omega
    exact hl
theorem btw_high {l : List Int} (h : Rsg l) {lo : Int} {m : Nat} (hm : m < l.length) (hl : ¬ l[m] < lo) : ∀ k (hk : k < l.length), m ≤ k → lo ≤ l[k] := by
  intro k hk hkm
  rcases Nat.lt_or_ge m k with q | q
  · have := h.lt q hk
    omega
  · obtain rfl : k = m := by omega
    omega
end Go.Proofs.YtedohkcoeebajaaDoor
namespace Go.Proofs.YtedohkcoeebajaaDoor
open Go.ChangeShapes Go.WideShapes Go.ChangeAt Go.RowKit

/-- A list of numbers in a list of lists. -/
structure Il where
  a : Option Addr
  c : Nat
  l : List Int
def LiAt (w : World) (a : Option Addr) (L : List Il) : Prop :=
  L ≠ [] → ∃ b off, a = some ⟨b, off, none⟩ ∧ ∀ k (h : k < L.length), w.cell? ⟨b, off + k, none⟩ = some (.slice L[k].a L[k].l.length L[k].c) ∧ IntsAt w L[k].a L[k].l
def InL (l : List Int) : Prop := ∀ x ∈ l, 0 ≤ x ∧ x ≤ 2147483646
theorem InL.at {l : List Int} (h : InL l) {k : Nat} (hk : k < l.length) : 0 ≤ l[k]?.getD 0 ∧ l[k]?.getD 0 ≤ 2147483646 := by
  rw [List.getElem?_eq_getElem hk]
  exact h _ (List.getElem_mem hk)
set_option maxRecDepth 20000 in
set_option maxHeartbeats 4000000 in
theorem keepLimits_in (l : List Int) (a : Option Addr) (c : Nat) (W : World) (h : IntsAt W a l) (hl : l.length ≤ 1099511627776) (hi : InL l) :
    Calls Tryd.prog 17 #[.slice a l.length c] W fun e w' => e = .returned (.bool true) ∧ w' = W := by
  have HI := hideP hi
  have HA := hideP h
  obtain ⟨n, hn⟩ : ∃ n, n = l.length := ⟨_, rfl⟩
  have HN := hideP hn
  rw [← hn] at hl ⊢
  clear h hi hn
  go_enter Tryd.func17, Tryd.ntmps17
  go_wp2
  go_loopw [7] (fun s7 wr => ∃ k : Nat, k ≤ n ∧ s7 = .int .i64 k ∧ wr = W) (fun s7 _ => n - (intOf s7).toNat)
  case atStart => exact ⟨0, by omega, rfl, rfl⟩
  case round =>
    obtain ⟨k, hk, rfl, rfl⟩ := hrel
    by_cases hlt : k < n
    · have hkl : k < l.length := by rw [← HN.out]; exact hlt
      obtain ⟨b, off, rfl, hc⟩ := HA.out (by intro e; rw [e] at hkl; simp at hkl)
      have y0 := hc k hkl
      obtain ⟨h1, h2⟩ := HI.out.at hkl
      generalize l[k]?.getD 0 = x at *
      have e1 : decide (x < 0) = false := decide_eq_false (by omega)
      have e2 : decide (2147483646 < x) = false := decide_eq_false (by omega)
      have e3 : ¬ x < 0 := by omega
      have e4 : ¬ 2147483646 < x := by omega
      have hkk : (k : Int) < (n : Int) := by omega
      clear hc
      go_wp2
      go_roundw
      case rel => exact ⟨k + 1, by omega, by go_num, trivial⟩
      case measure => simp [intOf]; omega
    · obtain rfl : k = n := by omega
      go_wp2
      go_ret
      exact ⟨rfl, rfl⟩
def spw (o : Int) (w : Nat) (l : List Int) : List (Int × Nat) := l.map (fun p => (p - o, w))
def spk (L : List Il) (O : List Int) : Nat → List (Int × Nat)
  | 0 => []
  | k + 1 => spk L O k ++ spw (O[k]?.getD 0) k (match L[k]? with | some x => x.l | none => [])
theorem spw_take (o : Int) (w : Nat) (l : List Int) (j : Nat) (h : j < l.length) : spw o w (l.take (j + 1)) = spw o w (l.take j) ++ [(l[j]?.getD 0 - o, w)] := by
  unfold spw
  rw [List.take_succ_eq_append_getElem h, List.map_append, List.getElem?_eq_getElem h]
  rfl
theorem spk_word (L : List Il) (O : List Int) : ∀ (k : Nat) (x : Int × Nat), x ∈ spk L O k → x.2 < k
  | 0, _, h => by cases h
  | k + 1, x, h => by
    rw [spk] at h
    rcases List.mem_append.1 h with q | q
    · have := spk_word L O k x q
      omega
    · obtain ⟨p, _, rfl⟩ := List.mem_map.1 q
      exact Nat.lt_succ_self k
theorem spk_at (L : List Il) (O : List Int) (hin : ∀ x ∈ L, InL x.l) (hio : InL O) : ∀ (k : Nat) (x : Int × Nat), x ∈ spk L O k → -2147483648 ≤ x.1 ∧ x.1 ≤ 2147483648
  | 0, _, h => by cases h
  | k + 1, x, h => by
    rw [spk] at h
    rcases List.mem_append.1 h with q | q
    · exact spk_at L O hin hio k x q
    · obtain ⟨p, hp, rfl⟩ := List.mem_map.1 q
      have ho : 0 ≤ O[k]?.getD 0 ∧ O[k]?.getD 0 ≤ 2147483646 := by
        rcases Nat.lt_or_ge k O.length with q | q
        · exact hio.at q
        · rw [List.getElem?_eq_none q]; simp
      have hpp : 0 ≤ p ∧ p ≤ 2147483646 := by
        rcases Nat.lt_or_ge k L.length with q | q
        · rw [List.getElem?_eq_getElem q] at hp
          exact hin _ (List.getElem_mem q) p hp
        · rw [List.getElem?_eq_none q] at hp
          cases hp
      simp only
      omega
/-- A phrase within its limits. -/
def gdp (L : List Il) (O : List Int) (sl : Int) : Prop := L.length = O.length ∧ (0 ≤ sl ∧ sl ≤ 2147483647) ∧ InL O ∧ ∀ x ∈ L, InL x.l
/-- From b on, up to sl further, each word stands. -/
def okw (L : List Il) (O : List Int) (sl b : Int) : Bool := (List.range L.length).all (fun k => (match L[k]? with | some x => x.l | none => []).any (fun y => decide (b ≤ y - O[k]?.getD 0) && decide (y - O[k]?.getD 0 ≤ b + sl)))
theorem spk_mem {L : List Il} {O : List Int} : ∀ {n : Nat} {y : Int × Nat}, y ∈ spk L O n ↔ ∃ k, ∃ hk : k < L.length, k < n ∧ ∃ p ∈ L[k].l, y = (p - O[k]?.getD 0, k)
  | 0, y => by simp [spk]
  | n + 1, y => by
    rw [spk, List.mem_append, spk_mem]
    constructor
    · rintro (⟨k, hk, hn, p, hp, rfl⟩ | h)
      · exact ⟨k, hk, by omega, p, hp, rfl⟩
      · obtain ⟨p, hp, rfl⟩ := List.mem_map.1 h
        rcases Nat.lt_or_ge n L.length with q | q
        · rw [List.getElem?_eq_getElem q] at hp
          exact ⟨n, q, by omega, p, hp, rfl⟩
        · rw [List.getElem?_eq_none q] at hp
          cases hp
    · rintro ⟨k, hk, hn, p, hp, rfl⟩
      rcases Nat.lt_or_ge k n with q | q
      · exact .inl ⟨k, hk, q, p, hp, rfl⟩
      · obtain rfl : k = n := by omega
        right
        rw [List.getElem?_eq_getElem hk]
        exact List.mem_map.2 ⟨p, hp, rfl⟩
theorem okw_iff {L : List Il} {O : List Int} {sl b : Int} : okw L O sl b = true ↔ ∀ k (hk : k < L.length), ∃ y ∈ L[k].l, b ≤ y - O[k]?.getD 0 ∧ y - O[k]?.getD 0 ≤ b + sl := by
  unfold okw
  rw [List.all_eq_true]
  constructor
  · intro h k hk
    have := h k (List.mem_range.2 hk)
    rw [List.getElem?_eq_getElem hk, List.any_eq_true] at this
    obtain ⟨y, hy, hd⟩ := this
    simp only [Bool.and_eq_true, decide_eq_true_eq] at hd
    exact ⟨y, hy, hd⟩
  · intro h k hk
    have hk := List.mem_range.1 hk
    obtain ⟨y, hy, hd⟩ := h k hk
    rw [List.getElem?_eq_getElem hk, List.any_eq_true]
    exact ⟨y, hy, by simp only [Bool.and_eq_true, decide_eq_true_eq]; exact hd⟩
/-- A rising list of all places at which a word begins the phrase. -/
structure Alp (L : List Il) (O : List Int) (A : List Int) : Prop where
  rs : Rsg A
  mem : ∀ b, b ∈ A ↔ ∃ k, ∃ hk : k < L.length, ∃ p ∈ L[k].l, b = p - O[k]?.getD 0
end Go.Proofs.YtedohkcoeebajaaDoor
