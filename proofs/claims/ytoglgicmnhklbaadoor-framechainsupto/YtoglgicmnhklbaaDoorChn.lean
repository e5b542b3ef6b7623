import Derived.Test.YtoglgicmnhklbaaDoorSce
namespace Go.Proofs.YtoglgicmnhklbaaDoor
open Go.ChangeShapes Go.WideShapes Go.ChangeAt Go.RowKit

/-- A list of bytes and a list of places, in blocks of their own. -/
structure Chn (w W : World) (v5 v6 : Value) (X : List Int) (P : List Nat) : Prop where
  o5 : OwnB w W v5 X
  o6 : W.ownsRow w.heap.size 3 1 v6 P.length (pls P)
  far : ∀ i, v5.ownBlock = some i → v6.ownBlock ≠ some i
theorem Chn.same {w W W' : World} {v5 v6 : Value} {X : List Int} {P : List Nat} (h : Chn w W v5 v6 X P) (k : Kept (fun _ => False) W W') : Chn w W' v5 v6 X P :=
  ⟨h.o5.same k, k.row h.o6 (fun _ _ f => f), h.far⟩
theorem Chn.places {w W : World} {v5 v6 : Value} {X : List Int} {P : List Nat} (h : Chn w W v5 v6 X P) : ∃ a c, v6 = .slice a P.length c ∧ PlacesAt W a P ∧ P.length ≤ c := by
  rcases h.o6.2 with ⟨rfl, h0⟩ | ⟨g, cap, cur, rfl, hb, hg, hle, _, hcs, ht⟩
  · exact ⟨none, 0, by rw [h0], fun hne => (hne (List.length_eq_zero_iff.1 h0)).elim, by omega⟩
  · refine ⟨_, _, rfl, fun _ => ⟨g, 0, rfl, fun k hk => ?_⟩, hle⟩
    have h1 : W.cell? ⟨g, 0 + k, none⟩ = cur[k]? := by
      rw [Nat.zero_add]
      exact cell_of_row W g _ cur _ _ hg
    have h2 : (pls P)[k]? = some (.int .i64 (P[k]?.getD 0 : Nat)) := by
      simp only [pls, List.getElem?_map, List.getElem?_eq_getElem hk, Option.map_some, Option.getD_some]
    rw [h1, ← h2, ← ht, List.getElem?_take, if_pos (by omega), Array.getElem?_toList]
theorem PlacesAt.take {W : World} {a : Option Addr} {P : List Nat} (h : PlacesAt W a P) (m : Nat) : PlacesAt W a (P.take m) := by
  intro hne
  obtain ⟨b, off, e, hc⟩ := h (by intro e; rw [e] at hne; simp at hne)
  refine ⟨b, off, e, fun k hk => ?_⟩
  rw [List.length_take] at hk
  rw [List.getElem?_take, if_pos (by omega)]
  exact hc k (by omega)
/-- all = append(all, y...). -/
theorem wpList_chb {w W : World} {ops : Array Oper} {rest : List Oper} {o : Oper} {act : Act} {Q : Exit → Act → World → Prop} (hgd : o.guard = none) (s x : Operand)
    (ho : o.op = .call { callee := .builtin .append, args := #[s, x], argTypes := #[22, 22] })
    (v v6 : Value) (P : List Nat) (xs l ys : List Int) (m n : Nat) (hs : act.eval s = v) (ad : Option Addr) (c : Nat) (hx : act.eval x = .slice ad m c)
    (hm : Hid (m = l.length)) (hys : Hid (ys = xs ++ l)) (hn : Hid (n = ys.length))
    (hown : Hid (Chn w W v v6 xs P)) (hB : Hid (BytesAt W ad l)) (ha : Hid (ad = none → c = 0)) (hr : Hid (ys.length ≤ 140737488355328))
    (h : ∀ a' c' W', Hid (Chn w W' (.slice a' n c') v6 ys P) → wpList Tryd.prog ops Q rest (act.put o.dst (.slice a' n c')) W') : wpList Tryd.prog ops Q (o :: rest) act W := by
  have h1 := hm.out
  have h2 := hys.out
  have h3 := hn.out
  have h4 := hr.out
  clear hm hys hn hr
  subst h1 h2 h3
  rw [List.length_append] at h4
  obtain ⟨i0, hi, hz0, hz1, hz2⟩ := info_parts Tryd.infoB
  have hc := hown.out
  have hle : w.heap.size ≤ W.heap.size := hc.o5.kept.size
  cases ad with
  | none =>
    obtain rfl : l = [] := by
      cases l with
      | nil => rfl
      | cons x r => obtain ⟨b, off, e, _⟩ := hB.out (by simp); cases e
    obtain rfl := ha.out rfl
    obtain ⟨a', c', rfl, _⟩ := hc.o5.at
    refine wpList_append_own_none hgd s x 22 ho w.heap.size 5 i0 1 Tryd.underlying22 hi _ _ _ hs hc.o5.row hx ?_
    have := h a' c' W (by rw [List.append_nil]; exact hown)
    rwa [List.append_nil] at this
  | some ad =>
    have hcl : ∀ j u, (bs l)[j]? = some u → W.cell? (ad.add j) = some u := by
      by_cases hl : l = []
      · subst hl; intro j u hu; simp [bs] at hu
      · obtain ⟨b, off, e, hcc⟩ := hB.out hl
        cases e
        exact BytesAt.cells hcc
    refine wpList_append_own_at _ hgd s x 22 ho w.heap.size 5 i0 (.int .u8 0) 1 1 Tryd.underlying22 hi hz0 hz1 hz2 rfl (by decide) _ _ _ hs hc.o5.row ad l.length c (bs l) hx (by rw [bs_length]; omega) hcl (bs_one l) (by unfold maxLen; omega) (by omega) hle ?_
    intro v' w1 hown1 hgrow _ hat
    have e : bs xs ++ bs l = bs (xs ++ l) := by simp [bs]
    rw [e, ← List.length_append] at hown1
    have q := hc.o5.grow hown1 hgrow
    obtain ⟨a', c', rfl, _⟩ := q.at
    refine h a' c' w1 ⟨q, (Kept.grown hgrow).row hc.o6 (fun i hi hx => hc.far i hx hi), fun i hi hv => ?_⟩
    rcases hat with h | h
    · exact hc.far i (by rw [← h]; exact hi) hv
    · have h1 : W.heap.size = i := by rw [h] at hi; exact Option.some.inj hi
      have := (hc.o6.lt i hv).2
      omega
/-- ends = append(ends, p). -/
theorem wpList_chi {w W : World} {ops : Array Oper} {rest : List Oper} {o : Oper} {act : Act} {Q : Exit → Act → World → Prop} (hgd : o.guard = none) (s x : Operand)
    (ho : o.op = .call { callee := .builtin .append, args := #[s, x], argTypes := #[24, 24] })
    (v5 v : Value) (X : List Int) (P P' : List Nat) (p m : Nat) (hs : act.eval s = v) (ad : Addr) (c : Nat) (hx : act.eval x = .slice (some ad) 1 c)
    (hcell : ∀ j u, ([.int .i64 p] : List Value)[j]? = some u → W.cell? (ad.add j) = some u) (hP : Hid (P' = P ++ [p])) (hm : Hid (m = P'.length))
    (hown : Hid (Chn w W v5 v X P)) (hr : Hid (P.length ≤ 1099511627776))
    (h : ∀ g cap W', Hid (Chn w W' v5 (.slice (some ⟨g, 0, none⟩) m cap) X P') → wpList Tryd.prog ops Q rest (act.put o.dst (.slice (some ⟨g, 0, none⟩) m cap)) W') : wpList Tryd.prog ops Q (o :: rest) act W := by
  obtain ⟨i0, hi, hz0, hz1, hz2⟩ := info_parts Tryd.infoInt
  have hc := hown.out
  have hrr := hr.out
  have hPP := hP.out
  have hmm := hm.out
  refine wpList_append_lies _ hgd s x 24 ho w.heap.size 3 i0 (.int .i64 0) 1 8 Tryd.underlying24 hi hz0 hz1 hz2 rfl (by decide) v P.length (pls P) hs hc.o6 ad 1 c [.int .i64 p] hx rfl hcell one_cell_int (by decide) (by unfold maxLen; omega) (by omega) hc.o5.kept.size _ rfl ?_
  intro g cap W1 hown1 hgrow hat _
  have e : P.length + 1 = m := by rw [hmm, hPP, List.length_append]; rfl
  rw [e] at hown1 ⊢
  have kg := Kept.grown hgrow
  refine h g cap W1 ⟨⟨kg.row hc.o5.row (fun i hi hx => hc.far i hi hx), hc.o5.kept.trans kg (fun i hi => .inr (hc.o6.lt i hi).1)⟩, ?_, fun i hi hv => ?_⟩
  · rw [← hmm, hPP, show pls (P ++ [p]) = pls P ++ [.int .i64 p] by simp [pls]]
    exact hown1
  · have hv : g = i := Option.some.inj hv
    rcases hat with h | h
    · exact hc.far i hi (by rw [h, hv])
    · have := (hc.o5.row.lt i hi).2
      omega
/-- What Scan tells of blocks one behind the other. -/
def chD : Nat → List BkD → List (Nat × Int × List Int)
  | _, [] => []
  | p, x :: S => (p, (x.t : Int), x.B) :: chD (p + (benc x.t x.B).length) S
theorem decR_zero (r : List Int) : decR (0 :: r) = .error 5 := by
  have h : bodyR (0 :: r) = .error 5 := by
    unfold bodyR
    rw [if_neg (by simp), if_pos (by simp)]
  unfold decR
  rw [h]
theorem scn_chain (r : List Int) : ∀ (S : List BkD) (f p : Nat), (∀ x ∈ S, 0 < x.t ∧ x.B.length < 18446744073709551616) → S.length < f → scn f p (bencs S ++ 0 :: r) = chD p S
  | [], f, p, _, hf => by
    obtain ⟨g, rfl⟩ : ∃ g, f = g + 1 := ⟨f - 1, by simp at hf; omega⟩
    exact scn_err (decR_zero r)
  | x :: S, f, p, h, hf => by
    obtain ⟨g, rfl⟩ : ∃ g, f = g + 1 := ⟨f - 1, by simp at hf; omega⟩
    have hx := h x (by simp)
    have hd := dec_enc x.t x.B (bencs S ++ 0 :: r) hx.1 hx.2
    rw [bencs_cons, List.append_assoc, scn_ok hd, List.drop_left, scn_chain r S g _ (fun y hy => h y (by simp [hy])) (by simp at hf; omega)]
    rfl
theorem chD_length : ∀ (S : List BkD) (p : Nat), (chD p S).length = S.length
  | [], _ => rfl
  | x :: S, p => by simp [chD, chD_length S]
theorem chD_val : ∀ (S : List BkD) (p : Nat), (chD p S).map (fun y => (y.2.1, y.2.2)) = S.map bkv
  | [], _ => rfl
  | x :: S, p => by simp [chD, chD_val S, bkv]
def chE (S : List BkD) (k : Nat) : List Nat := (List.range (k + 1)).map fun i => (bencs (S.take i)).length
theorem chE_length (S : List BkD) (k : Nat) : (chE S k).length = k + 1 := by simp [chE]
theorem chE_step (S : List BkD) (k : Nat) : chE S (k + 1) = chE S k ++ [(bencs (S.take (k + 1))).length] := by simp [chE, List.range_succ]
theorem chD_place : ∀ (S : List BkD) (p : Nat), (chD p S).map (fun y => y.1) = (List.range S.length).map fun i => p + (bencs (S.take i)).length
  | [], _ => rfl
  | x :: S, p => by
    rw [List.length_cons, List.range_succ_eq_map, List.map_cons, List.map_map]
    simp only [chD, List.map_cons, chD_place S, List.take_zero, bencs_nil, List.length_nil, Nat.add_zero, List.cons.injEq, true_and]
    apply List.map_congr_left
    intro i _
    simp only [Function.comp, List.take_succ_cons, bencs_cons, List.length_append]
    omega
theorem chE_take (S : List BkD) : (chE S S.length).take S.length = (chD 0 S).map (fun y => y.1) := by
  rw [chD_place, chE, List.range_succ, List.map_append, List.take_append_of_le_length (by simp), List.take_of_length_le (by simp)]
  simp
theorem scan_chain (S : List BkD) (r : List Int) (h : ∀ x ∈ S, 0 < x.t ∧ x.B.length < 18446744073709551616) (hl : S.length ≤ (bencs S).length) : scan (bencs S ++ 0 :: r) = chD 0 S :=
  scn_chain r S _ 0 h (by rw [List.length_append]; simp; omega)
theorem bencs_count : ∀ S : List BkD, S.length ≤ (bencs S).length
  | [] => Nat.le_refl _
  | x :: S => by
    have := bencs_count S
    have h1 := benc_length x.t x.B
    rw [bencs_cons, List.length_append, List.length_cons]
    omega
end Go.Proofs.YtoglgicmnhklbaaDoor
