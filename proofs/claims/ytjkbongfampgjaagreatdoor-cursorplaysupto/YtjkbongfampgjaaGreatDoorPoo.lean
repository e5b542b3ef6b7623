import Derived.Test.YtjkbongfampgjaaGreatDoorPon
namespace Go.Proofs.YtjkbongfampgjaaGreatDoor
open Go.ChangeShapes Go.WideShapes Go.ChangeAt Go.RowKit

theorem Tryz.infoSk : (Tryz.prog.info? 80).map (fun i => (i.zero, i.size, i.bytes)) = some (some (.agg #[.int .i64 0, .int .i64 0, .int .i64 0, .int .i64 0]), 4, 32) := by kernel_rfl
/-- Skip entries as cells; a: the place of the first block. -/
def scs : Nat → List Sk → List Value
  | _, [] => []
  | a, s :: S => [.int .i64 s.last, .int .i64 s.n, .int .i64 a, .int .i64 s.z] ++ scs (a + s.z) S
theorem scs_snoc : ∀ (S : List Sk) (s : Sk) (a : Nat), scs a (S ++ [s]) = scs a S ++ [.int .i64 s.last, .int .i64 s.n, .int .i64 ((a + szs S : Nat) : Int), .int .i64 s.z]
  | [], s, a => by simp [scs, szs]
  | x :: S, s, a => by rw [List.cons_append, scs, scs_snoc S, scs, szs, List.append_assoc, Nat.add_assoc]
theorem scs_length : ∀ (S : List Sk) (a : Nat), (scs a S).length = S.length * 4
  | [], _ => rfl
  | x :: S, a => by rw [scs, List.length_append, scs_length S]; simp; omega
theorem scs_at : ∀ (S : List Sk) (a k j : Nat) (h : k < S.length), j < 4 → (scs a S)[k * 4 + j]? = [Value.int .i64 S[k].last, .int .i64 S[k].n, .int .i64 ((a + szs (S.take k) : Nat) : Int), .int .i64 S[k].z][j]?
  | s :: S, a, 0, j, _, hj => by
    rw [scs, List.getElem?_append_left (by simp; omega)]
    simp [szs]
  | s :: S, a, k + 1, j, h, hj => by
    have i := scs_at S (a + s.z) k j (by simpa using h) hj
    rw [scs, List.getElem?_append_right (by simp; omega)]
    simp only [List.getElem_cons_succ, List.take_succ_cons, szs]
    rw [← Nat.add_assoc, ← i]
    congr 1
    simp
    omega
/-- 'append' of one skip entry. -/
theorem wpList_pushS {base : Nat} {W : World} {ops : Array Oper} {rest : List Oper} {o : Oper} {act : Act} {Q : Exit → Act → World → Prop} (hgd : o.guard = none) (s x : Operand)
    (ho : o.op = .call { callee := .builtin .append, args := #[s, x], argTypes := #[56, 56] }) (v : Value) (n : Nat) (xs : List Value) (e1 e2 e3 e4 : Int) (hs : act.eval s = v) (hG : Hid (W.ownsRow base 80 4 v n xs)) (hb0 : base ≤ W.heap.size) (b : Nat) (hb : b = W.heap.size) (hx : act.eval x = .slice (some ⟨b, 0, none⟩) 1 1) (hn : n ≤ 1099511627776)
    (h : ∀ gb c' W', Hid (W'.ownsRow base 80 4 (.slice (some ⟨gb, 0, none⟩) (n + 1) c') (n + 1) (xs ++ [.int .i64 e1, .int .i64 e2, .int .i64 e3, .int .i64 e4])) → Hid (Kept (fun k => v.ownBlock = some k) W W') → wpList Tryz.prog ops Q rest (act.put o.dst (.slice (some ⟨gb, 0, none⟩) (n + 1) c')) W') : wpList Tryz.prog ops Q (o :: rest) act (W.alloc (.cells #[.int .i64 e1, .int .i64 e2, .int .i64 e3, .int .i64 e4] 80)) := by
  subst hb
  obtain ⟨i0, hi, hz0, hz1, hz2⟩ := info_partsP Tryz.infoSk
  refine wpList_append_lies _ hgd s x 56 ho base 80 i0 (.agg #[.int .i64 0, .int .i64 0, .int .i64 0, .int .i64 0]) 4 32 Tryz.underlying56 hi hz0 hz1 hz2 rfl (by decide) v n xs hs (hG.out.alloc _) ⟨W.heap.size, 0, none⟩ 1 1 [.int .i64 e1, .int .i64 e2, .int .i64 e3, .int .i64 e4] hx rfl (row_news W [.int .i64 e1, .int .i64 e2, .int .i64 e3, .int .i64 e4] 80) (by intro u hu; simp at hu; rcases hu with rfl | rfl | rfl | rfl <;> rfl) (by decide) (by unfold maxLen; omega) (by omega) (by simp; omega) _ rfl ?_
  intro gb c' W' ho2 hg2 _ _
  exact h gb c' W' ho2 (hideP (((Kept.alloc W _).mono (fun _ f => f.elim)).trans (Kept.grown hg2) (fun i hi => .inl hi)))
/-- The skip entries at a block, the first k of them with their places. -/
structure Skw (W : World) (g : Nat) (S : List Sk) (P k : Nat) : Prop where
  out : ∃ cur : Array Value, W.heap[g]? = some (.cells cur 80 (0, 0)) ∧ ∀ i (h : i < S.length), cur[i * 4]? = some (.int .i64 S[i].last) ∧ cur[i * 4 + 1]? = some (.int .i64 S[i].n) ∧ cur[i * 4 + 2]? = some (.int .i64 (((if i < k then P else 0) + szs (S.take i) : Nat) : Int)) ∧ cur[i * 4 + 3]? = some (.int .i64 S[i].z)
theorem Skw.start {W : World} {base g n c : Nat} {S : List Sk} (h : W.ownsRow base 80 4 (.slice (some ⟨g, 0, none⟩) n c) n (scs 0 S)) (P : Nat) : Skw W g S P 0 := by
  have hn : n = S.length := by have := h.1; rw [scs_length] at this; omega
  rcases h.2 with ⟨e, _⟩ | ⟨g', cap, cur, e, hb, hg, hnc, _, hcs, ht⟩
  · cases e
  simp only [Value.slice.injEq, Option.some.injEq, Addr.mk.injEq, and_true, true_and] at e
  obtain ⟨rfl, rfl⟩ := e
  refine ⟨cur, hg, fun i hi => ?_⟩
  have q : ∀ j, j < 4 → cur[i * 4 + j]? = (scs 0 S)[i * 4 + j]? := fun j hj => by
    rw [← ht, List.getElem?_take, if_pos (by omega), Array.getElem?_toList]
  refine ⟨?_, ?_, ?_, ?_⟩
  · rw [show i * 4 = i * 4 + 0 by omega, q 0 (by decide), scs_at S 0 i 0 hi (by decide)]; rfl
  · rw [q 1 (by decide), scs_at S 0 i 1 hi (by decide)]; rfl
  · rw [q 2 (by decide), scs_at S 0 i 2 hi (by decide)]; simp
  · rw [q 3 (by decide), scs_at S 0 i 3 hi (by decide)]; rfl
theorem Skw.cell {W : World} {g : Nat} {S : List Sk} {P k : Nat} (h : Skw W g S P k) (hk : k < S.length) : W.cell? ⟨g, k * 4 + 2, none⟩ = some (.int .i64 ((szs (S.take k) : Nat) : Int)) ∧ W.frozen? ⟨g, k * 4 + 2, none⟩ = false := by
  obtain ⟨cur, hg, hc⟩ := h.out
  have := (hc k hk).2.2.1
  rw [if_neg (by omega), Nat.zero_add] at this
  exact ⟨by rw [cell_of_row _ _ _ _ _ _ hg]; exact this, by simp [World.frozen?, hg]⟩
theorem Skw.put {W : World} {g : Nat} {S : List Sk} {P k : Nat} (h : Skw W g S P k) (hk : k < S.length) : Skw (W.setCell ⟨g, k * 4 + 2, none⟩ (.int .i64 ((P + szs (S.take k) : Nat) : Int))) g S P (k + 1) := by
  obtain ⟨cur, hg, hc⟩ := h.out
  refine ⟨_, heap_setCell_same W g (k * 4 + 2) cur _ _ hg, fun i hi => ?_⟩
  obtain ⟨c0, c1, c2, c3⟩ := hc i hi
  have ne : ∀ j, j ≠ k * 4 + 2 → (cur.setIfInBounds (k * 4 + 2) (.int .i64 ((P + szs (S.take k) : Nat) : Int)))[j]? = cur[j]? := fun j hj => Array.getElem?_setIfInBounds_ne (fun e => hj e.symm)
  refine ⟨by rw [ne _ (by omega)]; exact c0, by rw [ne _ (by omega)]; exact c1, ?_, by rw [ne _ (by omega)]; exact c3⟩
  by_cases e : i = k
  · subst e
    have hlt : i * 4 + 2 < cur.size := by
      rcases Nat.lt_or_ge (i * 4 + 2) cur.size with q | q
      · exact q
      · rw [Array.getElem?_eq_none q] at c2; cases c2
    rw [Array.getElem?_setIfInBounds_self_of_lt hlt, if_pos (by omega)]
  · rw [ne _ (by omega), c2]
    congr 4
    by_cases q : i < k
    · rw [if_pos q, if_pos (by omega)]
    · rw [if_neg q, if_neg (by omega)]
theorem Skw.kept {W W' : World} {F : Nat → Prop} {g : Nat} {S : List Sk} {P k : Nat} (h : Skw W g S P k) (hk : Kept F W W') (hF : ¬ F g) : Skw W' g S P k := by
  obtain ⟨cur, hg, hc⟩ := h.out
  exact ⟨cur, hk.heap hg hF, hc⟩
theorem Skw.at {W : World} {g : Nat} {S : List Sk} {P : Nat} (h : Skw W g S P S.length) : SkAt W (some ⟨g, 0, none⟩) S P := by
  intro _
  obtain ⟨cur, hg, hc⟩ := h.out
  refine ⟨g, 0, rfl, fun k hk => ?_⟩
  obtain ⟨c0, c1, c2, c3⟩ := hc k hk
  rw [if_pos hk] at c2
  simp only [Nat.zero_add]
  exact ⟨by rw [cell_of_row _ _ _ _ _ _ hg]; exact c0, by rw [cell_of_row _ _ _ _ _ _ hg]; exact c1, by rw [cell_of_row _ _ _ _ _ _ hg]; exact c2, by rw [cell_of_row _ _ _ _ _ _ hg]; exact c3⟩
def apS (acc : List Sk) : Option (List Sk × Nat) → Option (List Sk × Nat)
  | none => none
  | some (S, t) => some (acc ++ S, t)
def conS (x : Sk) : Option (List Sk × Nat) → Option (List Sk × Nat)
  | none => none
  | some (S, t) => some (x :: S, t)
theorem apS_step (acc : List Sk) (x : Sk) (r : Option (List Sk × Nat)) : apS acc (conS x r) = apS (acc ++ [x]) r := by
  cases r with
  | none => rfl
  | some D => obtain ⟨F, q⟩ := D; simp [apS, conS]
theorem rsk_n1 {l : List Int} {m left p : Nat} {b : Int} (h : upn (2147483645 - b) l p = none) : rsk l (m + 1) left b p = none := by rw [rsk, h]
theorem rsk_n2 {l : List Int} {m left p g q : Nat} {b : Int} (h : upn (2147483645 - b) l p = some (g, q)) (h2 : upn ((l.length - q : Nat) : Int) l q = none) : rsk l (m + 1) left b p = none := by
  rw [rsk, h]
  simp only
  rw [h2]
theorem rsk_s {l : List Int} {m left p g q z r : Nat} {b : Int} (h : upn (2147483645 - b) l p = some (g, q)) (h2 : upn ((l.length - q : Nat) : Int) l q = some (z, r)) : rsk l (m + 1) left b p = conS ⟨b + 1 + g, min left 16, z⟩ (rsk l m (left - 16) (b + 1 + g) r) := by
  rw [rsk, h]
  simp only
  rw [h2]
  simp only
  cases rsk l m (left - 16) (b + 1 + g) r with
  | none => rfl
  | some D => obtain ⟨F, q⟩ := D; rfl
/-- What readSkips leaves. -/
def rsPost (br : Nat) (v : Value) (l : List Int) (w : World) (e : Ending) (w' : World) : Option (List Sk × Nat) → Prop
  | none => e = .returned (.tuple #[.slice none 0 0, .bool false]) ∧ Kept (fun i => i = br) w w'
  | some (S, q) => ∃ a c, e = .returned (.tuple #[.slice a S.length c, .bool (decide (szs S = l.length - q))]) ∧ SkAt w' a S q ∧ Rd w' br v l q ∧ Kept (fun i => i = br) w w'
end Go.Proofs.YtjkbongfampgjaaGreatDoor
