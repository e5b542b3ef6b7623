import Derived.Test.YtkgcafomlhfonaaTkj
import Derived.Test.YtkgcafomlhfonaaShh
import Derived.Deep.AppendLies
namespace Go.Proofs.Ytkgcafomlhfonaa.Tk
open Go.ChangeShapes Go.WideShapes Go.ChangeAt Go.RowKit

/-- 'append(s, x...)' of hits that lie elsewhere. -/
theorem wpList_catT {B : Nat} {W : World} {ops : Array Oper} {rest : List Oper} {o : Oper} {act : Act} {Q : Exit → Act → World → Prop} (hgd : o.guard = none) (s x : Operand)
    (ho : o.op = .call { callee := .builtin .append, args := #[s, x], argTypes := #[26, 26] }) (v : Value) (L M : List Ht) (hs : act.eval s = v) (hR : Hid (RowH B W v L)) (a : Option Addr) (m c : Nat) (hx : act.eval x = .slice a m c) (hM : Hid (HsAt W a M)) (hm : Hid (m = M.length)) (hm0 : 0 < m) (hB : Hid (B ≤ W.heap.size)) (hb : Hid (L.length + m ≤ 8796093022208))
    (h : ∀ g c' W', Hid (RowH B W' (.slice (some ⟨g, 0, none⟩) (L.length + m) c') (L ++ M)) → Hid (Kept (fun i => v.ownBlock = some i) W W') → Hid (v.ownBlock = some g ∨ g = W.heap.size) → wpList Try.prog ops Q rest (act.put o.dst (.slice (some ⟨g, 0, none⟩) (L.length + m) c')) W') : wpList Try.prog ops Q (o :: rest) act W := by
  obtain ⟨i0, hi0, hz0, hz1, hz2⟩ := info_partsT infoHt
  have hne : M ≠ [] := by intro e; rw [hm.out, e] at hm0; simp at hm0
  obtain ⟨b, off, rfl, hc⟩ := hM.out hne
  have h63 := hb.out
  refine wpList_append_lies W hgd s x 26 ho B 29 i0 _ 2 16 Try.underlying26 hi0 hz0 hz1 hz2 rfl (by decide) v L.length (hv L) hs hR.out ⟨b, off, none⟩ m c (hv M) hx (by rw [hv_len, hm.out]) ?_ (hv_one M) hm0 (by unfold maxLen; omega) (by omega) hB.out _ rfl ?_
  · intro j u hj
    rw [Addr.add_mid]
    have hjl : j < M.length * 2 := by rw [← hv_len]; exact (List.getElem?_eq_some_iff.1 hj).1
    obtain ⟨e1, e2⟩ := hv_get M (j / 2) (by omega)
    obtain ⟨z1, z2⟩ := hc (j / 2) (by omega)
    rcases Nat.mod_two_eq_zero_or_one j with q | q
    · rw [show j / 2 * 2 = j by omega] at e1 z1
      rw [hj] at e1
      cases e1
      exact z1
    · rw [show j / 2 * 2 + 1 = j by omega] at e2
      rw [Nat.add_assoc, show j / 2 * 2 + 1 = j by omega] at z2
      rw [hj] at e2
      cases e2
      exact z2
  · intro g c' W' ho2 hg2 hat _
    refine h g c' W' (hideT ?_) (hideT (Kept.grown hg2)) (hideT hat)
    unfold RowH
    rw [hv_app, List.length_append, ← hm.out]
    exact ho2
theorem newHs (w : World) (y : Ht) : HsAt (w.alloc (.cells #[.int .i64 y.1, .int .u64 y.2] 29)) (some ⟨w.heap.size, 0, none⟩) [y] := by
  intro _
  refine ⟨w.heap.size, 0, rfl, fun k hk => ?_⟩
  obtain rfl : k = 0 := by simp at hk; omega
  have h0 := row_newT w [.int .i64 y.1, .int .u64 y.2] 29 0 _ rfl
  have h1 := row_newT w [.int .i64 y.1, .int .u64 y.2] 29 1 _ rfl
  rw [Addr.add_mid] at h0 h1
  exact ⟨h0, h1⟩
/-- 'append(s, x)' of one hit. -/
theorem wpList_pushT {B : Nat} {W : World} {ops : Array Oper} {rest : List Oper} {o : Oper} {act : Act} {Q : Exit → Act → World → Prop} (hgd : o.guard = none) (s x : Operand)
    (ho : o.op = .call { callee := .builtin .append, args := #[s, x], argTypes := #[26, 26] }) (v : Value) (L : List Ht) (y : Ht) (z1 z2 : Int) (hs : act.eval s = v) (hR : Hid (RowH B W v L)) (b : Nat) (hbb : b = W.heap.size) (hx : act.eval x = .slice (some ⟨b, 0, none⟩) 1 1) (hy : Hid (z1 = y.1 ∧ z2 = y.2)) (hB : Hid (B ≤ W.heap.size)) (hb : Hid (L.length + 1 ≤ 8796093022208))
    (h : ∀ g c' W', Hid (RowH B W' (.slice (some ⟨g, 0, none⟩) (L.length + 1) c') (L ++ [y])) → Hid (Kept (fun i => v.ownBlock = some i) W W') → Hid (v.ownBlock = some g ∨ W.heap.size ≤ g) → wpList Try.prog ops Q rest (act.put o.dst (.slice (some ⟨g, 0, none⟩) (L.length + 1) c')) W') : wpList Try.prog ops Q (o :: rest) act (W.alloc (.cells #[.int .i64 z1, .int .u64 z2] 29)) := by
  obtain ⟨e1, e2⟩ := hy.out
  subst hbb e1 e2
  have ka := Kept.alloc W (.cells #[.int .i64 y.1, .int .u64 y.2] 29)
  refine wpList_catT hgd s x ho v L [y] hs (hideT (hR.out.same ka (fun _ _ f => f))) _ 1 1 hx (hideT (newHs W y)) (hideT rfl) (by decide) (hideT (Nat.le_trans hB.out ka.size)) hb ?_
  intro g c' W' hR2 hK2 hg
  refine h g c' W' hR2 (hideT ((ka.mono (fun _ f => f.elim)).trans hK2.out (fun i e => .inl e))) (hideT (hg.out.imp id (fun e => by rw [e]; exact ka.size)))
theorem lt_cfH (x y : Ht) : ltOf cfH x y = decide (Bt x y) := ltH x y
theorem swoH : Sort.SWO (ltOf cfH) := ⟨fun x => by rw [lt_cfH]; exact decide_eq_false (bt_irr x), fun x y z h1 h2 => by rw [lt_cfH] at *; simp only [decide_eq_true_eq] at *; exact bt_trans h1 h2, fun x y z h1 h2 => by rw [lt_cfH] at *; simp only [decide_eq_false_iff_not] at *; exact nbt_trans h1 h2⟩
theorem cmpLaysH (blk off size : Nat) (w : World) : CmpLays Try.prog 32 #[] enH 2 cfH blk off size w := fun _ _ _ _ x y => compare_any x y _
theorem RowH.holds {B : Nat} {w : World} {gb n c : Nat} {L : List Ht} (h : RowH B w (.slice (some ⟨gb, 0, none⟩) n c) L) : Sort.HoldsK enH 2 w gb 0 L.toArray := by
  intro j hj
  rw [Sort.size_flatK, List.size_toArray] at hj
  have hk : j / 2 < L.length := by omega
  refine ⟨?_, ?_⟩
  · rw [Sort.get_flatK _ _ _ _ (by rw [List.size_toArray]; exact hj), Nat.zero_add]
    have hg := hv_get L (j / 2) hk
    have e1 : L.toArray[j / 2]! = L[j / 2] := by simp [hk]
    rw [e1]
    rcases Nat.mod_two_eq_zero_or_one j with q | q
    · rw [q]
      have := World.ownsRow.cells h (g := gb) rfl _ _ hg.1
      rw [Addr.add_mid, Nat.zero_add, show j / 2 * 2 = j by omega] at this
      exact this
    · rw [q]
      have := World.ownsRow.cells h (g := gb) rfl _ _ hg.2
      rw [Addr.add_mid, Nat.zero_add, show j / 2 * 2 + 1 = j by omega] at this
      exact this
  · rcases h.2 with ⟨e1, _⟩ | ⟨g', cap, cur, e1, hg, hh, _⟩
    · cases e1
    · simp only [Value.slice.injEq, Option.some.injEq, Addr.mk.injEq, and_true] at e1
      obtain ⟨rfl, _⟩ := e1
      simp [World.frozen?, hh]
theorem kept_sortH (w : World) (blk n : Nat) (d : Array Ht) (os : Array Obj) : Kept (fun i => i = blk) w (sortWorldK enH 2 w blk 0 n d os) := by
  refine ⟨rfl, rfl, rfl, size_sortWorldK_c enH 2 w blk 0 n d os, fun i hi hne => ?_⟩
  unfold sortWorldK
  simp only [Sort.grow, Sort.putRowK, Sort.putRow, Sort.mapBlock, Sort.ahead]
  rw [Array.getElem?_append_left (by simpa using hi), Array.getElem?_modify, if_neg (fun e => hne e.symm)]
theorem block_sortH {w : World} {blk n : Nat} {d : Array Ht} {os : Array Obj} {cur : Array Value} {e : TypeId} (h : w.heap[blk]? = some (.cells cur e (0, 0))) : ∃ cur', (sortWorldK enH 2 w blk 0 n d os).heap[blk]? = some (.cells cur' e (0, 0)) ∧ cur'.size = cur.size := by
  have hlt := lt_of_block h
  refine ⟨Sort.putCells id 0 (Sort.flatK enH 2 d) cur, ?_, by unfold Sort.putCells; exact Array.size_mapIdx⟩
  unfold sortWorldK
  simp only [Sort.grow, Sort.putRowK, Sort.putRow, Sort.mapBlock, Sort.ahead]
  rw [Array.getElem?_append_left (by simpa using hlt), Array.getElem?_modify, if_pos rfl, h]
  rfl
set_option maxHeartbeats 1000000 in
/-- slices.SortFunc over a row of hits that isn't none. -/
theorem sort_any {B : Nat} {w : World} {gb c : Nat} {L : List Ht} (h : RowH B w (.slice (some ⟨gb, 0, none⟩) L.length c) L) (hl : L.length ≤ 8796093022208) :
    Calls Try.prog 31 #[.slice (some ⟨gb, 0, none⟩) L.length c, .func (.func 32) #[] #[]] w fun e w' => e = .returned (.tuple #[]) ∧ RowH B w' (.slice (some ⟨gb, 0, none⟩) L.length c) (srt L) ∧ Kept (fun i => i = gb) w w' := by
  have eg : ∀ args w, (callFunc 32 args).run Try.prog w = .ok (.enter 32 args) w := enters_of Try.func32 (by kernel_rfl) rfl
  have hH := h.holds
  have hblk : gb < w.heap.size := (World.ownsRow.lt h gb rfl).2
  have hcon := AnyQ.slices_SortFunc_eq Try.sortHit 2 Try.isAgg29 Try.sizeOf29 enH (fun _ => rfl) (fun x v hv => by simp [enH] at hv; rcases hv with rfl | rfl <;> rfl) cfH swoH 32 #[] gb 0 c L.toArray w eg (cmpLaysH gb 0 L.toArray.size w) hH hblk (by rw [List.size_toArray]; omega)
  rw [List.size_toArray] at hcon
  refine hcon.mono ?_
  rintro e w' ⟨rfl, n, os, rfl⟩
  obtain ⟨hp, hs⟩ := Sort.pdq_sorts (ltOf cfH) swoH L.toArray 0 L.toArray.size (Lib.bitLen L.length) true true (Nat.zero_le _) (Nat.le_refl _) (Or.inl rfl)
  rw [List.size_toArray] at hp hs
  obtain ⟨D, hD⟩ : ∃ D, D = Sort.pdq (ltOf cfH) L.toArray 0 L.length (Lib.bitLen L.length) true true := ⟨_, rfl⟩
  rw [← hD] at hp hs ⊢
  have hsz : D.size = L.length := by have := hp.1; rwa [List.size_toArray] at this
  have hperm : D.toList.Perm L := by
    have h3 := hp.2.2
    have e1 : D.extract 0 L.length = D := by rw [← hsz]; exact Array.extract_size
    have e2 : L.toArray.extract 0 L.length = L.toArray := by rw [show L.length = L.toArray.size by simp]; exact Array.extract_size
    rw [e1, e2] at h3
    simpa using h3
  have hsrt : Srt D.toList := by
    unfold Srt
    rw [List.pairwise_iff_getElem]
    intro i j hi hj hij
    have h4 := hs i j (Nat.zero_le _) hij (by simpa [hsz] using hj)
    rw [lt_cfH] at h4
    have hj' : j < D.size := by simpa using hj
    have hi' : i < D.size := by simpa using hi
    simp only [decide_eq_false_iff_not] at h4
    simp [hi', hj'] at h4
    simpa using h4
  have hDs : D.toList = srt L := srt_of hsrt hperm
  have hold := holdsK_sortWorldK_c enH 2 w gb 0 L.toArray D n os hH hblk (by rw [List.size_toArray]; exact hsz)
  refine ⟨rfl, ?_, kept_sortH ..⟩
  rcases h.2 with ⟨e1, _⟩ | ⟨g', cap, cur, e1, hg, hh, hn, hm, hcs, ht⟩
  · cases e1
  · simp only [Value.slice.injEq, Option.some.injEq, Addr.mk.injEq, and_true, true_and] at e1
    obtain ⟨rfl, rfl⟩ := e1
    obtain ⟨cur', hc1, hc2⟩ := block_sortH (n := n) (d := D) (os := os) hh
    refine ⟨by rw [hv_len, srt_len], .inr ⟨gb, c, cur', by rw [srt_len], hg, hc1, by rw [srt_len]; exact hn, hm, by rw [hc2]; exact hcs, ?_⟩⟩
    rw [srt_len, ← hDs]
    apply List.ext_getElem?
    intro j
    rw [List.getElem?_take]
    by_cases hj : j < L.length * 2
    · rw [if_pos hj]
      have hjs : j < (Sort.flatK enH 2 D).size := by rw [Sort.size_flatK, hsz]; exact hj
      have h1 := (hold j hjs).1
      rw [cell_of_row _ _ _ _ _ _ hc1, Sort.get_flatK _ _ _ _ (by rw [hsz]; exact hj), Nat.zero_add] at h1
      have hk : j / 2 < D.toList.length := by simp [hsz]; omega
      have hk2 : j / 2 < D.size := by omega
      have e1 : D[j / 2]! = D.toList[j / 2] := by simp [hk2]
      rw [e1] at h1
      have hg := hv_get D.toList (j / 2) hk
      rw [Array.getElem?_toList, h1]
      rcases Nat.mod_two_eq_zero_or_one j with q | q
      · rw [q]
        rw [show j / 2 * 2 = j by omega] at hg
        exact hg.1.symm
      · rw [q]
        rw [show j / 2 * 2 + 1 = j by omega] at hg
        exact hg.2.symm
    · rw [if_neg hj, List.getElem?_eq_none (by rw [hv_len]; simp [hsz]; omega)]
end Go.Proofs.Ytkgcafomlhfonaa.Tk
