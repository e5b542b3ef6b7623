import Derived.Test.YtidgofpmnlddaaaGreatDoorPon
namespace Go.Proofs.YtidgofpmnlddaaaGreatDoor
open Go.ChangeShapes Go.WideShapes Go.ChangeAt Go.RowKit

theorem Tryz.infoSk : (Tryz.prog.info? 80).map (fun i => (i.zero, i.size, i.bytes)) = some (some (.agg #[.int .i64 0, .int .i64 0, .int .i64 0, .int .i64 0]), 4, 32) := by kernel_rfl
/-- Skip entries as cells; a: the place of the first block. -/
def scs : Nat → List Sk → List Value
  | _, [] => []
  | a, s :: S => [.int .i64 s.last, .int .i64 s.n, .int .i64 a, .int .i64 s.z] ++ scs (a + s.z) S
theorem scs_snoc : ∀ (S : List Sk) (s : Sk) (a : Nat), scs a (S ++ [s]) = scs a S ++ [.int .i64 s.last, .int .i64 s.n, .int .i64 ((a + szs S : Nat) : Int), .int .i64 s.z]
  | [], s, a => by simp [scs, szs]
  | x :: S, s, a => by rw [List.cons_append, scs, scs_snoc S, scs, szs, List.append_assoc, Nat.add_assoc]
theorem scs_length : ∀ (S : List Sk) (a : Nat), (scs a S).length = S.length * 4
  | [], _ => rfl
  | x :: S, a => by rw [scs, List.length_append, scs_length S]; simp; omega
theorem scs_at : ∀ (S : List Sk) (a k j : Nat) (h : k < S.length), j < 4 → (scs a S)[k * 4 + j]? = [Value.int .i64 S[k].last, .int .i64 S[k].n, .int .i64 ((a + szs (S.take k) : Nat) : Int), .int .i64 S[k].z][j]?
  | s :: S, a, 0, j, _, hj => by
    rw [scs, List.getElem?_append_left (by simp; omega)]
    simp [szs]
  | s :: S, a, k + 1, j, h, hj => by
    have i := scs_at S (a + s.z) k j (by simpa using h) hj
    rw [scs, List.getElem?_append_right (by simp; omega)]
    simp only [List.getElem_cons_succ, List.take_succ_cons, szs]
    rw [← Nat.add_assoc, ← i]
    congr 1
    simp
    omega
/-- 'append' of one skip entry. -/
theorem wpList_pushS {base : Nat} {W : World} {ops : Array Oper} {rest : List Oper} {o : Oper} {act : Act} {Q : Exit → Act → World → Prop} (hgd : o.guard = none) (s x : Operand)
    (ho : o.op = .call { callee := .builtin .append, args := #[s, x], argTypes := #[57, 57] }) (v : Value) (n : Nat) (xs : List Value) (e1 e2 e3 e4 : Int) (hs : act.eval s = v) (hG : Hid (W.ownsRow base 80 4 v n xs)) (hb0 : base ≤ W.heap.size) (b : Nat) (hb : b = W.heap.size) (hx : act.eval x = .slice (some ⟨b, 0, none⟩) 1 1) (hn : n ≤ 1099511627776)
    (h : ∀ gb c' W', Hid (W'.ownsRow base 80 4 (.slice (some ⟨gb, 0, none⟩) (n + 1) c') (n + 1) (xs ++ [.int .i64 e1, .int .i64 e2, .int .i64 e3, .int .i64 e4])) → Hid (Kept (fun k => v.ownBlock = some k) W W') → wpList Tryz.prog ops Q rest (act.put o.dst (.slice (some ⟨gb, 0, none⟩) (n + 1) c')) W') : wpList Tryz.prog ops Q (o :: rest) act (W.alloc (.cells #[.int .i64 e1, .int .i64 e2, .int .i64 e3, .int .i64 e4] 80)) := by
  subst hb
  obtain ⟨i0, hi, hz0, hz1, hz2⟩ := info_partsP Tryz.infoSk
  refine wpList_append_lies _ hgd s x 57 ho base 80 i0 (.agg #[.int .i64 0, .int .i64 0, .int .i64 0, .int .i64 0]) 4 32 Tryz.underlying57 hi hz0 hz1 hz2 rfl (by decide) v n xs hs (hG.out.alloc _) ⟨W.heap.size, 0, none⟩ 1 1 [.int .i64 e1, .int .i64 e2, .int .i64 e3, .int .i64 e4] hx rfl (row_news W [.int .i64 e1, .int .i64 e2, .int .i64 e3, .int .i64 e4] 80) (by intro u hu; simp at hu; rcases hu with rfl | rfl | rfl | rfl <;> rfl) (by decide) (by unfold maxLen; omega) (by omega) (by simp; omega) _ rfl ?_
  intro gb c' W' ho2 hg2 _ _
  exact h gb c' W' ho2 (hideP (((Kept.alloc W _).mono (fun _ f => f.elim)).trans (Kept.grown hg2) (fun i hi => .inl hi)))
/-- The skip entries at a block, the first k of them with their places. -/
structure Skw (W : World) (g : Nat) (S : List Sk) (P k : Nat) : Prop where
  out : ∃ cur : Array Value, W.heap[g]? = some (.cells cur 80 (0, 0)) ∧ ∀ i (h : i < S.length), cur[i * 4]? = some (.int .i64 S[i].last) ∧ cur[i * 4 + 1]? = some (.int .i64 S[i].n) ∧ cur[i * 4 + 2]? = some (.int .i64 (((if i < k then P else 0) + szs (S.take i) : Nat) : Int)) ∧ cur[i * 4 + 3]? = some (.int .i64 S[i].z)
theorem Skw.start {W : World} {base g n c : Nat} {S : List Sk} (h : W.ownsRow base 80 4 (.slice (some ⟨g, 0, none⟩) n c) n (scs 0 S)) (P : Nat) : Skw W g S P 0 := by
  have hn : n = S.length := by have := h.1; rw [scs_length] at this; omega
  rcases h.2 with ⟨e, _⟩ | ⟨g', cap, cur, e, hb, hg, hnc, _, hcs, ht⟩
  · cases e
  simp only [Value.slice.injEq, Option.some.injEq, Addr.mk.injEq, and_true, true_and] at e
  obtain ⟨rfl, rfl⟩ := e
  refine ⟨cur, hg, fun i hi => ?_⟩
  have q : ∀ j, j < 4 → cur[i * 4 + j]? = (scs 0 S)[i * 4 + j]? := fun j hj => by
    rw [← ht, List.getElem?_take, if_pos (by omega), Array.getElem?_toList]
  refine ⟨?_, ?_, ?_, ?_⟩
  · rw [show i * 4 = i * 4 + 0 by omega, q 0 (by decide), scs_at S 0 i 0 hi (by decide)]; rfl
  · rw [q 1 (by decide), scs_at S 0 i 1 hi (by decide)]; rfl
  · rw [q 2 (by decide), scs_at S 0 i 2 hi (by decide)]; simp
  · rw [q 3 (by decide), scs_at S 0 i 3 hi (by decide)]; rfl
theorem Skw.cell {W : World} {g : Nat} {S : List Sk} {P k : Nat} (h : Skw W g S P k) (hk : k < S.length) : W.cell? ⟨g, k * 4 + 2, none⟩ = some (.int .i64 ((szs (S.take k) : Nat) : Int)) ∧ W.frozen? ⟨g, k * 4 + 2, none⟩ = false := by
  obtain ⟨cur, hg, hc⟩ := h.out
  have := (hc k hk).2.2.1
  rw [if_neg (by omega), Nat.zero_add] at this
  exact ⟨by rw [cell_of_row _ _ _ _ _ _ hg]; exact this, by simp [World.frozen?, hg]⟩
theorem Skw.put {W : World} {g : Nat} {S : List Sk} {P k : Nat} (h : Skw W g S P k) (hk : k < S.length) : Skw (W.setCell ⟨g, k * 4 + 2, none⟩ (.int .i64 ((P + szs (S.take k) : Nat) : Int))) g S P (k + 1) := by
  obtain ⟨cur, hg, hc⟩ := h.out
  refine ⟨_, heap_setCell_same W g (k * 4 + 2) cur _ _ hg, fun i hi => ?_⟩
  obtain ⟨c0, c1, c2, c3⟩ := hc i hi
  have ne : ∀ j, j ≠ k * 4 + 2 → (cur.setIfInBounds (k * 4 + 2) (.int .i64 ((P + szs (S.take k) : Nat) : Int)))[j]? = cur[j]? := fun j hj => Array.getElem?_setIfInBounds_ne (fun e => hj e.symm)
  refine ⟨by rw [ne _ (by omega)]; exact c0, by rw [ne _ (by omega)]; exact c1, ?_, by rw [ne _ (by omega)]; exact c3⟩
  by_cases e : i = k
  · subst e
    have hlt : i * 4 + 2 < cur.size := by
      rcases Nat.lt_or_ge (i * 4 + 2) cur.size with q | q
      · exact q
      · rw [Array.getElem?_eq_none q] at c2; cases c2
    rw [Array.getElem?_setIfInBounds_self_of_lt hlt, if_pos (by omega)]
  · rw [ne _ (by omega), c2]
    congr 4
    by_cases q : i < k
    · rw [if_pos q, if_pos (by omega)]
    · rw [if_neg q, if_neg (by omega)]
theorem Skw.kept {W W' : World} {F : Nat → Prop} {g : Nat} {S : List Sk} {P k : Nat} (h : Skw W g S P k) (hk : Kept F W W') (hF : ¬ F g) : Skw W' g S P k := by
  obtain ⟨cur, hg, hc⟩ := h.out
  exact ⟨cur, hk.heap hg hF, hc⟩
theorem Skw.at {W : World} {g : Nat} {S : List Sk} {P : Nat} (h : Skw W g S P S.length) : SkAt W (some ⟨g, 0, none⟩) S P := by
  intro _
  obtain ⟨cur, hg, hc⟩ := h.out
  refine ⟨g, 0, rfl, fun k hk => ?_⟩
  obtain ⟨c0, c1, c2, c3⟩ := hc k hk
  rw [if_pos hk] at c2
  simp only [Nat.zero_add]
  exact ⟨by rw [cell_of_row _ _ _ _ _ _ hg]; exact c0, by rw [cell_of_row _ _ _ _ _ _ hg]; exact c1, by rw [cell_of_row _ _ _ _ _ _ hg]; exact c2, by rw [cell_of_row _ _ _ _ _ _ hg]; exact c3⟩
def apS (acc : List Sk) : Option (List Sk × Nat) → Option (List Sk × Nat)
  | none => none
  | some (S, t) => some (acc ++ S, t)
def conS (x : Sk) : Option (List Sk × Nat) → Option (List Sk × Nat)
  | none => none
  | some (S, t) => some (x :: S, t)
theorem apS_step (acc : List Sk) (x : Sk) (r : Option (List Sk × Nat)) : apS acc (conS x r) = apS (acc ++ [x]) r := by
  cases r with
  | none => rfl
  | some D => obtain ⟨F, q⟩ := D; simp [apS, conS]
theorem rsk_n1 {l : List Int} {m left p : Nat} {b : Int} (h : upn (2147483645 - b) l p = none) : rsk l (m + 1) left b p = none := by rw [rsk, h]
theorem rsk_n2 {l : List Int} {m left p g q : Nat} {b : Int} (h : upn (2147483645 - b) l p = some (g, q)) (h2 : upn ((l.length - q : Nat) : Int) l q = none) : rsk l (m + 1) left b p = none := by
  rw [rsk, h]
  simp only
  rw [h2]
theorem rsk_s {l : List Int} {m left p g q z r : Nat} {b : Int} (h : upn (2147483645 - b) l p = some (g, q)) (h2 : upn ((l.length - q : Nat) : Int) l q = some (z, r)) : rsk l (m + 1) left b p = conS ⟨b + 1 + g, min left 16, z⟩ (rsk l m (left - 16) (b + 1 + g) r) := by
  rw [rsk, h]
  simp only
  rw [h2]
  simp only
  cases rsk l m (left - 16) (b + 1 + g) r with
  | none => rfl
  | some D => obtain ⟨F, q⟩ := D; rfl
/-- What readSkips leaves. -/
def rsPost (br : Nat) (v : Value) (l : List Int) (w : World) (e : Ending) (w' : World) : Option (List Sk × Nat) → Prop
  | none => e = .returned (.tuple #[.slice none 0 0, .bool false]) ∧ Kept (fun i => i = br) w w'
  | some (S, q) => ∃ a c, e = .returned (.tuple #[.slice a S.length c, .bool (decide (szs S = l.length - q))]) ∧ SkAt w' a S q ∧ Rd w' br v l q ∧ Kept (fun i => i = br) w w'
end Go.Proofs.YtidgofpmnlddaaaGreatDoor
namespace Go.Proofs.YtidgofpmnlddaaaGreatDoor
open Go.ChangeShapes Go.WideShapes Go.ChangeAt Go.RowKit

set_option maxRecDepth 20000 in
set_option maxHeartbeats 8000000 in
theorem readSkips_any {l : List Int} {p br : Nat} {v : Value} {ad : Nat → Addr} (n : Nat) (w0 w : World) (h : Rd w br v l p) (hl : l.length ≤ 1073741824) (hn : n ≤ 1073741824) (hE : ErP w0 ad) (hO : Old w0 w) (hb : w0.heap.size ≤ br) :
    Calls Tryz.prog 67 #[.pointer (some ⟨br, 0, none⟩), .int .i64 n] w fun e w' => rsPost br v l w e w' (rsk l (nbp n) n (-1) p) := by
  obtain ⟨R, hR⟩ : ∃ R, R = rsk l (nbp n) n (-1) p := ⟨_, rfl⟩
  rw [← hR]
  have HR := hideP hR
  have HH := hideP h
  have HE := hideP hE
  have HO := hideP hO
  have hbr : br < w.heap.size := lt_of_block h.blk
  have HVB : Hid (∀ k, v.ownBlock = some k → k < w.heap.size) := hideP (fun k hk => (h.own.lt k hk).2)
  clear hR h hE hO
  go_enter Tryz.func67, Tryz.ntmps67
  go_wp2
  go_loopw [6, 7, 8, 9] (fun v6 v7 v8 v9 wr => ∃ (acc : List Sk) (j q sm : Nat) (b lz : Int) (ua : Option Addr) (uc : Nat), v6 = .slice ua j uc ∧ v7 = .int .i64 b ∧ v8 = .int .i64 sm ∧ v9 = .int .i64 lz ∧ lz = (n : Int) - 16 * (j : Int) ∧ j ≤ nbp n ∧ -1 ≤ b ∧ b ≤ 2147483646 ∧ sm ≤ j * 1073741824 ∧ Hid (sm = szs acc) ∧ Hid (wr.ownsRow w.heap.size 80 4 (.slice ua j uc) j (scs 0 acc)) ∧ Hid (Rd wr br v l q) ∧ Hid (R = apS acc (rsk l (nbp n - j) (n - 16 * j) b q)) ∧ Hid (Kept (fun i => i = br) w wr)) (fun _ _ _ v9 _ => (intOf v9).toNat)
  case atStart =>
    refine ⟨[], 0, p, 0, -1, n, none, 0, rfl, rfl, rfl, rfl, by omega, by omega, by omega, by omega, by omega, hideP rfl, hideP (gro_nil w _ 4).own, HH, hideP ?_, hideP (Kept.refl _ _)⟩
    rw [HR.out, Nat.sub_zero, Nat.mul_zero, Nat.sub_zero]
    cases rsk l (nbp n) n (-1) p with
    | none => rfl
    | some x => obtain ⟨F, r⟩ := x; rfl
  case round =>
    obtain ⟨acc, j, q, sm, b, lz, ua, uc, rfl, rfl, rfl, rfl, hlz, hj, hb1, hb2, hsm, HSm, HOw, HRd, HQ, HK⟩ := hrel
    clear HH HR
    have HOr := hideP (HO.out.one HK.out hb)
    have HEr := hideP (HE.out.old HOr.out)
    have hzr := HK.out.size
    have hjb : j ≤ 67108865 := by unfold nbp at hj; omega
    by_cases hlt : 0 < lz
    · obtain ⟨mm, hmm⟩ : ∃ mm, nbp n - j = mm + 1 := ⟨nbp n - j - 1, by unfold nbp; omega⟩
      have HMM := hideP hmm
      have hmb : (2147483646 : Int) - 1 - b = 2147483645 - b := by omega
      have HLz := hideP hlz
      have hlz2 : lz ≤ 1073741824 := by omega
      clear hmm hlz
      cases hu : upn (2147483646 - 1 - b) l q with
      | none =>
        have C := hideP (readBehind_n b 2147483646 wr HRd.out hb1 (by omega) (by omega) (by omega) HEr.out hu)
        rw [hmb] at hu
        have HRn : Hid (R = none) := hideP (by rw [HQ.out, HMM.out, rsk_n1 hu]; rfl)
        clear hu HQ
        go_wp2_with (go_at_call 80; refine C.out.mono ?_; clear C; rintro e W ⟨⟨y, rfl⟩, hK2⟩; have HK2 := hideP (HK.out.trans hK2 (fun _ f => f.elim)); clear hK2)
        go_ret2
        rw [HRn.out]
        exact ⟨rfl, HK2.out⟩
      | some gq =>
        obtain ⟨g, q1⟩ := gq
        have C := hideP (readBehind_s b 2147483646 wr HRd.out hb1 (by omega) (by omega) (by omega) HEr.out hu)
        obtain ⟨_, _, _, hgx⟩ := upn_rduP hu
        obtain ⟨b', hb'⟩ : ∃ b', b' = b + 1 + (g : Int) := ⟨_, rfl⟩
        rw [← hb'] at C
        rw [hmb] at hu
        have hb3 : -1 ≤ b' ∧ b' ≤ 2147483646 := by omega
        obtain ⟨hb31, hb32⟩ := hb3
        have HB' := hideP hb'
        have HU := hideP hu
        obtain ⟨lf, hlf⟩ : ∃ lf, lf = l.length - q1 := ⟨_, rfl⟩
        have hlf2 : lf ≤ 1073741824 := by omega
        have CL : Hid (∀ W, Rd W br v l q1 → Calls Tryz.prog 66 #[.pointer (some ⟨br, 0, none⟩)] W fun e w' => e = .returned (.int .i64 (lf : Int)) ∧ ∃ n, w' = W.drewN n) := hideP (fun W hW => by rw [hlf]; exact left_any br v l q1 W hW)
        clear hu hb' hgx
        cases hv : upn ((l.length - q1 : Nat) : Int) l q1 with
        | none =>
          have HRn : Hid (R = none) := hideP (by rw [HQ.out, HMM.out, rsk_n2 HU.out hv]; rfl)
          rw [← hlf] at hv
          have CU : Hid (∀ W, Rd W br v l q1 → ErP W ad → ∃ b, Calls Tryz.prog 65 #[.pointer (some ⟨br, 0, none⟩), .int .i64 (lf : Int)] W fun e w' => e = .returned (.tuple #[.int .i64 0, .iface 163 (.pointer (some b))]) ∧ Kept (fun _ => False) W w') := hideP (fun W hW hEW => upto_nP W hW (by omega) hEW hv)
          clear hv HQ hlf
          go_wp2_with (first
            | (go_at_call 80; refine C.out.mono ?_; clear C; rintro e W1 ⟨rfl, hR1, hK1⟩; have HR1 := hideP hR1; have HK1 := hideP (HK.out.trans hK1 (fun i hi => .inl hi)); have CL1 := hideP (CL.out W1 hR1); clear hR1 hK1 CL)
            | (go_at_call 66; refine CL1.out.mono ?_; clear CL1; rintro e W2 ⟨rfl, nn, rfl⟩; have HR2 := hideP (HR1.out.drewN nn); have HK2 := hideP (HK1.out.trans (Kept.drewN W1 nn) (fun _ f => f.elim)); obtain ⟨bb, CU2⟩ := CU.out _ HR2.out (HE.out.old (HO.out.one HK2.out hb)); have CU3 := hideP CU2; clear CU2 CU)
            | (go_at_call 65; refine CU3.out.mono ?_; clear CU3; rintro e W3 ⟨rfl, hK3⟩; have HK3 := hideP (HK2.out.trans hK3 (fun _ f => f.elim)); clear hK3))
          go_ret2
          rw [HRn.out]
          exact ⟨rfl, HK3.out⟩
        | some zr =>
          obtain ⟨z, r⟩ := zr
          obtain ⟨mn, hmn⟩ : ∃ mn : Nat, mn = min (n - 16 * j) 16 := ⟨_, rfl⟩
          have HMn : Hid ((mn : Int) = if (16 : Int) < lz then 16 else lz) := hideP (by have := HLz.out; rw [hmn]; split <;> omega)
          obtain ⟨_, _, _, hzx⟩ := upn_rduP hv
          have HQ2 : Hid (R = apS (acc ++ [⟨b', mn, z⟩]) (rsk l (nbp n - (j + 1)) (n - 16 * (j + 1)) b' r)) := hideP (by
            rw [HQ.out, HMM.out, rsk_s HU.out hv, apS_step, ← HB'.out, hmn, show nbp n - (j + 1) = mm by have := HMM.out; omega, show n - 16 * j - 16 = n - 16 * (j + 1) by omega])
          have hz2 : z ≤ 1073741824 := by omega
          have HSm2 : Hid (sm + z = szs (acc ++ [⟨b', mn, z⟩])) := hideP (by rw [szs_append, ← HSm.out]; simp [szs])
          have HSc : Hid (scs 0 (acc ++ [⟨b', mn, z⟩]) = scs 0 acc ++ [.int .i64 b', .int .i64 (mn : Int), .int .i64 (sm : Int), .int .i64 (z : Int)]) := hideP (by rw [scs_snoc, Nat.zero_add, ← HSm.out])
          rw [← hlf] at hv
          have CU : Hid (∀ W, Rd W br v l q1 → ErP W ad → Calls Tryz.prog 65 #[.pointer (some ⟨br, 0, none⟩), .int .i64 (lf : Int)] W fun e w' => e = .returned (.tuple #[.int .i64 z, .nilIface]) ∧ Rd w' br v l r ∧ Kept (fun i => i = br) W w') := hideP (fun W hW hEW => upto_sP W hW (by omega) hEW hv)
          clear hv HQ hlf hmn hzx
          go_wp2_with (first
            | (go_at_call 80; refine C.out.mono ?_; clear C; rintro e W1 ⟨rfl, hR1, hK1⟩; have HR1 := hideP hR1; have HK1 := hideP (HK.out.trans hK1 (fun i hi => .inl hi)); have HO1 := hideP (hK1.row HOw.out (fun i hi e => by have := (HOw.out.lt i hi).1; omega)); have CL1 := hideP (CL.out W1 hR1); clear hR1 hK1 CL)
            | (go_at_call 66; refine CL1.out.mono ?_; clear CL1; rintro e W2 ⟨rfl, nn, rfl⟩; have HR2 := hideP (HR1.out.drewN nn); have HK2 := hideP (HK1.out.trans (Kept.drewN W1 nn) (fun _ f => f.elim)); have HO2 := hideP ((Kept.drewN W1 nn).row HO1.out (fun _ _ f => f)); have CU3 := hideP (CU.out _ HR2.out (HE.out.old (HO.out.one HK2.out hb))); clear CU HO1)
            | (go_at_call 65; refine CU3.out.mono ?_; clear CU3; rintro e W3 ⟨rfl, hR3, hK3⟩; have HR3 := hideP hR3; have HK3 := hideP (HK2.out.trans hK3 (fun i hi => .inl hi)); have HO3 := hideP (hK3.row HO2.out (fun i hi e => by have := (HO2.out.lt i hi).1; omega)); have s3 := HK3.out.size; clear hR3 hK3 HO2)
            | (at_builtin; refine wpList_pushS rfl _ _ rfl _ j (scs 0 acc) b' (mn : Int) (sm : Int) (z : Int) rfl HO3 s3 _ (by first | rfl | simp) rfl (by omega) ?_; intro gb c' W5 O5 K5)
            | (refine wpList_minP rfl _ _ rfl lz 16 mn rfl rfl HMn.out ?_))
          have HR5 := hideP (HR3.out.kept K5.out (fun e => by have := (HO3.out.lt _ e).1; omega) (fun i hi e => by have := (HO3.out.lt _ e).1; have := HVB.out i hi; omega))
          have HK5 := hideP (HK3.out.trans K5.out (fun i hi => .inr (HO3.out.lt i hi).1))
          go_roundw
          case rel => exact ⟨acc ++ [⟨b', mn, z⟩], j + 1, r, sm + z, b', lz - 16, _, _, rfl, rfl, by go_num, by first | rfl | go_num, by have := HLz.out; omega, by have := HMM.out; omega, hb31, hb32, by omega, HSm2, hideP (by rw [HSc.out]; exact O5.out), HR5, HQ2, HK5⟩
          case measure => simp [intOf]; omega
    · have hje : j = nbp n := by unfold nbp at hj ⊢; omega
      have HRs : Hid (R = some (acc, q)) := hideP (by rw [HQ.out, hje, Nat.sub_self, rsk, apS, List.append_nil])
      have hlen := HOw.out.1
      rw [scs_length] at hlen
      have hjl : j = acc.length := by omega
      have HJ := hideP hjl
      have hql := HRd.out.le
      have HB0 : Hid (0 < j → ∃ g, ua = some ⟨g, 0, none⟩ ∧ w.heap.size ≤ g ∧ Skw wr g acc q 0) := hideP (fun h0 => by
        rcases HOw.out.2 with ⟨e1, _⟩ | ⟨g, cap, cur, e1, hg, _⟩
        · simp only [Value.slice.injEq] at e1
          omega
        · simp only [Value.slice.injEq] at e1
          obtain ⟨rfl, _, rfl⟩ := e1
          exact ⟨g, rfl, hg, Skw.start HOw.out q⟩)
      clear hlen hjl hje HQ hlz
      go_wp2
      go_loopw [54] (fun v54 wr => ∃ k : Nat, v54 = .int .i64 k ∧ k ≤ j ∧ Hid (0 < j → ∃ g, ua = some ⟨g, 0, none⟩ ∧ w.heap.size ≤ g ∧ Skw wr g acc q k) ∧ Hid (Rd wr br v l q) ∧ Hid (Kept (fun i => i = br) w wr)) (fun v54 _ => j - (intOf v54).toNat)
      case atStart => exact ⟨0, rfl, by omega, HB0, HRd, HK⟩
      case round =>
        obtain ⟨k, rfl, hk, HBk, HRk, HKk⟩ := hrel
        clear HB0 HRd HK HOw HOr HEr
        by_cases hkj : k < j
        · have hkk : (k : Int) < (j : Int) := by omega
          obtain ⟨g, rfl, hg, hSk⟩ := HBk.out (by omega)
          obtain ⟨cc, ff⟩ := hSk.cell (by rw [← HJ.out]; exact hkj)
          have hPut := hSk.put (by rw [← HJ.out]; exact hkj)
          obtain ⟨a0, ha0⟩ : ∃ a0, a0 = szs (acc.take k) := ⟨_, rfl⟩
          rw [← ha0] at cc hPut
          have ha1 : a0 ≤ sm := by
            have := szs_append (acc.take k) (acc.drop k)
            rw [List.take_append_drop] at this
            have := HSm.out
            omega
          have HSk := hideP hSk
          obtain ⟨y2, hy2⟩ : ∃ y2, y2 = q + a0 := ⟨_, rfl⟩
          rw [← hy2] at hPut
          have ks := Kept.setCell wr.drew ⟨g, k * 4 + 2, none⟩ (.int .i64 (y2 : Int))
          have kd := Kept.drewN wr 1
          have HR2 := hideP ((HRk.out.drewN 1).kept ks (fun e => by simp only at e; omega) (fun i hi e => by simp only at e; have := HVB.out i hi; omega))
          have HK2 := hideP ((HKk.out.trans kd (fun _ f => f.elim)).trans ks (fun i hi => .inr (by simp only at hi; omega)))
          have HB2 : Hid (0 < j → ∃ g', (some (⟨g, 0, none⟩ : Addr)) = some ⟨g', 0, none⟩ ∧ w.heap.size ≤ g' ∧ Skw (wr.drew.setCell ⟨g, k * 4 + 2, none⟩ (.int .i64 (y2 : Int))) g' acc q (k + 1)) := hideP (fun _ => ⟨g, rfl, hg, by
            have := (hSk.kept kd (fun f => f)).put (by rw [← HJ.out]; exact hkj)
            rw [← ha0, ← hy2] at this
            exact this⟩)
          have CA := at_any br v l q wr.drew (HRk.out.drewN 1)
          have cc' : wr.drew.cell? ⟨g, k * 4 + 2, none⟩ = some (.int .i64 (a0 : Int)) := kd.cell cc (fun f => f)
          have ff' : wr.drew.frozen? ⟨g, k * 4 + 2, none⟩ = false := ff
          have eq2 : (a0 : Int) + (q : Int) = (y2 : Int) := by omega
          have eq3 : (y2 : Int) ≤ 9223372036854775807 := by omega
          have ew : IntKind.i64.wrap ((a0 : Int) + (q : Int)) = (y2 : Int) := by rw [IntKind.wrap_i64]; omega
          have HEW := hideP ew
          have HE2 := hideP eq2
          clear ew eq2
          clear hy2 hSk ks kd ha0 hPut HBk HRk HKk
          go_wp2_with fail
          refine wp_region_held (S := AnyZ) (by kernel_rfl) ?_
          change wpAnyH _ _ _ _ _ _ _ _ (World.drew _)
          refine takeZ (i := 0) (d := 57) (v := .slice (some ⟨g, 0, none⟩) j uc) rfl rfl (by kernel_rfl) (by kernel_rfl) (by kernel_rfl) (fun _ _ _ h => h) (Or.inl ⟨by rfl, fun W hW => ?_⟩) (anyZ _) ?_
          · (go_simp)
          simp only [Act.put, List.setIfInBounds_toArray, List.set_cons_zero, List.set_cons_succ]
          refine takeZ (i := 1) (d := 58) (v := .int .i64 k) rfl rfl (by kernel_rfl) (by kernel_rfl) (by kernel_rfl) (fun _ _ _ h => h) (Or.inl ⟨by rfl, fun W hW => ?_⟩) (anyZ _) ?_
          · (go_simp)
          simp only [Act.put, List.setIfInBounds_toArray, List.set_cons_zero, List.set_cons_succ]
          refine takeZ (i := 2) (d := 59) (v := .pointer (some ⟨g, k * 4, none⟩)) rfl rfl (by kernel_rfl) (by kernel_rfl) (by kernel_rfl) (fun _ _ _ h => h) (Or.inl ⟨by rfl, fun W hW => ?_⟩) (anyZ _) ?_
          · (go_simp)
          simp only [Act.put, List.setIfInBounds_toArray, List.set_cons_zero, List.set_cons_succ]
          refine takeZ (i := 3) (d := 60) (v := .pointer (some ⟨g, k * 4 + 2, none⟩)) rfl rfl (by kernel_rfl) (by kernel_rfl) (by kernel_rfl) (fun _ _ _ h => h) (Or.inl ⟨by rfl, fun W hW => ?_⟩) (anyZ _) ?_
          · (go_simp)
          simp only [Act.put, List.setIfInBounds_toArray, List.set_cons_zero, List.set_cons_succ]
          refine takeZ (i := 5) (d := 62) (v := .pointer (some ⟨br, 0, none⟩)) rfl rfl (by kernel_rfl) (by kernel_rfl) (by kernel_rfl) (fun _ _ _ h => h) (Or.inl ⟨by rfl, fun W hW => ?_⟩) (anyZ _) ?_
          · (go_simp)
          simp only [Act.put, List.setIfInBounds_toArray, List.set_cons_zero, List.set_cons_succ]
          refine takeZ (i := 6) (d := 63) (v := .pointer (some ⟨br, 0, none⟩)) rfl rfl (by kernel_rfl) (by kernel_rfl) (by kernel_rfl) (fun _ _ _ h => h) (Or.inl ⟨by rfl, fun W hW => ?_⟩) (anyZ _) ?_
          · (go_simp)
          simp only [Act.put, List.setIfInBounds_toArray, List.set_cons_zero, List.set_cons_succ]
          refine takeZ (i := 7) (d := 64) (v := .pointer (some ⟨br, 0, none⟩)) rfl rfl (by kernel_rfl) (by kernel_rfl) (by kernel_rfl) (fun _ _ _ h => h) (Or.inl ⟨by rfl, fun W hW => ?_⟩) (anyZ _) ?_
          · (go_simp)
          simp only [Act.put, List.setIfInBounds_toArray, List.set_cons_zero, List.set_cons_succ]
          generalize wr.drew = V at *
          refine wpAnyH_all (rs := [4, 8]) (by kernel_rfl) (by simp) ?_
          intro i hi
          obtain rfl | rfl : i = 4 ∨ i = 8 := by simpa using hi
          · unfold wpOp
            go_simp
            first | refine Or.inl ⟨anyZ _, ?_⟩ | refine ⟨anyZ _, ?_⟩
            refine wpAnyH_all (rs := [8]) (by kernel_rfl) (by simp) ?_
            intro i hi
            obtain rfl : i = 8 := by simpa using hi
            unfold wpOp
            go_simp
            refine Or.inl (CA.mono ?_)
            rintro e V ⟨rfl, rfl⟩
            refine ⟨anyZ _, ?_⟩
            refine takeZ (i := 9) (d := 66) (v := .int .i64 y2) rfl rfl (by kernel_rfl) (by kernel_rfl) (by kernel_rfl) (fun _ _ _ h => h) (Or.inl ⟨by rfl, fun W hW => ?_⟩) (anyZ _) ?_
            · (go_simp; first | exact HEW.out | (rw [HE2.out]) | (rw [HE2.out, IntKind.wrap_i64]; omega))
            simp only [Act.put, List.setIfInBounds_toArray, List.set_cons_zero, List.set_cons_succ]
            refine takeZ (i := 10) (d := 67) (v := .pointer (some ⟨g, k * 4, none⟩)) rfl rfl (by kernel_rfl) (by kernel_rfl) (by kernel_rfl) (fun _ _ _ h => h) (Or.inl ⟨by rfl, fun W hW => ?_⟩) (anyZ _) ?_
            · (go_simp)
            simp only [Act.put, List.setIfInBounds_toArray, List.set_cons_zero, List.set_cons_succ]
            refine takeZ (i := 11) (d := 68) (v := .pointer (some ⟨g, k * 4 + 2, none⟩)) rfl rfl (by kernel_rfl) (by kernel_rfl) (by kernel_rfl) (fun _ _ _ h => h) (Or.inl ⟨by rfl, fun W hW => ?_⟩) (anyZ _) ?_
            · (go_simp)
            simp only [Act.put, List.setIfInBounds_toArray, List.set_cons_zero, List.set_cons_succ]
            refine wpAnyH_all (rs := [12]) (by kernel_rfl) (by simp) ?_
            intro i hi
            obtain rfl : i = 12 := by simpa using hi
            unfold wpOp
            go_simp
            first | refine Or.inl ⟨anyZ _, ?_⟩ | refine ⟨anyZ _, ?_⟩
            refine wpAnyH_done (by kernel_rfl) ?_ _
            go_wp2
            go_roundw
            case rel => exact ⟨k + 1, by go_num, by omega, HB2, HR2, HK2⟩
            case measure => simp [intOf]; omega
          · unfold wpOp
            go_simp
            refine Or.inl (CA.mono ?_)
            rintro e V ⟨rfl, rfl⟩
            refine ⟨anyZ _, ?_⟩
            refine wpAnyH_all (rs := [4]) (by kernel_rfl) (by simp) ?_
            intro i hi
            obtain rfl : i = 4 := by simpa using hi
            unfold wpOp
            go_simp
            first | refine Or.inl ⟨anyZ _, ?_⟩ | refine ⟨anyZ _, ?_⟩
            refine takeZ (i := 9) (d := 66) (v := .int .i64 y2) rfl rfl (by kernel_rfl) (by kernel_rfl) (by kernel_rfl) (fun _ _ _ h => h) (Or.inl ⟨by rfl, fun W hW => ?_⟩) (anyZ _) ?_
            · (go_simp; first | exact HEW.out | (rw [HE2.out]) | (rw [HE2.out, IntKind.wrap_i64]; omega))
            simp only [Act.put, List.setIfInBounds_toArray, List.set_cons_zero, List.set_cons_succ]
            refine takeZ (i := 10) (d := 67) (v := .pointer (some ⟨g, k * 4, none⟩)) rfl rfl (by kernel_rfl) (by kernel_rfl) (by kernel_rfl) (fun _ _ _ h => h) (Or.inl ⟨by rfl, fun W hW => ?_⟩) (anyZ _) ?_
            · (go_simp)
            simp only [Act.put, List.setIfInBounds_toArray, List.set_cons_zero, List.set_cons_succ]
            refine takeZ (i := 11) (d := 68) (v := .pointer (some ⟨g, k * 4 + 2, none⟩)) rfl rfl (by kernel_rfl) (by kernel_rfl) (by kernel_rfl) (fun _ _ _ h => h) (Or.inl ⟨by rfl, fun W hW => ?_⟩) (anyZ _) ?_
            · (go_simp)
            simp only [Act.put, List.setIfInBounds_toArray, List.set_cons_zero, List.set_cons_succ]
            refine wpAnyH_all (rs := [12]) (by kernel_rfl) (by simp) ?_
            intro i hi
            obtain rfl : i = 12 := by simpa using hi
            unfold wpOp
            go_simp
            first | refine Or.inl ⟨anyZ _, ?_⟩ | refine ⟨anyZ _, ?_⟩
            refine wpAnyH_done (by kernel_rfl) ?_ _
            go_wp2
            go_roundw
            case rel => exact ⟨k + 1, by go_num, by omega, HB2, HR2, HK2⟩
            case measure => simp [intOf]; omega
        · have hkk : ¬ (k : Int) < (j : Int) := by omega
          have hkj2 : k = j := by omega
          have HSkA : Hid (SkAt wr ua acc q) := hideP (by
            by_cases h0 : 0 < j
            · obtain ⟨g, rfl, _, hSk⟩ := HBk.out h0
              rw [hkj2, HJ.out] at hSk
              exact hSk.at
            · intro hne
              exact absurd (List.eq_nil_of_length_eq_zero (by rw [← HJ.out]; omega)) hne)
          obtain ⟨lf, hlf⟩ : ∃ lf, lf = l.length - q := ⟨_, rfl⟩
          have CL := hideP (left_any br v l q wr HRk.out)
          rw [← hlf] at CL
          have hlf2 : lf ≤ 1073741824 := by omega
          have HB9 : Hid (decide (szs acc = l.length - q) = decide (sm = lf)) := hideP (by rw [HSm.out, hlf])
          clear hkj2 hlf
          by_cases hsl : sm = lf
          · have e1 : ((sm : Int) == (lf : Int)) = true := by rw [hsl]; simp
            have HB8 : Hid (decide (szs acc = l.length - q) = true) := hideP (by rw [HB9.out]; exact decide_eq_true hsl)
            subst hsl
            go_wp2_with (go_at_call 66; refine CL.out.mono ?_; clear CL; rintro e W ⟨rfl, nn, rfl⟩)
            go_ret2
            rw [HRs.out]
            have kd := Kept.drewN wr nn
            exact ⟨ua, uc, by rw [HB8.out, ← HJ.out]; rfl, HSkA.out.kept kd, HRk.out.drewN nn, HKk.out.trans kd (fun _ f => f.elim)⟩
          · have e1 : ((sm : Int) == (lf : Int)) = false := by simp; omega
            have e2 : ¬ (sm : Int) = (lf : Int) := by omega
            have HB8 : Hid (decide (szs acc = l.length - q) = false) := hideP (by rw [HB9.out]; exact decide_eq_false hsl)
            go_wp2_with (go_at_call 66; refine CL.out.mono ?_; clear CL; rintro e W ⟨rfl, nn, rfl⟩)
            go_ret2
            rw [HRs.out]
            have kd := Kept.drewN wr nn
            exact ⟨ua, uc, by rw [HB8.out, ← HJ.out]; rfl, HSkA.out.kept kd, HRk.out.drewN nn, HKk.out.trans kd (fun _ f => f.elim)⟩
end Go.Proofs.YtidgofpmnlddaaaGreatDoor
namespace Go.Proofs.YtidgofpmnlddaaaGreatDoor
open Go.ChangeShapes Go.WideShapes Go.ChangeAt Go.RowKit

theorem rsk_facts {l : List Int} : ∀ {m left : Nat} {b : Int} {p q : Nat} {S : List Sk}, rsk l m left b p = some (S, q) → m = nbp left → -1 ≤ b → ∀ s ∈ S, -1 ≤ s.last ∧ s.last ≤ 2147483646 ∧ 1 ≤ s.n ∧ s.n ≤ 16
  | 0, left, b, p, q, S, h, _, _ => by
    rw [rsk] at h
    injection h with h
    injection h with e1 e2
    subst e1
    intro s hs
    cases hs
  | m + 1, left, b, p, q, S, h, hm, hb => by
    rw [rsk] at h
    split at h
    · cases h
    · rename_i g q1 hu
      split at h
      · cases h
      · rename_i z q2 hz
        split at h
        · cases h
        · rename_i S' t hS
          injection h with h
          injection h with e1 e2
          subst e1 e2
          obtain ⟨_, _, _, hx⟩ := upn_rduP hu
          have i := rsk_facts hS (by unfold nbp at hm ⊢; omega) (by omega)
          intro s hs
          rcases List.mem_cons.1 hs with rfl | hs
          · unfold nbp at hm
            simp only
            omega
          · exact i s hs
theorem rsk_len {l : List Int} : ∀ {m left : Nat} {b : Int} {p q : Nat} {S : List Sk}, rsk l m left b p = some (S, q) → S.length = m
  | 0, left, b, p, q, S, h => by
    rw [rsk] at h
    injection h with h
    injection h with e1 e2
    subst e1
    rfl
  | m + 1, left, b, p, q, S, h => by
    rw [rsk] at h
    split at h
    · cases h
    · split at h
      · cases h
      · split at h
        · cases h
        · rename_i hS
          injection h with h
          injection h with e1 e2
          subst e1
          rw [List.length_cons, rsk_len hS]
/-- What readHead leaves. -/
def rhPost (a : Option Addr) (c : Nat) (l : List Int) (w : World) (e : Ending) (w' : World) : Option Hd → Prop
  | none => (∃ u, e = .returned (.tuple #[u, .bool false])) ∧ Kept (fun _ => False) w w'
  | some h => ∃ bl sa sc, e = .returned (.tuple #[.pointer (some ⟨bl, 0, none⟩), .bool true]) ∧ LsAt w' bl a c l h.n h.t sa sc h.S h.p ∧ w.heap.size ≤ bl ∧ Kept (fun _ => False) w w'
def finH (l : List Int) (n t : Nat) : Option (List Sk × Nat) → Option Hd
  | none => none
  | some (S, p) => if szs S = l.length - p then some ⟨n, t, S, p⟩ else none
theorem hdr_n1 {l : List Int} (h : upn l.length l 0 = none) : hdr l = none := by unfold hdr; rw [h]
theorem hdr_n2 {l : List Int} {n q : Nat} (h : upn l.length l 0 = some (n, q)) (h2 : upn ((l.length - q : Nat) : Int) l q = none) : hdr l = none := by
  unfold hdr
  rw [h]
  simp only
  rw [h2]
theorem hdr_s {l : List Int} {n q t r : Nat} (h : upn l.length l 0 = some (n, q)) (h2 : upn ((l.length - q : Nat) : Int) l q = some (t, r)) : hdr l = finH l n t (rsk l (nbp n) n (-1) r) := by
  unfold hdr
  rw [h]
  simp only
  rw [h2]
  simp only
  cases rsk l (nbp n) n (-1) r with
  | none => rfl
  | some D => obtain ⟨F, q⟩ := D; rfl
set_option maxRecDepth 20000 in
set_option maxHeartbeats 8000000 in
theorem readHead_any (l : List Int) (a : Option Addr) (c : Nat) (ad : Nat → Addr) (w : World) (hA : BytesAt w a l) (hB : IsBytes l) (hl : l.length ≤ 1073741824) (hc : l.length ≤ c) (hE : ErP w ad) :
    Calls Tryz.prog 44 #[.slice a l.length c] w fun e w' => rhPost a c l w e w' (hdr l) := by
  obtain ⟨R, hR⟩ : ∃ R, R = hdr l := ⟨_, rfl⟩
  rw [← hR]
  have HR := hideP hR
  have HA := hideP hA
  have HE := hideP hE
  have CN := hideP (newr_any l a c w hA hB (by omega))
  obtain ⟨ll, hll⟩ : ∃ ll, ll = l.length := ⟨_, rfl⟩
  have HLL := hideP hll
  rw [← hll] at CN hc hl ⊢
  clear hR hA hE hll hB
  go_enter Tryz.func44, Tryz.ntmps44
  go_wp2_with (first
    | (go_at_call 64; refine CN.out.mono ?_; clear CN; rintro e W1 ⟨br, v, rfl, hR1, hb1, hv1, hK1⟩; have HR1 := hideP hR1; have HK1 := hideP hK1; clear hR1 hv1 hK1)
    | (go_at_call 66; refine StpQ.go ?_))
  refine ⟨?_⟩
  have CL := left_any br v l 0 W1 HR1.out
  rw [Nat.sub_zero, ← HLL.out] at CL
  refine CL.mono ?_
  rintro e W2 ⟨rfl, n2, rfl⟩
  have HR2 := hideP (HR1.out.drewN n2)
  have HK2 := hideP (HK1.out.trans (Kept.drewN W1 n2) (fun _ f => f.elim))
  have hE2 := HE.out.kept HK2.out
  clear CL HR1 HK1
  cases hu : upn (l.length : Int) l 0 with
  | none =>
    have HRn : Hid (R = none) := hideP (by rw [HR.out, hdr_n1 hu])
    rw [← HLL.out] at hu
    obtain ⟨bb, CU⟩ := upto_nP _ HR2.out (by omega) hE2 hu
    unfold errV at CU
    have CU2 := hideP CU
    clear hu CU hE2
    go_wp2_with (go_at_call 65; refine CU2.out.mono ?_; clear CU2; rintro e W3 ⟨rfl, k3⟩; have HK3 := hideP (HK2.out.trans k3 (fun _ f => f.elim)); clear k3)
    go_ret2
    rw [HRn.out]
    exact ⟨⟨_, rfl⟩, HK3.out⟩
  | some nq =>
    obtain ⟨n, q⟩ := nq
    have HU := hideP hu
    obtain ⟨_, _, _, hnx⟩ := upn_rduP hu
    rw [← HLL.out] at hu hnx
    have hn2 : n ≤ 1073741824 := by omega
    have CU := hideP (upto_sP _ HR2.out (by omega) hE2 hu)
    obtain ⟨lf, hlf⟩ : ∃ lf, lf = l.length - q := ⟨_, rfl⟩
    have hlf2 : lf ≤ 1073741824 := by have := HLL.out; omega
    have HLF := hideP hlf
    have CL : Hid (∀ W, Rd W br v l q → Calls Tryz.prog 66 #[.pointer (some ⟨br, 0, none⟩)] W fun e w' => e = .returned (.int .i64 (lf : Int)) ∧ ∃ n, w' = W.drewN n) := hideP (fun W hW => by rw [hlf]; exact left_any br v l q W hW)
    clear hu hE2 hlf
    go_wp2_with (first
      | (go_at_call 65; refine CU.out.mono ?_; clear CU; rintro e W3 ⟨rfl, hR3, k3⟩; have HK3 := hideP (HK2.out.trans k3 (fun i hi => .inr (by omega))); have CL3 := hideP (CL.out W3 hR3); have HR3 := hideP hR3; clear k3 hR3 CL)
      | (go_at_call 66; refine StpQ.go ?_))
    refine ⟨?_⟩
    refine CL3.out.mono ?_
    rintro e W4 ⟨rfl, n4, rfl⟩
    have HR4 := hideP (HR3.out.drewN n4)
    have HK4 := hideP (HK3.out.trans (Kept.drewN W3 n4) (fun _ f => f.elim))
    have hE4 := HE.out.kept HK4.out
    clear CL3 HR3 HK3 HR2 HK2
    cases hv : upn ((l.length - q : Nat) : Int) l q with
    | none =>
      have HRn : Hid (R = none) := hideP (by rw [HR.out, hdr_n2 HU.out hv])
      rw [← HLF.out] at hv
      obtain ⟨bb, CU⟩ := upto_nP _ HR4.out (by omega) hE4 hv
      unfold errV at CU
      have CU2 := hideP CU
      clear hv CU hE4
      go_wp2_with (go_at_call 65; refine CU2.out.mono ?_; clear CU2; rintro e W5 ⟨rfl, k5⟩; have HK5 := hideP (HK4.out.trans k5 (fun _ f => f.elim)); clear k5)
      go_ret2
      rw [HRn.out]
      exact ⟨⟨_, rfl⟩, HK5.out⟩
    | some tr =>
      obtain ⟨t, r⟩ := tr
      have HR5 : Hid (R = finH l n t (rsk l (nbp n) n (-1) r)) := hideP (by rw [HR.out, hdr_s HU.out hv])
      obtain ⟨_, _, _, htx⟩ := upn_rduP hv
      rw [← HLF.out] at hv htx
      have ht2 : t ≤ 1073741824 := by omega
      have CU := hideP (upto_sP _ HR4.out (by omega) hE4 hv)
      have CS : Hid (∀ W, Rd W br v l r → Kept (fun _ => False) w W → Calls Tryz.prog 67 #[.pointer (some ⟨br, 0, none⟩), .int .i64 n] W fun e w' => rsPost br v l W e w' (rsk l (nbp n) n (-1) r)) := hideP (fun W hW k => readSkips_any n w W hW (by rw [← HLL.out]; exact hl) hn2 HE.out (k.mono (fun _ f => f.elim)) hb1)
      clear hv hE4
      go_wp2_with (first
        | (go_at_call 65; refine CU.out.mono ?_; clear CU; rintro e W5 ⟨rfl, hR5', k5⟩; have HK5 := hideP (HK4.out.trans k5 (fun i hi => .inr (by omega))); have CS5 := hideP (CS.out W5 hR5' HK5.out); clear k5 hR5' CS)
        | (go_at_call 67; refine StpQ.go ?_))
      refine ⟨?_⟩
      have CS6 := CS5.out
      cases hs : rsk l (nbp n) n (-1) r with
      | none =>
        rw [hs] at CS6
        have HRn : Hid (R = none) := hideP (by rw [HR5.out, hs]; rfl)
        refine CS6.mono ?_
        rintro e W6 ⟨rfl, k6⟩
        have HK6 := hideP (HK5.out.trans k6 (fun i hi => .inr (by omega)))
        have HK7 := hideP (HK6.out.trans (Kept.alloc W6 (.cells #[.slice a ll c, .int .i64 (n : Int), .int .i64 (t : Int), .slice none 0 0] 116)) (fun _ f => f.elim))
        clear CS6 CS5 k6 hs HR4 HK4
        go_wp2
        go_ret2
        rw [HRn.out]
        exact ⟨⟨_, rfl⟩, HK7.out⟩
      | some Sp =>
        obtain ⟨S, p⟩ := Sp
        rw [hs] at CS6
        refine CS6.mono ?_
        rintro e W6 ⟨sa, sc, rfl, hSk, hR6, k6⟩
        have HK6 := hideP (HK5.out.trans k6 (fun i hi => .inr (by omega)))
        obtain ⟨sl, hsl⟩ : ∃ sl, sl = S.length := ⟨_, rfl⟩
        rw [← hsl]
        have ka := Kept.alloc W6 (.cells #[.slice a ll c, .int .i64 (n : Int), .int .i64 (t : Int), .slice sa sl sc] 116)
        have ga := heap_alloc_new W6 (.cells #[.slice a ll c, .int .i64 (n : Int), .int .i64 (t : Int), .slice sa sl sc] 116)
        have HK7 := hideP (HK6.out.trans ka (fun _ f => f.elim))
        have HLs : Hid (LsAt (W6.alloc (.cells #[.slice a ll c, .int .i64 (n : Int), .int .i64 (t : Int), .slice sa sl sc] 116)) W6.heap.size a c l n t sa sc S p) := hideP ⟨by rw [cell_of_row _ _ 0 _ _ _ ga, ← HLL.out]; rfl, by rw [cell_of_row _ _ 1 _ _ _ ga]; rfl, by rw [cell_of_row _ _ 2 _ _ _ ga]; rfl, by rw [cell_of_row _ _ 3 _ _ _ ga, ← hsl]; rfl, HA.out.kept HK7.out, by rw [← HLL.out]; exact hc, hSk.kept ka⟩
        have hsz6 := HK6.out.size
        by_cases hz : szs S = l.length - p
        · have HRn : Hid (R = some ⟨n, t, S, p⟩) := hideP (by rw [HR5.out, hs]; simp only [finH]; rw [if_pos hz])
          rw [decide_eq_true hz]
          clear CS6 CS5 k6 hs HR4 HK4 hSk hR6 hsl ka ga hz
          go_wp2
          go_ret2
          rw [HRn.out]
          exact ⟨W6.heap.size, sa, sc, rfl, HLs.out, hsz6, HK7.out⟩
        · have HRn : Hid (R = none) := hideP (by rw [HR5.out, hs]; simp only [finH]; rw [if_neg hz])
          rw [decide_eq_false hz]
          clear CS6 CS5 k6 hs HR4 HK4 hSk hR6 hsl ka ga hz
          go_wp2
          go_ret2
          rw [HRn.out]
          exact ⟨⟨_, rfl⟩, HK7.out⟩
end Go.Proofs.YtidgofpmnlddaaaGreatDoor
