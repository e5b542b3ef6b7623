import Derived.Test.YteeimpjjmdpbgaaDoorDbc
import Derived.Test.YteeimpjjmdpbgaaDoorCcd
namespace Go.Proofs.YteeimpjjmdpbgaaDoor
open Go.ChangeShapes Go.WideShapes Go.ChangeAt Go.RowKit

/-- Two Writers. -/
structure Two (w : World) (b1 : Nat) (v1 : Value) (b2 : Nat) (v2 : Value) (xs ys : List Int) : Prop where
  w1 : Wr w b1 v1 xs
  w2 : Wr w b2 v2 ys
  ne : ¬ b1 = b2
  n1 : ¬ v1.ownBlock = some b2
  n2 : ¬ v2.ownBlock = some b1
  n12 : ∀ k, v1.ownBlock = some k → ¬ v2.ownBlock = some k
theorem Two.step1 {w w' : World} {b1 b2 : Nat} {v1 v2 v1' : Value} {xs ys xs' : List Int} (h : Two w b1 v1 b2 v2 xs ys) (hw : Wr w' b1 v1' xs') (s : WStep w w' b1 v1 v1') : Two w' b1 v1' b2 v2 xs' ys := by
  have l2 := h.w2.lt
  refine ⟨hw, h.w2.kept s.kept (fun i hi f => ?_), h.ne, fun e => ?_, h.n2, fun k hk e => ?_⟩
  · rcases hi with rfl | hi
    · rcases f with f | f
      · exact h.ne f.symm
      · exact h.n1 f
    · rcases f with f | f
      · exact h.n2 (by rw [← f]; exact hi)
      · exact h.n12 i f hi
  · rcases s.new _ e with f | f
    · exact h.n1 f
    · omega
  · rcases s.new _ hk with f | f
    · exact h.n12 k f e
    · have := (h.w2.own.lt k e).2; omega
theorem Two.step2 {w w' : World} {b1 b2 : Nat} {v1 v2 v2' : Value} {xs ys ys' : List Int} (h : Two w b1 v1 b2 v2 xs ys) (hw : Wr w' b2 v2' ys') (s : WStep w w' b2 v2 v2') : Two w' b1 v1 b2 v2' xs ys' := by
  have l1 := h.w1.lt
  refine ⟨h.w1.kept s.kept (fun i hi f => ?_), hw, h.ne, h.n1, fun e => ?_, fun k hk e => ?_⟩
  · rcases hi with rfl | hi
    · rcases f with f | f
      · exact h.ne f
      · exact h.n2 f
    · rcases f with f | f
      · exact h.n1 (by rw [← f]; exact hi)
      · exact h.n12 i hi f
  · rcases s.new _ e with f | f
    · exact h.n2 f
    · omega
  · rcases s.new _ e with f | f
    · exact h.n12 k hk f
    · have := (h.w1.own.lt k hk).2; omega
theorem Two.kept {w w' : World} {b1 b2 : Nat} {v1 v2 : Value} {xs ys : List Int} (h : Two w b1 v1 b2 v2 xs ys) (k : Kept (fun _ => False) w w') : Two w' b1 v1 b2 v2 xs ys :=
  ⟨h.w1.kept k (fun _ _ f => f), h.w2.kept k (fun _ _ f => f), h.ne, h.n1, h.n2, h.n12⟩
theorem EsAt.cut {w : World} {b off : Nat} {l : List En} (h : EsAt w (some ⟨b, off, none⟩) l) (m n : Nat) : EsAt w (some ⟨b, off + m * 5, none⟩) ((l.drop m).take n) := by
  intro hne
  have hl : l ≠ [] := by
    intro e
    rw [e] at hne
    simp at hne
  obtain ⟨b', off', e, hc⟩ := h hl
  simp only [Option.some.injEq, Addr.mk.injEq, and_true] at e
  obtain ⟨rfl, rfl⟩ := e
  refine ⟨b, off + m * 5, rfl, fun k hk => ?_⟩
  have hk2 : m + k < l.length := by rw [List.length_take, List.length_drop] at hk; omega
  have hg : ((l.drop m).take n)[k] = l[m + k] := by rw [List.getElem_take, List.getElem_drop]
  rw [hg, show off + m * 5 + k * 5 = off + (m + k) * 5 by omega]
  exact hc (m + k) hk2
theorem bdL_le {l : List En} : ∀ (m : Nat), (∀ e ∈ l, Gen e) → (bdL (chs m l)).length ≤ 2000 * m ∧ (hdL (chs m l)).length ≤ 10 * m
  | 0, _ => by simp [chs, bdL, hdL]
  | m + 1, h => by
    have ih := bdL_le m h
    have h1 : (ebl ByteArray.empty ((l.drop (16 * m)).take 16)).length ≤ 2000 := by
      have := ebl_le (F := (l.drop (16 * m)).take 16) (b := ByteArray.empty) (fun e he => h e (List.mem_of_mem_drop (List.mem_of_mem_take he)))
      have h2 : ((l.drop (16 * m)).take 16).length ≤ 16 := by rw [List.length_take]; omega
      omega
    have h2 := uvb_le10 (ebl ByteArray.empty ((l.drop (16 * m)).take 16)).length (by omega)
    rw [chs_snoc, bdL_snoc, hdL_snoc, List.length_append, List.length_append]
    omega
theorem own_lowerE {w : World} {b b' e z n : Nat} {v : Value} {xs : List Value} (h : w.ownsRow b e z v n xs) (hb : b' ≤ b) : w.ownsRow b' e z v n xs := by
  refine ⟨h.1, ?_⟩
  rcases h.2 with hn | ⟨g, cap, cur, e1, hg, rest⟩
  · exact .inl hn
  · exact .inr ⟨g, cap, cur, e1, Nat.le_trans hb hg, rest⟩
set_option maxRecDepth 20000 in
set_option maxHeartbeats 8000000 in
theorem imageOf_any (l : List En) (a : Option Addr) (c : Nat) (w : World) (hE : EsAt w a l) (hg : ∀ e ∈ l, Gen e) (hl : l.length ≤ 1073741824) (hc : l.length ≤ c) :
    Calls Tryd.prog 19 #[.slice a l.length c] w fun e w' => (∃ g, w.heap.size ≤ g ∧ e = .returned (.slice (some ⟨g, 0, none⟩) (img l).length (img l).length) ∧ w'.ownsRow w.heap.size 5 1 (.slice (some ⟨g, 0, none⟩) (img l).length (img l).length) (img l).length (bs (img l))) ∧ Kept (fun _ => False) w w' := by
  have HE := hideQ hE
  have HG := hideQ hg
  have HA : Hid (∀ b off, a = some ⟨b, off, none⟩ → l ≠ [] → b < w.heap.size) := hideQ (fun b off e hne => by
    obtain ⟨b', off', e', hcc⟩ := hE hne
    rw [e] at e'
    simp only [Option.some.injEq, Addr.mk.injEq, and_true] at e'
    obtain ⟨rfl, rfl⟩ := e'
    exact World.block_lt_of_cell? w _ (hcc 0 (List.length_pos_iff.2 hne)).1)
  obtain ⟨nl, hnl⟩ : ∃ nl, nl = l.length := ⟨_, rfl⟩
  rw [← hnl] at hl hc ⊢
  have HNL := hideQ hnl
  have HIm : Hid (img l = (uvb nl ++ hdL (chs (nbk nl) l)) ++ bdL (chs (nbk nl) l)) := hideQ (by rw [hnl]; rfl)
  clear hE hg hnl
  go_enter Tryd.func19, Tryd.ntmps19
  go_wp2_with fail
  go_at_call 37
  refine (new_any _).mono ?_
  rintro e W1 ⟨rfl, hW1, K1⟩
  have hl1 := hW1.lt
  go_wp2_with fail
  go_at_call 37
  refine (new_any _).mono ?_
  rintro e W2 ⟨rfl, hW2, K2⟩
  have HT2 : Hid (Two W2 w.heap.size (.slice none 0 0) W1.heap.size (.slice none 0 0) [] []) := hideQ ⟨hW1.kept K2 (fun _ _ f => f), hW2, by omega, by simp [Value.ownBlock], by simp [Value.ownBlock], fun k hk => by simp [Value.ownBlock] at hk⟩
  have HK2 := hideQ (K1.trans K2 (fun _ f => f.elim))
  clear hW1 K1 hW2 K2
  have hb12 : w.heap.size < W1.heap.size := hl1
  clear hl1
  generalize W1.heap.size = b2 at *
  go_wp2_with fail
  go_at_call 38
  refine (wuv_any _ _ _ nl _ HT2.out.w1 (by omega) (by simp)).mono ?_
  rintro e W3 ⟨rfl, v3, hW3, S3⟩
  have HT3 := hideQ (HT2.out.step1 hW3 S3)
  have HK3 := hideQ (HK2.out.trans S3.kept (fun i hi => hi.elim (fun e => .inr (by omega)) (fun e => by simp [Value.ownBlock] at e)))
  have HN3 : Hid (∀ k, v3.ownBlock = some k → w.heap.size ≤ k) := hideQ (fun k hk => by
    rcases S3.new k hk with f | f
    · simp [Value.ownBlock] at f
    · have := HK2.out.size; omega)
  clear hW3 S3 HT2 HK2
  go_wp2_with fail
  go_loopw [5] (fun v5 wr => ∃ (m : Nat) (v1 v2 : Value), m ≤ nbk nl ∧ v5 = .int .i64 ((16 * m : Nat) : Int) ∧ Hid (Two wr w.heap.size v1 b2 v2 (uvb nl ++ hdL (chs m l)) (bdL (chs m l))) ∧ Hid (Kept (fun _ => False) w wr) ∧ Hid ((∀ k, v1.ownBlock = some k → w.heap.size ≤ k) ∧ (∀ k, v2.ownBlock = some k → w.heap.size ≤ k))) (fun v5 _ => 16 * nbk nl - (intOf v5).toNat)
  case atStart => exact ⟨0, v3, _, by omega, rfl, hideQ (by simpa [chs, hdL, bdL] using HT3.out), HK3, hideQ ⟨HN3.out, fun k hk => by simp [Value.ownBlock] at hk⟩⟩
  case round =>
    obtain ⟨m, v1, v2, hm, rfl, HT, HK, HN⟩ := hrel
    clear HT3 HK3 HN3
    have HLe := hideQ (bdL_le m HG.out)
    have hml : m ≤ 67108865 := by unfold nbk at hm; omega
    by_cases hlt : 16 * m < nl
    · have hlt2 : ((16 * m : Nat) : Int) < (nl : Int) := by omega
      have hlt3 : 16 * (m : Int) < (nl : Int) := by omega
      have hne : l ≠ [] := by intro e; have := HNL.out; rw [e] at this; simp at this; omega
      obtain ⟨b, off, rfl, -⟩ := HE.out hne
      have hbw := HA.out b off rfl hne
      have HEr := hideQ ((HE.out.kept HK.out).cut (16 * m) 16)
      have CL := hideQ (wlen_any b2 v2 (bdL (chs m l)) wr HT.out.w2)
      obtain ⟨cn, hcn⟩ : ∃ cn, cn = min 16 (nl - 16 * m) := ⟨_, rfl⟩
      have HFl : Hid (cn = ((l.drop (16 * m)).take 16).length) := hideQ (by rw [List.length_take, List.length_drop, ← HNL.out]; exact hcn)
      have HSn := hideQ (chs_snoc m l)
      have HFg : Hid (∀ e ∈ (l.drop (16 * m)).take 16, Gen e) := hideQ (fun e he => HG.out e (List.mem_of_mem_drop (List.mem_of_mem_take he)))
      have HFe : Hid ((ebl ByteArray.empty ((l.drop (16 * m)).take 16)).length ≤ 2000) := hideQ (by
        have := ebl_le (b := ByteArray.empty) HFg.out
        rw [← HFl.out] at this
        omega)
      generalize (l.drop (16 * m)).take 16 = F at *
      obtain ⟨nb, hnb⟩ : ∃ nb, nb = (bdL (chs m l)).length := ⟨_, rfl⟩
      rw [← hnb] at CL
      have hnbl : nb ≤ 2000 * m := by rw [hnb]; exact HLe.out.1
      have HNb := hideQ hnb
      clear hnb
      have CP : Hid (∀ z c', z = cn → Calls Tryd.prog 40 #[.pointer (some ⟨b2, 0, none⟩), .slice (some ⟨b, off + 16 * m * 5, none⟩) z c'] wr fun e w' => e = .returned (.tuple #[]) ∧ ∃ v', Wr w' b2 v' (bdL (chs m l) ++ ebl ByteArray.empty F) ∧ WStep wr w' b2 v2 v') := hideQ (fun z c' hz => by
        rw [hz, HFl.out]
        exact putBlock_any b2 w.heap.size v2 _ F _ c' wr HT.out.w2 HEr.out HFg.out (by rw [← HFl.out]; omega) (by rw [← HNb.out]; omega) (fun b' off' e => by
          simp only [Option.some.injEq, Addr.mk.injEq, and_true] at e
          obtain ⟨rfl, rfl⟩ := e
          exact hbw) (by omega) HN.out.2)
      obtain ⟨ne, hne2⟩ : ∃ ne, ne = (ebl ByteArray.empty F).length := ⟨_, rfl⟩
      have hnel : ne ≤ 2000 := by rw [hne2]; exact HFe.out
      have HNe := hideQ hne2
      clear hne2 HEr
      go_wp2_with (go_at_call 39; refine CL.out.mono ?_; clear CL; rintro e V5 ⟨rfl, rfl⟩)
      all_goals
        go_at_call 40
        refine (CP.out _ _ (by omega)).mono ?_
        rintro e W6 ⟨rfl, v6, hW6, S6⟩
        have HT6 := hideQ (HT.out.step2 hW6 S6)
        have HK6 := hideQ (HK.out.trans S6.kept (fun i hi => hi.elim (fun e => .inr (by omega)) (fun e => .inr (HN.out.2 i e))))
        have HN6 : Hid (∀ k, v6.ownBlock = some k → w.heap.size ≤ k) := hideQ (fun k hk => by
          rcases S6.new k hk with f | f
          · exact HN.out.2 k f
          · have := HK.out.size; omega)
        have CL2 := hideQ (wlen_any b2 v6 _ W6 hW6)
        rw [List.length_append, ← HNb.out, ← HNe.out] at CL2
        clear hW6 S6 CP HT HK
        go_wp2_with (go_at_call 39; refine CL2.out.mono ?_; clear CL2; rintro e V7 ⟨rfl, rfl⟩)
        try rw [show ((nb + ne : Nat) : Int) - (nb : Int) = (ne : Int) by omega]
        try rw [show (nb : Int) + (ne : Int) - (nb : Int) = (ne : Int) by omega]
        go_at_call 38
        refine (wuv_any _ _ _ ne _ HT6.out.w1 (by omega) (by rw [List.length_append]; have h8 := HLe.out.2; have h9 := uvb_le10 nl (by omega); omega)).mono ?_
        rintro e W8 ⟨rfl, v8, hW8, S8⟩
        have HT8 := hideQ (HT6.out.step1 hW8 S8)
        have HK8 := hideQ (HK6.out.trans S8.kept (fun i hi => hi.elim (fun e => .inr (by omega)) (fun e => .inr (HN.out.1 i e))))
        have HN8 : Hid (∀ k, v8.ownBlock = some k → w.heap.size ≤ k) := hideQ (fun k hk => by
          rcases S8.new k hk with f | f
          · exact HN.out.1 k f
          · have := HK6.out.size; omega)
        clear hW8 S8 HT6 HK6
        go_wp2
        go_roundw
        case rel => exact ⟨m + 1, v8, v6, by unfold nbk; omega, by go_num, hideQ (by rw [HSn.out, hdL_snoc, bdL_snoc, ← List.append_assoc, ← HNe.out]; exact HT8.out), HK8, hideQ ⟨HN8.out, HN6.out⟩⟩
        case measure => simp [intOf]; unfold nbk; omega
    · obtain rfl : m = nbk nl := by unfold nbk at hm ⊢; omega
      have hlt3 : ¬ 16 * ((nbk nl : Nat) : Int) < (nl : Int) := by omega
      have HL1 : Hid ((uvb nl ++ hdL (chs (nbk nl) l)).length ≤ 1000000000000) := hideQ (by rw [List.length_append]; have h8 := HLe.out.2; have h9 := uvb_le10 nl (by omega); omega)
      have HL2 : Hid ((bdL (chs (nbk nl) l)).length ≤ 1000000000000) := hideQ (by have h8 := HLe.out.1; omega)
      generalize uvb nl ++ hdL (chs (nbk nl) l) = X at *
      generalize bdL (chs (nbk nl) l) = Y at *
      clear HLe HE HA
      go_wp2_with fail
      go_at_call 42
      refine (bytes_any _ _ _ _ HT.out.w1 (by have := HL1.out; omega)).mono ?_
      rintro e W5 ⟨rfl, ho5, K5⟩
      have HW5 := hideQ (HT.out.w2.kept K5 (fun _ _ f => f))
      have HO5 := hideQ ho5
      have HK5 := hideQ (HK.out.trans K5 (fun _ f => f.elim))
      have hw5 : w.heap.size ≤ wr.heap.size := HK.out.size
      clear ho5 K5 HT HK
      generalize wr.heap.size = g1 at *
      go_wp2_with fail
      go_at_call 42
      refine (bytes_any _ _ _ _ HW5.out (by have := HL2.out; omega)).mono ?_
      rintro e W6 ⟨rfl, ho6, K6⟩
      have HO6 := hideQ ho6
      have HO56 := hideQ (K6.row HO5.out (fun _ _ f => f))
      have HK6 := hideQ (HK5.out.trans K6 (fun _ f => f.elim))
      clear ho6 K6 HW5 HK5 HO5
      generalize W5.heap.size = g2 at *
      obtain ⟨nX, hnX⟩ : ∃ nX, nX = X.length := ⟨_, rfl⟩
      obtain ⟨nY, hnY⟩ : ∃ nY, nY = Y.length := ⟨_, rfl⟩
      have KA := Kept.alloc W6 (.cells #[.slice (some ⟨g1, 0, none⟩) nX nX, .slice (some ⟨g2, 0, none⟩) nY nY] 25)
      have HKA := hideQ KA
      have HBX : Hid (BytesAt (W6.alloc (.cells #[.slice (some ⟨g1, 0, none⟩) nX nX, .slice (some ⟨g2, 0, none⟩) nY nY] 25)) (some ⟨g1, 0, none⟩) X) := hideQ (by
        obtain ⟨a', c', e', h', -⟩ := bytes_of_own (KA.row HO56.out (fun _ _ f => f))
        simp only [Value.slice.injEq, true_and] at e'
        exact e'.1 ▸ h')
      have HBY : Hid (BytesAt (W6.alloc (.cells #[.slice (some ⟨g1, 0, none⟩) nX nX, .slice (some ⟨g2, 0, none⟩) nY nY] 25)) (some ⟨g2, 0, none⟩) Y) := hideQ (by
        obtain ⟨a', c', e', h', -⟩ := bytes_of_own (KA.row HO6.out (fun _ _ f => f))
        simp only [Value.slice.injEq, true_and] at e'
        exact e'.1 ▸ h')
      have CC := hideQ (concat_any [(some ⟨g1, 0, none⟩, nX, X), (some ⟨g2, 0, none⟩, nY, Y)] (some ⟨W6.heap.size, 0, none⟩) 2 (W6.alloc (.cells #[.slice (some ⟨g1, 0, none⟩) nX nX, .slice (some ⟨g2, 0, none⟩) nY nY] 25)) (fun _ => ⟨W6.heap.size, 0, rfl, fun k hk => by
          have hk2 : k < 2 := hk
          obtain rfl | rfl : k = 0 ∨ k = 1 := by omega
          · simp [Part.val, hnX]
          · simp [Part.val, hnY]⟩) (fun q hq => by
          simp only [List.mem_cons, List.not_mem_nil, or_false] at hq
          rcases hq with rfl | rfl
          · exact HBX.out
          · exact HBY.out) (by simp) (by simp only [flat, List.map_cons, List.map_nil, List.flatten_cons, List.flatten_nil, List.length_append]; have := HL1.out; have := HL2.out; simp; omega))
      have hfl : flat [(some ⟨g1, 0, none⟩, nX, X), (some ⟨g2, 0, none⟩, nY, Y)] = img l := by
        rw [HIm.out]
        simp [flat]
      rw [hfl] at CC
      rw [← hnX, ← hnY]
      clear KA hnX hnY hfl HBX HBY HO6 HO56
      go_wp2_with (go_at_call 41; refine CC.out.mono ?_; clear CC; rintro e W7 ⟨rfl, ho7, K7⟩)
      go_ret
      have hs6 := HK6.out.size
      rw [show (W6.alloc (.cells #[.slice (some ⟨g1, 0, none⟩) nX nX, .slice (some ⟨g2, 0, none⟩) nY nY] 25)).heap.size = W6.heap.size + 1 by simp] at ho7
      refine ⟨⟨_, ?_, rfl, own_lowerE ho7 ?_⟩, (HK6.out.trans HKA.out (fun _ f => f.elim)).trans K7 (fun _ f => f.elim)⟩
      · omega
      · omega
end Go.Proofs.YteeimpjjmdpbgaaDoor
