import Derived.Test.YtiebmmpnmklpnaaDoorIzf
import Derived.Test.YtiebmmpnmklpnaaDoorGro
namespace Go.Proofs.YtiebmmpnmklpnaaDoor
open Go.ChangeShapes Go.WideShapes Go.ChangeAt Go.RowKit

/-- Instructions as cells. -/
def iv1 (x : In) : List Value := [.int .i64 x.op, .int .u64 x.a, .int .u64 x.b]
def ivs (l : List In) : List Value := (l.map iv1).flatten
theorem ivs_snoc (l : List In) (x : In) : ivs (l ++ [x]) = ivs l ++ iv1 x := by simp [ivs]
theorem ivs_len : ∀ (l : List In), (ivs l).length = l.length * 3
  | [] => rfl
  | x :: r => by
    have := ivs_len r
    simp only [ivs, List.map_cons, List.flatten_cons, List.length_append, List.length_cons, iv1, List.length_nil] at *
    omega
theorem ivs_at : ∀ (l : List In) (k : Nat) (h : k < l.length), (ivs l)[k * 3]? = some (.int .i64 l[k].op) ∧ (ivs l)[k * 3 + 1]? = some (.int .u64 l[k].a) ∧ (ivs l)[k * 3 + 2]? = some (.int .u64 l[k].b)
  | [], k, h => by simp at h
  | x :: r, 0, _ => by simp [ivs, iv1]
  | x :: r, k + 1, h => by
    have := ivs_at r k (by simpa using h)
    have e : ∀ j, (ivs (x :: r))[j + 3]? = (ivs r)[j]? := fun j => by simp [ivs, iv1]
    rw [show (k + 1) * 3 = k * 3 + 3 by omega, show k * 3 + 3 + 1 = k * 3 + 1 + 3 by omega, show k * 3 + 3 + 2 = k * 3 + 2 + 3 by omega, e, e, e]
    simpa using this
theorem ins_of_own {w : World} {b c : Nat} {a : Option Addr} {l : List In} (h : w.ownsRow b 74 3 (.slice a l.length c) l.length (ivs l)) : InsAt w a l := fun hn => by
  rcases h.2 with ⟨_, e2⟩ | ⟨g, cap, cur, e1, hg, _⟩
  · exact absurd (List.eq_nil_of_length_eq_zero e2) hn
  · have ea : a = some ⟨g, 0, none⟩ := by injection e1
    subst ea
    refine ⟨g, 0, rfl, fun k hk => ?_⟩
    have hp : ∀ j, (⟨g, 0, none⟩ : Addr).add j = ⟨g, j, none⟩ := fun j => by unfold Addr.add; split <;> simp_all
    obtain ⟨c0, c1, c2⟩ := ivs_at l k hk
    have q0 := h.cells (g := g) rfl _ _ c0
    have q1 := h.cells (g := g) rfl _ _ c1
    have q2 := h.cells (g := g) rfl _ _ c2
    rw [hp] at q0 q1 q2
    rw [Nat.zero_add]
    exact ⟨q0, q1, q2⟩
theorem Tryd.infoIn : (Tryd.prog.info? 74).map (fun i => (i.zero, i.size, i.bytes)) = some (some (.agg #[.int .i64 0, .int .u64 0, .int .u64 0]), 3, 24) := by kernel_rfl
/-- 'append(list, instruction)', the list in memory from base on. -/
theorem wpList_pushIn {base : Nat} {W : World} {ops : Array Oper} {rest : List Oper} {o : Oper} {act : Act} {Q : Exit → Act → World → Prop} (hgd : o.guard = none) (s x : Operand)
    (ho : o.op = .call { callee := .builtin .append, args := #[s, x], argTypes := #[57, 57] }) (a : Option Addr) (c n : Nat) (l : List In) (y : In) (hs : act.eval s = .slice a n c) (hG : Hid (W.ownsRow base 74 3 (.slice a n c) n (ivs l))) (hB : Hid (base ≤ W.heap.size)) (b : Nat) (hbb : b = W.heap.size) (hx : act.eval x = .slice (some ⟨b, 0, none⟩) 1 1)
    (hb : n ≤ 2199023255552)
    (h : ∀ a' c' W', Hid (W'.ownsRow base 74 3 (.slice a' (n + 1) c') (n + 1) (ivs (l ++ [y]))) → Hid (Kept (fun i => base ≤ i) W W') → wpList Tryd.prog ops Q rest (act.put o.dst (.slice a' (n + 1) c')) W') : wpList Tryd.prog ops Q (o :: rest) act (W.alloc (.cells #[.int .i64 y.op, .int .u64 y.a, .int .u64 y.b] 74)) := by
  subst hbb
  obtain ⟨i0, hi, hz0, hz1, hz2⟩ := info_parts Tryd.infoIn
  refine wpList_append_own _ hgd s x 57 ho base 74 i0 _ 3 24 Tryd.underlying57 hi hz0 hz1 hz2 rfl (by decide) (.slice a n c) n (ivs l) hs (hG.out.alloc _) ⟨W.heap.size, 0, none⟩ 1 1 (iv1 y) hx rfl (row_news W (iv1 y) 74) (by intro u hu; simp [iv1] at hu; rcases hu with rfl | rfl | rfl <;> rfl) (by unfold maxLen; omega) (by omega) (by have := hB.out; simp; omega) ?_
  intro v' W' ho2 hg2 _
  rcases ho2.2 with ⟨_, e2⟩ | ⟨g, cap, cur, rfl, _⟩
  · omega
  · refine h _ _ W' (hideI ?_) (hideI ?_)
    · rw [ivs_snoc]; exact ho2
    · exact (((Kept.alloc W _).mono (fun _ f => f.elim)).trans (Kept.grown hg2) (fun i hi => .inl (hG.out.lt i hi).1))
theorem own_lowerJ {w : World} {b b' e z n : Nat} {v : Value} {xs : List Value} (h : w.ownsRow b e z v n xs) (hb : b' ≤ b) : w.ownsRow b' e z v n xs := by
  refine ⟨h.1, ?_⟩
  rcases h.2 with hn | ⟨g, cap, cur, e1, hg, rest⟩
  · exact .inl hn
  · exact .inr ⟨g, cap, cur, e1, Nat.le_trans hb hg, rest⟩
/-- What Decode answers. -/
def dcP (w : World) (ac : Addr) (T : Option (List In)) (e : Ending) (w' : World) : Prop :=
  (T = none → e = .returned (.tuple #[.slice none 0 0, errV ac])) ∧
  (∀ m, T = some m → ∃ a c, e = .returned (.tuple #[.slice a m.length c, .nilIface]) ∧ w'.ownsRow w.heap.size 74 3 (.slice a m.length c) m.length (ivs m)) ∧ Kept (fun _ => False) w w'
set_option maxRecDepth 20000 in
set_option maxHeartbeats 8000000 in
/-- The project's Decode, at any bytes. -/
theorem decode_any (l : List Int) (a : Option Addr) (c : Nat) (a0 a1 ac : Addr) (w : World) (hL : BytesAt w a l) (hB : IsBytes l) (hl : l.length ≤ 1099511627776) (hE : Ew w a0 a1 ac) (hT : OpT w) :
    Calls Tryd.prog 19 #[.slice a l.length c] w (dcP w ac (dcI l)) := by
  have hg0 := World.block_lt_of_cell? w _ hE.g0
  have hg1 := World.block_lt_of_cell? w _ hE.g1
  have hg2 := hT.lt
  simp only at hg0 hg1
  have HN := hideI (newr_any l a c w hL hB (by omega))
  have HE := hideI hE
  have HT := hideI hT
  clear hL hE hT
  obtain ⟨T, hT⟩ : ∃ T, T = dcI l := ⟨_, rfl⟩
  rw [← hT]
  have HTT := hideI hT
  clear hT
  obtain ⟨nl, hnl⟩ : ∃ nl, nl = l.length := ⟨_, rfl⟩
  rw [← hnl] at HN hl ⊢
  have HNL := hideI hnl
  clear hnl
  go_enter Tryd.func19, Tryd.ntmps19
  go_wp2_with (go_at_call 35; refine HN.out.mono ?_; clear HN; rintro e W1 ⟨br, v, rfl, hR1, hbr, hvo, K1⟩; have HR1 := hideI hR1; have HK1 := hideI K1; have HVO := hideI hvo; clear hR1 K1 hvo)
  have hbl : br < W1.heap.size := lt_of_block HR1.out.blk
  have hvl : ∀ k, v.ownBlock = some k → k < W1.heap.size := fun k hk => (HR1.out.own.lt k hk).2
  have HVL := hideI hvl
  have hW1 := HK1.out.size
  clear hvl
  go_loopw [5] (fun v5 wr => ∃ (q n : Nat) (a : Option Addr) (c : Nat) (L : List In), v5 = .slice a n c ∧ Hid (n = L.length ∧ L.length ≤ q ∧ q ≤ nl) ∧ Hid (Rd wr br v l q) ∧ Hid (wr.ownsRow W1.heap.size 74 3 (.slice a n c) n (ivs L)) ∧ Hid (T = (dcI (l.drop q)).map fun r => L ++ r) ∧ Hid (Kept (fun i => i = br) W1 wr)) (fun _ wr => nl - (intOf ((wr.cell? ⟨br, 1, none⟩).getD undef)).toNat)
  case atStart => exact ⟨0, 0, _, _, [], rfl, hideI ⟨rfl, by simp, by omega⟩, HR1, hideI ⟨rfl, .inl ⟨rfl, rfl⟩⟩, hideI (by rw [HTT.out]; simp), hideI (Kept.refl _ _)⟩
  case round =>
    obtain ⟨q, n, a', c', L, rfl, HN, HR, HG, HD, HK⟩ := hrel
    have HLf := hideI (left_any br v l q wr HR.out)
    rw [← HNL.out] at HLf
    have hq := HN.out.2.2
    have HKw : Hid (Kept (fun _ => False) w wr) := hideI (HK1.out.trans HK.out (fun i hi => .inr (by omega)))
    by_cases hlt : q < nl
    · obtain ⟨lf, hlf⟩ : ∃ lf, lf = nl - q := ⟨_, rfl⟩
      have hlp : 0 < (lf : Int) := by omega
      rw [← hlf] at HLf
      have HLF := hideI hlf
      clear hlf
      have hn : n ≤ 2199023255552 := by have := HN.out.1; have := HN.out.2.1; omega
      have HTk := fun d : Nat => hideI (take_any br v l q a0 a1 ac (wr.drewN d) (HR.out.drewN d) (by rw [← HNL.out]; exact hlt) (HE.out.kept (HKw.out.trans (Kept.drewN wr d) (fun _ f => f.elim))) (HT.out.kept (HKw.out.trans (Kept.drewN wr d) (fun _ f => f.elim))) (by omega) (by omega) (by omega))
      cases ht : tk1 (l.drop q) with
      | none =>
        rw [ht] at HTk
        have HBad : Hid (T = none) := hideI (by rw [HD.out, dcI_bad (by intro e; rw [List.drop_eq_nil_iff] at e; have := HNL.out; omega) ht]; rfl)
        clear ht HD
        go_wp2_with (first
          | (go_at_call 36; refine HLf.out.mono ?_; clear HLf; rintro e W2 ⟨rfl, d, rfl⟩)
          | (go_at_call 37; refine (HTk d).out.mono ?_; clear HTk; rintro e W3 ⟨h3, -, K3⟩; have h3e := h3 rfl; subst h3e; have HK3 := hideI ((HKw.out.trans (Kept.drewN wr d) (fun _ f => f.elim)).trans K3 (fun i hi => .inr (by omega))); have e3 := HK3.out.cell HE.out.gc (fun f => f); have e3 := (Kept.alloc W3 (.cells #[.int .i64 0, .int .u64 0, .int .u64 0] 74)).cell e3 (fun f => f); clear h3 K3))
        go_region
        all_goals go_wp2
        all_goals go_ret2
        all_goals exact ⟨fun _ => rfl, fun m h => by rw [HBad.out] at h; (cases h), (HK3.out.trans (Kept.alloc _ _) (fun _ f => f.elim)).trans (Kept.drew _) (fun _ f => f.elim)⟩
      | some p =>
        obtain ⟨x, k⟩ := p
        rw [ht] at HTk
        have hkp := tk1_pos ht
        rw [List.length_drop, ← HNL.out] at hkp
        have HDn : Hid (T = (dcI (l.drop (q + k))).map fun r => (L ++ [x]) ++ r) := hideI (by
          rw [HD.out, dcI_good ht, List.drop_drop, Option.map_map]
          congr 1
          funext r
          simp)
        have HKP := hideI hkp
        clear ht HD hkp
        go_wp2_with (first
          | (go_at_call 36; refine HLf.out.mono ?_; clear HLf; rintro e W2 ⟨rfl, d, rfl⟩)
          | (go_at_call 37; refine (HTk d).out.mono ?_; clear HTk; rintro e W3 ⟨-, h3, K3⟩; have h3e := h3 x k rfl; obtain ⟨h3e, hR3⟩ := h3e; unfold inV at h3e; subst h3e; have HR3 := hideI hR3; have HK3 := hideI ((HK.out.trans ((Kept.drewN wr d).mono (fun _ f => f.elim)) (fun _ f => .inl f)).trans K3 (fun i hi => .inl hi)); have HG3 := hideI (K3.row ((Kept.drewN wr d).row HG.out (fun _ _ f => f)) (fun i hi => by have := (HG.out.lt i hi).1; omega)); have HKx := hideI (Kept.alloc W3 (.cells #[.int .i64 x.op, .int .u64 x.a, .int .u64 x.b] 74)); have HG4 := hideI (HKx.out.row HG3.out (fun _ _ f => f)); have HB4 : Hid (W1.heap.size ≤ (W3.alloc (.cells #[.int .i64 x.op, .int .u64 x.a, .int .u64 x.b] 74)).heap.size) := hideI (Nat.le_trans HK3.out.size HKx.out.size); clear h3 K3 hR3)
          | (at_builtin; refine wpList_pushIn (base := W1.heap.size) (W := W3.alloc (.cells #[.int .i64 x.op, .int .u64 x.a, .int .u64 x.b] 74)) rfl _ _ rfl a' c' n L x rfl HG4 HB4 (W3.heap.size + 1) (by simp) rfl hn ?_; intro a5 c5 W5 HG5 HK5))
        have HKz : Hid (Kept (fun i => i = br) W1 W5) := hideI ((HK3.out.trans HKx.out (fun _ f => f.elim)).trans HK5.out (fun i hi => .inr hi))
        have HRz : Hid (Rd W5 br v l (q + k)) := hideI ((HR3.out.kept HKx.out (fun f => f) (fun _ _ f => f)).kept HK5.out (by omega) (fun i hi => by have := HVL.out i hi; omega))
        go_roundw
        case rel => exact ⟨q + k, n + 1, a5, c5, L ++ [x], rfl, hideI ⟨by simp [HN.out.1], by have := HN.out.2.1; have := HKP.out; simp; omega, by have := HKP.out; omega⟩, HRz, HG5, HDn, HKz⟩
        case measure =>
          rw [HRz.out.cell1, HR.out.cell1]
          have := HKP.out
          simp [intOf]
          omega
    · obtain rfl : q = nl := by omega
      rw [Nat.sub_self] at HLf
      have HF : Hid (T = some L) := hideI (by rw [HD.out, List.drop_eq_nil_of_le (by rw [HNL.out]; exact Nat.le_refl _), dcI_nil]; simp)
      go_wp2_with (go_at_call 36; refine HLf.out.mono ?_; clear HLf; rintro e W2 ⟨rfl, d, rfl⟩)
      go_ret2
      refine ⟨fun h => by rw [HF.out] at h; (cases h), fun m h => ?_, HKw.out.trans (Kept.drewN wr d) (fun _ f => f.elim)⟩
      rw [HF.out] at h
      obtain rfl := Option.some.inj h
      have hn := HN.out.1
      subst hn
      exact ⟨a', c', rfl, own_lowerJ ((Kept.drewN wr d).row HG.out (fun _ _ f => f)) hW1⟩
end Go.Proofs.YtiebmmpnmklpnaaDoor
