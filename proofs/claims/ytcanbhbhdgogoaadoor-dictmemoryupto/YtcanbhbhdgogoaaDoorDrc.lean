import Derived.Test.YtcanbhbhdgogoaaDoorDrb
namespace Go.Proofs.YtcanbhbhdgogoaaDoor
open Go.ChangeShapes Go.WideShapes Go.ChangeAt Go.RowKit

theorem Tryd.infoI : (Tryd.prog.info? 3).map (fun i => (i.zero, i.size, i.bytes)) = some (some (.int .i64 0), 1, 8) := by kernel_rfl
theorem Tryd.infoE : (Tryd.prog.info? 31).map (fun i => (i.zero, i.size, i.bytes)) = some (some (.agg #[.string ⟨#[]⟩, .int .i64 0, .int .i64 0, .int .i64 0, .int .i64 0]), 5, 48) := by kernel_rfl
theorem row_newsD (w : World) (l : List Value) (t : TypeId) : ∀ (j : Nat) (u : Value), l[j]? = some u → (w.alloc (.cells l.toArray t)).cell? ((⟨w.heap.size, 0, none⟩ : Addr).add j) = some u := by
  intro j u hj
  have hplain : (⟨w.heap.size, 0, none⟩ : Addr).add j = ⟨w.heap.size, j, none⟩ := by unfold Addr.add; split <;> simp_all
  rw [hplain]
  simpa using hj
theorem row_shape {w : World} {base n : Nat} {e : TypeId} {sz : Nat} {v : Value} {xs : List Value} (h : w.ownsRow base e sz v n xs) : ∃ a c, v = .slice a n c := by
  rcases h.2 with ⟨rfl, rfl⟩ | ⟨g, cap, cur, rfl, _⟩
  · exact ⟨_, _, rfl⟩
  · exact ⟨_, _, rfl⟩
/-- 'append(s, x)' to an owned row: what stands new behind W is one element. -/
theorem wpList_pushR {base : Nat} {W : World} {ops : Array Oper} {rest : List Oper} {o : Oper} {act : Act} {Q : Exit → Act → World → Prop} (hgd : o.guard = none) (s x : Operand) (t : TypeId)
    (ho : o.op = .call { callee := .builtin .append, args := #[s, x], argTypes := #[t, t] }) (e : TypeId) (i : TypeInfo) (z : Value) (size bytes : Nat)
    (ht : Tryd.prog.underlying t = some (.slice e)) (hi : Tryd.prog.info? e = some i) (hz : i.zero = some z) (hsize : i.size = size) (hby : i.bytes = bytes) (hzs : z.cells.size = size) (hsz : 0 < size)
    (v : Value) (n : Nat) (xs news : List Value) (hs : act.eval s = v) (hG : Hid (W.ownsRow base e size v n xs)) (hb0 : base ≤ W.heap.size) (hx : act.eval x = .slice (some ⟨W.heap.size, 0, none⟩) 1 1)
    (hl : news.length = size) (h1 : ∀ u ∈ news, u.oneCell' = true) (hb : Hid ((n + 1) * bytes ≤ 140737488355328)) (h63 : Hid (n + 1 ≤ maxLen))
    (h : ∀ a' c' W', Hid (W'.ownsRow base e size (.slice a' (n + 1) c') (n + 1) (xs ++ news)) → Hid (Kept (fun k => v.ownBlock = some k) W W') → wpList Tryd.prog ops Q rest (act.put o.dst (.slice a' (n + 1) c')) W') : wpList Tryd.prog ops Q (o :: rest) act (W.alloc (.cells news.toArray e)) := by
  refine wpList_append_own _ hgd s x t ho base e i z size bytes ht hi hz hsize hby hzs hsz v n xs hs (hG.out.alloc _) ⟨W.heap.size, 0, none⟩ 1 1 news hx (by omega) (row_newsD W news e) h1 h63.out hb.out (by simp; omega) ?_
  intro v' W' ho2 hg2 _
  obtain ⟨a', c', rfl⟩ := row_shape ho2
  exact h a' c' W' ho2 (((Kept.alloc W _).mono (fun _ f => f.elim)).trans (Kept.grown hg2) (fun i hi => .inl hi))
def iv (L : List Nat) : List Value := L.map (fun (x : Nat) => .int .i64 (x : Int))
def prl (L : List Nat) : Option (List Nat × Nat) → Option (List Nat × Nat)
  | none => none
  | some (L', q) => some (L ++ L', q)
theorem prl_nil (x : Option (List Nat × Nat)) : prl [] x = x := by
  match x with
  | none => rfl
  | some (L, q) => rfl
theorem prl_no {l : List Int} {L : List Nat} {m p : Nat} (h : upn (l.length - p) l p = none) : prl L (rls l (m + 1) p) = none := by rw [rls, h]; rfl
theorem prl_step {l : List Int} {L : List Nat} {m p x q : Nat} (h : upn (l.length - p) l p = some (x, q)) : prl L (rls l (m + 1) p) = prl (L ++ [x]) (rls l m q) := by
  rw [rls, h]
  simp only
  cases rls l m q with
  | none => rfl
  | some y => obtain ⟨L', r⟩ := y; simp [prl]
def rlPost (base : Nat) (l : List Int) (br : Nat) (v : Value) (a : Addr) (x : Option (List Nat × Nat)) (e : Ending) (w' : World) : Prop := match x with
  | none => e = pan a
  | some (L, q) => ∃ va, e = .returned va ∧ w'.ownsRow base 3 1 va L.length (iv L) ∧ Rd w' br v l q
theorem rlp_none {base : Nat} {l : List Int} {br : Nat} {v : Value} {a : Addr} {x : Option (List Nat × Nat)} {W : World} (h : x = none) : rlPost base l br v a x (.panicked [{ v := errV a, recovered := false }]) W := by rw [h]; rfl
theorem Rd.keptR {w w' : World} {br base : Nat} {v vv : Value} {l : List Int} {p n : Nat} {e : TypeId} {sz : Nat} {xs : List Value} (h : Rd w br v l p) (k : Kept (fun k => vv.ownBlock = some k) w w') (ho : w.ownsRow base e sz vv n xs) (hb : br < base) (hv : ∀ i, v.ownBlock = some i → i < base) : Rd w' br v l p :=
  h.kept k (fun f => by have := (ho.lt _ f).1; omega) (fun i hi f => by have := (ho.lt _ f).1; have := hv i hi; omega)
theorem ErD.keptR {w w' : World} {br base : Nat} {vv : Value} {n : Nat} {e : TypeId} {sz : Nat} {xs : List Value} {ad : Nat → Addr} (h : ErD w br ad) (k : Kept (fun k => vv.ownBlock = some k) w w') (ho : w.ownsRow base e sz vv n xs) (hg : 2 < base ∧ 3 < base ∧ 0 < base ∧ 4 < base ∧ 9 < base) : ErD w' br ad :=
  ⟨k.cell h.s0 (fun f => by have := (ho.lt _ f).1; simp only at this; omega), k.cell h.s1 (fun f => by have := (ho.lt _ f).1; simp only at this; omega), k.cell h.s2 (fun f => by have := (ho.lt _ f).1; simp only at this; omega), k.cell h.s4 (fun f => by have := (ho.lt _ f).1; simp only at this; omega), k.cell h.s9 (fun f => by have := (ho.lt _ f).1; simp only at this; omega), h.ne⟩
theorem row_keptB {w w' : World} {br base : Nat} {vv : Value} {n : Nat} {e : TypeId} {sz : Nat} {xs : List Value} (ho : w.ownsRow base e sz vv n xs) (k : Kept (fun i => i = br) w w') (hb : br < base) : w'.ownsRow base e sz vv n xs :=
  k.row ho (fun i hi f => by have := (ho.lt _ hi).1; omega)
set_option maxRecDepth 20000 in
set_option maxHeartbeats 8000000 in
theorem readLengths_any (l : List Int) (m p br : Nat) (v : Value) (ad : Nat → Addr) (w : World) (h : Rd w br v l p) (hE : ErD w br ad) (hm : m ≤ 1099511627776) (hl : l.length ≤ 1099511627776) :
    Calls Tryd.prog 55 #[.pointer (some ⟨br, 0, none⟩), .int .i64 m] w fun e w' => rlPost w.heap.size l br v (ad 9) (rls l m p) e w' ∧ Kept (fun i => i = br) w w' := by
  have hbr : br < w.heap.size := lt_of_block h.blk
  have hvw : Hid (∀ i, v.ownBlock = some i → i < w.heap.size) := hideQ (fun i hi => (h.own.lt i hi).2)
  have hgw := hideQ hE.lt
  obtain ⟨i0, hi0, hz0, hz1, hz2⟩ := info_parts Tryd.infoI
  have HR := hideQ h
  have HE := hideQ hE
  clear h hE
  go_enter Tryd.func55, Tryd.ntmps55
  go_wp2_with (at_make; refine wpList_make_own _ rfl _ _ 99 rfl w.heap.size 3 i0 _ 1 Tryd.underlying99 hi0 hz0 hz1 _ _ _ m rfl rfl rfl ?m1 ?m2 (Nat.le_refl _) ?_; (case m1 => rw [hz2]; omega); (case m2 => unfold maxLen; omega); intro Wm hown hgrow; have HO := hideQ hown; have HKm := hideQ ((Kept.grown hgrow).mono (G := fun _ => False) (fun i hi => by cases hi)); clear hown hgrow)
  have HRm := hideQ (HR.out.kept HKm.out (fun f => f) (fun _ _ f => f))
  have HEm := hideQ (HE.out.keptF HKm.out)
  have HKw := hideQ (HKm.out.mono (G := fun i => i = br) (fun _ f => f.elim))
  have hsz : w.heap.size ≤ Wm.heap.size := HKm.out.size
  clear HR HE HKm
  go_loopw [5, 9] (fun v5 v9 wr => ∃ (i p' : Nat) (L : List Nat) (va : Value), i ≤ m ∧ v9 = .int .i64 i ∧ v5 = va ∧ Hid (Rd wr br v l p') ∧ Hid (ErD wr br ad) ∧ Hid (wr.ownsRow w.heap.size 3 1 va i (iv L)) ∧ Hid (L.length = i ∧ rls l m p = prl L (rls l (m - i) p')) ∧ Hid (Kept (fun i => i = br) w wr)) (fun _ v9 _ => m - (intOf v9).toNat)
  case atStart => exact ⟨0, p, [], _, by omega, rfl, rfl, HRm, HEm, HO, hideQ ⟨rfl, (prl_nil _).symm⟩, HKw⟩
  case round =>
    obtain ⟨i, p', L, va, hi, rfl, rfl, HRr, HEr, HOr, HF, HKr⟩ := hrel
    clear HRm HEm HO HKw
    by_cases hlt : i < m
    · have hii : (i : Int) < (m : Int) := by omega
      obtain ⟨m', hm'⟩ : ∃ m', m - i = m' + 1 := ⟨m - i - 1, by omega⟩
      have HFr := hideQ HF.out.2
      have HFl := hideQ HF.out.1
      rw [hm'] at HFr
      have HM' := hideQ hm'
      clear HF hm'
      have CL := hideQ (left_any br v l p' wr HRr.out)
      go_wp2_with (go_at_call 54; refine CL.out.mono ?_; rintro e W1 ⟨rfl, n1, rfl⟩)
      have HK1 := hideQ (Kept.drewN wr n1)
      replace HRr := hideQ (HRr.out.kept HK1.out (fun f => f) (fun _ _ f => f))
      replace HEr := hideQ (HEr.out.keptF HK1.out)
      replace HOr := hideQ (HK1.out.row HOr.out (fun _ _ f => f))
      replace HKr := hideQ (HKr.out.trans HK1.out (fun _ f => f.elim))
      generalize wr.drewN n1 = W1 at *
      clear CL HK1
      cases hN : upn (l.length - p') l p' with
      | none =>
        obtain ⟨x, CU⟩ := upto_n _ HRr.out (by omega) HEr.out hN
        have HC := hideQ CU
        clear CU
        go_at_call 53
        refine HC.out.mono ?_
        rintro e W9 ⟨rfl, K9⟩
        go_wp2_with fail
        go_at_call 52
        refine (takenI_no _ x (ad 9) _ (HEr.out.keptF K9).s9).mono ?_
        rintro e W8 ⟨rfl, rfl⟩
        exact ⟨rfl, rlp_none (HFr.out.trans (prl_no hN)), HKr.out.trans K9 (fun _ f => f.elim)⟩
      | some xq =>
        obtain ⟨x, q⟩ := xq
        have HC := hideQ (upto_s _ HRr.out (by omega) HEr.out hN)
        have HSt := hideQ (HFr.out.trans (prl_step hN))
        clear hN HFr
        go_at_call 53
        refine HC.out.mono ?_
        rintro e W9 ⟨rfl, hR9, K9⟩
        replace HRr := hideQ hR9
        replace HEr := hideQ (HEr.out.kept K9)
        replace HOr := hideQ (row_keptB HOr.out K9 hbr)
        replace HKr := hideQ (HKr.out.trans K9 (fun _ h => .inl h))
        have hsz9 : w.heap.size ≤ W9.heap.size := HKr.out.size
        clear hR9 K9 HC
        go_wp2_with (first
          | (go_at_call 52; refine (takenI_ok _ _).mono ?_; rintro e V ⟨rfl, rfl⟩)
          | (at_builtin; refine wpList_pushR (base := w.heap.size) rfl (.tmp 11) (.tmp 21) 99 rfl 3 i0 _ 1 8 Tryd.underlying99 hi0 hz0 hz1 hz2 rfl (by decide) _ i (iv L) [.int .i64 (x : Int)] rfl HOr ?b0 rfl rfl ?one (hideQ (by omega)) (hideQ (by unfold maxLen; omega)) ?_; (case b0 => omega); (case one => intro u hu; simp at hu; subst hu; rfl); intro a5 c5 W5 HO5 HK5))
        have HR5 := hideQ (HRr.out.keptR HK5.out HOr.out hbr hvw.out)
        have HE5 := hideQ (HEr.out.keptR HK5.out HOr.out hgw.out)
        have HKK := hideQ (HKr.out.trans HK5.out (fun j hj => .inr (HOr.out.lt _ hj).1))
        go_roundw
        case rel => exact ⟨i + 1, q, L ++ [x], _, hlt, by go_num, rfl, HR5, HE5, hideQ (by have := HO5.out; rw [iv, List.map_append]; exact this), hideQ ⟨by rw [List.length_append, HFl.out]; rfl, by rw [show m - (i + 1) = m' from by have := HM'.out; omega]; exact HSt.out⟩, HKK⟩
        case measure => simp [intOf]; omega
    · obtain rfl : i = m := by omega
      have HOk : Hid (rls l i p = some (L, p')) := hideQ (by
        have := HF.out.2
        rw [Nat.sub_self] at this
        rw [this]
        simp [rls, prl])
      have HFl := hideQ HF.out.1
      clear HF
      go_wp2
      go_ret
      refine ⟨?_, HKr.out⟩
      rw [HOk.out]
      exact ⟨_, rfl, by rw [HFl.out]; exact HOr.out, HRr.out⟩
end Go.Proofs.YtcanbhbhdgogoaaDoor
