import Derived.Test.YtoglgicmnhklbaaDoorRdd
import Derived.Test.YtoglgicmnhklbaaDoorSce
namespace Go.Proofs.YtoglgicmnhklbaaDoor
open Go.ChangeShapes Go.WideShapes Go.ChangeAt Go.RowKit

theorem rdecode2 (l : List Int) (a : Option Addr) (n c : Nat) (w : World) (hn : n = l.length) (hB : BytesAt w a l) (hb : IsBytes l) (hc : l.length ≤ c) (hl : l.length ≤ 140737488355000) :
    Calls Tryd.prog 19 #[.slice a n c] w fun e w' => RdPost w e w' (decR l) := by
  cases hr : bodyR l with
  | error er =>
    have e : decR l = .error er := by unfold decR; rw [hr]
    rw [e]
    exact rdec_err l a n c er w hn hB hb hc (by omega) hr
  | ok pq =>
    obtain ⟨p, q⟩ := pq
    exact rdec_ok l a n c p q w hn hB hb hc hl hr
theorem own_at2' {w W : World} {a : Option Addr} {n c : Nat} {X : List Int} (h : OwnB w W (.slice a n c) X) : BytesAt W a X ∧ (a = none → c = 0) := by
  obtain ⟨_, _, e, hb, hz⟩ := h.at
  simp only [Value.slice.injEq] at e
  obtain ⟨rfl, _, rfl⟩ := e
  exact ⟨hb, hz⟩
/-- places = append(places, p). -/
theorem wpList_twi {w W : World} {s g0 g1 : Nat} {ops : Array Oper} {rest : List Oper} {o : Oper} {act : Act} {Q : Exit → Act → World → Prop} (hgd : o.guard = none) (x y : Operand)
    (ho : o.op = .call { callee := .builtin .append, args := #[x, y], argTypes := #[24, 24] })
    (v v2 : Value) (P P' : List Nat) (D : List BkD) (p m : Nat) (hs : act.eval x = v) (ad : Addr) (c : Nat) (hx : act.eval y = .slice (some ad) 1 c)
    (hcell : ∀ j u, ([.int .i64 p] : List Value)[j]? = some u → W.cell? (ad.add j) = some u) (hP : Hid (P' = P ++ [p])) (hm : Hid (m = P'.length))
    (hown : Hid (Two w s g0 g1 W v v2 P D)) (hz : s ≤ W.heap.size) (hr : Hid (P.length ≤ 1099511627776))
    (h : ∀ g cap W', Hid (Two w s g0 g1 W' (.slice (some ⟨g, 0, none⟩) m cap) v2 P' D) → Hid (Kept (fun i => v.ownBlock = some i) W W') → Hid (v.ownBlock = some g ∨ g = W.heap.size) → wpList Tryd.prog ops Q rest (act.put o.dst (.slice (some ⟨g, 0, none⟩) m cap)) W') : wpList Tryd.prog ops Q (o :: rest) act W := by
  obtain ⟨i0, hi, hz0, hz1, hz2⟩ := info_parts Tryd.infoInt
  have hc := hown.out
  have hrr := hr.out
  have hPP := hP.out
  have hmm := hm.out
  refine wpList_append_lies _ hgd x y 24 ho w.heap.size 3 i0 (.int .i64 0) 1 8 Tryd.underlying24 hi hz0 hz1 hz2 rfl (by decide) v P.length (pls P) hs hc.r1 ad 1 c [.int .i64 p] hx rfl hcell one_cell_int (by decide) (by unfold maxLen; omega) (by omega) hc.r2.kept.size _ rfl ?_
  intro g cap W1 hown1 hgrow hat _
  have e : P.length + 1 = m := by rw [hmm, hPP, List.length_append]; rfl
  rw [e] at hown1 ⊢
  have T := hc.int hz (m := m) (by rw [hmm, hPP]) hown1 hgrow hat
  rw [← hPP] at T
  exact h g cap W1 T (Kept.grown hgrow) hat
/-- blocks = append(blocks, b). -/
theorem wpList_twb {w W : World} {s g0 g1 : Nat} {ops : Array Oper} {rest : List Oper} {o : Oper} {act : Act} {Q : Exit → Act → World → Prop} (hgd : o.guard = none) (x y : Operand)
    (ho : o.op = .call { callee := .builtin .append, args := #[x, y], argTypes := #[25, 25] })
    (v1 v : Value) (P : List Nat) (D D' : List BkD) (b : BkD) (m : Nat) (hs : act.eval x = v) (ad : Addr) (c : Nat) (hx : act.eval y = .slice (some ad) 1 c)
    (hcell : ∀ j u, b.cells[j]? = some u → W.cell? (ad.add j) = some u) (hP : Hid (D' = D ++ [b])) (hm : Hid (m = D'.length))
    (hown : Hid (Two w s g0 g1 W v1 v P D)) (hz : s ≤ W.heap.size) (hb : Hid (b.At W)) (hfar : Hid (b.B ≠ [] → ∀ ad, b.a = some ad → s ≤ ad.block ∧ v1.ownBlock ≠ some ad.block ∧ v.ownBlock ≠ some ad.block)) (hr : Hid (D.length ≤ 1099511627776))
    (h : ∀ g cap W', Hid (Two w s g0 g1 W' v1 (.slice (some ⟨g, 0, none⟩) m cap) P D') → Hid (Kept (fun i => v.ownBlock = some i) W W') → wpList Tryd.prog ops Q rest (act.put o.dst (.slice (some ⟨g, 0, none⟩) m cap)) W') : wpList Tryd.prog ops Q (o :: rest) act W := by
  obtain ⟨i0, hi, hz0, hz1, hz2⟩ := info_parts Tryd.infoBk
  have hc := hown.out
  have hrr := hr.out
  have hPP := hP.out
  have hmm := hm.out
  refine wpList_append_lies _ hgd x y 25 ho w.heap.size 35 i0 (.agg #[.int .u8 0, .slice none 0 0]) 2 32 Tryd.underlying25 hi hz0 hz1 hz2 rfl (by decide) v D.length (rowsB D) hs hc.r2.row ad 1 c b.cells hx rfl hcell (two_cell b) (by decide) (by unfold maxLen; omega) (by omega) hc.r2.kept.size _ rfl ?_
  intro g cap W1 hown1 hgrow hat _
  have e : D.length + 1 = m := by rw [hmm, hPP, List.length_append]; rfl
  rw [e] at hown1 ⊢
  have T := hc.blk hz hb.out hfar.out (m := m) (by rw [hmm, hPP]) hown1 hgrow hat
  rw [← hPP] at T
  exact h g cap W1 T (Kept.grown hgrow)
theorem rs_mid {w wr W4 W6 : World} {v1 v2 : Value} {P P' : List Nat} {D : List BkD} {x : BkD} {g m cap : Nat} {o1 : Obj} (hT : Two w w.heap.size w.heap.size w.heap.size wr v1 v2 P D) (ho : OwnB wr W4 (.slice x.a x.B.length x.c) x.B) (ht : x.t < 256) (hi : IsBytes x.B)
    (h6 : Two w w.heap.size w.heap.size w.heap.size W6 (.slice (some ⟨g, 0, none⟩) m cap) v2 P' D) (k6 : Kept (fun i => v1.ownBlock = some i) ((W4.alloc (.cells #[.int .u8 x.t, .slice x.a x.B.length x.c] 35)).alloc o1) W6) (hat : v1.ownBlock = some g ∨ g = ((W4.alloc (.cells #[.int .u8 x.t, .slice x.a x.B.length x.c] 35)).alloc o1).heap.size) :
    (W6.cell? ⟨W4.heap.size, 0, none⟩ = some (.int .u8 x.t) ∧ W6.cell? ⟨W4.heap.size, 1, none⟩ = some (.slice x.a x.B.length x.c)) ∧ (∀ o, Two w w.heap.size w.heap.size w.heap.size (W6.alloc o) (.slice (some ⟨g, 0, none⟩) m cap) v2 P' D ∧ x.At (W6.alloc o)) ∧ (x.B ≠ [] → ∀ ad, x.a = some ad → w.heap.size ≤ ad.block ∧ (Value.slice (some ⟨g, 0, none⟩) m cap).ownBlock ≠ some ad.block ∧ v2.ownBlock ≠ some ad.block) := by
  have z1 := hT.r2.kept.size
  have z2 := ho.kept.size
  have l1 : ∀ i, v1.ownBlock = some i → i < wr.heap.size := fun i h => (hT.r1.lt i h).2
  have l2 : ∀ i, v2.ownBlock = some i → i < wr.heap.size := fun i h => (hT.r2.row.lt i h).2
  have hb := (own_at2' ho).1
  have lx : ∀ ad, x.a = some ad → wr.heap.size ≤ ad.block ∧ ad.block < W4.heap.size := fun ad h => ho.row.lt _ (by rw [h]; rfl)
  have sz : ((W4.alloc (.cells #[.int .u8 x.t, .slice x.a x.B.length x.c] 35)).alloc o1).heap.size = W4.heap.size + 2 := by simp
  have hat0 : x.At W4 := ⟨ht, hb, hi, (own_at2' ho).2⟩
  have hX := k6.heap ((Kept.alloc _ o1).heap (heap_alloc_new W4 (.cells #[.int .u8 x.t, .slice x.a x.B.length x.c] 35)) (fun f => f)) (fun e => by have := l1 _ e; omega)
  have ob : (Value.slice (some ⟨g, 0, none⟩) m cap).ownBlock = some g := rfl
  refine ⟨⟨cell_of_row _ _ 0 _ _ _ hX, cell_of_row _ _ 1 _ _ _ hX⟩, fun o => ⟨h6.same (Kept.alloc _ _), ?_⟩, fun hne ad had => ⟨?_, fun e => ?_, fun e => ?_⟩⟩
  · refine ((((hat0.kept (Kept.alloc _ _)).kept (Kept.alloc _ o1)).far k6 (fun hne ad had e => ?_)).kept (Kept.alloc _ _))
    have := l1 _ e
    have := lx ad had
    omega
  · have := lx ad had
    omega
  · rw [ob] at e
    have e := Option.some.inj e
    have h1 := lx ad had
    rcases hat with h | h
    · have := l1 g h
      omega
    · omega
  · have := l2 _ e
    have := lx ad had
    omega
/-- What the document's Scan answers. -/
def RsPost (w : World) (L : List Int) (e : Ending) (W : World) : Prop :=
  ∃ (pre : List Sx) (e1 e2 : Option Addr) (c1 c2 : Nat), e = .returned (.tuple #[.slice e1 pre.length c1, .slice e2 pre.length c2]) ∧ PlacesAt W e1 (pre.map Sx.p) ∧ Bl w W (.slice e2 pre.length c2) (pre.map Sx.D) ∧ pre.map Sx.dat = scan L ∧ (∀ x ∈ pre.map Sx.D, x.B ≠ [] → ∀ ad, x.a = some ad → w.heap.size ≤ ad.block) ∧ (∀ ad, e1 = some ad → w.heap.size ≤ ad.block) ∧
    ((pre = [] ∧ e1 = none ∧ c1 = 0 ∧ e2 = none ∧ c2 = 0) ∨ (∃ g1 g2, e1 = some ⟨g1, 0, none⟩ ∧ e2 = some ⟨g2, 0, none⟩ ∧ pre.length ≤ c1 ∧ pre.length ≤ c2 ∧ 0 < pre.length))
set_option maxRecDepth 20000 in
set_option maxHeartbeats 8000000 in
theorem rscan_any (L : List Int) (a : Option Addr) (n c : Nat) (w : World) (hn : n = L.length) (hB : BytesAt w a L) (hb : IsBytes L) (ha : a = none → c = 0) (hc : n ≤ c) (hl : n ≤ 1099511627776) :
    Calls Tryd.prog 7 #[.slice a n c] w fun e W => RsPost w L e W := by
  have DC : Hid (∀ p c' W ad, p ≤ n → Kept (fun _ => False) w W → (p < n → ∃ b off, a = some ⟨b, off, none⟩ ∧ ad = some ⟨b, off + p, none⟩) → n - p ≤ c' → Calls Tryd.prog 19 #[.slice ad (n - p) c'] W fun e W' => RdPost W e W' (decR (L.drop p))) := by
    intro p c' W ad hp q had hc'
    have hdl : (L.drop p).length = n - p := by rw [List.length_drop]; omega
    have hB2 : BytesAt W ad (L.drop p) := by
      rcases Nat.lt_or_ge p n with h | h
      · obtain ⟨b, off, e1, e2⟩ := had h
        have h2 := bytes_keptF hB q
        rw [e1] at h2
        rw [e2]
        exact bytes_dropN h2 p
      · intro hne
        exact (hne (List.length_eq_zero_iff.1 (by omega))).elim
    exact rdecode2 (L.drop p) ad (n - p) c' W hdl.symm hB2 (fun y hy => hb y (List.mem_of_mem_drop hy)) (by omega) (by omega)
  have HA : 0 < n → ∃ b off, a = some ⟨b, off, none⟩ := by
    intro h
    obtain ⟨b, off, e, _⟩ := hB (by intro e; rw [e] at hn; simp at hn; omega)
    exact ⟨b, off, e⟩
  have HB := hideC hb
  have HN := hideC hn
  have FIN : Hid (∀ (pre : List Sx) e1 e2 c1 c2 W W' d, d = pre.length → Two w w.heap.size w.heap.size w.heap.size W (.slice e1 d c1) (.slice e2 d c2) (pre.map Sx.p) (pre.map Sx.D) → Kept (fun _ => False) W W' → pre.map Sx.dat = scan L → (d = 0 → e1 = none ∧ c1 = 0 ∧ e2 = none ∧ c2 = 0) → RsPost w L (.returned (.tuple #[.slice e1 d c1, .slice e2 d c2])) W') := by
    intro pre e1 e2 c1 c2 W W' d hd hT k hS h0
    subst hd
    have hT2 := hT.same k
    refine ⟨pre, e1, e2, c1, c2, rfl, ?_, hT2.r2, hS, fun x hx hne ad had => (hT2.yng x hx hne ad had).1, fun ad had => (hT2.r1.lt _ (by rw [had]; rfl)).1, ?_⟩
    · obtain ⟨a', c', e, hp⟩ := hT2.places
      simp only [Value.slice.injEq] at e
      obtain ⟨rfl, _, _⟩ := e
      exact hp
    · rcases Nat.eq_zero_or_pos pre.length with h | h
      · exact .inl ⟨List.length_eq_zero_iff.1 h, h0 h⟩
      · right
        rcases hT2.r1.2 with ⟨e, _⟩ | ⟨g, cap, cur, e, _, _, hle, _⟩
        · simp only [Value.slice.injEq] at e
          omega
        · rcases hT2.r2.row.2 with ⟨e', _⟩ | ⟨g', cap', cur', e', _, _, hle', _⟩
          · simp only [Value.slice.injEq] at e'
            omega
          · simp only [Value.slice.injEq, List.length_map] at e e' hle hle'
            obtain ⟨rfl, _, rfl⟩ := e
            obtain ⟨rfl, _, rfl⟩ := e'
            exact ⟨g, g', rfl, rfl, hle, hle', h⟩
  clear hB hb hn
  go_enter Tryd.func7, Tryd.ntmps7
  go_wp2
  go_loopw [4, 5, 6] (fun pl bl at_ wr => ∃ (p d : Nat) (pre : List Sx) (e1 e2 : Option Addr) (c1 c2 : Nat), p ≤ n ∧ 6 * d ≤ p ∧ pl = .slice e1 d c1 ∧ bl = .slice e2 d c2 ∧ at_ = .int .i64 p ∧ Hid (d = pre.length) ∧ Hid (scan L = pre.map Sx.dat ++ scn (L.length + 1 - pre.length) p (L.drop p)) ∧ Hid (Two w w.heap.size w.heap.size w.heap.size wr (.slice e1 d c1) (.slice e2 d c2) (pre.map Sx.p) (pre.map Sx.D)) ∧ Hid (d = 0 → e1 = none ∧ c1 = 0 ∧ e2 = none ∧ c2 = 0)) (fun _ _ at_ _ => n - (intOf at_).toNat)
  case atStart =>
    exact ⟨0, 0, [], none, none, 0, 0, Nat.zero_le _, Nat.le_refl _, rfl, rfl, rfl, rfl, rfl, ⟨⟨rfl, .inl ⟨rfl, rfl⟩⟩, bl_nil w, fun i hi => (by cases hi), fun i hi => (by cases hi), fun i hi => (by cases hi), fun x hx => (by cases hx)⟩, fun _ => ⟨rfl, rfl, rfl, rfl⟩⟩
  case round =>
    obtain ⟨p, d, pre, e1, e2, c1, c2, hpn, h6, rfl, rfl, rfl, HD, HS, HT, H0⟩ := hrel
    have hpL : p ≤ L.length := by rw [← HN.out]; exact hpn
    cases hd : decR (L.drop p) with
    | error er =>
      have hfin := hideC (scan_stop HS.out hpL (by rw [← HD.out]; exact h6) hd)
      have D3 : ∀ addr c', (p < n → ∃ b off, a = some ⟨b, off, none⟩ ∧ addr = some ⟨b, off + p, none⟩) → n - p ≤ c' → Calls Tryd.prog 19 #[.slice addr (n - p) c'] wr fun e W' => e = .returned (.tuple #[.agg #[.int .u8 0, .slice none 0 0], .int .i64 0, .int .i64 ((er + 1 : Nat) : Int)]) ∧ Hid (Kept (fun _ => False) wr W') := by
        intro addr c' h1 h2
        have r := DC.out p c' wr addr hpn HT.out.r2.kept h1 h2
        rw [hd] at r
        exact r
      have ier : ¬ (((er + 1 : Nat) : Int) = 0) := by omega
      generalize ((er + 1 : Nat) : Int) = er1 at D3 ier
      have FN : Hid (∀ W', Kept (fun _ => False) wr W' → RsPost w L (.returned (.tuple #[.slice e1 d c1, .slice e2 d c2])) W') := fun W' k => FIN.out pre e1 e2 c1 c2 wr W' d HD.out HT.out k hfin.out H0.out
      clear hd HS DC FIN HD HT H0 hfin HB
      rcases Nat.eq_zero_or_pos n with hn0 | hn0
      · subst hn0
        obtain rfl : p = 0 := by omega
        have D4 := hideC (D3 a c (fun h => by omega) (by omega))
        rw [Nat.sub_self] at D4
        clear D3
        cases a with
        | none =>
          obtain rfl := ha rfl
          go_wp2_with (go_at_call 19; refine D4.out.mono ?_; clear D4; rintro e W4 ⟨rfl, K4⟩)
          go_ret2
          exact FN.out _ (K4.out.trans (Kept.alloc _ _) (fun _ f => f.elim))
        | some ad =>
          have ead : ad.add 0 = ad := by simp [Addr.add]
          by_cases hc0 : c = 0
          · subst hc0
            go_wp2_with (go_at_call 19; refine D4.out.mono ?_; clear D4; rintro e W4 ⟨rfl, K4⟩)
            go_ret2
            exact FN.out _ (K4.out.trans (Kept.alloc _ _) (fun _ f => f.elim))
          · go_wp2_with (go_at_call 19; refine D4.out.mono ?_; clear D4; rintro e W4 ⟨rfl, K4⟩)
            go_ret2
            exact FN.out _ (K4.out.trans (Kept.alloc _ _) (fun _ f => f.elim))
      · obtain ⟨b, off, rfl⟩ := HA hn0
        rcases Nat.lt_or_ge p c with hpc | hpc
        · have D4 := hideC (D3 (some ⟨b, off + p, none⟩) (c - p) (fun _ => ⟨b, off, rfl, rfl⟩) (by omega))
          have i2 : (p : Int) ≤ (n : Int) := by omega
          have i3 : ¬ c = p := by omega
          have i4 : p ≤ c := by omega
          clear D3
          go_wp2_with (go_at_call 19; refine D4.out.mono ?_; clear D4; rintro e W4 ⟨rfl, K4⟩)
          go_ret2
          exact FN.out _ (K4.out.trans (Kept.alloc _ _) (fun _ f => f.elim))
        · obtain rfl : p = n := by omega
          obtain rfl : p = c := by omega
          have D4 := hideC (D3 (some ⟨b, off, none⟩) 0 (fun h => by omega) (by omega))
          rw [Nat.sub_self] at D4
          clear D3
          go_wp2_with (go_at_call 19; refine D4.out.mono ?_; clear D4; rintro e W4 ⟨rfl, K4⟩)
          go_ret2
          exact FN.out _ (K4.out.trans (Kept.alloc _ _) (fun _ f => f.elim))
    | ok tbn =>
      obtain ⟨t, body, n1⟩ := tbn
      obtain ⟨⟨T, rfl, hT0, hT2⟩, hbb, hn6, hnl, hbl6⟩ := decR_ok (fun y hy => HB.out y (List.mem_of_mem_drop hy)) hd
      have hnl2 : n1 ≤ n - p := by rw [List.length_drop, ← HN.out] at hnl; exact hnl
      obtain ⟨b, off, rfl⟩ := HA (by omega)
      obtain ⟨nb, hnb⟩ : ∃ n, n = body.length := ⟨_, rfl⟩
      have D4 : Hid (Calls Tryd.prog 19 #[.slice (some ⟨b, off + p, none⟩) (n - p) (c - p)] wr fun e W' => ∃ a' c', e = .returned (.tuple #[.agg #[.int .u8 T, .slice a' nb c'], .int .i64 n1, .int .i64 0]) ∧ Hid (OwnB wr W' (.slice a' nb c') body)) := by
        have r := DC.out p (c - p) wr (some ⟨b, off + p, none⟩) hpn HT.out.r2.kept (fun _ => ⟨b, off, rfl, rfl⟩) (by omega)
        rw [hd] at r
        refine Calls.mono r ?_
        rintro e W' ⟨a', c', rfl, ho⟩
        rw [hnb]
        exact ⟨a', c', rfl, ho⟩
      have hstep : Hid (∀ a' c', scan L = (pre ++ [Sx.mk p ⟨T, a', c', body⟩]).map Sx.dat ++ scn (L.length + 1 - (pre ++ [Sx.mk p ⟨T, a', c', body⟩]).length) (p + n1) (L.drop (p + n1))) := fun a' c' => scan_step (x := ⟨p, ⟨T, a', c', body⟩⟩) HS.out hpL (by rw [← HD.out]; exact h6) hd rfl
      have HD2 : Hid (∀ a' c', d + 1 = (pre ++ [Sx.mk p ⟨T, a', c', body⟩]).length) := fun a' c' => by rw [List.length_append, ← HD.out]; rfl
      have A1 : Hid (∀ W4 a' c', OwnB wr W4 (.slice a' nb c') body → Hid (Two w w.heap.size w.heap.size w.heap.size ((W4.alloc (.cells #[.int .u8 T, .slice a' nb c'] 35)).alloc (.cells #[.int .i64 p] 3)) (.slice e1 d c1) (.slice e2 d c2) (pre.map Sx.p) (pre.map Sx.D)) ∧ w.heap.size ≤ ((W4.alloc (.cells #[.int .u8 T, .slice a' nb c'] 35)).alloc (.cells #[.int .i64 p] 3)).heap.size) := by
        intro W4 a' c' ho
        have q := ((HT.out.same ho.kept).same (Kept.alloc W4 (.cells #[.int .u8 T, .slice a' nb c'] 35))).same (Kept.alloc _ (.cells #[.int .i64 p] 3))
        exact ⟨q, q.r2.kept.size⟩
      have A2 : Hid (∀ W4 W6 a' c' g cap, OwnB wr W4 (.slice a' nb c') body → Two w w.heap.size w.heap.size w.heap.size W6 (.slice (some ⟨g, 0, none⟩) (d + 1) cap) (.slice e2 d c2) (pre.map Sx.p ++ [p]) (pre.map Sx.D) → Kept (fun i => (Value.slice e1 d c1).ownBlock = some i) ((W4.alloc (.cells #[.int .u8 T, .slice a' nb c'] 35)).alloc (.cells #[.int .i64 p] 3)) W6 → ((Value.slice e1 d c1).ownBlock = some g ∨ g = ((W4.alloc (.cells #[.int .u8 T, .slice a' nb c'] 35)).alloc (.cells #[.int .i64 p] 3)).heap.size) →
          W6.cell? ⟨W4.heap.size, 0, none⟩ = some (.int .u8 T) ∧ W6.cell? ⟨W4.heap.size, 1, none⟩ = some (.slice a' nb c') ∧ Hid (Two w w.heap.size w.heap.size w.heap.size (W6.alloc (.cells #[.int .u8 T, .slice a' nb c'] 35)) (.slice (some ⟨g, 0, none⟩) (d + 1) cap) (.slice e2 d c2) (pre.map Sx.p ++ [p]) (pre.map Sx.D)) ∧ Hid ((BkD.mk T a' c' body).At (W6.alloc (.cells #[.int .u8 T, .slice a' nb c'] 35))) ∧ Hid ((BkD.mk T a' c' body).B ≠ [] → ∀ ad, (BkD.mk T a' c' body).a = some ad → w.heap.size ≤ ad.block ∧ (Value.slice (some ⟨g, 0, none⟩) (d + 1) cap).ownBlock ≠ some ad.block ∧ (Value.slice e2 d c2).ownBlock ≠ some ad.block) ∧ w.heap.size ≤ (W6.alloc (.cells #[.int .u8 T, .slice a' nb c'] 35)).heap.size) := by
        intro W4 W6 a' c' g cap ho h6 k6 hat
        subst hnb
        obtain ⟨⟨r1, r2⟩, r3, r4⟩ := rs_mid (x := ⟨T, a', c', body⟩) HT.out ho hT2 hbb h6 k6 hat
        exact ⟨r1, r2, (r3 _).1, (r3 _).2, r4, (r3 (.cells #[.int .u8 T, .slice a' body.length c'] 35)).1.r2.kept.size⟩
      have NC : Hid (∀ (W : World) a' c', ∀ j u, (BkD.mk T a' c' body).cells[j]? = some u → (W.alloc (.cells #[.int .u8 T, .slice a' nb c'] 35)).cell? ((⟨W.heap.size, 0, none⟩ : Addr).add j) = some u) := by
        intro W a' c'
        have := nw_two W ⟨T, a', c', body⟩ 35
        rw [hnb]
        exact this
      have NI : Hid (∀ (W : World) (o : Obj), ∀ j u, ([.int .i64 p] : List Value)[j]? = some u → ((W.alloc o).alloc (.cells #[.int .i64 p] 3)).cell? ((⟨W.heap.size + 1, 0, none⟩ : Addr).add j) = some u) := by
        intro W o
        have := nw_one (W.alloc o) (.int .i64 p) 3
        rw [World.size_alloc] at this
        exact this
      have hdl : d ≤ 1099511627776 := by omega
      have L1 : Hid ((pre.map Sx.p).length ≤ 1099511627776) := by show _ ≤ _; rw [List.length_map, ← HD.out]; exact hdl
      have L2 : Hid ((pre.map Sx.D).length ≤ 1099511627776) := by show _ ≤ _; rw [List.length_map, ← HD.out]; exact hdl
      have M1 : Hid (d + 1 = (pre.map Sx.p ++ [p]).length) := by show _ = _; rw [List.length_append, List.length_map, ← HD.out]; rfl
      have M2 : ∀ a' c', Hid (d + 1 = (pre.map Sx.D ++ [BkD.mk T a' c' body]).length) := fun a' c' => by show _ = _; rw [List.length_append, List.length_map, ← HD.out]; rfl
      have i2 : (p : Int) ≤ (n : Int) := by omega
      have i3 : ¬ c = p := by omega
      have i4 : p ≤ c := by omega
      clear hd HS DC HB hbb hnb FIN HT HD HA H0 ha
      go_wp2_with (first
        | (go_at_call 19; refine D4.out.mono ?_; clear D4; rintro e W4 ⟨a4, c4, rfl, K4⟩; obtain ⟨T4, z4⟩ := A1.out W4 a4 c4 K4.out; clear A1)
        | (at_builtin; refine wpList_twi rfl _ _ rfl _ (.slice e2 d c2) (pre.map Sx.p) (pre.map Sx.p ++ [p]) (pre.map Sx.D) p (d + 1) rfl _ _ rfl (NI.out W4 _) (hideC rfl) M1 T4 z4 L1 ?_; clear T4; intro g6 cap6 W6 T6 K6 H6; obtain ⟨q1, q2, T7, X7, F7, z7⟩ := A2.out W4 W6 a4 c4 g6 cap6 K4.out T6.out K6.out H6.out; clear A2 T6 K6 H6)
        | (at_builtin; refine wpList_twb rfl _ _ rfl (.slice (some ⟨g6, 0, none⟩) (d + 1) cap6) _ (pre.map Sx.p ++ [p]) (pre.map Sx.D) (pre.map Sx.D ++ [BkD.mk T a4 c4 body]) (BkD.mk T a4 c4 body) (d + 1) rfl _ _ rfl (NC.out W6 a4 c4) (hideC rfl) (M2 a4 c4) T7 z7 X7 F7 L2 ?_; clear T7 X7 F7; intro g8 cap8 W8 T8 K8))
      go_roundw
      case rel =>
        refine ⟨p + n1, d + 1, pre ++ [Sx.mk p ⟨T, a4, c4, body⟩], some ⟨g6, 0, none⟩, some ⟨g8, 0, none⟩, cap6, cap8, by omega, by omega, rfl, rfl, by go_num, HD2.out a4 c4, hstep.out a4 c4, ?_, fun h => by omega⟩
        rw [List.map_append, List.map_append]
        exact T8
      case measure => simp [intOf]; omega
end Go.Proofs.YtoglgicmnhklbaaDoor
