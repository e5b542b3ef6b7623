import Derived.Test.YtehjbceknnopoaaDoorPka
import Derived.Deep.AppendLies
import Derived.BigQuiet
namespace Go.Proofs.YtehjbceknnopoaaDoor
open Go.ChangeShapes Go.WideShapes Go.ChangeAt Go.RowKit

set_option maxRecDepth 20000 in
set_option maxHeartbeats 2000000 in
/-- An image whose seal doesn't fit. -/
theorem unpack_seal (kind : Nat) (l : List Int) (a : Option Addr) (n c : Nat) (w : World) {a0 a1 a2 a3 a4 a5 a6 : Addr} (hn : n = l.length) (h10 : 10 ≤ n) (hB : BytesAt w a l) (hb : IsBytes l) (hc : n ≤ c) (hl : n ≤ 140737488351232) (hT : TabAt w) (hE : Errs7 w a0 a1 a2 a3 a4 a5 a6) (hs : ¬ sealOk l) :
    Calls Tryd.prog 19 #[.int .u8 kind, .slice a n c] w fun e w' => e = .returned (.tuple #[.slice none 0 0, .iface 103 (.pointer (some a6))]) ∧ Kept (fun _ => False) w w' := by
  obtain ⟨b, off, rfl, _⟩ := hB (by intro e; rw [e] at hn; simp at hn; omega)
  obtain ⟨m, hm⟩ : ∃ m, n = m + 4 := ⟨n - 4, by omega⟩
  have htl : (l.take m).length = m := by rw [List.length_take]; omega
  have SL : Hid (Calls Tryd.prog 34 #[.slice (some ⟨b, off, none⟩) m c] w fun e W' => e = .returned (.int .u32 (sealed (l.take m) : Nat)) ∧ W' = w) := by
    have r := sealed_any (l.take m) (some ⟨b, off, none⟩) c w (bytes_take hB m) (fun x hx => hb x (List.mem_of_mem_take hx)) (by omega) hT
    rw [htl] at r
    exact r
  have EW : Hid (Calls Tryd.prog 39 #[.slice (some ⟨b, off, none⟩) n c, .int .u32 (sealed (l.take m) : Nat)] w fun e W' => e = .returned (.bool false) ∧ W'.cell? ⟨6, 0, none⟩ = some (.iface 103 (.pointer (some a6))) ∧ Hid (Kept (fun _ => False) w W')) := by
    have r := ends_any l (some ⟨b, off, none⟩) n c (sealed (l.take m)) w hn hB (sealed_lt _) (by omega) (by omega) (by omega)
    refine r.mono ?_
    rintro e W' ⟨rfl, k⟩
    refine ⟨?_, k.cell hE.s6.var (fun f => f), k⟩
    rw [str_beq (fun x hx => hb x (List.mem_of_mem_drop hx)) (le_bytes 4 _)]
    have hne : ¬ (l.drop (l.length - 4) = le 4 (sealed (l.take m))) := by
      intro e
      apply hs
      unfold sealOk
      rw [show l.length - 4 = m by omega] at e ⊢
      exact e
    rw [decide_eq_false hne]
  obtain ⟨s, hs'⟩ : ∃ s, s = sealed (l.take m) := ⟨_, rfl⟩
  rw [← hs'] at SL EW
  have i0 : ¬ ((n : Int) < 10) := by omega
  have i1 : (n : Int) - 4 = (m : Int) := by omega
  have i2 : (m : Int) ≤ (c : Int) := by omega
  have i3 : m ≤ c := by omega
  clear hs' hs hB hb hT hE htl hn hm
  go_enter Tryd.func19, Tryd.ntmps19
  go_wp2_with (first | (go_at_call 34; refine SL.out.mono ?_; rintro e W2 ⟨rfl, e2⟩; subst e2) | (go_at_call 39; refine EW.out.mono ?_; rintro e W3 ⟨rfl, G3, K3⟩))
  go_quiet (fail)
  go_wp2
  go_ret2
  exact ⟨rfl, K3.out.trans (Kept.drewN _ _) (fun _ f => f.elim)⟩
def rowsB (D : List BkD) : List Value := (D.map BkD.cells).flatten
theorem rowsB_snoc (l : List BkD) (o : BkD) : rowsB (l ++ [o]) = rowsB l ++ o.cells := by simp [rowsB]
theorem rowsB_length : ∀ l, (rowsB l).length = l.length * 2
  | [] => rfl
  | o :: l => by
    have h := rowsB_length l
    simp only [rowsB, List.map_cons, List.flatten_cons, List.length_append, BkD.cells_length, List.length_cons] at h ⊢
    omega
theorem rowsB_at : ∀ (l : List BkD) (k : Nat) (hk : k < l.length) (j : Nat), j < 2 → (rowsB l)[k * 2 + j]? = (l[k]).cells[j]?
  | o :: l, 0, _, j, hj => by
    simp only [rowsB, List.map_cons, List.flatten_cons]
    rw [List.getElem?_append_left (by rw [BkD.cells_length]; omega)]
    simp
  | o :: l, k + 1, hk, j, hj => by
    have h := rowsB_at l k (by simpa using hk) j hj
    simp only [rowsB, List.map_cons, List.flatten_cons] at h ⊢
    rw [List.getElem?_append_right (by rw [BkD.cells_length]; omega), BkD.cells_length, show (k + 1) * 2 + j - 2 = k * 2 + j by omega, h]
    simp
/-- A list of blocks in memory that is younger than w. -/
structure Bl (w W : World) (v : Value) (D : List BkD) : Prop where
  row : W.ownsRow w.heap.size 35 2 v D.length (rowsB D)
  each : ∀ x ∈ D, x.At W
  far : ∀ x ∈ D, x.B ≠ [] → ∀ ad, x.a = some ad → v.ownBlock ≠ some ad.block
  kept : Kept (fun _ => False) w W
theorem bl_nil (w : World) : Bl w w (.slice none 0 0) [] := ⟨⟨rfl, .inl ⟨rfl, rfl⟩⟩, fun x hx => (by cases hx), fun x hx => (by cases hx), Kept.refl _ _⟩
theorem Bl.same {w W W' : World} {v : Value} {D : List BkD} (h : Bl w W v D) (k : Kept (fun _ => False) W W') : Bl w W' v D :=
  ⟨k.row h.row (fun _ _ f => f), fun x hx => (h.each x hx).kept k, h.far, h.kept.trans k (fun _ f => f.elim)⟩
theorem Bl.from {w w1 W : World} {v : Value} {D : List BkD} (h : Bl w1 W v D) (k : Kept (fun _ => False) w w1) : Bl w W v D := by
  refine ⟨⟨h.row.1, ?_⟩, h.each, h.far, k.trans h.kept (fun _ f => f.elim)⟩
  rcases h.row.2 with e | ⟨g, cap, cur, e, hb, r⟩
  · exact .inl e
  · exact .inr ⟨g, cap, cur, e, Nat.le_trans k.size hb, r⟩
theorem Bl.at {w W : World} {v : Value} {D : List BkD} (h : Bl w W v D) : ∃ a c, v = .slice a D.length c ∧ BksAt W a D := by
  rcases h.row.2 with ⟨rfl, h0⟩ | ⟨g, cap, cur, rfl, hb, hg, hnc, _, hcs, ht⟩
  · exact ⟨none, 0, by rw [h0], fun hne => (hne (List.length_eq_zero_iff.1 h0)).elim⟩
  · refine ⟨_, _, rfl, fun _ => ⟨g, 0, rfl, fun k hk => ?_⟩⟩
    have key : ∀ j, j < 2 → W.cell? ⟨g, 0 + k * 2 + j, none⟩ = (D[k]).cells[j]? := by
      intro j hj
      have h1 : W.cell? ⟨g, 0 + k * 2 + j, none⟩ = cur[k * 2 + j]? := by
        rw [Nat.zero_add]
        exact cell_of_row W g _ cur _ _ hg
      rw [h1, ← rowsB_at D k hk j hj, ← ht, List.getElem?_take, if_pos (by omega), Array.getElem?_toList]
    exact ⟨key 0 (by omega), key 1 (by omega)⟩
theorem Tryd.infoBk : (Tryd.prog.info? 35).map (fun i => (i.zero, i.size, i.bytes)) = some (some (.agg #[.int .u8 0, .slice none 0 0]), 2, 32) := by kernel_rfl
/-- blocks = append(blocks, b), b lying at ad. -/
theorem wpList_apb {w W : World} {ops : Array Oper} {rest : List Oper} {o : Oper} {act : Act} {Q : Exit → Act → World → Prop} (hgd : o.guard = none) (s x : Operand)
    (ho : o.op = .call { callee := .builtin .append, args := #[s, x], argTypes := #[25, 25] })
    (v : Value) (D : List BkD) (b : BkD) (m : Nat) (hs : act.eval s = v) (g0 c : Nat) (hx : act.eval x = .slice (some ⟨g0, 0, none⟩) 1 c)
    (hcell : Hid (W.cell? ⟨g0, 0, none⟩ = some (.int .u8 b.t) ∧ W.cell? ⟨g0, 1, none⟩ = some (.slice b.a b.B.length b.c)))
    (hBl : Hid (Bl w W v D)) (hb : Hid (b.At W)) (hfar : Hid (b.B ≠ [] → ∀ ad, b.a = some ad → v.ownBlock ≠ some ad.block)) (hr : Hid (D.length ≤ 1099511627776)) (hm : Hid (m = (D ++ [b]).length))
    (h : ∀ g cap W', Hid (Bl w W' (.slice (some ⟨g, 0, none⟩) m cap) (D ++ [b])) → wpList Tryd.prog ops Q rest (act.put o.dst (.slice (some ⟨g, 0, none⟩) m cap)) W') : wpList Tryd.prog ops Q (o :: rest) act W := by
  obtain ⟨i0, hi, hz0, hz1, hz2⟩ := info_parts Tryd.infoBk
  have hrr := hr.out
  refine wpList_append_lies _ hgd s x 25 ho w.heap.size 35 i0 (.agg #[.int .u8 0, .slice none 0 0]) 2 32 Tryd.underlying25 hi hz0 hz1 hz2 rfl (by decide) v D.length (rowsB D) hs hBl.out.row ⟨g0, 0, none⟩ 1 c b.cells hx rfl ?_ ?_ (by decide) (by unfold maxLen; omega) (by omega) hBl.out.kept.size _ rfl ?_
  · intro j u hj
    match j, hj with
    | 0, hj => simp only [BkD.cells, List.getElem?_cons_zero, Option.some.injEq] at hj; subst hj; exact hcell.out.1
    | 1, hj => simp only [BkD.cells, List.getElem?_cons_succ, List.getElem?_cons_zero, Option.some.injEq] at hj; subst hj; exact hcell.out.2
  · intro u hu
    simp only [BkD.cells, List.mem_cons, List.not_mem_nil, or_false] at hu
    rcases hu with rfl | rfl <;> rfl
  · intro g cap W1 hown hgrow hat _
    have e : D.length + 1 = m := by rw [hm.out, List.length_append]; rfl
    rw [e]
    rw [e] at hown
    apply h
    have kg := Kept.grown hgrow
    have hk0 := hBl.out.kept
    have hlow : ∀ y : BkD, y.At W → (y.B ≠ [] → ∀ ad, y.a = some ad → v.ownBlock ≠ some ad.block) → y.At W1 ∧ (y.B ≠ [] → ∀ ad, y.a = some ad → (some g : Option Nat) ≠ some ad.block) := by
      intro y hy hf
      refine ⟨⟨hy.t2, ?_, hy.i, hy.z⟩, ?_⟩
      · intro hne
        obtain ⟨b', off', e', hc⟩ := hy.b hne
        exact ⟨b', off', e', fun k hk => kg.cell (hc k hk) (fun f => hf hne _ e' (by rw [f]))⟩
      · intro hne ad had hg
        have hlt := bytesAt_lt hy.b hne ad had
        have hg := Option.some.inj hg
        rcases hat with e1 | e1
        · exact hf hne ad had (by rw [e1, hg])
        · omega
    refine ⟨?_, fun y hy => ?_, fun y hy => ?_, hk0.trans kg (fun i hi => .inr (hBl.out.row.lt i hi).1)⟩
    · rw [← hm.out, rowsB_snoc]
      exact hown
    · rcases List.mem_append.1 hy with hy | hy
      · exact (hlow y (hBl.out.each y hy) (hBl.out.far y hy)).1
      · rw [List.mem_singleton] at hy; subst hy
        exact (hlow y hb.out hfar.out).1
    · rcases List.mem_append.1 hy with hy | hy
      · exact (hlow y (hBl.out.each y hy) (hBl.out.far y hy)).2
      · rw [List.mem_singleton] at hy; subst hy
        exact (hlow y hb.out hfar.out).2
theorem apb_after {w wr W : World} {ab : Option Addr} {d cb : Nat} {D : List BkD} {T nb : Nat} {a' : Option Addr} {c' : Nat} {body : List Int} (hQ : Bl w wr (.slice ab d cb) D) (hT2 : T < 256) (hBy : IsBytes body) (hNB : nb = body.length) (ho : OwnB wr W (.slice a' nb c') body) {o : Obj} (e : o = .cells #[.int .u8 T, .slice a' nb c'] 35) : Hid (((W.alloc o).alloc o).cell? ⟨W.heap.size + 1, 0, none⟩ = some (.int .u8 (BkD.mk T a' c' body).t) ∧ ((W.alloc o).alloc o).cell? ⟨W.heap.size + 1, 1, none⟩ = some (.slice (BkD.mk T a' c' body).a (BkD.mk T a' c' body).B.length (BkD.mk T a' c' body).c)) ∧ Hid (Bl w ((W.alloc o).alloc o) (.slice ab d cb) D) ∧ Hid ((BkD.mk T a' c' body).At ((W.alloc o).alloc o)) ∧ Hid ((BkD.mk T a' c' body).B ≠ [] → ∀ ad, (BkD.mk T a' c' body).a = some ad → (Value.slice ab d cb).ownBlock ≠ some ad.block) := by
  have hz := heap_alloc_new (W.alloc o) o
  have es : (W.alloc o).heap.size = W.heap.size + 1 := by simp
  rw [es] at hz
  have k2 : Kept (fun _ => False) W ((W.alloc o).alloc o) := (Kept.alloc W o).trans (Kept.alloc _ o) (fun _ f => f.elim)
  obtain ⟨a2, c2, e2, hb2, hz2⟩ := ho.at
  simp only [Value.slice.injEq] at e2
  obtain ⟨rfl, _, rfl⟩ := e2
  refine ⟨⟨?_, ?_⟩, (hQ.same ho.kept).same k2, ⟨hT2, bytes_keptF hb2 k2, hBy, hz2⟩, ?_⟩
  · have h0 := cell_of_row _ _ 0 _ _ _ (hz.trans (congrArg some e))
    exact h0
  · rw [← hNB]
    have h1 := cell_of_row _ _ 1 _ _ _ (hz.trans (congrArg some e))
    exact h1
  · intro hne ad had hown
    have h1 := (hQ.row.lt _ hown).2
    have hown2 : (Value.slice a' nb c').ownBlock = some ad.block := by
      have had : a' = some ad := had
      rw [had]; rfl
    have h2 := (ho.row.lt _ hown2).1
    omega
theorem decR_ok {l : List Int} {t : Int} {b : List Int} {n : Nat} (hb : IsBytes l) (h : decR l = .ok (t, b, n)) : (∃ T : Nat, t = T ∧ 0 < T ∧ T < 256) ∧ IsBytes b ∧ 6 ≤ n ∧ n ≤ l.length ∧ b.length + 6 ≤ n := by
  unfold decR at h
  split at h
  · cases h
  · rename_i p q hr
    split at h
    · obtain ⟨h0, h1, h2, h3, h4, x, k, h5, h6, h7⟩ := bodyR_ok hr
      simp only [Except.ok.injEq, Prod.mk.injEq] at h
      obtain ⟨rfl, rfl, rfl⟩ := h
      have hk := rdu_le _ _ _ _ _ h5
      obtain ⟨T, e1, e2, _⟩ := hb.at (List.length_pos_iff.2 h0)
      refine ⟨⟨T, e1, by rw [e1] at h1; omega, e2⟩, fun y hy => hb y (List.mem_of_mem_drop (List.mem_of_mem_take hy)), ?_, by omega, ?_⟩
      · omega
      · rw [List.length_take, List.length_drop]; omega
    · cases h
def erL (a0 a1 a4 a5 a6 : Addr) (e : Nat) : Value := if e = 4 then errV a4 else erD a0 a1 a5 a6 e
def LstPost (w : World) (a0 a1 a4 a5 a6 : Addr) (e : Ending) (w' : World) : Except Nat (List (Int × List Int)) → Prop
  | .error er => e = .returned (.tuple #[.slice none 0 0, erL a0 a1 a4 a5 a6 er]) ∧ Kept (fun _ => False) w w'
  | .ok d => ∃ a' c' D, e = .returned (.tuple #[.slice a' D.length c', .nilIface]) ∧ Bl w w' (.slice a' D.length c') D ∧ D.map (fun x => ((x.t : Int), x.B)) = d
theorem erD_is (a0 a1 a5 a6 : Addr) (er : Nat) : ∃ ad, erD a0 a1 a5 a6 er = .iface 103 (.pointer (some ad)) := by
  unfold erD erB errOf errV
  split
  · exact ⟨_, rfl⟩
  split
  · exact ⟨_, rfl⟩
  split <;> exact ⟨_, rfl⟩
theorem decR_cod {l : List Int} {e : Nat} (h : decR l = .error e) : e = 0 ∨ e = 1 ∨ e = 5 ∨ e = 6 := by
  unfold decR at h
  split at h
  · rename_i e' hr
    simp only [Except.error.injEq] at h
    subst h
    unfold bodyR at hr
    split at hr
    · cases hr; exact .inl rfl
    split at hr
    · cases hr; exact .inr (.inr (.inl rfl))
    split at hr
    · rename_i h2
      cases hr
      have := rdu_codes _ _ _ _ h2
      omega
    · split at hr
      · cases hr; exact .inl rfl
      · cases hr
  · split at h
    · cases h
    · cases h; exact .inr (.inr (.inr rfl))
theorem bytes_dropN {w : World} {b off : Nat} {l : List Int} (h : BytesAt w (some ⟨b, off, none⟩) l) (p : Nat) : BytesAt w (some ⟨b, off + p, none⟩) (l.drop p) := bytes_dropF h p
def bkv (x : BkD) : Int × List Int := ((x.t : Int), x.B)
set_option maxRecDepth 20000 in
set_option maxHeartbeats 8000000 in
theorem listed_any (l : List Int) (b off n c : Nat) (w : World) {a0 a1 a2 a3 a4 a5 a6 : Addr} (hn : n = l.length) (hB : BytesAt w (some ⟨b, off, none⟩) l) (hb : IsBytes l) (hc : n < c) (hl : n ≤ 1099511627776) (hT : TabAt w) (hE : Errs7 w a0 a1 a2 a3 a4 a5 a6) :
    Calls Tryd.prog 41 #[.slice (some ⟨b, off, none⟩) n c] w fun e w' => LstPost w a0 a1 a4 a5 a6 e w' (listR l) := by
  have LN : Hid (Calls Tryd.prog 52 #[.slice (some ⟨b, off, none⟩) n c] w fun e W' => e = .returned (leadV a0 a1 (rdu 0 0 (l.take 10))) ∧ Hid (Kept (fun _ => False) w W')) := by
    have r := lead_any l (some ⟨b, off, none⟩) c a0 a1 w hB hb (by omega) (by omega) hE.s0.var hE.s1.var
    rw [← hn] at r
    exact r
  have hrl := rdu_lt (l.take 10) 0 0
  have hrk := rdu_le (l.take 10) 0 0
  have htl : (l.take 10).length ≤ l.length ∧ (l.take 10).length ≤ 10 := by rw [List.length_take]; omega
  have hbt : ∀ x ∈ l.take 10, 0 ≤ x ∧ x ≤ 255 := fun x hx => hb x (List.mem_of_mem_take hx)
  cases hr : rdu 0 0 (l.take 10) with
  | error er =>
    have hL : listR l = .error er := by unfold listR; rw [hr]
    have he := rdu_codes _ _ _ _ hr
    rw [hL]
    rw [hr] at LN
    have e1 : leadV a0 a1 (.error er) = .tuple #[.int .u64 0, .int .i64 0, errOf a0 a1 er] := rfl
    have e2 : erL a0 a1 a4 a5 a6 er = errOf a0 a1 er := by rw [erL, if_neg (by omega), erD, if_neg (by omega), erB, if_neg (by omega)]
    have e3 : ∀ e w', LstPost w a0 a1 a4 a5 a6 e w' (.error er) = (e = .returned (.tuple #[.slice none 0 0, erL a0 a1 a4 a5 a6 er]) ∧ Kept (fun _ => False) w w') := fun _ _ => rfl
    simp only [e3]
    rw [e1] at LN
    rw [e2]
    obtain ⟨ad, had⟩ : ∃ ad, errOf a0 a1 er = .iface 103 (.pointer (some ad)) := by unfold errOf errV; split <;> exact ⟨_, rfl⟩
    rw [had] at LN ⊢
    clear hL e1 e2 e3 had he hr hrl hrk htl hbt hB hb hT hE hn
    go_enter Tryd.func41, Tryd.ntmps41
    go_wp2_with (go_at_call 52; refine LN.out.mono ?_; rintro e W2 ⟨rfl, K2⟩)
    go_ret2
    exact ⟨rfl, K2.out⟩
  | ok xk =>
    obtain ⟨x, k⟩ := xk
    have hx := hrl x k (by omega) (by decide) hbt hr
    have hk := hrk x k hr
    have hL : listR l = match lsR x (l.drop k) with
      | .error e => .error e
      | .ok (d, r) => if r = [] then .ok d else .error 4 := by
      unfold listR
      rw [hr]
      rfl
    rw [hr] at LN
    have e1 : leadV a0 a1 (.ok (x, k)) = .tuple #[.int .u64 x, .int .i64 k, .nilIface] := rfl
    rw [e1] at LN
    have hkn : k ≤ n := by omega
    have DC : Hid (∀ p, p ≤ n → ∀ W, Kept (fun _ => False) w W → Calls Tryd.prog 26 #[.slice (some ⟨b, off + p, none⟩) (n - p) (c - p)] W fun e W' => DecPost W a0 a1 a5 a6 e W' (decR (l.drop p))) := by
      intro p hp W q
      have hdl : (l.drop p).length = n - p := by rw [List.length_drop]; omega
      exact decode_any (l.drop p) (some ⟨b, off + p, none⟩) (n - p) (c - p) W hdl.symm (bytes_dropN (bytes_keptF hB q) p) (fun y hy => hb y (List.mem_of_mem_drop hy)) (by omega) (by omega) (hT.kept q) (hE.kept q)
    have hG4 : Hid (∀ W, Kept (fun _ => False) w W → W.cell? ⟨5, 0, none⟩ = some (.iface 103 (.pointer (some a4)))) := fun W q => q.cell hE.s4.var (fun f => f)
    have HPe : Hid (∀ er, (listR l = .error er) → ∀ w', Kept (fun _ => False) w w' → ∀ v, v = erL a0 a1 a4 a5 a6 er → LstPost w a0 a1 a4 a5 a6 (.returned (.tuple #[.slice none 0 0, v])) w' (listR l)) := by
      intro er h w' k v hv
      rw [h, hv]
      exact ⟨rfl, k⟩
    have HPk : Hid (∀ (D : List BkD) w' a' d c', listR l = .ok (D.map bkv) → d = D.length → Bl w w' (.slice a' d c') D → LstPost w a0 a1 a4 a5 a6 (.returned (.tuple #[.slice a' d c', .nilIface])) w' (listR l)) := by
      intro D w' a' d c' h hd hbl
      rw [h]
      subst hd
      exact ⟨a', c', D, rfl, hbl, rfl⟩
    have HL := hideC hL
    have hlen : Hid (∀ p, (l.drop p).length = n - p) := fun p => by rw [List.length_drop, hn]
    have HBB : Hid (IsBytes l) := hb
    have hx0 : (0 : Int) ≤ (x : Int) := by omega
    clear hL hr hrl hrk htl hbt hB hb hT hE hn e1
    go_enter Tryd.func41, Tryd.ntmps41
    go_wp2_with (go_at_call 52; refine LN.out.mono ?_; rintro e W2 ⟨rfl, K2⟩)
    go_loopw [5, 7] (fun at_ bl wr => ∃ (p d : Nat) (ab : Option Addr) (cb : Nat) (D : List BkD), p ≤ n ∧ d ≤ p ∧ d ≤ x ∧ at_ = .int .i64 p ∧ bl = .slice ab d cb ∧ Hid (d = D.length) ∧ Hid (Bl w wr (.slice ab d cb) D) ∧ Hid (lsR x (l.drop k) = lsA (D.map bkv) (lsR (x - d) (l.drop p)))) (fun at_ _ _ => n - (intOf at_).toNat)
    case atStart =>
      refine ⟨k, 0, none, 0, [], hkn, Nat.zero_le _, Nat.zero_le _, rfl, rfl, rfl, (bl_nil w).same K2.out, ?_⟩
      show lsR x (l.drop k) = lsA [] (lsR x (l.drop k))
      rw [lsA_nil]
    case round =>
      obtain ⟨p, d, ab, cb, D, hpn, hdp, hdx, rfl, rfl, HD, HQ, HS⟩ := hrel
      clear LN K2
      by_cases hlt : d < x
      · have DC2 := DC.out p hpn wr HQ.out.kept
        cases hd : decR (l.drop p) with
        | error er =>
          rw [hd] at DC2
          have hLe : listR l = .error er := by
            rw [HL.out, HS.out]
            obtain ⟨y, hy⟩ : ∃ y, x - d = y + 1 := ⟨x - d - 1, by omega⟩
            rw [hy, lsA_err hd]
          have he := decR_cod hd
          obtain ⟨ad, had⟩ := erD_is a0 a1 a5 a6 er
          have hfin := hideC (fun w' kw => HPe.out er hLe w' kw (.iface 103 (.pointer (some ad))) (by rw [erL, if_neg (by omega), had]))
          have DC3 : Hid (Calls Tryd.prog 26 #[.slice (some ⟨b, off + p, none⟩) (n - p) (c - p)] wr fun e W' => e = .returned (.tuple #[.agg #[.int .u8 0, .slice none 0 0], .int .i64 0, .iface 103 (.pointer (some ad))]) ∧ Hid (Kept (fun _ => False) w W')) := by
            refine Calls.mono DC2 ?_
            rintro e W' ⟨rfl, kk⟩
            rw [had]
            exact ⟨rfl, HQ.out.kept.trans kk (fun _ f => f.elim)⟩
          have i1 : (d : Int) < (x : Int) := by omega
          have i2 : (p : Int) ≤ (n : Int) := by omega
          have i3 : ¬ c = p := by omega
          have i4 : p ≤ c := by omega
          clear DC2 hLe he had hd HPe HPk HL DC HS HD HQ
          go_wp2_with (go_at_call 26; refine DC3.out.mono ?_; clear DC3; rintro e W4 ⟨rfl, K4⟩)
          go_ret2
          exact hfin.out _ (K4.out.trans (Kept.alloc _ _) (fun _ f => f.elim))
        | ok tbn =>
          obtain ⟨t, body, n1⟩ := tbn
          rw [hd] at DC2
          obtain ⟨⟨T, rfl, hT0, hT2⟩, hbb, hn6, hnl, hbl6⟩ := decR_ok (fun y hy => HBB.out y (List.mem_of_mem_drop hy)) hd
          rw [hlen.out] at hnl
          have hstep : Hid (lsR x (l.drop k) = lsA (D.map bkv ++ [((T : Int), body)]) (lsR (x - (d + 1)) (l.drop (p + n1)))) := by
            show lsR x (l.drop k) = _
            rw [HS.out]
            obtain ⟨y, hy⟩ : ∃ y, x - d = y + 1 := ⟨x - d - 1, by omega⟩
            rw [hy, lsA_step hd, List.drop_drop, show x - (d + 1) = y by omega]
          obtain ⟨nb, hnb⟩ : ∃ n, n = body.length := ⟨_, rfl⟩
          have DC3 : Hid (Calls Tryd.prog 26 #[.slice (some ⟨b, off + p, none⟩) (n - p) (c - p)] wr fun e W' => ∃ a' c', e = .returned (.tuple #[.agg #[.int .u8 T, .slice a' nb c'], .int .i64 n1, .nilIface]) ∧ Hid (OwnB wr W' (.slice a' nb c') body)) := by
            refine Calls.mono DC2 ?_
            rintro e W' ⟨a', c', rfl, ho⟩
            rw [hnb]
            exact ⟨a', c', rfl, ho⟩
          have HNB := hideC hnb
          have HBy : Hid (IsBytes body) := hbb
          have i1 : (d : Int) < (x : Int) := by omega
          have i2 : (p : Int) ≤ (n : Int) := by omega
          have i3 : ¬ c = p := by omega
          have i4 : p ≤ c := by omega
          clear DC2 hd HPe HPk HL DC HS hnb hbb hG4 HBB
          have AFT : Hid (∀ W a' c', OwnB wr W (.slice a' nb c') body → ∀ o : Obj, o = .cells #[.int .u8 T, .slice a' nb c'] 35 → Hid (((W.alloc o).alloc o).cell? ⟨W.heap.size + 1, 0, none⟩ = some (.int .u8 (BkD.mk T a' c' body).t) ∧ ((W.alloc o).alloc o).cell? ⟨W.heap.size + 1, 1, none⟩ = some (.slice (BkD.mk T a' c' body).a (BkD.mk T a' c' body).B.length (BkD.mk T a' c' body).c)) ∧ Hid (Bl w ((W.alloc o).alloc o) (.slice ab d cb) D) ∧ Hid ((BkD.mk T a' c' body).At ((W.alloc o).alloc o)) ∧ Hid ((BkD.mk T a' c' body).B ≠ [] → ∀ ad, (BkD.mk T a' c' body).a = some ad → (Value.slice ab d cb).ownBlock ≠ some ad.block)) := by
            intro W a' c' ho o e
            have hz := heap_alloc_new (W.alloc o) o
            have es : (W.alloc o).heap.size = W.heap.size + 1 := by simp
            rw [es] at hz
            have k2 : Kept (fun _ => False) W ((W.alloc o).alloc o) := (Kept.alloc W o).trans (Kept.alloc _ o) (fun _ f => f.elim)
            obtain ⟨a2, c2, e2, hb2, hz2⟩ := ho.at
            simp only [Value.slice.injEq] at e2
            obtain ⟨rfl, _, rfl⟩ := e2
            refine ⟨⟨?_, ?_⟩, (HQ.out.same ho.kept).same k2, ⟨hT2, bytes_keptF hb2 k2, HBy.out, hz2⟩, ?_⟩
            · have h0 := cell_of_row _ _ 0 _ _ _ (hz.trans (congrArg some e))
              exact h0
            · rw [← HNB.out]
              have h1 := cell_of_row _ _ 1 _ _ _ (hz.trans (congrArg some e))
              exact h1
            · intro hne ad had hown
              have h1 := (HQ.out.row.lt _ hown).2
              have hown2 : (Value.slice a' nb c').ownBlock = some ad.block := by
                have had : a' = some ad := had
                rw [had]; rfl
              have h2 := (ho.row.lt _ hown2).1
              omega
          have hDl : Hid (D.length ≤ 1099511627776) := by show D.length ≤ _; rw [← HD.out]; omega
          have hm : ∀ a' c', Hid (d + 1 = (D ++ [BkD.mk T a' c' body]).length) := fun a' c' => by show d + 1 = _; rw [List.length_append, ← HD.out]; rfl
          go_wp2_with (first
            | (go_at_call 26; refine DC3.out.mono ?_; clear DC3; rintro e W4 ⟨a4', c4', rfl, K4⟩; obtain ⟨A1, A2, A3, A4⟩ := AFT.out W4 a4' c4' K4.out _ rfl; clear AFT)
            | (at_builtin; refine wpList_apb rfl _ _ rfl _ D (BkD.mk T a4' c4' body) (d + 1) rfl _ 1 rfl A1 A2 A3 A4 hDl (hm _ _) ?_; clear A1 A2 A3 A4; intro g5 cap5 W5 K5))
          go_roundw
          case rel =>
            refine ⟨p + n1, d + 1, some ⟨g5, 0, none⟩, cap5, D ++ [BkD.mk T a4' c4' body], by omega, by omega, by omega, by go_num, rfl, hm _ _, K5, ?_⟩
            rw [List.map_append]
            exact hstep
          case measure => simp [intOf]; omega
      · have hdx' : d = x := by omega
        subst hdx'
        have hfin : listR l = if l.drop p = [] then .ok (D.map bkv) else .error 4 := by
          have e0 : lsA (D.map bkv) (lsR 0 (l.drop p)) = .ok (D.map bkv, l.drop p) := by simp [lsR, lsA]
          rw [HL.out, HS.out, Nat.sub_self, e0]
        have hlen2 := hlen.out p
        have i1 : ¬ ((d : Int) < (d : Int)) := by omega
        by_cases hpl : p < n
        · rw [if_neg (by intro e; rw [e] at hlen2; simp at hlen2; omega)] at hfin
          have hf := hideC (fun w' kw => HPe.out 4 hfin w' kw (.iface 103 (.pointer (some a4))) rfl)
          have G4 := hG4.out wr HQ.out.kept
          have i2 : (p : Int) < (n : Int) := by omega
          have KQ := hideC HQ.out.kept
          clear hfin HPe HPk HL DC HS HD HQ hG4 hlen hlen2
          go_wp2
          go_quiet (fail)
          go_wp2
          go_ret2
          exact hf.out _ (KQ.out.trans (Kept.drewN _ _) (fun _ f => f.elim))
        · rw [if_pos (List.length_eq_zero_iff.1 (by omega))] at hfin
          have hf := hideC (HPk.out D wr ab d cb hfin HD.out HQ.out)
          have i2 : ¬ ((p : Int) < (n : Int)) := by omega
          clear hfin HPe HPk HL DC HS HD HQ hG4 hlen hlen2
          go_wp2
          go_ret2
          exact hf.out
theorem prefix_any (l f : List Int) (b0 off : Nat) (b : Option Addr) (n c d : Nat) (w : World) (hn : n = l.length) (hl : BytesAt w (some ⟨b0, off, none⟩) l) (hf : BytesAt w b f) (h5 : f.length = 5) (hm : 5 ≤ n) (hc : n ≤ c) :
    Calls Tryd.prog 40 #[.slice (some ⟨b0, off, none⟩) n c, .slice b 5 d] w fun e w' => e = .returned (.bool (eqB (l.take 5) f)) ∧ w' = w := by
  have q := equal_any (l.take 5) f (some ⟨b0, off, none⟩) b c d w (bytes_take hl 5) hf
  rw [h5, show (l.take 5).length = 5 by rw [List.length_take]; omega] at q
  obtain ⟨t, ht⟩ : ∃ t, t = eqB (l.take 5) f := ⟨_, rfl⟩
  rw [← ht] at q ⊢
  have Q := hideC q
  have i1 : (5 : Int) ≤ (n : Int) := by omega
  have i2 : ¬ ((n : Int) < 5) := by omega
  have i3 : (5 : Int) ≤ (c : Int) := by omega
  have i4 : 5 ≤ c := by omega
  clear q ht hl hf h5 hn
  go_enter Tryd.func40, Tryd.ntmps40
  go_wp2_with (go_at_call 51; refine Q.out.mono ?_; rintro e w2 ⟨rfl, rfl⟩)
  go_ret
  exact ⟨by cases t <;> rfl, rfl⟩
set_option maxRecDepth 20000 in
set_option maxHeartbeats 4000000 in
theorem unpack_any (kind : Nat) (l : List Int) (a : Option Addr) (n c : Nat) (w : World) {a0 a1 a2 a3 a4 a5 a6 : Addr} (hk2 : kind < 256) (hn : n = l.length) (hB : BytesAt w a l) (hb : IsBytes l) (hc : n ≤ c) (hl : n ≤ 1099511627776) (hT : TabAt w) (hE : Errs7 w a0 a1 a2 a3 a4 a5 a6) :
    Calls Tryd.prog 19 #[.int .u8 kind, .slice a n c] w fun e w' => LstPost w a0 a1 a4 a5 a6 e w' (unpR kind l) := by
  by_cases h10 : n < 10
  · have hu : unpR kind l = .error 0 := by unfold unpR; rw [if_pos (by omega)]
    rw [hu]
    have HP : Hid (∀ w', Kept (fun _ => False) w w' → LstPost w a0 a1 a4 a5 a6 (.returned (.tuple #[.slice none 0 0, .iface 103 (.pointer (some a0))])) w' (.error 0)) := fun w' k => ⟨rfl, k⟩
    have g0 := hE.s0.var
    have i0 : (n : Int) < 10 := by omega
    clear hu hB hb hT hE hn
    go_enter Tryd.func19, Tryd.ntmps19
    go_wp2
    go_quiet (fail)
    go_wp2
    go_ret2
    exact HP.out _ (Kept.drewN _ _)
  by_cases hs : ¬ sealOk l
  · have hu : unpR kind l = .error 6 := by unfold unpR; rw [if_neg (by omega)]; exact if_pos hs
    rw [hu]
    exact (unpack_seal kind l a n c w hn (by omega) hB hb hc (by omega) hT hE hs).mono fun e w' q => ⟨q.1, q.2⟩
  have hs := Classical.not_not.1 hs
  obtain ⟨b, off, rfl, _⟩ := hB (by intro e; rw [e] at hn; simp at hn; omega)
  obtain ⟨m, hm⟩ : ∃ m, n = m + 4 := ⟨n - 4, by omega⟩
  have htl : (l.take m).length = m := by rw [List.length_take]; omega
  have hu0 : unpR kind l = if kind = 0 ∨ l.take 5 ≠ cncd kind then .error 5 else listR ((l.take (l.length - 4)).drop 5) := by
    unfold unpR
    rw [if_neg (by omega)]
    exact if_neg (Classical.not_not.2 hs)
  rw [show l.length - 4 = m by omega] at hu0
  have SL : Hid (Calls Tryd.prog 34 #[.slice (some ⟨b, off, none⟩) m c] w fun e W' => e = .returned (.int .u32 (sealed (l.take m) : Nat)) ∧ W' = w) := by
    have r := sealed_any (l.take m) (some ⟨b, off, none⟩) c w (bytes_take hB m) (fun x hx => hb x (List.mem_of_mem_take hx)) (by omega) hT
    rw [htl] at r
    exact r
  have EW : Hid (Calls Tryd.prog 39 #[.slice (some ⟨b, off, none⟩) n c, .int .u32 (sealed (l.take m) : Nat)] w fun e W' => e = .returned (.bool true) ∧ W'.cell? ⟨0, 0, none⟩ = some (.iface 103 (.pointer (some a5))) ∧ Hid (Kept (fun _ => False) w W')) := by
    have r := ends_any l (some ⟨b, off, none⟩) n c (sealed (l.take m)) w hn hB (sealed_lt _) (by omega) (by omega) (by omega)
    refine r.mono ?_
    rintro e W' ⟨rfl, k⟩
    refine ⟨?_, k.cell hE.s5.var (fun f => f), k⟩
    rw [str_beq (fun x hx => hb x (List.mem_of_mem_drop hx)) (le_bytes 4 _)]
    have hne : l.drop (l.length - 4) = le 4 (sealed (l.take m)) := by
      unfold sealOk at hs
      rw [show l.length - 4 = m by omega] at hs ⊢
      exact hs
    rw [decide_eq_true hne]
  have HD : Hid (∀ W, Hid (Kept (fun _ => False) w W) → Calls Tryd.prog 33 #[.int .u8 kind] W fun e W' => ∃ a1 c1, e = .returned (.slice a1 5 c1) ∧ Hid (BytesAt W' a1 (cncd kind) ∧ Kept (fun _ => False) w W')) := by
    intro W q
    refine (head_any kind W).mono ?_
    rintro e W' ⟨a1, c1, rfl, ho⟩
    obtain ⟨a2, c2, e2, hb2, hz2⟩ := ho.at
    simp only [Value.slice.injEq] at e2
    obtain ⟨rfl, _, rfl⟩ := e2
    exact ⟨a1, c1, rfl, hb2, q.out.trans ho.kept (fun _ f => f.elim)⟩
  have ht5 : (l.take m).take 5 = l.take 5 := by rw [List.take_take]; congr 1; omega
  have cb5 : IsBytes (cncd kind) := by
    intro x hx
    simp only [cncd, List.mem_cons, List.not_mem_nil, or_false] at hx
    rcases hx with rfl | rfl | rfl | rfl | rfl <;> omega
  have HX : Hid (∀ W a1 c1, Hid (BytesAt W a1 (cncd kind) ∧ Kept (fun _ => False) w W) → Calls Tryd.prog 40 #[.slice (some ⟨b, off, none⟩) m c, .slice a1 5 c1] W fun e W' => e = .returned (.bool (decide (l.take 5 = cncd kind))) ∧ W'.cell? ⟨0, 0, none⟩ = some (.iface 103 (.pointer (some a5))) ∧ Hid (Kept (fun _ => False) w W')) := by
    intro W a1 c1 q
    have r := prefix_any (l.take m) (cncd kind) b off a1 m c c1 W htl.symm (bytes_take (bytes_keptF hB q.out.2) m) q.out.1 rfl (by omega) (by omega)
    rw [ht5, str_beq (fun x hx => hb x (List.mem_of_mem_take hx)) cb5] at r
    refine r.mono ?_
    rintro e W' ⟨rfl, rfl⟩
    exact ⟨rfl, q.out.2.cell hE.s5.var (fun f => f), q.out.2⟩
  have LS : Hid (∀ W, Hid (Kept (fun _ => False) w W) → Calls Tryd.prog 41 #[.slice (some ⟨b, off + 5, none⟩) (m - 5) (c - 5)] W fun e W' => LstPost W a0 a1 a4 a5 a6 e W' (listR ((l.take m).drop 5))) := by
    intro W q
    refine listed_any ((l.take m).drop 5) b (off + 5) (m - 5) (c - 5) W (by rw [List.length_drop, htl]) (bytes_dropN (bytes_take (bytes_keptF hB q.out) m) 5) (fun x hx => hb x (List.mem_of_mem_take (List.mem_of_mem_drop hx))) (by omega) (by omega) (hT.kept q.out) (hE.kept q.out)
  obtain ⟨s, hs'⟩ : ∃ s, s = sealed (l.take m) := ⟨_, rfl⟩
  rw [← hs'] at SL EW
  have i0 : ¬ ((n : Int) < 10) := by omega
  have i1 : (n : Int) - 4 = (m : Int) := by omega
  have i2 : (m : Int) ≤ (c : Int) := by omega
  have i3 : m ≤ c := by omega
  by_cases hk0 : kind = 0
  · have hu : unpR kind l = .error 5 := by rw [hu0, if_pos (.inl hk0)]
    rw [hu]
    have HP : Hid (∀ w', Kept (fun _ => False) w w' → LstPost w a0 a1 a4 a5 a6 (.returned (.tuple #[.slice none 0 0, .iface 103 (.pointer (some a5))])) w' (.error 5)) := fun w' k => ⟨rfl, k⟩
    subst hk0
    have z0 : ((0 : Nat) : Int) = 0 := rfl
    rw [z0]
    clear hu hu0 hs hs' hB hb hT hE hn hm htl ht5 cb5 HX LS HD
    go_enter Tryd.func19, Tryd.ntmps19
    go_wp2_with (first | (go_at_call 34; refine SL.out.mono ?_; rintro e W2 ⟨rfl, e2⟩; subst e2) | (go_at_call 39; refine EW.out.mono ?_; rintro e W3 ⟨rfl, G3, K3⟩))
    go_quiet (fail)
    go_wp2
    go_ret2
    exact HP.out _ (K3.out.trans (Kept.drewN _ _) (fun _ f => f.elim))
  have hkI : (kind : Int) ≠ 0 := by omega
  by_cases hp : l.take 5 = cncd kind
  · have hu : unpR kind l = listR ((l.take m).drop 5) := by rw [hu0, if_neg (by rintro (e | e); exact hk0 e; exact e hp)]
    rw [hu]
    rw [decide_eq_true hp] at HX
    have LS2 : Hid (∀ W, Hid (Kept (fun _ => False) w W) → Calls Tryd.prog 41 #[.slice (some ⟨b, off + 5, none⟩) (m - 5) (c - 5)] W fun e W' => ∃ v1 v2, e = .returned (.tuple #[v1, v2]) ∧ Hid (LstPost w a0 a1 a4 a5 a6 (.returned (.tuple #[v1, v2])) W' (listR ((l.take m).drop 5)))) := by
      intro W q
      refine (LS.out W q).mono ?_
      intro e W' h
      cases hr : listR ((l.take m).drop 5) with
      | error er =>
        rw [hr] at h
        obtain ⟨rfl, k⟩ := h
        exact ⟨_, _, rfl, rfl, q.out.trans k (fun _ f => f.elim)⟩
      | ok d =>
        rw [hr] at h
        obtain ⟨a', c', D, rfl, hbl, hd⟩ := h
        exact ⟨_, _, rfl, a', c', D, rfl, hbl.from q.out, hd⟩
    have i5 : ¬ c = 5 := by omega
    have i6 : (5 : Int) ≤ (m : Int) := by omega
    have i7 : 5 ≤ m := by omega
    clear hu hu0 hs hs' hB hb hT hE hn hm htl ht5 cb5 LS hp
    go_enter Tryd.func19, Tryd.ntmps19
    go_wp2_with (first | (go_at_call 34; refine SL.out.mono ?_; rintro e W2 ⟨rfl, e2⟩; subst e2) | (go_at_call 39; refine EW.out.mono ?_; rintro e W3 ⟨rfl, G3, K3⟩) | (go_at_call 33; refine (HD.out W3 K3).mono ?_; rintro e W4 ⟨a4', c4', rfl, K4⟩) | (go_at_call 40; refine (HX.out W4 _ _ K4).mono ?_; rintro e W5 ⟨rfl, G5, K5⟩) | (go_at_call 41; refine (LS2.out W5 K5).mono ?_; rintro e W6 ⟨v1, v2, rfl, K6⟩))
    go_ret2
    exact K6.out
  · have hu : unpR kind l = .error 5 := by rw [hu0, if_pos (.inr hp)]
    rw [hu]
    have HP : Hid (∀ w', Kept (fun _ => False) w w' → LstPost w a0 a1 a4 a5 a6 (.returned (.tuple #[.slice none 0 0, .iface 103 (.pointer (some a5))])) w' (.error 5)) := fun w' k => ⟨rfl, k⟩
    rw [decide_eq_false hp] at HX
    clear hu hu0 hs hs' hB hb hT hE hn hm htl ht5 cb5 LS hp
    go_enter Tryd.func19, Tryd.ntmps19
    go_wp2_with (first | (go_at_call 34; refine SL.out.mono ?_; rintro e W2 ⟨rfl, e2⟩; subst e2) | (go_at_call 39; refine EW.out.mono ?_; rintro e W3 ⟨rfl, G3, K3⟩) | (go_at_call 33; refine (HD.out W3 K3).mono ?_; rintro e W4 ⟨a4', c4', rfl, K4⟩) | (go_at_call 40; refine (HX.out W4 _ _ K4).mono ?_; rintro e W5 ⟨rfl, G5, K5⟩))
    go_quiet (fail)
    go_wp2
    go_ret2
    exact HP.out _ (K5.out.trans (Kept.drewN _ _) (fun _ f => f.elim))
set_option maxRecDepth 20000 in
set_option maxHeartbeats 4000000 in
theorem same_true (A B : List BkD) (a b : Option Addr) (c d n m : Nat) (w : World) (hA : BksAt w a A) (hB : BksAt w b B) (eA : ∀ x ∈ A, x.At w) (eB : ∀ x ∈ B, x.At w) (he : A.map bkv = B.map bkv) (hn : n = A.length) (hm : m = B.length) (hl : n ≤ 1099511627776) :
    Calls Tryd.prog 13 #[.slice a n c, .slice b m d] w fun e w' => e = .returned (.bool true) ∧ Kept (fun _ => False) w w' := by
  have hnm : m = n := by
    have := congrArg List.length he
    rw [List.length_map, List.length_map] at this
    omega
  have hel : ∀ k (h1 : k < A.length) (h2 : k < B.length), (A[k]).t = (B[k]).t ∧ (A[k]).B = (B[k]).B := by
    intro k h1 h2
    have e : (A.map bkv)[k]'(by rw [List.length_map]; exact h1) = (B.map bkv)[k]'(by rw [List.length_map]; exact h2) := by simp only [he]
    rw [List.getElem_map, List.getElem_map] at e
    simp only [bkv, Prod.mk.injEq] at e
    exact ⟨by omega, e.2⟩
  subst hnm
  have HA := hideC hA
  have HB := hideC hB
  have EA := hideC eA
  have EB := hideC eB
  have HEL := hideC hel
  have HN := hideC hn
  have HM := hideC hm
  clear hA hB eA eB hel he hn hm
  go_enter Tryd.func13, Tryd.ntmps13
  go_wp2
  go_loopw [13] (fun i wr => ∃ k : Nat, k ≤ m ∧ i = .int .i64 k ∧ Hid (Kept (fun _ => False) w wr)) (fun i _ => m - (intOf i).toNat)
  case atStart => exact ⟨0, Nat.zero_le _, rfl, Kept.refl _ _⟩
  case round =>
    obtain ⟨k, hk, rfl, HK⟩ := hrel
    by_cases hlt : k < m
    · have hlA : k < A.length := by rw [← HN.out]; exact hlt
      have hlB : k < B.length := by rw [← HM.out]; exact hlt
      obtain ⟨b1, o1, rfl, hc1⟩ := HA.out (by intro e; rw [e] at hlA; simp at hlA)
      obtain ⟨b2, o2, rfl, hc2⟩ := HB.out (by intro e; rw [e] at hlB; simp at hlB)
      have h0 := HK.out.cell (hc1 k hlA).1 (fun f => f)
      have h1 := HK.out.cell (hc1 k hlA).2 (fun f => f)
      have g0 := HK.out.cell (hc2 k hlB).1 (fun f => f)
      have g1 := HK.out.cell (hc2 k hlB).2 (fun f => f)
      obtain ⟨q1, q2⟩ := HEL.out k hlA hlB
      have cvA : ∀ j, (convert 22 9 (.slice (A[k]).a (A[k]).B.length (A[k]).c)).run Tryd.prog (wr.drewN j) = .ok (.string (strOfNums (A[k]).B)) (wr.drewN j) := fun j => conv_atF (bytes_keptF ((EA.out _ (List.getElem_mem hlA)).kept HK.out).b (Kept.drewN wr j))
      have cvB : ∀ j, (convert 22 9 (.slice (B[k]).a (B[k]).B.length (B[k]).c)).run Tryd.prog (wr.drewN j) = .ok (.string (strOfNums (B[k]).B)) (wr.drewN j) := fun j => conv_atF (bytes_keptF ((EB.out _ (List.getElem_mem hlB)).kept HK.out).b (Kept.drewN wr j))
      rw [← q1] at g0
      rw [← q2] at g1 cvB
      generalize (A[k]).t = t at h0 g0
      generalize (A[k]).a = ax at h1 cvA
      generalize (A[k]).c = cx at h1 cvA
      generalize (B[k]).a = bx at g1 cvB
      generalize (B[k]).c = dx at g1 cvB
      generalize strOfNums (A[k]).B = st at cvA cvB
      generalize (A[k]).B.length = nx at h1 g1 cvA cvB
      have cvA1 : (convert 22 9 (.slice ax nx cx)).run Tryd.prog wr.drew = .ok (.string st) wr.drew := cvA 1
      have cvB1 : (convert 22 9 (.slice bx nx dx)).run Tryd.prog wr.drew = .ok (.string st) wr.drew := cvB 1
      have cvA0 : (convert 22 9 (.slice ax nx cx)).run Tryd.prog wr = .ok (.string st) wr := cvA 0
      have cvB0 : (convert 22 9 (.slice bx nx dx)).run Tryd.prog wr = .ok (.string st) wr := cvB 0
      have i1 : (k : Int) < (m : Int) := by omega
      clear q1 q2 hc1 hc2 HEL
      go_wp2
      go_quiet (fail)
      go_wp2
      go_roundw
      case rel => exact ⟨k + 1, by omega, by go_num, HK.out.trans (Kept.drewN _ _) (fun _ f => f.elim)⟩
      case measure => simp [intOf]; omega
    · have i1 : ¬ ((k : Int) < (m : Int)) := by omega
      go_wp2
      go_ret
      exact ⟨rfl, HK.out⟩
end Go.Proofs.YtehjbceknnopoaaDoor
