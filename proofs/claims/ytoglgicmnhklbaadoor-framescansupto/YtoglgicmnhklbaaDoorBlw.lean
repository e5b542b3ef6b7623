import Derived.Test.YtoglgicmnhklbaaDoorBls
import Derived.Deep.AppendLies
import Derived.BigQuiet
namespace Go.Proofs.YtoglgicmnhklbaaDoor
open Go.ChangeShapes Go.WideShapes Go.ChangeAt Go.RowKit

def rowsB (D : List BkD) : List Value := (D.map BkD.cells).flatten
theorem rowsB_snoc (l : List BkD) (o : BkD) : rowsB (l ++ [o]) = rowsB l ++ o.cells := by simp [rowsB]
theorem rowsB_length : ∀ l, (rowsB l).length = l.length * 2
  | [] => rfl
  | o :: l => by
    have h := rowsB_length l
    simp only [rowsB, List.map_cons, List.flatten_cons, List.length_append, BkD.cells_length, List.length_cons] at h ⊢
    omega
theorem rowsB_at : ∀ (l : List BkD) (k : Nat) (hk : k < l.length) (j : Nat), j < 2 → (rowsB l)[k * 2 + j]? = (l[k]).cells[j]?
  | o :: l, 0, _, j, hj => by
    simp only [rowsB, List.map_cons, List.flatten_cons]
    rw [List.getElem?_append_left (by rw [BkD.cells_length]; omega)]
    simp
  | o :: l, k + 1, hk, j, hj => by
    have h := rowsB_at l k (by simpa using hk) j hj
    simp only [rowsB, List.map_cons, List.flatten_cons] at h ⊢
    rw [List.getElem?_append_right (by rw [BkD.cells_length]; omega), BkD.cells_length, show (k + 1) * 2 + j - 2 = k * 2 + j by omega, h]
    simp
/-- A list of blocks in memory that is younger than w. -/
structure Bl (w W : World) (v : Value) (D : List BkD) : Prop where
  row : W.ownsRow w.heap.size 35 2 v D.length (rowsB D)
  each : ∀ x ∈ D, x.At W
  far : ∀ x ∈ D, x.B ≠ [] → ∀ ad, x.a = some ad → v.ownBlock ≠ some ad.block
  kept : Kept (fun _ => False) w W
theorem bl_nil (w : World) : Bl w w (.slice none 0 0) [] := ⟨⟨rfl, .inl ⟨rfl, rfl⟩⟩, fun x hx => (by cases hx), fun x hx => (by cases hx), Kept.refl _ _⟩
theorem Bl.same {w W W' : World} {v : Value} {D : List BkD} (h : Bl w W v D) (k : Kept (fun _ => False) W W') : Bl w W' v D :=
  ⟨k.row h.row (fun _ _ f => f), fun x hx => (h.each x hx).kept k, h.far, h.kept.trans k (fun _ f => f.elim)⟩
theorem Bl.from {w w1 W : World} {v : Value} {D : List BkD} (h : Bl w1 W v D) (k : Kept (fun _ => False) w w1) : Bl w W v D := by
  refine ⟨⟨h.row.1, ?_⟩, h.each, h.far, k.trans h.kept (fun _ f => f.elim)⟩
  rcases h.row.2 with e | ⟨g, cap, cur, e, hb, r⟩
  · exact .inl e
  · exact .inr ⟨g, cap, cur, e, Nat.le_trans k.size hb, r⟩
theorem Bl.at {w W : World} {v : Value} {D : List BkD} (h : Bl w W v D) : ∃ a c, v = .slice a D.length c ∧ BksAt W a D := by
  rcases h.row.2 with ⟨rfl, h0⟩ | ⟨g, cap, cur, rfl, hb, hg, hnc, _, hcs, ht⟩
  · exact ⟨none, 0, by rw [h0], fun hne => (hne (List.length_eq_zero_iff.1 h0)).elim⟩
  · refine ⟨_, _, rfl, fun _ => ⟨g, 0, rfl, fun k hk => ?_⟩⟩
    have key : ∀ j, j < 2 → W.cell? ⟨g, 0 + k * 2 + j, none⟩ = (D[k]).cells[j]? := by
      intro j hj
      have h1 : W.cell? ⟨g, 0 + k * 2 + j, none⟩ = cur[k * 2 + j]? := by
        rw [Nat.zero_add]
        exact cell_of_row W g _ cur _ _ hg
      rw [h1, ← rowsB_at D k hk j hj, ← ht, List.getElem?_take, if_pos (by omega), Array.getElem?_toList]
    exact ⟨key 0 (by omega), key 1 (by omega)⟩
theorem Tryd.infoBk : (Tryd.prog.info? 35).map (fun i => (i.zero, i.size, i.bytes)) = some (some (.agg #[.int .u8 0, .slice none 0 0]), 2, 32) := by kernel_rfl
/-- blocks = append(blocks, b), b lying at ad. -/
theorem wpList_apb {w W : World} {ops : Array Oper} {rest : List Oper} {o : Oper} {act : Act} {Q : Exit → Act → World → Prop} (hgd : o.guard = none) (s x : Operand)
    (ho : o.op = .call { callee := .builtin .append, args := #[s, x], argTypes := #[25, 25] })
    (v : Value) (D : List BkD) (b : BkD) (m : Nat) (hs : act.eval s = v) (g0 c : Nat) (hx : act.eval x = .slice (some ⟨g0, 0, none⟩) 1 c)
    (hcell : Hid (W.cell? ⟨g0, 0, none⟩ = some (.int .u8 b.t) ∧ W.cell? ⟨g0, 1, none⟩ = some (.slice b.a b.B.length b.c)))
    (hBl : Hid (Bl w W v D)) (hb : Hid (b.At W)) (hfar : Hid (b.B ≠ [] → ∀ ad, b.a = some ad → v.ownBlock ≠ some ad.block)) (hr : Hid (D.length ≤ 1099511627776)) (hm : Hid (m = (D ++ [b]).length))
    (h : ∀ g cap W', Hid (Bl w W' (.slice (some ⟨g, 0, none⟩) m cap) (D ++ [b])) → wpList Tryd.prog ops Q rest (act.put o.dst (.slice (some ⟨g, 0, none⟩) m cap)) W') : wpList Tryd.prog ops Q (o :: rest) act W := by
  obtain ⟨i0, hi, hz0, hz1, hz2⟩ := info_parts Tryd.infoBk
  have hrr := hr.out
  refine wpList_append_lies _ hgd s x 25 ho w.heap.size 35 i0 (.agg #[.int .u8 0, .slice none 0 0]) 2 32 Tryd.underlying25 hi hz0 hz1 hz2 rfl (by decide) v D.length (rowsB D) hs hBl.out.row ⟨g0, 0, none⟩ 1 c b.cells hx rfl ?_ ?_ (by decide) (by unfold maxLen; omega) (by omega) hBl.out.kept.size _ rfl ?_
  · intro j u hj
    match j, hj with
    | 0, hj => simp only [BkD.cells, List.getElem?_cons_zero, Option.some.injEq] at hj; subst hj; exact hcell.out.1
    | 1, hj => simp only [BkD.cells, List.getElem?_cons_succ, List.getElem?_cons_zero, Option.some.injEq] at hj; subst hj; exact hcell.out.2
  · intro u hu
    simp only [BkD.cells, List.mem_cons, List.not_mem_nil, or_false] at hu
    rcases hu with rfl | rfl <;> rfl
  · intro g cap W1 hown hgrow hat _
    have e : D.length + 1 = m := by rw [hm.out, List.length_append]; rfl
    rw [e]
    rw [e] at hown
    apply h
    have kg := Kept.grown hgrow
    have hk0 := hBl.out.kept
    have hlow : ∀ y : BkD, y.At W → (y.B ≠ [] → ∀ ad, y.a = some ad → v.ownBlock ≠ some ad.block) → y.At W1 ∧ (y.B ≠ [] → ∀ ad, y.a = some ad → (some g : Option Nat) ≠ some ad.block) := by
      intro y hy hf
      refine ⟨⟨hy.t2, ?_, hy.i, hy.z⟩, ?_⟩
      · intro hne
        obtain ⟨b', off', e', hc⟩ := hy.b hne
        exact ⟨b', off', e', fun k hk => kg.cell (hc k hk) (fun f => hf hne _ e' (by rw [f]))⟩
      · intro hne ad had hg
        have hlt := bytesAt_lt hy.b hne ad had
        have hg := Option.some.inj hg
        rcases hat with e1 | e1
        · exact hf hne ad had (by rw [e1, hg])
        · omega
    refine ⟨?_, fun y hy => ?_, fun y hy => ?_, hk0.trans kg (fun i hi => .inr (hBl.out.row.lt i hi).1)⟩
    · rw [← hm.out, rowsB_snoc]
      exact hown
    · rcases List.mem_append.1 hy with hy | hy
      · exact (hlow y (hBl.out.each y hy) (hBl.out.far y hy)).1
      · rw [List.mem_singleton] at hy; subst hy
        exact (hlow y hb.out hfar.out).1
    · rcases List.mem_append.1 hy with hy | hy
      · exact (hlow y (hBl.out.each y hy) (hBl.out.far y hy)).2
      · rw [List.mem_singleton] at hy; subst hy
        exact (hlow y hb.out hfar.out).2
theorem apb_after {w wr W : World} {ab : Option Addr} {d cb : Nat} {D : List BkD} {T nb : Nat} {a' : Option Addr} {c' : Nat} {body : List Int} (hQ : Bl w wr (.slice ab d cb) D) (hT2 : T < 256) (hBy : IsBytes body) (hNB : nb = body.length) (ho : OwnB wr W (.slice a' nb c') body) {o : Obj} (e : o = .cells #[.int .u8 T, .slice a' nb c'] 35) : Hid (((W.alloc o).alloc o).cell? ⟨W.heap.size + 1, 0, none⟩ = some (.int .u8 (BkD.mk T a' c' body).t) ∧ ((W.alloc o).alloc o).cell? ⟨W.heap.size + 1, 1, none⟩ = some (.slice (BkD.mk T a' c' body).a (BkD.mk T a' c' body).B.length (BkD.mk T a' c' body).c)) ∧ Hid (Bl w ((W.alloc o).alloc o) (.slice ab d cb) D) ∧ Hid ((BkD.mk T a' c' body).At ((W.alloc o).alloc o)) ∧ Hid ((BkD.mk T a' c' body).B ≠ [] → ∀ ad, (BkD.mk T a' c' body).a = some ad → (Value.slice ab d cb).ownBlock ≠ some ad.block) := by
  have hz := heap_alloc_new (W.alloc o) o
  have es : (W.alloc o).heap.size = W.heap.size + 1 := by simp
  rw [es] at hz
  have k2 : Kept (fun _ => False) W ((W.alloc o).alloc o) := (Kept.alloc W o).trans (Kept.alloc _ o) (fun _ f => f.elim)
  obtain ⟨a2, c2, e2, hb2, hz2⟩ := ho.at
  simp only [Value.slice.injEq] at e2
  obtain ⟨rfl, _, rfl⟩ := e2
  refine ⟨⟨?_, ?_⟩, (hQ.same ho.kept).same k2, ⟨hT2, bytes_keptF hb2 k2, hBy, hz2⟩, ?_⟩
  · have h0 := cell_of_row _ _ 0 _ _ _ (hz.trans (congrArg some e))
    exact h0
  · rw [← hNB]
    have h1 := cell_of_row _ _ 1 _ _ _ (hz.trans (congrArg some e))
    exact h1
  · intro hne ad had hown
    have h1 := (hQ.row.lt _ hown).2
    have hown2 : (Value.slice a' nb c').ownBlock = some ad.block := by
      have had : a' = some ad := had
      rw [had]; rfl
    have h2 := (ho.row.lt _ hown2).1
    omega
theorem decR_ok {l : List Int} {t : Int} {b : List Int} {n : Nat} (hb : IsBytes l) (h : decR l = .ok (t, b, n)) : (∃ T : Nat, t = T ∧ 0 < T ∧ T < 256) ∧ IsBytes b ∧ 6 ≤ n ∧ n ≤ l.length ∧ b.length + 6 ≤ n := by
  unfold decR at h
  split at h
  · cases h
  · rename_i p q hr
    split at h
    · obtain ⟨h0, h1, h2, h3, h4, x, k, h5, h6, h7⟩ := bodyR_ok hr
      simp only [Except.ok.injEq, Prod.mk.injEq] at h
      obtain ⟨rfl, rfl, rfl⟩ := h
      have hk := rdu_le _ _ _ _ _ h5
      obtain ⟨T, e1, e2, _⟩ := hb.at (List.length_pos_iff.2 h0)
      refine ⟨⟨T, e1, by rw [e1] at h1; omega, e2⟩, fun y hy => hb y (List.mem_of_mem_drop (List.mem_of_mem_take hy)), ?_, by omega, ?_⟩
      · omega
      · rw [List.length_take, List.length_drop]; omega
    · cases h
def erL (a0 a1 a4 a5 a6 : Addr) (e : Nat) : Value := if e = 4 then errV a4 else erD a0 a1 a5 a6 e
def LstPost (w : World) (a0 a1 a4 a5 a6 : Addr) (e : Ending) (w' : World) : Except Nat (List (Int × List Int)) → Prop
  | .error er => e = .returned (.tuple #[.slice none 0 0, erL a0 a1 a4 a5 a6 er]) ∧ Kept (fun _ => False) w w'
  | .ok d => ∃ a' c' D, e = .returned (.tuple #[.slice a' D.length c', .nilIface]) ∧ Bl w w' (.slice a' D.length c') D ∧ D.map (fun x => ((x.t : Int), x.B)) = d
theorem erD_is (a0 a1 a5 a6 : Addr) (er : Nat) : ∃ ad, erD a0 a1 a5 a6 er = .iface 98 (.pointer (some ad)) := by
  unfold erD erB errOf errV
  split
  · exact ⟨_, rfl⟩
  split
  · exact ⟨_, rfl⟩
  split <;> exact ⟨_, rfl⟩
theorem decR_cod {l : List Int} {e : Nat} (h : decR l = .error e) : e = 0 ∨ e = 1 ∨ e = 5 ∨ e = 6 := by
  unfold decR at h
  split at h
  · rename_i e' hr
    simp only [Except.error.injEq] at h
    subst h
    unfold bodyR at hr
    split at hr
    · cases hr; exact .inl rfl
    split at hr
    · cases hr; exact .inr (.inr (.inl rfl))
    split at hr
    · rename_i h2
      cases hr
      have := rdu_codes _ _ _ _ h2
      omega
    · split at hr
      · cases hr; exact .inl rfl
      · cases hr
  · split at h
    · cases h
    · cases h; exact .inr (.inr (.inr rfl))
theorem bytes_dropN {w : World} {b off : Nat} {l : List Int} (h : BytesAt w (some ⟨b, off, none⟩) l) (p : Nat) : BytesAt w (some ⟨b, off + p, none⟩) (l.drop p) := bytes_dropF h p
def bkv (x : BkD) : Int × List Int := ((x.t : Int), x.B)
set_option maxRecDepth 20000 in
set_option maxHeartbeats 4000000 in
theorem same_true (A B : List BkD) (a b : Option Addr) (c d n m : Nat) (w : World) (hA : BksAt w a A) (hB : BksAt w b B) (eA : ∀ x ∈ A, x.At w) (eB : ∀ x ∈ B, x.At w) (he : A.map bkv = B.map bkv) (hn : n = A.length) (hm : m = B.length) (hl : n ≤ 1099511627776) :
    Calls Tryd.prog 10 #[.slice a n c, .slice b m d] w fun e w' => e = .returned (.bool true) ∧ Kept (fun _ => False) w w' := by
  have hnm : m = n := by
    have := congrArg List.length he
    rw [List.length_map, List.length_map] at this
    omega
  have hel : ∀ k (h1 : k < A.length) (h2 : k < B.length), (A[k]).t = (B[k]).t ∧ (A[k]).B = (B[k]).B := by
    intro k h1 h2
    have e : (A.map bkv)[k]'(by rw [List.length_map]; exact h1) = (B.map bkv)[k]'(by rw [List.length_map]; exact h2) := by simp only [he]
    rw [List.getElem_map, List.getElem_map] at e
    simp only [bkv, Prod.mk.injEq] at e
    exact ⟨by omega, e.2⟩
  subst hnm
  have HA := hideC hA
  have HB := hideC hB
  have EA := hideC eA
  have EB := hideC eB
  have HEL := hideC hel
  have HN := hideC hn
  have HM := hideC hm
  clear hA hB eA eB hel he hn hm
  go_enter Tryd.func10, Tryd.ntmps10
  go_wp2
  go_loopw [13] (fun i wr => ∃ k : Nat, k ≤ m ∧ i = .int .i64 k ∧ Hid (Kept (fun _ => False) w wr)) (fun i _ => m - (intOf i).toNat)
  case atStart => exact ⟨0, Nat.zero_le _, rfl, Kept.refl _ _⟩
  case round =>
    obtain ⟨k, hk, rfl, HK⟩ := hrel
    by_cases hlt : k < m
    · have hlA : k < A.length := by rw [← HN.out]; exact hlt
      have hlB : k < B.length := by rw [← HM.out]; exact hlt
      obtain ⟨b1, o1, rfl, hc1⟩ := HA.out (by intro e; rw [e] at hlA; simp at hlA)
      obtain ⟨b2, o2, rfl, hc2⟩ := HB.out (by intro e; rw [e] at hlB; simp at hlB)
      have h0 := HK.out.cell (hc1 k hlA).1 (fun f => f)
      have h1 := HK.out.cell (hc1 k hlA).2 (fun f => f)
      have g0 := HK.out.cell (hc2 k hlB).1 (fun f => f)
      have g1 := HK.out.cell (hc2 k hlB).2 (fun f => f)
      obtain ⟨q1, q2⟩ := HEL.out k hlA hlB
      have cvA : ∀ j, (convert 22 9 (.slice (A[k]).a (A[k]).B.length (A[k]).c)).run Tryd.prog (wr.drewN j) = .ok (.string (strOfNums (A[k]).B)) (wr.drewN j) := fun j => conv_atF (bytes_keptF ((EA.out _ (List.getElem_mem hlA)).kept HK.out).b (Kept.drewN wr j))
      have cvB : ∀ j, (convert 22 9 (.slice (B[k]).a (B[k]).B.length (B[k]).c)).run Tryd.prog (wr.drewN j) = .ok (.string (strOfNums (B[k]).B)) (wr.drewN j) := fun j => conv_atF (bytes_keptF ((EB.out _ (List.getElem_mem hlB)).kept HK.out).b (Kept.drewN wr j))
      rw [← q1] at g0
      rw [← q2] at g1 cvB
      generalize (A[k]).t = t at h0 g0
      generalize (A[k]).a = ax at h1 cvA
      generalize (A[k]).c = cx at h1 cvA
      generalize (B[k]).a = bx at g1 cvB
      generalize (B[k]).c = dx at g1 cvB
      generalize strOfNums (A[k]).B = st at cvA cvB
      generalize (A[k]).B.length = nx at h1 g1 cvA cvB
      have cvA1 : (convert 22 9 (.slice ax nx cx)).run Tryd.prog wr.drew = .ok (.string st) wr.drew := cvA 1
      have cvB1 : (convert 22 9 (.slice bx nx dx)).run Tryd.prog wr.drew = .ok (.string st) wr.drew := cvB 1
      have cvA0 : (convert 22 9 (.slice ax nx cx)).run Tryd.prog wr = .ok (.string st) wr := cvA 0
      have cvB0 : (convert 22 9 (.slice bx nx dx)).run Tryd.prog wr = .ok (.string st) wr := cvB 0
      have i1 : (k : Int) < (m : Int) := by omega
      clear q1 q2 hc1 hc2 HEL
      go_wp2
      go_quiet (fail)
      go_wp2
      go_roundw
      case rel => exact ⟨k + 1, by omega, by go_num, HK.out.trans (Kept.drewN _ _) (fun _ f => f.elim)⟩
      case measure => simp [intOf]; omega
    · have i1 : ¬ ((k : Int) < (m : Int)) := by omega
      go_wp2
      go_ret
      exact ⟨rfl, HK.out⟩
end Go.Proofs.YtoglgicmnhklbaaDoor
