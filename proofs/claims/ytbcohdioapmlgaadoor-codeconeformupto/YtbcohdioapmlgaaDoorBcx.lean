import Derived.Test.YtbcohdioapmlgaaDoorOpn
import Derived.Test.YtbcohdioapmlgaaDoorLive
namespace Go.Proofs.YtbcohdioapmlgaaDoor
open Go.ChangeShapes Go.WideShapes Go.ChangeAt Go.RowKit

/-- An Op, as it lies. -/
structure OpD where
  kd : Int
  sec : Bool
  nn : Int
  U : Nat
  ii : Int
  ba : Option Addr
  bc : Nat
  B : List Int
  s : ByteArray
  la : Option Addr
  lc : Nat
  L : List Int
def OpD.cells (o : OpD) : List Value := opRow o.kd o.sec o.nn o.U o.ii o.ba o.B.length o.bc o.s o.la o.L.length o.lc
def OpD.out (o : OpD) : Bool × List Int := opOut o.kd o.nn o.ii o.U o.B o.s o.L
def OpD.size (o : OpD) : Nat := o.B.length + o.s.size + o.L.length + 1
structure OpD.At (w : World) (o : OpD) : Prop where
  op : OpAt w o.ii o.U o.ba o.bc o.B o.s o.la o.L
  n0 : -9223372036854775808 ≤ o.nn
  n1 : o.nn ≤ 9223372036854775807
theorem OpD.cells_length (o : OpD) : o.cells.length = 8 := rfl
def total : List OpD → Nat
  | [] => 0
  | o :: r => o.size + total r
theorem total_append : ∀ a b, total (a ++ b) = total a + total b
  | [], b => by simp [total]
  | o :: r, b => by simp only [List.cons_append, total, total_append r b]; omega
theorem total_count : ∀ l, l.length ≤ total l
  | [] => Nat.le_refl _
  | o :: r => by have := total_count r; simp only [total, OpD.size, List.length_cons]; omega
/-- Where the Ops of a list lie. -/
def OpsAt (w : World) (a : Option Addr) (S : List OpD) : Prop :=
  S ≠ [] → ∃ b off, a = some ⟨b, off, none⟩ ∧ ∀ k (h : k < S.length) j, j < 8 → w.cell? ⟨b, off + (k * 8 + j), none⟩ = (S[k]).cells[j]?
theorem choose_list {α : Type} {P : Nat → α → Prop} : ∀ n, (∀ i, i < n → ∃ a, P i a) → ∃ l : List α, l.length = n ∧ ∀ i (h : i < l.length), P i l[i]
  | 0, _ => ⟨[], rfl, fun i h => by simp at h⟩
  | n + 1, h => by
    obtain ⟨l, hl, hp⟩ := choose_list n (fun i hi => h i (by omega))
    obtain ⟨a, ha⟩ := h n (by omega)
    refine ⟨l ++ [a], by simp [hl], fun i hi => ?_⟩
    by_cases hn : i < l.length
    · rw [List.getElem_append_left hn]
      exact hp i hn
    · have : i = l.length := by simp at hi; omega
      subst this
      rw [List.getElem_append_right (by omega)]
      simp only [Nat.sub_self, List.getElem_cons_zero, hl]
      exact ha
theorem total_le {H : Type} : ∀ (S : List OpD) (ds : List (DataW H)), S.length = ds.length → (∀ i (h : i < S.length) (h' : i < ds.length), (S[i]).size ≤ Rows.uptoBulk ds[i]) → total S ≤ Rows.uptoBulkAll ds
  | [], ds, _, _ => Nat.zero_le _
  | o :: r, [], h, _ => by simp at h
  | o :: r, d :: ds, h, hp => by
    have h0 : o.size ≤ Rows.uptoBulk d := hp 0 (by simp) (by simp)
    have h1 := total_le r ds (by simpa using h) (fun i hi hi' => hp (i + 1) (by simp; omega) (by simp; omega))
    simp only [total, Rows.uptoBulkAll]
    omega
theorem bulkAll_append {H : Type} : ∀ a b : List (DataW H), Rows.uptoBulkAll (a ++ b) = Rows.uptoBulkAll a + Rows.uptoBulkAll b
  | [], b => by simp [Rows.uptoBulkAll]
  | x :: a, b => by simp only [List.cons_append, Rows.uptoBulkAll, bulkAll_append a b]; omega
theorem cells_each {w : World} {base : Nat} {a : Addr} {n : Nat} {cs : List Value} (h : w.cells? base a n = some cs) : cs.length = n ∧ ∀ j, j < n → w.cell? (a.add j) = cs[j]? := (World.cells?_some h).2
/-- A script that came in. -/
theorem ops_of {H : Type} {enc : TypeId × Value → H} {W : World} {fuel : Nat} {cs : List Value} {x : DataW H × List MemPlace} (hf : DataW.trod enc Tryd.prog W 0 (fun _ => true) true fuel 23 cs = some x) (hk : Rows.uptoBulk x.1 ≤ 1073741824) :
    ∃ (a : Option Addr) (c : Nat) (S : List OpD), cs = [.slice a S.length c] ∧ OpsAt W a S ∧ (∀ o ∈ S, o.At W) ∧ total S < Rows.uptoBulk x.1 := by
  rcases DataW.trod_slice Tryd.underlying23 hf with ⟨rfl, rfl⟩ | ⟨a, len, cap, elems, rest, n, _, rfl, rfl, _, hl, hm, hlen, hel, _, _⟩
  · exact ⟨none, 0, [], rfl, fun e => (e rfl).elim, fun y hy => (by cases hy), bulk_pos _⟩
  obtain ⟨-, -, -, -, -, -, -, -, c9⟩ := Tryd.c1
  rw [c9] at hel
  have hbk : Rows.uptoBulk (DataW.slice (H := H) (elems.map (·.1)) (rest.map (·.1))) = Rows.uptoBulkAll (elems.map (·.1)) + Rows.uptoBulkAll (rest.map (·.1)) + 1 := by simp only [Rows.uptoBulk]
  have each : ∀ i, i < len → ∃ o : OpD, (∀ j, j < 8 → W.cell? ((a.add (i * 8)).add j) = o.cells[j]?) ∧ o.At W ∧ ∀ (h : i < elems.length), o.size ≤ Rows.uptoBulk (elems[i]).1 := by
    intro i hi
    have h := hel i hi
    rw [List.getElem?_eq_getElem (by omega), Option.bind_eq_some_iff] at h
    obtain ⟨cs8, h1, h2⟩ := h
    obtain ⟨_, h3⟩ := cells_each h1
    have hle : Rows.uptoBulk (elems[i]'(by omega)).1 ≤ Rows.uptoBulkAll (elems.map (·.1)) := bulk_mem (List.mem_map_of_mem (List.getElem_mem _))
    have hk' : Rows.uptoBulk (DataW.slice (H := H) (elems.map (·.1)) (rest.map (·.1))) ≤ 1073741824 := hk
    obtain ⟨kd, sec, nn, U, ii, ba, bc, B, s, la, lc, L, rfl, ho, hn, hsz⟩ := op_of h2 (by omega)
    exact ⟨⟨kd, sec, nn, U, ii, ba, bc, B, s, la, lc, L⟩, h3, ⟨ho, hn.1, hn.2⟩, fun _ => by simp only [OpD.size]; omega⟩
  obtain ⟨S, hS, hp⟩ := choose_list len each
  refine ⟨some a, cap, S, by rw [hS], fun hne => ?_, fun o ho => ?_, ?_⟩
  · have hp0 : 0 < S.length := List.length_pos_iff.2 hne
    obtain ⟨b, off, spot⟩ := a
    have h00 := (hp 0 hp0).1 0 (by omega)
    have hspot : spot = none := by
      have e : (S[0]).cells[0]? = some (.int .i64 (S[0]).kd) := rfl
      rw [e] at h00
      simpa [Addr.add] using World.cell?_spot h00
    subst hspot
    refine ⟨b, off, rfl, fun k hk j hj => ?_⟩
    have := (hp k hk).1 j hj
    rwa [Go.WideShapes.add_plain, Go.WideShapes.add_plain, Nat.add_assoc] at this
  · obtain ⟨i, hi, rfl⟩ := List.mem_iff_getElem.1 ho
    exact (hp i hi).2.1
  · have h1 := total_le S (elems.map (·.1)) (by rw [List.length_map]; omega) (fun i hi hi' => by
      rw [List.getElem_map]
      exact (hp i hi).2.2 (by omega))
    show total S < Rows.uptoBulk (DataW.slice (H := H) (elems.map (·.1)) (rest.map (·.1)))
    omega
/-- The bytes that a script puts, and the Ops that are taken. -/
def outs (l : List OpD) : List Int := (l.map fun o => o.out.2).flatten
def puts (l : List OpD) : List OpD := l.filter fun o => o.out.1
def rows (l : List OpD) : List Value := (l.map OpD.cells).flatten
theorem outs_snoc (l : List OpD) (o : OpD) : outs (l ++ [o]) = outs l ++ o.out.2 := by simp [outs]
theorem outs_append (l m : List OpD) : outs (l ++ m) = outs l ++ outs m := by simp [outs]
theorem outs_cons (o : OpD) (l : List OpD) : outs (o :: l) = o.out.2 ++ outs l := by simp [outs]
theorem puts_snoc_t {l : List OpD} {o : OpD} (h : o.out.1 = true) : puts (l ++ [o]) = puts l ++ [o] := by simp [puts, h]
theorem puts_snoc_f {l : List OpD} {o : OpD} (h : o.out.1 = false) : puts (l ++ [o]) = puts l := by simp [puts, h]
theorem rows_snoc (l : List OpD) (o : OpD) : rows (l ++ [o]) = rows l ++ o.cells := by simp [rows]
theorem rows_length : ∀ l, (rows l).length = l.length * 8
  | [] => rfl
  | o :: l => by
    have h := rows_length l
    simp only [rows, List.map_cons, List.flatten_cons, List.length_append, OpD.cells_length, List.length_cons] at h ⊢
    omega
theorem rows_at : ∀ (l : List OpD) (k : Nat) (hk : k < l.length) (j : Nat), j < 8 → (rows l)[k * 8 + j]? = (l[k]).cells[j]?
  | o :: l, 0, _, j, hj => by
    simp only [rows, List.map_cons, List.flatten_cons]
    rw [List.getElem?_append_left (by rw [OpD.cells_length]; omega)]
    simp
  | o :: l, k + 1, hk, j, hj => by
    have h := rows_at l k (by simpa using hk) j hj
    simp only [rows, List.map_cons, List.flatten_cons] at h ⊢
    rw [List.getElem?_append_right (by rw [OpD.cells_length]; omega), OpD.cells_length, show (k + 1) * 8 + j - 8 = k * 8 + j by omega, h]
    simp
theorem puts_le (l : List OpD) : (puts l).length ≤ l.length := List.length_filter_le _ _
theorem opOut_none {kd nn ii : Int} {U : Nat} {B : List Int} {s : ByteArray} {L : List Int} (h : (opOut kd nn ii U B s L).1 = false) : (opOut kd nn ii U B s L).2 = [] := by
  have key : ∀ (c : Prop) [Decidable c] (p q : Bool × List Int), (p.1 = false → p.2 = []) → (q.1 = false → q.2 = []) → ((if c then p else q).1 = false → (if c then p else q).2 = []) := by
    intro c _ p q hp hq
    by_cases hc : c
    · rw [if_pos hc]; exact hp
    · rw [if_neg hc]; exact hq
  have hm : ∀ (b : Bool) (y : List Int), b = false → (if b = true then y else []) = [] := by intro b y hb; rw [hb]; rfl
  revert h
  unfold opOut
  refine key _ _ _ (fun e => by cases e) (key _ _ _ (fun e => by cases e) (key _ _ _ (fun e => by cases e) (key _ _ _ (fun e => by cases e) (key _ _ _ (fun e => by cases e) (key _ _ _ (fun e => by cases e) (key _ _ _ (fun e => by cases e) (key _ _ _ (hm _ _) (key _ _ _ (hm _ _) (key _ _ _ (fun e => by cases e) (fun _ => rfl))))))))))
theorem outs_puts (l : List OpD) : outs (puts l) = outs l := by
  induction l with
  | nil => rfl
  | cons o l ih =>
    cases h : o.out.1 with
    | true =>
      have e : puts (o :: l) = o :: puts l := by simp [puts, h]
      rw [e, outs_cons, outs_cons, ih]
    | false =>
      have e : puts (o :: l) = puts l := by simp [puts, h]
      rw [e, outs_cons, ih, show o.out.2 = [] from opOut_none h, List.nil_append]
theorem out_small {w : World} {o : OpD} (h : o.At w) : o.out.2.length ≤ 32 * o.size := by
  obtain ⟨kd, sec, nn, U, ii, ba, bc, B, s, la, lc, L⟩ := o
  have h := h.op
  simp only at h
  have hz := zig_bd ii h.i0 h.i1
  have h1 := uvb_len U h.u
  have h2 := uvb_len (zig ii).toNat (by omega)
  have h3 := uvb_len s.size (by have := h.ns; omega)
  have h4 := uvb_len L.length (by have := h.nl; omega)
  have hA : (rising L).length ≤ 10 + 10 * L.length := by
    have := risb_length L 0 (fun x hx => (h.li x hx).2)
    rw [rising, List.length_append]
    omega
  have hP : mayB 9 L = true → (packed L).length ≤ 12 + 8 * L.length := by
    intro hm
    have hw := orl_bits L (mayB_nonneg hm) h.li
    have hmul : L.length * bitLen (orl L) ≤ L.length * 63 := Nat.mul_le_mul_left _ hw
    rw [uvb_length] at h4
    have e := packed_length L
    split at e <;> omega
  have z0 : ([] : List Int).length = 0 := rfl
  have z1 : [nn % 256].length = 1 := rfl
  have z4 := le_length 4 (U % 4294967296)
  have z8 := le_length 8 U
  have zs : (uvb s.size ++ sb s).length = (uvb s.size).length + s.size := by rw [List.length_append, sb_length]
  have ha : (if mayB 8 L = true then rising L else []).length ≤ 10 + 10 * L.length := by
    by_cases hm : mayB 8 L = true
    · rw [if_pos hm]; exact hA
    · rw [if_neg hm]; omega
  have hp : (if mayB 9 L = true then packed L else []).length ≤ 12 + 8 * L.length := by
    by_cases hm : mayB 9 L = true
    · rw [if_pos hm]; exact hP hm
    · rw [if_neg hm]; omega
  obtain ⟨N, hN⟩ : ∃ N, N = 32 * (B.length + s.size + L.length + 1) := ⟨_, rfl⟩
  have key : ∀ (c : Prop) [Decidable c] (p q : Bool × List Int), p.2.length ≤ N → q.2.length ≤ N → (if c then p else q).2.length ≤ N := by
    intro c _ p q hp hq
    by_cases hc : c
    · rw [if_pos hc]; exact hp
    · rw [if_neg hc]; exact hq
  show (opOut kd nn ii U B s L).2.length ≤ 32 * (B.length + s.size + L.length + 1)
  rw [← hN]
  unfold opOut
  refine key _ _ _ (by rw [z1]; omega) (key _ _ _ (by show (uvb U).length ≤ _; omega) (key _ _ _ (by show (uvb (zig ii).toNat).length ≤ _; omega) (key _ _ _ (by show (le 4 _).length ≤ _; omega) (key _ _ _ (by show (le 8 _).length ≤ _; omega) (key _ _ _ (by show B.length ≤ _; omega) (key _ _ _ (by show (uvb s.size ++ sb s).length ≤ _; omega) (key _ _ _ (by show (if mayB 8 L = true then rising L else []).length ≤ _; omega) (key _ _ _ (by show (if mayB 9 L = true then packed L else []).length ≤ _; omega) (key _ _ _ (by show (uvb U).length ≤ _; omega) (by show ([] : List Int).length ≤ _; omega))))))))))
theorem outs_small {w : World} : ∀ (l : List OpD), (∀ o ∈ l, o.At w) → (outs l).length ≤ 32 * total l
  | [], _ => by simp [outs, total]
  | o :: l, h => by
    have h1 := out_small (h o List.mem_cons_self)
    have h2 := outs_small l (fun x hx => h x (List.mem_cons_of_mem _ hx))
    rw [outs_cons, List.length_append]
    simp only [total]
    omega
theorem outs_bytes {w : World} : ∀ (l : List OpD), (∀ o ∈ l, o.At w) → IsBytes (outs l)
  | [], _ => by intro x hx; simp [outs] at hx
  | o :: l, h => by
    intro x hx
    rw [outs_cons, List.mem_append] at hx
    rcases hx with hx | hx
    · exact out_bytes (h o List.mem_cons_self).op x hx
    · exact outs_bytes l (fun x hx => h x (List.mem_cons_of_mem _ hx)) x hx
/-- The Writer and the list of what was taken, both the call's own. -/
structure Bd (w W : World) (bw : Nat) (v pv : Value) (ys : List Int) (ps : List OpD) : Prop where
  wr : Wr W bw v ys
  new : w.heap.size ≤ bw
  own : ∀ k, v.ownBlock = some k → w.heap.size ≤ k
  put : W.ownsRow w.heap.size 30 8 pv ps.length (rows ps)
  far : ∀ g, pv.ownBlock = some g → g ≠ bw ∧ v.ownBlock ≠ some g
  kept : Kept (fun _ => False) w W
theorem Bd.lt {w W : World} {bw : Nat} {v pv : Value} {ys : List Int} {ps : List OpD} (h : Bd w W bw v pv ys ps) {g : Nat} (hg : pv.ownBlock = some g) : w.heap.size ≤ g ∧ g < W.heap.size := by
  rcases h.put.2 with ⟨e, _⟩ | ⟨g', cap, cur, e, hb, hgg, _⟩
  · rw [e] at hg; simp [Value.ownBlock] at hg
  · rw [e] at hg
    simp only [Value.ownBlock, Option.some.injEq] at hg
    subst hg
    exact ⟨hb, lt_of_block hgg⟩
theorem Bd.same {w W W' : World} {bw : Nat} {v pv : Value} {ys : List Int} {ps : List OpD} (h : Bd w W bw v pv ys ps) (k : Kept (fun _ => False) W W') : Bd w W' bw v pv ys ps :=
  ⟨h.wr.kept k (fun _ _ f => f), h.new, h.own, k.row h.put (fun _ _ f => f), h.far, h.kept.trans k (fun _ f => f.elim)⟩
theorem Bd.write {w W W' : World} {bw : Nat} {v v' pv : Value} {ys zs : List Int} {ps : List OpD} (h : Bd w W bw v pv ys ps) (h1 : Wr W' bw v' zs) (h2 : WStep W W' bw v v') : Bd w W' bw v' pv zs ps := by
  refine ⟨h1, h.new, fun k hk => ?_, h2.kept.row h.put (fun g hg => ?_), fun g hg => ⟨(h.far g hg).1, fun e => ?_⟩, h.kept.trans h2.kept ?_⟩
  · rcases h2.new k hk with e | e
    · exact h.own k e
    · exact Nat.le_trans h.kept.size e
  · rintro (e | e)
    · exact (h.far g hg).1 e
    · exact (h.far g hg).2 e
  · rcases h2.new g e with e | e
    · exact (h.far g hg).2 e
    · have := (h.lt hg).2
      omega
  · rintro i (e | e)
    · subst e; exact .inr h.new
    · exact .inr (h.own i e)
theorem Bd.app {w W W0 W' : World} {bw : Nat} {v pv pv' : Value} {ys : List Int} {ps qs : List OpD} {g : Nat} (h : Bd w W bw v pv ys ps) (k : Kept (fun _ => False) W W0) (h1 : W'.ownsRow w.heap.size 30 8 pv' qs.length (rows qs)) (h2 : W0.grownBy W' pv.ownBlock) (h3 : pv'.ownBlock = some g) (h4 : pv.ownBlock = some g ∨ g = W0.heap.size) : Bd w W' bw v pv' ys qs := by
  have h0 := h.same k
  have kg := Kept.grown h2
  refine ⟨h0.wr.kept kg ?_, h.new, h.own, h1, fun g' hg' => ?_, h0.kept.trans kg (fun i hi => .inr (h0.lt hi).1)⟩
  · rintro i (e | e) f
    · subst e; exact (h.far i f).1 rfl
    · exact (h.far i f).2 e
  · rw [h3] at hg'
    obtain rfl := Option.some.inj hg'
    rcases h4 with e | e
    · exact h.far g e
    · subst e
      refine ⟨fun e => ?_, fun e => ?_⟩
      · have := h0.wr.lt
        omega
      · have := (h0.wr.own.lt _ e).2
        omega
/-- Where the list of what was taken lies. -/
theorem ops_of_own {W : World} {base : Nat} {pv : Value} {ps : List OpD} (h : W.ownsRow base 30 8 pv ps.length (rows ps)) : ∃ a c, pv = .slice a ps.length c ∧ OpsAt W a ps ∧ (∀ ad, a = some ad → base ≤ ad.block ∧ ad.block < W.heap.size) := by
  rcases h.2 with ⟨rfl, h0⟩ | ⟨g, cap, cur, rfl, hb, hg, hnc, _, hcs, ht⟩
  · exact ⟨none, 0, by rw [h0], fun hne => (hne (List.length_eq_zero_iff.1 h0)).elim, fun ad e => by cases e⟩
  · refine ⟨_, _, rfl, fun _ => ⟨g, 0, rfl, fun k hk j hj => ?_⟩, fun ad e => ?_⟩
    · have h1 : W.cell? ⟨g, 0 + (k * 8 + j), none⟩ = cur[k * 8 + j]? := by
        rw [Nat.zero_add]
        exact cell_of_row W g _ cur _ _ hg
      rw [h1, ← rows_at ps k hk j hj, ← ht, List.getElem?_take, if_pos (by omega), Array.getElem?_toList]
    · obtain rfl := Option.some.inj e
      exact ⟨hb, lt_of_block hg⟩
theorem cells_one (o : OpD) : ∀ u ∈ o.cells, u.oneCell' = true := by
  intro u hu
  simp only [OpD.cells, opRow, List.mem_cons, List.not_mem_nil, or_false] at hu
  rcases hu with rfl | rfl | rfl | rfl | rfl | rfl | rfl | rfl <;> rfl
theorem OpD.At.kept {F : Nat → Prop} {w w' : World} {o : OpD} (h : o.At w) (k : Kept F w w') (h1 : ∀ i, i < w.heap.size → ¬ F i) : o.At w' :=
  ⟨h.op.kept k (fun hne ad e => h1 _ (bytesAt_lt h.op.b hne ad e)) (fun hne ad e => h1 _ (intsAt_lt h.op.l hne ad e)), h.n0, h.n1⟩
end Go.Proofs.YtbcohdioapmlgaaDoor
