import Derived.Test.YtoglgicmnhklbaaDoorDcc
namespace Go.Proofs.YtoglgicmnhklbaaDoor
open Go.ChangeShapes Go.WideShapes Go.ChangeAt Go.RowKit

theorem bodyR_ok {l : List Int} {p q : Nat} (h : bodyR l = .ok (p, q)) : l ≠ [] ∧ l[0]?.getD 0 ≠ 0 ∧ 1 ≤ p ∧ p ≤ q ∧ q + 4 ≤ l.length ∧ ∃ x k, rdu 0 0 ((l.drop 1).take 10) = .ok (x, k) ∧ p = 1 + k ∧ q = 1 + k + x := by
  unfold bodyR at h
  split at h
  · cases h
  split at h
  · cases h
  split at h
  · cases h
  · rename_i h1 h2 _ x k hr
    split at h
    · cases h
    · simp only [Except.ok.injEq, Prod.mk.injEq] at h
      exact ⟨h1, h2, by omega, by omega, by omega, x, k, hr, by omega, by omega⟩
/-- The block with which bytes begin: its tag, its body, how many bytes it has. -/
def decR (l : List Int) : Except Nat (Int × List Int × Nat) :=
  match bodyR l with
  | .error e => .error e
  | .ok (p, q) => if (l.drop q).take 4 = le 4 (ext 0 (l.take q)) then .ok (l[0]?.getD 0, (l.drop p).take (q - p), q + 4) else .error 6
def erD (a0 a1 a5 a6 : Addr) (e : Nat) : Value := if e = 6 then errV a6 else erB a0 a1 a5 e
def DecPost (w : World) (a0 a1 a5 a6 : Addr) (e : Ending) (w' : World) : Except Nat (Int × List Int × Nat) → Prop
  | .error er => e = .returned (.tuple #[.agg #[.int .u8 0, .slice none 0 0], .int .i64 0, erD a0 a1 a5 a6 er]) ∧ Kept (fun _ => False) w w'
  | .ok (t, body, n) => ∃ a' c', e = .returned (.tuple #[.agg #[.int .u8 t, .slice a' body.length c'], .int .i64 n, .nilIface]) ∧ OwnB w w' (.slice a' body.length c') body
theorem results_cell3 {fn : Func} {p u x : Tmp} {ty : TypeId} (h : fn.results = #[.cell p ty, .tmp u, .tmp x]) (tmps : Array Value) (P : Program) (w : World) (g : Nat) (cs : Array Value)
    (hp : tmps.getD p undef = .pointer (some ⟨g, 0, none⟩)) (hld : (loadVar ty ⟨g, 0, none⟩).run P w = .ok (.agg cs) w) :
    (results fn tmps).run P w = .ok (.tuple #[.agg cs, tmps.getD u undef, tmps.getD x undef]) w := by
  have hp' : tmps[p]?.getD undef = .pointer (some ⟨g, 0, none⟩) := by simpa using hp
  simp [results, h, hp', asAddr, hld, Result.andThen]
theorem load_blk {W : World} {g : Nat} {x y : Value} (h : W.heap[g]? = some (.cells #[x, y] 35 (0, 0))) : (loadVar 35 ⟨g, 0, none⟩).run Tryd.prog W = .ok (.agg #[x, y]) W :=
  run_loadVar_row W g 35 35 #[x, y] (0, 0) _ h Tryd.underlying35 rfl (by kernel_rfl)
theorem blk_set2 {W : World} {g : Nat} {x y x' y' : Value} {t : TypeId} (h : W.heap[g]? = some (.cells #[x, y] t (0, 0))) : ((W.setCell ⟨g, 0, none⟩ x').setCell ⟨g, 1, none⟩ y').heap[g]? = some (.cells #[x', y'] t (0, 0)) := by
  have h1 := heap_setCell_same W g 0 #[x, y] t x' h
  have h2 := heap_setCell_same (W.setCell ⟨g, 0, none⟩ x') g 1 _ t y' h1
  simpa using h2
theorem kept_set2 {w W : World} {g : Nat} {x y : Value} (h : Kept (fun _ => False) w W) (hg : w.heap.size ≤ g) : Kept (fun _ => False) w ((W.setCell ⟨g, 0, none⟩ x).setCell ⟨g, 1, none⟩ y) :=
  (h.trans (Kept.setCell W ⟨g, 0, none⟩ x) (fun i e => .inr (by simp only at e; omega))).trans (Kept.setCell _ ⟨g, 1, none⟩ y) (fun i e => .inr (by simp only at e; omega))
theorem own_set2 {w w1 W : World} {v : Value} {xs : List Int} {g : Nat} {x y : Value} (h : OwnB w1 W v xs) (k : Kept (fun _ => False) w w1) (hg1 : g < w1.heap.size) (hg : w.heap.size ≤ g) : OwnB w ((W.setCell ⟨g, 0, none⟩ x).setCell ⟨g, 1, none⟩ y) v xs := by
  have h0 := h.from k
  have hne : ∀ i, v.ownBlock = some i → ¬ i = g := fun i hi e => by have := (h.row.lt i hi).1; omega
  refine ⟨(Kept.setCell _ ⟨g, 1, none⟩ y).row ((Kept.setCell W ⟨g, 0, none⟩ x).row h0.row ?_) ?_, kept_set2 h0.kept hg⟩
  · exact fun i hi => hne i hi
  · exact fun i hi => hne i hi
set_option maxRecDepth 20000 in
set_option maxHeartbeats 2000000 in
theorem dec_err4 (l : List Int) (a : Option Addr) (n c er : Nat) (w : World) {a0 a1 a5 a6 : Addr} (hn : n = l.length) (hB : BytesAt w a l) (hb : IsBytes l) (hc : l.length ≤ c) (hl : l.length ≤ 281474976710656) (hE : Errs4 w a0 a1 a5 a6) (hr : bodyR l = .error er) (he6 : er ≠ 6) :
    Calls Tryd.prog 22 #[.slice a n c] w fun e w' => DecPost w a0 a1 a5 a6 e w' (.error er) := by
  have k0 := Kept.alloc w (.cells #[.int .u8 0, .slice none 0 0] 35)
  have K0 := hideC k0
  obtain ⟨ad, had⟩ : ∃ ad, erB a0 a1 a5 er = .iface 98 (.pointer (some ad)) := by unfold erB errOf errV; split; exact ⟨_, rfl⟩; split <;> exact ⟨_, rfl⟩
  have hF : erD a0 a1 a5 a6 er = .iface 98 (.pointer (some ad)) := by rw [erD, if_neg he6, had]
  have BO : Hid (Calls Tryd.prog 35 #[.slice a n c] (w.alloc (.cells #[.int .u8 0, .slice none 0 0] 35)) fun e W' => e = .returned (.tuple #[.int .i64 0, .int .i64 0, .iface 98 (.pointer (some ad))]) ∧ Hid (W'.heap[w.heap.size]? = some (.cells #[.int .u8 0, .slice none 0 0] 35 (0, 0))) ∧ Hid (Kept (fun _ => False) w W')) := by
    rw [hn]
    refine (body_any4 l a c _ (bytes_keptF hB k0) hb hc hl (hE.kept k0)).mono ?_
    rintro e W' ⟨rfl, k⟩
    refine ⟨?_, k.heap (heap_alloc_new w _) (fun f => f), k0.trans k (fun _ f => f.elim)⟩
    rw [hr, ← had]
    rfl
  have hP : Hid (∀ w', Kept (fun _ => False) w w' → DecPost w a0 a1 a5 a6 (.returned (.tuple #[.agg #[.int .u8 0, .slice none 0 0], .int .i64 0, .iface 98 (.pointer (some ad))])) w' (.error er)) := fun w' k => ⟨by rw [hF], k⟩
  clear hB hb hE hr had hF hn k0
  go_enter Tryd.func22, Tryd.ntmps22
  go_wp2_with (go_at_call 35; refine BO.out.mono ?_; rintro e W2 ⟨rfl, Z2, K2⟩; have z := Z2.out; have y0 : W2.cell? ⟨w.heap.size, 0, none⟩ = some (.int .u8 0) := (by simp [World.cell?, z]); have y1 : W2.cell? ⟨w.heap.size, 1, none⟩ = some (.slice none 0 0) := (by simp [World.cell?, z]); have y2 : W2.frozen? ⟨w.heap.size, 0, none⟩ = false := (by simp [World.frozen?, z]); have y3 : W2.frozen? ⟨w.heap.size, 1, none⟩ = false := (by simp [World.frozen?, z]); clear z)
  refine bodyPost_ret (results_cell3 rfl _ _ _ w.heap.size _ rfl (load_blk (blk_set2 Z2.out))) rfl ?_
  exact hP.out _ (kept_set2 K2.out (Nat.le_refl _))
set_option maxRecDepth 200000 in
set_option maxHeartbeats 4000000 in
theorem dec_ok4 (l : List Int) (a : Option Addr) (n c p q : Nat) (w : World) {a0 a1 a5 a6 : Addr} (hn : n = l.length) (hB : BytesAt w a l) (hb : IsBytes l) (hc : l.length ≤ c) (hl : l.length ≤ 140737488355000) (hT : TabAt w) (hE : Errs4 w a0 a1 a5 a6) (hr : bodyR l = .ok (p, q)) :
    Calls Tryd.prog 22 #[.slice a n c] w fun e w' => DecPost w a0 a1 a5 a6 e w' (decR l) := by
  obtain ⟨hl0, ht0, hp1, hpq, hq4, -⟩ := bodyR_ok hr
  obtain ⟨b, off, rfl, hcl⟩ := hB hl0
  have hc0 := hcl 0 (by omega)
  rw [Nat.add_zero] at hc0
  have k0 := Kept.alloc w (.cells #[.int .u8 0, .slice none 0 0] 35)
  have hlq : (l.take q).length = q := by rw [List.length_take]; omega
  have hlq4 : (l.take (q + 4)).length = q + 4 := by rw [List.length_take]; omega
  have hbq : IsBytes (l.take q) := fun x hx => hb x (List.mem_of_mem_take hx)
  have BO : Hid (Calls Tryd.prog 35 #[.slice (some ⟨b, off, none⟩) n c] (w.alloc (.cells #[.int .u8 0, .slice none 0 0] 35)) fun e W' => e = .returned (.tuple #[.int .i64 p, .int .i64 q, .nilIface]) ∧ Hid (W'.heap[w.heap.size]? = some (.cells #[.int .u8 0, .slice none 0 0] 35 (0, 0)) ∧ Kept (fun _ => False) w W')) := by
    rw [hn]
    refine (body_any4 l _ c _ (bytes_keptF hB k0) hb hc (by omega) (hE.kept k0)).mono ?_
    rintro e W' ⟨rfl, k⟩
    refine ⟨?_, k.heap (heap_alloc_new w _) (fun f => f), k0.trans k (fun _ f => f.elim)⟩
    rw [hr]
    rfl
  obtain ⟨s, hs⟩ : ∃ s, s = ext 0 (l.take q) := ⟨_, rfl⟩
  have SM : Hid (∀ W, Kept (fun _ => False) w W → ∀ j, Calls Tryd.prog 18 #[.slice (some ⟨b, off, none⟩) q c] (W.drewN j) fun e W' => e = .returned (.int .u32 s) ∧ W' = W.drewN j) := by
    intro W k j
    have kj := k.trans (Kept.drewN W j) (fun _ f => f.elim)
    have r := sum_any (l.take q) (some ⟨b, off, none⟩) c (W.drewN j) (bytes_take (bytes_keptF hB kj) q) hbq (by omega) (hT.kept kj)
    rw [hlq, ← hs] at r
    exact r
  obtain ⟨t4, ht4⟩ : ∃ t, t = eqB ((l.take (q + 4)).drop (q + 4 - 4)) (le 4 s) := ⟨_, rfl⟩
  have EW : Hid (∀ W, W.heap[w.heap.size]? = some (.cells #[.int .u8 0, .slice none 0 0] 35 (0, 0)) ∧ Kept (fun _ => False) w W → ∀ j, Calls Tryd.prog 36 #[.slice (some ⟨b, off, none⟩) (q + 4) c, .int .u32 s] (W.drewN j) fun e W' => e = .returned (.bool t4) ∧ Hid (W'.heap[w.heap.size]? = some (.cells #[.int .u8 0, .slice none 0 0] 35 (0, 0)) ∧ Kept (fun _ => False) w W')) := by
    intro W k j
    have kj := k.2.trans (Kept.drewN W j) (fun _ f => f.elim)
    have r := ends_any (l.take (q + 4)) (some ⟨b, off, none⟩) (q + 4) c s (W.drewN j) hlq4.symm (bytes_take (bytes_keptF hB kj) (q + 4)) (by rw [hs]; exact ext_lt _ _) (by omega) (by omega) (by omega)
    rw [hlq4, ← ht4] at r
    refine r.mono ?_
    rintro e W' ⟨rfl, k'⟩
    exact ⟨rfl, k'.heap k.1 (fun f => f), kj.trans k' (fun _ f => f.elim)⟩
  have hbq4 : IsBytes ((l.take (q + 4)).drop (q + 4 - 4)) := fun x hx => hb x (List.mem_of_mem_take (List.mem_of_mem_drop hx))
  have e44 : (l.take (q + 4)).drop (q + 4 - 4) = (l.drop q).take 4 := by rw [Nat.add_sub_cancel, List.drop_take]; congr 1; omega
  have hdec : decR l = if t4 = true then .ok (l[0]?.getD 0, (l.drop p).take (q - p), q + 4) else .error 6 := by
    have h1 : decR l = if (l.drop q).take 4 = le 4 (ext 0 (l.take q)) then .ok (l[0]?.getD 0, (l.drop p).take (q - p), q + 4) else .error 6 := by unfold decR; rw [hr]
    rw [h1, ht4, str_beq hbq4 (le_bytes 4 s), e44, ← hs]
    simp only [decide_eq_true_eq]
  have hG6 : Hid (∀ W, Kept (fun _ => False) w W → W.cell? ⟨1, 0, none⟩ = some (.iface 98 (.pointer (some a6)))) := fun W k => k.cell hE.s6.var (fun f => f)
  have hl6 : 1 < w.heap.size := World.block_lt_of_cell? w _ hE.s6.var
  have hC0 : Hid (∀ W, Kept (fun _ => False) w W → W.cell? ⟨b, off, none⟩ = some (.int .u8 (l[0]?.getD 0))) := fun W k => k.cell hc0 (fun f => f)
  have i1 : (q : Int) + 4 ≤ (c : Int) := by omega
  have j1 : IntKind.i64.wrap ((q : Int) + 4) = (q : Int) + 4 := by rw [IntKind.wrap_i64]; omega
  have j2 : ((q : Int) + 4).toNat = q + 4 := by omega
  have j3 : q + 4 ≤ c := by omega
  have j4 : q ≤ c := by omega
  have j5 : ¬ ((q : Int) + 4 < 0) := by omega
  have j6 : ¬ ((c : Int) < (q : Int) + 4) := by omega
  have i2 : (q : Int) ≤ (c : Int) := by omega
  have i3 : (0 : Int) ≤ (q : Int) + 4 := by omega
  have i4 : (0 : Int) ≤ (q : Int) := by omega
  cases t4
  · rw [if_neg (by decide)] at hdec
    rw [hdec]
    have hP : Hid (∀ w', Kept (fun _ => False) w w' → DecPost w a0 a1 a5 a6 (.returned (.tuple #[.agg #[.int .u8 0, .slice none 0 0], .int .i64 0, .iface 98 (.pointer (some a6))])) w' (.error 6)) := fun w' k => ⟨rfl, k⟩
    clear hdec e44 hbq4 ht4 hs hB hb hE hT hcl hc0 hlq hlq4 hbq hr hl0 ht0 hC0 k0 hn hc hl hq4 hp1 hpq
    go_enter Tryd.func22, Tryd.ntmps22
    go_wp2_with (go_at_call 35; refine BO.out.mono ?_; rintro e W2 ⟨rfl, K2⟩)
    have SM2 := hideC (SM.out W2 K2.out.2)
    have EW2 := hideC (EW.out W2 K2.out)
    clear SM EW BO
    go_region_with (first | (go_at_call 18; refine (SM2.out _).mono ?_; rintro e W3 ⟨rfl, e3⟩; subst e3) | (go_at_call 36; refine (EW2.out _).mono ?_; rintro e W4 ⟨rfl, K4⟩))
    go_wp2
    have z := K4.out.1
    have y0 : W4.cell? ⟨w.heap.size, 0, none⟩ = some (.int .u8 0) := by simp [World.cell?, z]
    have y1 : W4.cell? ⟨w.heap.size, 1, none⟩ = some (.slice none 0 0) := by simp [World.cell?, z]
    have y2 : W4.frozen? ⟨w.heap.size, 0, none⟩ = false := by simp [World.frozen?, z]
    have y3 : W4.frozen? ⟨w.heap.size, 1, none⟩ = false := by simp [World.frozen?, z]
    have G6 := hG6.out W4 K4.out.2
    have G6a := (Kept.setCell W4 ⟨w.heap.size, 0, none⟩ (.int .u8 0)).cell G6 (by simp only; omega)
    have G6b := (Kept.setCell (W4.setCell ⟨w.heap.size, 0, none⟩ (.int .u8 0)) ⟨w.heap.size, 1, none⟩ (.slice none 0 0)).cell G6a (by simp only; omega)
    clear z SM2 EW2
    go_region
    all_goals
      go_wp2
      refine bodyPost_ret (results_cell3 rfl _ _ _ w.heap.size _ rfl (load_blk (blk_set2 K4.out.1))) rfl ?_
      first
        | exact hP.out _ (kept_set2 K4.out.2 (Nat.le_refl _))
        | exact hP.out _ (kept_set2 (K4.out.2.trans (Kept.drewN _ _) (fun _ f => f.elim)) (Nat.le_refl _))
  · rw [if_pos rfl] at hdec
    rw [hdec]
    obtain ⟨body, hbody⟩ : ∃ x, x = (l.drop p).take (q - p) := ⟨_, rfl⟩
    have hbl : body.length = q - p := by rw [hbody, List.length_take, List.length_drop]; omega
    have CL : Hid (∀ W, W.heap[w.heap.size]? = some (.cells #[.int .u8 0, .slice none 0 0] 35 (0, 0)) ∧ Kept (fun _ => False) w W → ∀ j, Calls Tryd.prog 20 #[.slice (some ⟨b, off + p, none⟩) (q - p) (c - p)] (W.drewN j) fun e W' => ∃ a' c', e = .returned (.slice a' (q - p) c') ∧ Hid (W'.heap[w.heap.size]? = some (.cells #[.int .u8 0, .slice none 0 0] 35 (0, 0)) ∧ Kept (fun _ => False) w W' ∧ ∀ x y, OwnB w ((W'.setCell ⟨w.heap.size, 0, none⟩ x).setCell ⟨w.heap.size, 1, none⟩ y) (.slice a' (q - p) c') body)) := by
      intro W k j
      have kj := k.2.trans (Kept.drewN W j) (fun _ f => f.elim)
      have hbb : BytesAt (W.drewN j) (some ⟨b, off + p, none⟩) body := by rw [hbody]; exact bytes_take (bytes_dropF (bytes_keptF hB kj) p) _
      refine (clone_any body (some ⟨b, off + p, none⟩) (q - p) (c - p) (W.drewN j) hbl.symm hbb (fun e => nomatch e) (by omega)).mono ?_
      rintro e W' ⟨a', c', rfl, ho⟩
      refine ⟨a', c', rfl, ho.kept.heap k.1 (fun f => f), kj.trans ho.kept (fun _ f => f.elim), fun x y => own_set2 ho kj (lt_of_block k.1) (Nat.le_refl _)⟩
    have hP : Hid (∀ w' a' c', OwnB w w' (.slice a' (q - p) c') body → DecPost w a0 a1 a5 a6 (.returned (.tuple #[.agg #[.int .u8 (l[0]?.getD 0), .slice a' (q - p) c'], .int .i64 ((q : Int) + 4), .nilIface])) w' (.ok (l[0]?.getD 0, body, q + 4))) := fun w' a' c' ho => by
      refine ⟨a', c', ?_, by rw [hbl]; exact ho⟩
      rw [hbl]
      rfl
    rw [← hbody]
    obtain ⟨tg, htg⟩ : ∃ t, t = l[0]?.getD 0 := ⟨_, rfl⟩
    rw [← htg] at hP hC0 ⊢
    have f1 : (p : Int) ≤ (q : Int) := by omega
    have f2 : ¬ ((q : Int) < (p : Int)) := by omega
    have f3 : ¬ c = p := by omega
    have f4 : p ≤ q := hpq
    have f5 : (0 : Int) < (n : Int) := by omega
    have f6 : 0 < n := by omega
    have f7 : p ≤ c := by omega
    clear hdec e44 hbq4 ht4 hs hB hb hE hT hcl hc0 hlq hlq4 hbq hr hl0 ht0 hG6 k0 hn hc hl hq4 hp1 hpq hbl hbody htg
    go_enter Tryd.func22, Tryd.ntmps22
    go_wp2_with (go_at_call 35; refine BO.out.mono ?_; rintro e W2 ⟨rfl, K2⟩)
    have SM2 := hideC (SM.out W2 K2.out.2)
    have EW2 := hideC (EW.out W2 K2.out)
    clear SM EW BO
    go_region_with (first | (go_at_call 18; refine (SM2.out _).mono ?_; rintro e W3 ⟨rfl, e3⟩; subst e3) | (go_at_call 36; refine (EW2.out _).mono ?_; rintro e W4 ⟨rfl, K4⟩))
    go_wp2
    have z := K4.out.1
    have y0 : W4.cell? ⟨w.heap.size, 0, none⟩ = some (.int .u8 0) := by simp [World.cell?, z]
    have y1 : W4.cell? ⟨w.heap.size, 1, none⟩ = some (.slice none 0 0) := by simp [World.cell?, z]
    have y2 : W4.frozen? ⟨w.heap.size, 0, none⟩ = false := by simp [World.frozen?, z]
    have y3 : W4.frozen? ⟨w.heap.size, 1, none⟩ = false := by simp [World.frozen?, z]
    have C4 := hC0.out W4 K4.out.2
    have CL4 := hideC (CL.out W4 K4.out)
    clear z SM2 EW2 CL
    go_region_with (go_at_call 20; refine (CL4.out _).mono ?_; rintro e W5 ⟨a5', c5', rfl, K5⟩; have z := K5.out.1; have x0 : W5.cell? ⟨w.heap.size, 0, none⟩ = some (.int .u8 0) := (by simp [World.cell?, z]); have x1 : W5.cell? ⟨w.heap.size, 1, none⟩ = some (.slice none 0 0) := (by simp [World.cell?, z]); have x2 : W5.frozen? ⟨w.heap.size, 0, none⟩ = false := (by simp [World.frozen?, z]); have x3 : W5.frozen? ⟨w.heap.size, 1, none⟩ = false := (by simp [World.frozen?, z]); have C5 := hC0.out W5 K5.out.2.1; clear z)
    all_goals
      go_wp2
      refine bodyPost_ret (results_cell3 rfl _ _ _ w.heap.size _ rfl (load_blk (blk_set2 K5.out.1))) rfl ?_
      exact hP.out _ _ _ (K5.out.2.2 _ _)
end Go.Proofs.YtoglgicmnhklbaaDoor
