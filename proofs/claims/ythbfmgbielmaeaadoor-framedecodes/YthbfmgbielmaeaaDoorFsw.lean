import Derived.Test.YthbfmgbielmaeaaDoorSpo
import Derived.Test.YthbfmgbielmaeaaDoorOpc
import Derived.BigRegion
namespace Go.Proofs.YthbfmgbielmaeaaDoor
open Go.ChangeShapes Go.WideShapes Go.ChangeAt Go.RowKit

theorem num_sum {w : World} {a0 a1 a2 a3 a4 a5 a6 : Addr} (h : Errs7 w a0 a1 a2 a3 a4 a5 a6) : Calls Tryd.prog 12 #[.iface 98 (.pointer (some a6))] w fun e w' => e = .returned (.int .i64 7) ∧ w' = w := by
  have v0 := h.s0.var
  have v1 := h.s1.var
  have v2 := h.s2.var
  have v3 := h.s3.var
  have v4 := h.s4.var
  have v5 := h.s5.var
  have v6 := h.s6.var
  have e0 := err_neqF h.s6 h.s0 (by decide)
  have e1 := err_neqF h.s6 h.s1 (by decide)
  have e2 := err_neqF h.s6 h.s2 (by decide)
  have e3 := err_neqF h.s6 h.s3 (by decide)
  have e4 := err_neqF h.s6 h.s4 (by decide)
  have e5 := err_neqF h.s6 h.s5 (by decide)
  have e6 := err_eqF a6
  clear h
  go_enter Tryd.func12, Tryd.ntmps12
  go_wp2
  go_ret
  exact ⟨rfl, rfl⟩
theorem bytes_set {W : World} {g i n : Nat} {E : List Int} {x : Int} (ho : W.ownsRow g 5 1 (.slice (some ⟨g, 0, none⟩) n n) n (bs E)) (hi : i < E.length) : BytesAt (W.setCell ⟨g, i, none⟩ (.int .u8 x)) (some ⟨g, 0, none⟩) (E.set i x) ∧ W.cell? ⟨g, i, none⟩ = some (.int .u8 (E[i]?.getD 0)) ∧ W.frozen? ⟨g, i, none⟩ = false := by
  have hb := (own_bytesF ho).1
  rcases ho.2 with ⟨e, _⟩ | ⟨g', cap, cur, hv, _, hg, _⟩
  · cases e
  simp only [Value.slice.injEq, Option.some.injEq, Addr.mk.injEq, and_true] at hv
  obtain ⟨rfl, -, -⟩ := hv
  obtain ⟨b', off', e, hc⟩ := hb (by intro e; rw [e] at hi; simp at hi)
  simp only [Option.some.injEq, Addr.mk.injEq, and_true] at e
  obtain ⟨rfl, rfl⟩ := e
  have hci := hc i hi
  rw [Nat.zero_add] at hci
  refine ⟨fun _ => ⟨g, 0, rfl, fun k hk => ?_⟩, hci, by simp [World.frozen?, hg]⟩
  rw [List.length_set] at hk
  rw [Nat.zero_add]
  by_cases hki : k = i
  · subst hki
    rw [List.getElem?_set_self hk]
    have h1 := heap_setCell_same W g k cur _ (.int .u8 x) hg
    rw [cell_of_row _ _ _ _ _ _ h1]
    have hlt : k < cur.size := by
      have := cell_of_row W g k cur _ _ hg
      rw [this] at hci
      exact (Array.getElem?_eq_some_iff.1 hci).1
    simp [hlt]
  · rw [List.getElem?_set_ne (fun e => hki e.symm)]
    have h1 := heap_setCell_same W g i cur _ (.int .u8 x) hg
    have hck := hc k hk
    rw [Nat.zero_add, cell_of_row W g k cur _ _ hg] at hck
    rw [cell_of_row _ _ _ _ _ _ h1]
    rw [Array.getElem?_setIfInBounds_ne (fun e => hki e.symm)]
    exact hck
set_option maxRecDepth 200000 in
set_option maxHeartbeats 4000000 in
theorem spoilt_walk (tag turn at_ : Nat) (l : List Int) (a : Option Addr) (c : Nat) (w : World) (ht2 : tag < 256) (hu2 : turn < 256) (hat : at_ < 18446744073709551616) (hA : BytesAt w a l) (bA : IsBytes l) (zA : a = none → c = 0) (lA : l.length ≤ 140737488351232) (hT : TabAt w) {a0 a1 a2 a3 a4 a5 a6 : Addr} (hE : Errs7 w a0 a1 a2 a3 a4 a5 a6) :
    Calls Tryd.prog 6 #[.agg #[.int .u8 tag, .slice a l.length c, .int .u64 at_, .int .u8 turn]] w fun e w' => e = .returned (.bool true) ∧ Kept (fun _ => False) w w' := by
  obtain ⟨ob, hob⟩ : ∃ ob : Obj, ob = .cells #[.int .u8 tag, .slice a l.length c, .int .u64 at_, .int .u8 turn] 42 := ⟨_, rfl⟩
  have k0 := Kept.alloc w ob
  have hob0 : (w.alloc ob).heap[w.heap.size]? = some ob := heap_alloc_new w ob
  have BX : Hid (∀ W, Kept (fun _ => False) (w.alloc ob) W → W.cell? ⟨w.heap.size, 0, none⟩ = some (.int .u8 tag) ∧ W.cell? ⟨w.heap.size, 1, none⟩ = some (.slice a l.length c) ∧ W.cell? ⟨w.heap.size, 2, none⟩ = some (.int .u64 at_) ∧ W.cell? ⟨w.heap.size, 3, none⟩ = some (.int .u8 turn)) := by
    intro W k
    have z := k.heap hob0 (fun f => f)
    rw [hob] at z
    refine ⟨?_, ?_, ?_, ?_⟩ <;> simp [World.cell?, z]
  have LV : Hid (∀ W, Kept (fun _ => False) (w.alloc ob) W → Calls Tryd.prog 9 #[] W fun e W' => e = .returned (.bool true) ∧ Hid (Kept (fun _ => False) (w.alloc ob) W')) := by
    intro W k
    have kw := k0.trans k (fun _ f => f.elim)
    exact (lives2_any W (hT.kept kw)).mono fun e W' q => ⟨q.1, k.trans q.2 (fun _ f => f.elim)⟩
  have KW : Hid (∀ W, Kept (fun _ => False) (w.alloc ob) W → Kept (fun _ => False) w W) := fun W k => k0.trans k (fun _ f => f.elim)
  by_cases hz : tag = 0 ∨ turn = 0
  · obtain ⟨nl, hnl⟩ : ∃ n, n = l.length := ⟨_, rfl⟩
    rw [← hnl] at hob BX lA ⊢
    clear hT hE hA bA zA hob0 hnl k0
    subst hob
    rcases hz with e | e
    · subst e
      have z0 : ((0 : Nat) : Int) = 0 := rfl
      rw [z0] at BX LV KW ⊢
      go_enter Tryd.func6, Tryd.ntmps6
      go_wp2
      go_quiet (fail)
      go_wp2_with (go_at_call 9; refine (LV.out _ (Kept.drewN _ _)).mono ?_; rintro e W2 ⟨rfl, K2⟩; obtain ⟨y0, y1, y2, y3⟩ := BX.out W2 K2.out)
      go_ret
      exact ⟨rfl, KW.out _ K2.out⟩
    · subst e
      have z0 : ((0 : Nat) : Int) = 0 := rfl
      rw [z0] at BX LV KW ⊢
      by_cases ht0 : tag = 0
      · subst ht0
        rw [z0] at BX LV KW ⊢
        go_enter Tryd.func6, Tryd.ntmps6
        go_wp2
        go_quiet (fail)
        go_wp2_with (go_at_call 9; refine (LV.out _ (Kept.drewN _ _)).mono ?_; rintro e W2 ⟨rfl, K2⟩; obtain ⟨y0, y1, y2, y3⟩ := BX.out W2 K2.out)
        go_ret
        exact ⟨rfl, KW.out _ K2.out⟩
      · have htI : (tag : Int) ≠ 0 := by omega
        go_enter Tryd.func6, Tryd.ntmps6
        go_wp2
        go_quiet (fail)
        go_wp2_with (go_at_call 9; refine (LV.out _ (Kept.drewN _ _)).mono ?_; rintro e W2 ⟨rfl, K2⟩; obtain ⟨y0, y1, y2, y3⟩ := BX.out W2 K2.out)
        go_ret
        exact ⟨rfl, KW.out _ K2.out⟩
  · have ht : 0 < tag := by omega
    have hu : 0 < turn := by omega
    have hul := ulen_le l.length (by omega)
    have hel := benc_length tag l
    obtain ⟨E, hEE⟩ : ∃ E, E = benc tag l := ⟨_, rfl⟩
    have bE : IsBytes E := by rw [hEE, benc]; exact fun x hx => (List.mem_append.1 hx).elim (bhead_bytes (by omega) (by omega) bA x) (le_bytes _ _ x)
    rw [← hEE] at hel
    have EN : Hid (∀ W, Kept (fun _ => False) (w.alloc ob) W → Calls Tryd.prog 10 #[.int .u8 tag, .slice a l.length c] W fun e W' => ∃ g, e = .returned (.tuple #[.slice (some ⟨g, 0, none⟩) E.length E.length, .nilIface]) ∧ Hid (W'.ownsRow g 5 1 (.slice (some ⟨g, 0, none⟩) E.length E.length) E.length (bs E) ∧ (w.alloc ob).heap.size ≤ g ∧ Kept (fun _ => False) (w.alloc ob) W')) := by
      intro W k
      have kw := k0.trans k (fun _ f => f.elim)
      rw [hEE]
      refine (encode_any tag l a c W ht ht2 (bytes_keptF hA kw) bA zA (by omega) (hT.kept kw)).mono ?_
      rintro e W' ⟨g, rfl, h1, h2, h3⟩
      exact ⟨g, rfl, h2, Nat.le_trans k.size h1, k.trans h3 (fun _ f => f.elim)⟩
    -- what the spoilt bytes come to
    have DC : ∀ i x er : Nat, i < E.length → x < 256 → decR (E.set i (x : Int)) = .error er → Hid (∀ W g, W.ownsRow g 5 1 (.slice (some ⟨g, 0, none⟩) E.length E.length) E.length (bs E) ∧ (w.alloc ob).heap.size ≤ g ∧ Kept (fun _ => False) (w.alloc ob) W → ∀ j, Calls Tryd.prog 13 #[.slice (some ⟨g, 0, none⟩) E.length E.length] ((W.drewN j).setCell ⟨g, i, none⟩ (.int .u8 x)) fun e W' => e = .returned (.tuple #[.agg #[.int .u8 0, .slice none 0 0], .int .i64 0, erD a0 a1 a5 a6 er]) ∧ W'.cell? ⟨g, 0, none⟩ = some (.int .u8 ((E.set i (x : Int))[0]?.getD 0)) ∧ Hid (Kept (fun _ => False) w W')) := by
      intro i x er hi hx hd W g k j
      have kd := Kept.drewN W j
      have ho := kd.row k.1 (fun _ _ f => f)
      obtain ⟨hb, _, _⟩ := bytes_set (x := (x : Int)) ho hi
      have kw : Kept (fun _ => False) w ((W.drewN j).setCell ⟨g, i, none⟩ (.int .u8 x)) := by
        have h1 := (k0.trans k.2.2 (fun _ f => f.elim)).trans kd (fun _ f => f.elim)
        refine h1.trans (Kept.setCell _ _ _) (fun i e => .inr ?_)
        have h2 := k0.size
        have h3 := k.2.1
        simp only at e
        omega
      have hbs : IsBytes (E.set i (x : Int)) := fun y hy => by
        rcases List.mem_or_eq_of_mem_set hy with h | h
        · exact bE y h
        · omega
      have r := decode_any (E.set i (x : Int)) (some ⟨g, 0, none⟩) E.length E.length _ (List.length_set ..).symm hb hbs (by rw [List.length_set]; exact Nat.le_refl _) (by rw [List.length_set]; omega) (hT.kept kw) (hE.kept kw)
      rw [hd] at r
      refine r.mono ?_
      rintro e W' ⟨rfl, k'⟩
      refine ⟨rfl, ?_, kw.trans k' (fun _ f => f.elim)⟩
      obtain ⟨b', off', e', hc⟩ := bytes_keptF hb k' (by intro e; have := congrArg List.length e; rw [List.length_set, List.length_nil] at this; omega)
      simp only [Option.some.injEq, Addr.mk.injEq, and_true] at e'
      obtain ⟨rfl, rfl⟩ := e'
      simpa using hc 0 (by rw [List.length_set]; omega)
    have NT : Hid (∀ W, Kept (fun _ => False) w W → Calls Tryd.prog 12 #[.iface 98 (.pointer (some a5))] W fun e W' => e = .returned (.int .i64 6) ∧ W' = W) := fun W k => num_tag (hE.kept k)
    have NS : Hid (∀ W, Kept (fun _ => False) w W → Calls Tryd.prog 12 #[.iface 98 (.pointer (some a6))] W fun e W' => e = .returned (.int .i64 7) ∧ W' = W) := fun W k => num_sum (hE.kept k)
    obtain ⟨kk, hkk⟩ : ∃ kk, kk = at_ % (1 + l.length + 4) := ⟨_, rfl⟩
    have hkl : kk < 1 + l.length + 4 := by rw [hkk]; exact Nat.mod_lt _ (by omega)
    have hkI : (at_ : Int) % (1 + (l.length : Int) + 4) = (kk : Int) := by
      rw [hkk, Int.natCast_emod]
      congr 1
    obtain ⟨i, hi⟩ : ∃ i, i = if kk = 0 then 0 else ulen l.length + kk := ⟨_, rfl⟩
    have hiE : i < E.length := by rw [hi]; split <;> omega
    have hii : i = 0 ∨ 1 + ulen l.length ≤ i ∧ i < (benc tag l).length := by rw [← hEE, hi]; split <;> omega
    obtain ⟨y, hy1, hy2, _⟩ := bE.at hiE
    have hx256 : y ^^^ turn < 256 := Nat.xor_lt_two_pow (n := 8) hy2 hu2
    have hxor := xor_u8 y turn hy2 hu2
    obtain ⟨x, hx⟩ : ∃ x, x = y ^^^ turn := ⟨_, rfl⟩
    rw [← hx] at hx256 hxor
    have hsp := dec_spoilt tag l i x (by omega) ht ht2 bA hx256 hii (by rw [← hEE, hy1, hx]; have := xor_ne (a := y) (b := turn) (by omega); omega)
    rw [← hEE] at hsp
    have hCE : Hid (∀ (W : World) (g : Nat), W.ownsRow g 5 1 (.slice (some ⟨g, 0, none⟩) E.length E.length) E.length (bs E) → W.cell? ⟨g, i, none⟩ = some (.int .u8 y) ∧ W.frozen? ⟨g, i, none⟩ = false) := fun W g ho => by
      obtain ⟨_, h1, h2⟩ := bytes_set (x := 0) ho hiE
      rw [hy1] at h1
      exact ⟨h1, h2⟩
    have htI : (tag : Int) ≠ 0 := by omega
    have huI : (turn : Int) ≠ 0 := by omega
    have htB : ((tag : Int) == 0) = false := beq_eq_false_iff_ne.2 htI
    have huB : ((turn : Int) == 0) = false := beq_eq_false_iff_ne.2 huI
    have hlt6 : (l.length : Int) + 6 ≤ (E.length : Int) := by omega
    have hlt6' : ¬ ((E.length : Int) < (l.length : Int) + 6) := by omega
    have hEb : E.length ≤ 140737488355328 := by omega
    have hidx : kk ≠ 0 → (E.length : Int) - 4 - (l.length : Int) + (kk : Int) - 1 = (i : Int) := by intro h; rw [hi, if_neg h]; omega
    have hi00 : kk = 0 → i = 0 := by intro h; rw [hi, if_pos h]
    have hv0 : (E.set i (x : Int))[0]?.getD 0 = if kk = 0 then (x : Int) else (tag : Int) := by
      by_cases h : kk = 0
      · have : i = 0 := by rw [hi, if_pos h]
        rw [if_pos h, this, List.getElem?_set_self (by omega)]
        rfl
      · have : i ≠ 0 := by rw [hi, if_neg h]; omega
        rw [if_neg h, List.getElem?_set_ne (fun e => this e), hEE]
        rfl
    rw [hv0] at hsp
    have DC1 := DC i x _ hiE hx256 hsp
    rw [hv0] at DC1
    clear hsp hv0 DC hi hii hx hy1 hkk hul hel bE hEE hT hE hA bA zA hob0 k0 lA hz
    obtain ⟨nl, hnl⟩ : ∃ n, n = l.length := ⟨_, rfl⟩
    obtain ⟨nE, hnE⟩ : ∃ n, n = E.length := ⟨_, rfl⟩
    rw [← hnl] at hob BX EN hkl hkI hlt6 hlt6' hidx ⊢
    rw [← hnE] at EN DC1 hCE hlt6 hlt6' hEb hidx hiE
    have EN2 : Hid (∀ W, Kept (fun _ => False) (w.alloc ob) W → Calls Tryd.prog 10 #[.int .u8 tag, .slice a nl c] W fun e W' => ∃ g, e = .returned (.tuple #[.slice (some ⟨g, 0, none⟩) nE nE, .nilIface]) ∧ (W'.cell? ⟨g, i, none⟩ = some (.int .u8 y) ∧ W'.frozen? ⟨g, i, none⟩ = false) ∧ Hid (W'.ownsRow g 5 1 (.slice (some ⟨g, 0, none⟩) nE nE) nE (bs E) ∧ (w.alloc ob).heap.size ≤ g ∧ Kept (fun _ => False) (w.alloc ob) W')) := fun W k => (EN.out W k).mono fun e W' ⟨g, e1, q⟩ => ⟨g, e1, hCE.out W' g q.out.1, q⟩
    have hnlb : nl ≤ 140737488355328 := by omega
    clear EN hCE
    subst hob
    by_cases hk0 : kk = 0
    · subst hk0
      rw [if_pos rfl] at DC1
      have z0 : ((0 : Nat) : Int) = 0 := rfl
      rw [z0] at hkI
      obtain rfl := hi00 rfl
      have hiN : (0 : Int) < (nE : Int) := by omega
      clear hidx hkl hnl hnE hi00
      by_cases hx0 : x = 0
      · subst hx0
        rw [z0] at DC1 hxor
        rw [if_pos rfl] at DC1
        have er : erD a0 a1 a5 a6 5 = .iface 98 (.pointer (some a5)) := rfl
        rw [er] at DC1
        clear er NS
        go_enter Tryd.func6, Tryd.ntmps6
        go_wp2
        go_quiet (fail)
        go_wp2_with (first | (go_at_call 9; refine (LV.out _ (Kept.drewN _ _)).mono ?_; rintro e W2 ⟨rfl, K2⟩; obtain ⟨y0, y1, y2, y3⟩ := BX.out W2 K2.out) | (go_at_call 10; refine (EN2.out W2 K2.out).mono ?_; rintro e W3 ⟨g, rfl, ⟨c1, c2⟩, K3⟩; clear y0 y1 y2 y3; obtain ⟨y0, y1, y2, y3⟩ := BX.out W3 K3.out.2.2))
        have DC3 := hideC (DC1.out W3 g K3.out)
        clear DC1
        go_region
        go_wp2_with (first | (go_at_call 13; refine (DC3.out _).mono ?_; clear DC3; rintro e W5 ⟨rfl, d0, K5⟩; have d1 := fun o => (Kept.alloc W5 o).cell d0 (fun f => f); clear d0) | (go_at_call 12; refine (NT.out _ (K5.out.trans (Kept.alloc _ _) (fun _ f => f.elim))).mono ?_; rintro e W6 ⟨rfl, e6⟩; subst e6))
        go_ret
        exact ⟨by first | rfl | simp, K5.out.trans (Kept.alloc _ _) (fun _ f => f.elim)⟩
      · have hxI : (x : Int) ≠ 0 := by omega
        have hxB : ((x : Int) == 0) = false := beq_eq_false_iff_ne.2 hxI
        rw [if_neg hxI] at DC1
        have er : erD a0 a1 a5 a6 6 = .iface 98 (.pointer (some a6)) := rfl
        rw [er] at DC1
        clear er NT
        go_enter Tryd.func6, Tryd.ntmps6
        go_wp2
        go_quiet (fail)
        go_wp2_with (first | (go_at_call 9; refine (LV.out _ (Kept.drewN _ _)).mono ?_; rintro e W2 ⟨rfl, K2⟩; obtain ⟨y0, y1, y2, y3⟩ := BX.out W2 K2.out) | (go_at_call 10; refine (EN2.out W2 K2.out).mono ?_; rintro e W3 ⟨g, rfl, ⟨c1, c2⟩, K3⟩; clear y0 y1 y2 y3; obtain ⟨y0, y1, y2, y3⟩ := BX.out W3 K3.out.2.2))
        have DC3 := hideC (DC1.out W3 g K3.out)
        clear DC1
        go_region
        go_wp2_with (first | (go_at_call 13; refine (DC3.out _).mono ?_; clear DC3; rintro e W5 ⟨rfl, d0, K5⟩; have d1 := fun o => (Kept.alloc W5 o).cell d0 (fun f => f); clear d0) | (go_at_call 12; refine (NS.out _ (K5.out.trans (Kept.alloc _ _) (fun _ f => f.elim))).mono ?_; rintro e W6 ⟨rfl, e6⟩; subst e6))
        go_ret
        exact ⟨by first | rfl | simp, K5.out.trans (Kept.alloc _ _) (fun _ f => f.elim)⟩
    · rw [if_neg hk0] at DC1
      have hix := hidx hk0
      have hk1 : (0 : Int) < (kk : Int) := by omega
      rw [if_neg htI] at DC1
      have er : erD a0 a1 a5 a6 6 = .iface 98 (.pointer (some a6)) := rfl
      rw [er] at DC1
      have hiN : (i : Int) < (nE : Int) := by omega
      have hi0 : (0 : Int) ≤ (i : Int) := by omega
      clear hidx hkl NT hnl hnE er hk0 hi00
      go_enter Tryd.func6, Tryd.ntmps6
      go_wp2
      go_quiet (fail)
      go_wp2_with (first | (go_at_call 9; refine (LV.out _ (Kept.drewN _ _)).mono ?_; rintro e W2 ⟨rfl, K2⟩; obtain ⟨y0, y1, y2, y3⟩ := BX.out W2 K2.out) | (go_at_call 10; refine (EN2.out W2 K2.out).mono ?_; rintro e W3 ⟨g, rfl, ⟨c1, c2⟩, K3⟩; clear y0 y1 y2 y3; obtain ⟨y0, y1, y2, y3⟩ := BX.out W3 K3.out.2.2))
      have DC3 := hideC (DC1.out W3 g K3.out)
      clear DC1
      go_region
      go_wp2_with (first | (go_at_call 13; refine (DC3.out _).mono ?_; clear DC3; rintro e W5 ⟨rfl, d0, K5⟩; have d1 := fun o => (Kept.alloc W5 o).cell d0 (fun f => f); clear d0) | (go_at_call 12; refine (NS.out _ (K5.out.trans (Kept.alloc _ _) (fun _ f => f.elim))).mono ?_; rintro e W6 ⟨rfl, e6⟩; subst e6))
      go_ret
      exact ⟨by first | rfl | simp, K5.out.trans (Kept.alloc _ _) (fun _ f => f.elim)⟩
end Go.Proofs.YthbfmgbielmaeaaDoor
