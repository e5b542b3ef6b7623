import Derived.Test.YthbfmgbielmaeaaDoorRdd
import Derived.Test.YthbfmgbielmaeaaDoorFsw
namespace Go.Proofs.YthbfmgbielmaeaaDoor
open Go.ChangeShapes Go.WideShapes Go.ChangeAt Go.RowKit

theorem rdecode_any (l : List Int) (a : Option Addr) (n c : Nat) (w : World) (hn : n = l.length) (hB : BytesAt w a l) (hb : IsBytes l) (hc : l.length ≤ c) (hl : l.length ≤ 140737488355000) :
    Calls Tryd.prog 14 #[.slice a n c] w fun e w' => RdPost w e w' (decR l) := by
  cases hr : bodyR l with
  | error er =>
    have e : decR l = .error er := by unfold decR; rw [hr]
    rw [e]
    exact rdec_err l a n c er w hn hB hb hc (by omega) hr
  | ok pq =>
    obtain ⟨p, q⟩ := pq
    exact rdec_ok l a n c p q w hn hB hb hc hl hr
theorem num_short {w : World} {a0 a1 a2 a3 a4 a5 a6 : Addr} (h : Errs7 w a0 a1 a2 a3 a4 a5 a6) : Calls Tryd.prog 12 #[.iface 98 (.pointer (some a0))] w fun e w' => e = .returned (.int .i64 1) ∧ w' = w := by
  have v0 := h.s0.var
  have e0 := err_eqF a0
  clear h
  go_enter Tryd.func12, Tryd.ntmps12
  go_wp2
  go_ret
  exact ⟨rfl, rfl⟩
theorem num_varint {w : World} {a0 a1 a2 a3 a4 a5 a6 : Addr} (h : Errs7 w a0 a1 a2 a3 a4 a5 a6) : Calls Tryd.prog 12 #[.iface 98 (.pointer (some a1))] w fun e w' => e = .returned (.int .i64 2) ∧ w' = w := by
  have v0 := h.s0.var
  have v1 := h.s1.var
  have e0 := err_neqF h.s1 h.s0 (by decide)
  have e1 := err_eqF a1
  clear h
  go_enter Tryd.func12, Tryd.ntmps12
  go_wp2
  go_ret
  exact ⟨rfl, rfl⟩
theorem decR_codes {l : List Int} {er : Nat} (h : decR l = .error er) : er = 0 ∨ er = 1 ∨ er = 5 ∨ er = 6 := by
  unfold decR at h
  split at h
  · rename_i e hb
    cases h
    unfold bodyR at hb
    split at hb
    · cases hb; exact .inl rfl
    split at hb
    · cases hb; exact .inr (.inr (.inl rfl))
    split at hb
    · rename_i hr
      cases hb
      rcases rdu_codes _ _ _ _ hr with e | e
      · exact .inl e
      · exact .inr (.inl e)
    · split at hb
      · cases hb; exact .inl rfl
      · cases hb
  · split at h
    · cases h
    · cases h; exact .inr (.inr (.inr rfl))
theorem num_er {w : World} {a0 a1 a2 a3 a4 a5 a6 : Addr} {er : Nat} (h : Errs7 w a0 a1 a2 a3 a4 a5 a6) (he : er = 0 ∨ er = 1 ∨ er = 5 ∨ er = 6) : Calls Tryd.prog 12 #[erD a0 a1 a5 a6 er] w fun e w' => e = .returned (.int .i64 ((er + 1 : Nat) : Int)) ∧ w' = w := by
  rcases he with rfl | rfl | rfl | rfl
  · exact num_short h
  · exact num_varint h
  · exact num_tag h
  · exact num_sum h
set_option maxRecDepth 20000 in
set_option maxHeartbeats 4000000 in
theorem decodes_walk (l : List Int) (a : Option Addr) (c : Nat) (w : World) (hB : BytesAt w a l) (hb : IsBytes l) (hc : l.length ≤ c) (hl : l.length ≤ 140737488355000) (hT : TabAt w) {a0 a1 a2 a3 a4 a5 a6 : Addr} (hE : Errs7 w a0 a1 a2 a3 a4 a5 a6) :
    Calls Tryd.prog 4 #[.slice a l.length c] w fun e w' => e = .returned (.bool true) ∧ Kept (fun _ => False) w w' := by
  have LV : Hid (Calls Tryd.prog 9 #[] w fun e W => e = .returned (.bool true) ∧ Hid (Kept (fun _ => False) w W)) := (lives2_any w hT).mono fun e W q => ⟨q.1, q.2⟩
  have DC : ∀ W, Kept (fun _ => False) w W → Calls Tryd.prog 13 #[.slice a l.length c] W fun e W' => DecPost W a0 a1 a5 a6 e W' (decR l) := fun W k => decode_any l a l.length c W rfl (bytes_keptF hB k) hb hc hl (hT.kept k) (hE.kept k)
  have RD : ∀ W, Kept (fun _ => False) w W → Calls Tryd.prog 14 #[.slice a l.length c] W fun e W' => RdPost W e W' (decR l) := fun W k => rdecode_any l a l.length c W rfl (bytes_keptF hB k) hb hc hl
  have kn := fun W => run_convert_bytes_nil (P := Tryd.prog) W 22 5 Tryd.underlying22 Tryd.underlying5 0 0 9 Tryd.underlying9
  cases hd : decR l with
  | error er =>
    rw [hd] at DC RD
    have hco := decR_codes hd
    obtain ⟨ad, had⟩ : ∃ ad, erD a0 a1 a5 a6 er = .iface 98 (.pointer (some ad)) := by unfold erD erB errOf errV; split; exact ⟨_, rfl⟩; split; exact ⟨_, rfl⟩; split <;> exact ⟨_, rfl⟩
    obtain ⟨z, hz⟩ : ∃ z : Int, z = ((er + 1 : Nat) : Int) := ⟨_, rfl⟩
    have D1 : Hid (∀ W, Hid (Kept (fun _ => False) w W) → Calls Tryd.prog 13 #[.slice a l.length c] W fun e W' => e = .returned (.tuple #[.agg #[.int .u8 0, .slice none 0 0], .int .i64 0, .iface 98 (.pointer (some ad))]) ∧ Hid (Kept (fun _ => False) w W')) := by
      intro W k
      refine (DC W k.out).mono ?_
      rintro e W' ⟨rfl, k'⟩
      rw [had]
      exact ⟨rfl, k.out.trans k' (fun _ f => f.elim)⟩
    have D2 : Hid (∀ W, Hid (Kept (fun _ => False) w W) → Calls Tryd.prog 14 #[.slice a l.length c] (W.alloc (.cells #[.int .u8 0, .slice none 0 0] 33)) fun e W' => e = .returned (.tuple #[.agg #[.int .u8 0, .slice none 0 0], .int .i64 0, .int .i64 z]) ∧ ((∀ o, (W'.alloc o).cell? ⟨W.heap.size, 0, none⟩ = some (.int .u8 0)) ∧ (∀ o, (W'.alloc o).cell? ⟨W.heap.size, 1, none⟩ = some (.slice none 0 0))) ∧ Hid (Kept (fun _ => False) w W')) := by
      intro W k
      have ka := Kept.alloc W (.cells #[.int .u8 0, .slice none 0 0] 33)
      have kw := k.out.trans ka (fun _ f => f.elim)
      refine (RD _ kw).mono ?_
      rintro e W' ⟨rfl, k'⟩
      rw [hz]
      have zb := k'.heap (blk_new W) (fun f => f)
      have y0 : W'.cell? ⟨W.heap.size, 0, none⟩ = some (.int .u8 0) := by simp [World.cell?, zb]
      have y1 : W'.cell? ⟨W.heap.size, 1, none⟩ = some (.slice none 0 0) := by simp [World.cell?, zb]
      exact ⟨rfl, ⟨fun o => (Kept.alloc W' o).cell y0 (fun f => f), fun o => (Kept.alloc W' o).cell y1 (fun f => f)⟩, kw.trans k' (fun _ f => f.elim)⟩
    have NE : Hid (∀ W, Kept (fun _ => False) w W → Calls Tryd.prog 12 #[.iface 98 (.pointer (some ad))] W fun e W' => e = .returned (.int .i64 z) ∧ W' = W) := by
      intro W k
      rw [← had, hz]
      exact num_er (hE.kept k) hco
    obtain ⟨n, hn⟩ : ∃ n, n = l.length := ⟨_, rfl⟩
    rw [← hn] at D1 D2 ⊢
    clear hn hd hco had hz DC RD hB hb hc hl hT hE
    go_enter Tryd.func4, Tryd.ntmps4
    go_wp2_with (first | (go_at_call 9; refine LV.out.mono ?_; rintro e W2 ⟨rfl, K2⟩) | (go_at_call 13; refine (D1.out W2 K2).mono ?_; rintro e W3 ⟨rfl, K3⟩) | (go_at_call 14; refine (D2.out W3 K3).mono ?_; rintro e W4 ⟨rfl, ⟨x0, x1⟩, K4⟩) | (go_at_call 12; refine (NE.out _ (K4.out.trans (Kept.alloc _ _) (fun _ f => f.elim))).mono ?_; rintro e W6 ⟨rfl, e6⟩; subst e6))
    go_ret
    exact ⟨by first | rfl | simp, K4.out.trans (Kept.alloc _ _) (fun _ f => f.elim)⟩
  | ok tbm =>
    obtain ⟨t, body, m⟩ := tbm
    rw [hd] at DC RD
    obtain ⟨st, hst⟩ : ∃ st, st = strOfNums body := ⟨_, rfl⟩
    have D1 : Hid (∀ W, Hid (Kept (fun _ => False) w W) → Calls Tryd.prog 13 #[.slice a l.length c] W fun e W' => ∃ a' c', e = .returned (.tuple #[.agg #[.int .u8 t, .slice a' body.length c'], .int .i64 m, .nilIface]) ∧ Hid (BytesAt W' a' body ∧ Kept (fun _ => False) w W')) := by
      intro W k
      refine (DC W k.out).mono ?_
      rintro e W' ⟨a', c', rfl, ho⟩
      obtain ⟨a3', c3', e3, hb3, _⟩ := ho.at
      simp only [Value.slice.injEq] at e3
      obtain ⟨rfl, _, rfl⟩ := e3
      exact ⟨a', c', rfl, hb3, k.out.trans ho.kept (fun _ f => f.elim)⟩
    have D2 : Hid (∀ W a' c', Hid (BytesAt W a' body ∧ Kept (fun _ => False) w W) → Calls Tryd.prog 14 #[.slice a l.length c] (W.alloc (.cells #[.int .u8 t, .slice a' body.length c'] 33)) fun e W' => ∃ a2 c2, e = .returned (.tuple #[.agg #[.int .u8 t, .slice a2 body.length c2], .int .i64 m, .int .i64 0]) ∧ (((∀ o, (W'.alloc o).cell? ⟨W.heap.size, 0, none⟩ = some (.int .u8 t)) ∧ (∀ o, (W'.alloc o).cell? ⟨W.heap.size, 1, none⟩ = some (.slice a' body.length c'))) ∧ (∀ o, (convert 22 9 (.slice a' body.length c')).run Tryd.prog (W'.alloc o) = .ok (.string st) (W'.alloc o)) ∧ (∀ o, (convert 22 9 (.slice a2 body.length c2)).run Tryd.prog (W'.alloc o) = .ok (.string st) (W'.alloc o))) ∧ Hid (Kept (fun _ => False) w W')) := by
      intro W a' c' k
      have ka := Kept.alloc W (.cells #[.int .u8 t, .slice a' body.length c'] 33)
      have kw := k.out.2.trans ka (fun _ f => f.elim)
      refine (RD _ kw).mono ?_
      rintro e W' ⟨a2, c2, rfl, ho⟩
      obtain ⟨a3', c3', e3, hb3, _⟩ := ho.at
      simp only [Value.slice.injEq] at e3
      obtain ⟨rfl, _, rfl⟩ := e3
      have zb : W'.heap[W.heap.size]? = some (.cells #[.int .u8 t, .slice a' body.length c'] 33 (0, 0)) := ho.kept.heap (heap_alloc_new W _) (fun f => f)
      have y0 : W'.cell? ⟨W.heap.size, 0, none⟩ = some (.int .u8 t) := by simp [World.cell?, zb]
      have y1 : W'.cell? ⟨W.heap.size, 1, none⟩ = some (.slice a' body.length c') := by simp [World.cell?, zb]
      rw [hst]
      exact ⟨a2, c2, rfl, ⟨⟨fun o => (Kept.alloc W' o).cell y0 (fun f => f), fun o => (Kept.alloc W' o).cell y1 (fun f => f)⟩, fun o => conv_atF (bytes_keptF k.out.1 ((ka.trans ho.kept (fun _ f => f.elim)).trans (Kept.alloc W' o) (fun _ f => f.elim))), fun o => conv_atF (bytes_keptF hb3 (Kept.alloc W' o))⟩, kw.trans ho.kept (fun _ f => f.elim)⟩
    have NN := hideC num_nil
    obtain ⟨n, hn⟩ : ∃ n, n = l.length := ⟨_, rfl⟩
    obtain ⟨nb, hnb⟩ : ∃ n, n = body.length := ⟨_, rfl⟩
    rw [← hn] at D1 D2 ⊢
    rw [← hnb] at D1 D2
    clear hn hnb hd hst DC RD hB hb hc hl hT hE kn
    go_enter Tryd.func4, Tryd.ntmps4
    go_wp2_with (first | (go_at_call 9; refine LV.out.mono ?_; rintro e W2 ⟨rfl, K2⟩) | (go_at_call 13; refine (D1.out W2 K2).mono ?_; rintro e W3 ⟨a', c', rfl, K3⟩) | (go_at_call 14; refine (D2.out W3 a' c' K3).mono ?_; rintro e W4 ⟨a2, c2, rfl, ⟨⟨x0, x1⟩, x2, x3⟩, K4⟩) | (go_at_call 12; refine (NN.out _).mono ?_; rintro e W6 ⟨rfl, e6⟩; subst e6))
    go_ret
    exact ⟨by first | rfl | simp, K4.out.trans (Kept.alloc _ _) (fun _ f => f.elim)⟩
end Go.Proofs.YthbfmgbielmaeaaDoor
