import Derived.Test.YtehjbceknnopoaaDoorLsw
namespace Go.Proofs.YtehjbceknnopoaaDoor
open Go.ChangeShapes Go.WideShapes Go.ChangeAt Go.RowKit

theorem prefix_any (l f : List Int) (b0 off : Nat) (b : Option Addr) (n c d : Nat) (w : World) (hn : n = l.length) (hl : BytesAt w (some ⟨b0, off, none⟩) l) (hf : BytesAt w b f) (h5 : f.length = 5) (hm : 5 ≤ n) (hc : n ≤ c) :
    Calls Tryd.prog 40 #[.slice (some ⟨b0, off, none⟩) n c, .slice b 5 d] w fun e w' => e = .returned (.bool (eqB (l.take 5) f)) ∧ w' = w := by
  have q := equal_any (l.take 5) f (some ⟨b0, off, none⟩) b c d w (bytes_take hl 5) hf
  rw [h5, show (l.take 5).length = 5 by rw [List.length_take]; omega] at q
  obtain ⟨t, ht⟩ : ∃ t, t = eqB (l.take 5) f := ⟨_, rfl⟩
  rw [← ht] at q ⊢
  have Q := hideC q
  have i1 : (5 : Int) ≤ (n : Int) := by omega
  have i2 : ¬ ((n : Int) < 5) := by omega
  have i3 : (5 : Int) ≤ (c : Int) := by omega
  have i4 : 5 ≤ c := by omega
  clear q ht hl hf h5 hn
  go_enter Tryd.func40, Tryd.ntmps40
  go_wp2_with (go_at_call 51; refine Q.out.mono ?_; rintro e w2 ⟨rfl, rfl⟩)
  go_ret
  exact ⟨by cases t <;> rfl, rfl⟩
set_option maxRecDepth 20000 in
set_option maxHeartbeats 4000000 in
theorem unpack_any (kind : Nat) (l : List Int) (a : Option Addr) (n c : Nat) (w : World) {a0 a1 a2 a3 a4 a5 a6 : Addr} (hk2 : kind < 256) (hn : n = l.length) (hB : BytesAt w a l) (hb : IsBytes l) (hc : n ≤ c) (hl : n ≤ 1099511627776) (hT : TabAt w) (hE : Errs7 w a0 a1 a2 a3 a4 a5 a6) :
    Calls Tryd.prog 19 #[.int .u8 kind, .slice a n c] w fun e w' => LstPost w a0 a1 a4 a5 a6 e w' (unpR kind l) := by
  by_cases h10 : n < 10
  · have hu : unpR kind l = .error 0 := by unfold unpR; rw [if_pos (by omega)]
    rw [hu]
    have HP : Hid (∀ w', Kept (fun _ => False) w w' → LstPost w a0 a1 a4 a5 a6 (.returned (.tuple #[.slice none 0 0, .iface 103 (.pointer (some a0))])) w' (.error 0)) := fun w' k => ⟨rfl, k⟩
    have g0 := hE.s0.var
    have i0 : (n : Int) < 10 := by omega
    clear hu hB hb hT hE hn
    go_enter Tryd.func19, Tryd.ntmps19
    go_wp2
    go_quiet (fail)
    go_wp2
    go_ret2
    exact HP.out _ (Kept.drewN _ _)
  by_cases hs : ¬ sealOk l
  · have hu : unpR kind l = .error 6 := by unfold unpR; rw [if_neg (by omega)]; exact if_pos hs
    rw [hu]
    exact (unpack_seal kind l a n c w hn (by omega) hB hb hc (by omega) hT hE hs).mono fun e w' q => ⟨q.1, q.2⟩
  have hs := Classical.not_not.1 hs
  obtain ⟨b, off, rfl, _⟩ := hB (by intro e; rw [e] at hn; simp at hn; omega)
  obtain ⟨m, hm⟩ : ∃ m, n = m + 4 := ⟨n - 4, by omega⟩
  have htl : (l.take m).length = m := by rw [List.length_take]; omega
  have hu0 : unpR kind l = if kind = 0 ∨ l.take 5 ≠ cncd kind then .error 5 else listR ((l.take (l.length - 4)).drop 5) := by
    unfold unpR
    rw [if_neg (by omega)]
    exact if_neg (Classical.not_not.2 hs)
  rw [show l.length - 4 = m by omega] at hu0
  have SL : Hid (Calls Tryd.prog 34 #[.slice (some ⟨b, off, none⟩) m c] w fun e W' => e = .returned (.int .u32 (sealed (l.take m) : Nat)) ∧ W' = w) := by
    have r := sealed_any (l.take m) (some ⟨b, off, none⟩) c w (bytes_take hB m) (fun x hx => hb x (List.mem_of_mem_take hx)) (by omega) hT
    rw [htl] at r
    exact r
  have EW : Hid (Calls Tryd.prog 39 #[.slice (some ⟨b, off, none⟩) n c, .int .u32 (sealed (l.take m) : Nat)] w fun e W' => e = .returned (.bool true) ∧ W'.cell? ⟨0, 0, none⟩ = some (.iface 103 (.pointer (some a5))) ∧ Hid (Kept (fun _ => False) w W')) := by
    have r := ends_any l (some ⟨b, off, none⟩) n c (sealed (l.take m)) w hn hB (sealed_lt _) (by omega) (by omega) (by omega)
    refine r.mono ?_
    rintro e W' ⟨rfl, k⟩
    refine ⟨?_, k.cell hE.s5.var (fun f => f), k⟩
    rw [str_beq (fun x hx => hb x (List.mem_of_mem_drop hx)) (le_bytes 4 _)]
    have hne : l.drop (l.length - 4) = le 4 (sealed (l.take m)) := by
      unfold sealOk at hs
      rw [show l.length - 4 = m by omega] at hs ⊢
      exact hs
    rw [decide_eq_true hne]
  have HD : Hid (∀ W, Hid (Kept (fun _ => False) w W) → Calls Tryd.prog 33 #[.int .u8 kind] W fun e W' => ∃ a1 c1, e = .returned (.slice a1 5 c1) ∧ Hid (BytesAt W' a1 (cncd kind) ∧ Kept (fun _ => False) w W')) := by
    intro W q
    refine (head_any kind W).mono ?_
    rintro e W' ⟨a1, c1, rfl, ho⟩
    obtain ⟨a2, c2, e2, hb2, hz2⟩ := ho.at
    simp only [Value.slice.injEq] at e2
    obtain ⟨rfl, _, rfl⟩ := e2
    exact ⟨a1, c1, rfl, hb2, q.out.trans ho.kept (fun _ f => f.elim)⟩
  have ht5 : (l.take m).take 5 = l.take 5 := by rw [List.take_take]; congr 1; omega
  have cb5 : IsBytes (cncd kind) := by
    intro x hx
    simp only [cncd, List.mem_cons, List.not_mem_nil, or_false] at hx
    rcases hx with rfl | rfl | rfl | rfl | rfl <;> omega
  have HX : Hid (∀ W a1 c1, Hid (BytesAt W a1 (cncd kind) ∧ Kept (fun _ => False) w W) → Calls Tryd.prog 40 #[.slice (some ⟨b, off, none⟩) m c, .slice a1 5 c1] W fun e W' => e = .returned (.bool (decide (l.take 5 = cncd kind))) ∧ W'.cell? ⟨0, 0, none⟩ = some (.iface 103 (.pointer (some a5))) ∧ Hid (Kept (fun _ => False) w W')) := by
    intro W a1 c1 q
    have r := prefix_any (l.take m) (cncd kind) b off a1 m c c1 W htl.symm (bytes_take (bytes_keptF hB q.out.2) m) q.out.1 rfl (by omega) (by omega)
    rw [ht5, str_beq (fun x hx => hb x (List.mem_of_mem_take hx)) cb5] at r
    refine r.mono ?_
    rintro e W' ⟨rfl, rfl⟩
    exact ⟨rfl, q.out.2.cell hE.s5.var (fun f => f), q.out.2⟩
  have LS : Hid (∀ W, Hid (Kept (fun _ => False) w W) → Calls Tryd.prog 41 #[.slice (some ⟨b, off + 5, none⟩) (m - 5) (c - 5)] W fun e W' => LstPost W a0 a1 a4 a5 a6 e W' (listR ((l.take m).drop 5))) := by
    intro W q
    refine listed_any ((l.take m).drop 5) b (off + 5) (m - 5) (c - 5) W (by rw [List.length_drop, htl]) (bytes_dropN (bytes_take (bytes_keptF hB q.out) m) 5) (fun x hx => hb x (List.mem_of_mem_take (List.mem_of_mem_drop hx))) (by omega) (by omega) (hT.kept q.out) (hE.kept q.out)
  obtain ⟨s, hs'⟩ : ∃ s, s = sealed (l.take m) := ⟨_, rfl⟩
  rw [← hs'] at SL EW
  have i0 : ¬ ((n : Int) < 10) := by omega
  have i1 : (n : Int) - 4 = (m : Int) := by omega
  have i2 : (m : Int) ≤ (c : Int) := by omega
  have i3 : m ≤ c := by omega
  by_cases hk0 : kind = 0
  · have hu : unpR kind l = .error 5 := by rw [hu0, if_pos (.inl hk0)]
    rw [hu]
    have HP : Hid (∀ w', Kept (fun _ => False) w w' → LstPost w a0 a1 a4 a5 a6 (.returned (.tuple #[.slice none 0 0, .iface 103 (.pointer (some a5))])) w' (.error 5)) := fun w' k => ⟨rfl, k⟩
    subst hk0
    have z0 : ((0 : Nat) : Int) = 0 := rfl
    rw [z0]
    clear hu hu0 hs hs' hB hb hT hE hn hm htl ht5 cb5 HX LS HD
    go_enter Tryd.func19, Tryd.ntmps19
    go_wp2_with (first | (go_at_call 34; refine SL.out.mono ?_; rintro e W2 ⟨rfl, e2⟩; subst e2) | (go_at_call 39; refine EW.out.mono ?_; rintro e W3 ⟨rfl, G3, K3⟩))
    go_quiet (fail)
    go_wp2
    go_ret2
    exact HP.out _ (K3.out.trans (Kept.drewN _ _) (fun _ f => f.elim))
  have hkI : (kind : Int) ≠ 0 := by omega
  by_cases hp : l.take 5 = cncd kind
  · have hu : unpR kind l = listR ((l.take m).drop 5) := by rw [hu0, if_neg (by rintro (e | e); exact hk0 e; exact e hp)]
    rw [hu]
    rw [decide_eq_true hp] at HX
    have LS2 : Hid (∀ W, Hid (Kept (fun _ => False) w W) → Calls Tryd.prog 41 #[.slice (some ⟨b, off + 5, none⟩) (m - 5) (c - 5)] W fun e W' => ∃ v1 v2, e = .returned (.tuple #[v1, v2]) ∧ Hid (LstPost w a0 a1 a4 a5 a6 (.returned (.tuple #[v1, v2])) W' (listR ((l.take m).drop 5)))) := by
      intro W q
      refine (LS.out W q).mono ?_
      intro e W' h
      cases hr : listR ((l.take m).drop 5) with
      | error er =>
        rw [hr] at h
        obtain ⟨rfl, k⟩ := h
        exact ⟨_, _, rfl, rfl, q.out.trans k (fun _ f => f.elim)⟩
      | ok d =>
        rw [hr] at h
        obtain ⟨a', c', D, rfl, hbl, hd⟩ := h
        exact ⟨_, _, rfl, a', c', D, rfl, hbl.from q.out, hd⟩
    have i5 : ¬ c = 5 := by omega
    have i6 : (5 : Int) ≤ (m : Int) := by omega
    have i7 : 5 ≤ m := by omega
    clear hu hu0 hs hs' hB hb hT hE hn hm htl ht5 cb5 LS hp
    go_enter Tryd.func19, Tryd.ntmps19
    go_wp2_with (first | (go_at_call 34; refine SL.out.mono ?_; rintro e W2 ⟨rfl, e2⟩; subst e2) | (go_at_call 39; refine EW.out.mono ?_; rintro e W3 ⟨rfl, G3, K3⟩) | (go_at_call 33; refine (HD.out W3 K3).mono ?_; rintro e W4 ⟨a4', c4', rfl, K4⟩) | (go_at_call 40; refine (HX.out W4 _ _ K4).mono ?_; rintro e W5 ⟨rfl, G5, K5⟩) | (go_at_call 41; refine (LS2.out W5 K5).mono ?_; rintro e W6 ⟨v1, v2, rfl, K6⟩))
    go_ret2
    exact K6.out
  · have hu : unpR kind l = .error 5 := by rw [hu0, if_pos (.inr hp)]
    rw [hu]
    have HP : Hid (∀ w', Kept (fun _ => False) w w' → LstPost w a0 a1 a4 a5 a6 (.returned (.tuple #[.slice none 0 0, .iface 103 (.pointer (some a5))])) w' (.error 5)) := fun w' k => ⟨rfl, k⟩
    rw [decide_eq_false hp] at HX
    clear hu hu0 hs hs' hB hb hT hE hn hm htl ht5 cb5 LS hp
    go_enter Tryd.func19, Tryd.ntmps19
    go_wp2_with (first | (go_at_call 34; refine SL.out.mono ?_; rintro e W2 ⟨rfl, e2⟩; subst e2) | (go_at_call 39; refine EW.out.mono ?_; rintro e W3 ⟨rfl, G3, K3⟩) | (go_at_call 33; refine (HD.out W3 K3).mono ?_; rintro e W4 ⟨a4', c4', rfl, K4⟩) | (go_at_call 40; refine (HX.out W4 _ _ K4).mono ?_; rintro e W5 ⟨rfl, G5, K5⟩))
    go_quiet (fail)
    go_wp2
    go_ret2
    exact HP.out _ (K5.out.trans (Kept.drewN _ _) (fun _ f => f.elim))
end Go.Proofs.YtehjbceknnopoaaDoor
