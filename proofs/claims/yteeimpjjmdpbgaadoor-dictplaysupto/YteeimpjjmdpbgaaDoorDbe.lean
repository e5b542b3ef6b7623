import Derived.Test.YteeimpjjmdpbgaaDoorDbd
namespace Go.Proofs.YteeimpjjmdpbgaaDoor
open Go.ChangeShapes Go.WideShapes Go.ChangeAt Go.RowKit

theorem rises_chn : ∀ (l : List En) (b : ByteArray), (∀ e ∈ l, Gen e) → Rises l → (∀ e, l.head? = some e → klt b e.k = true) → chn b l
  | [], _, _, _, _ => trivial
  | e :: r, b, hg, hr, hh => by
    refine ⟨hh e rfl, rises_chn r e.k (fun x hx => hg x (List.mem_cons_of_mem _ hx)) (fun i hi => ?_) (fun x hx => ?_)⟩
    · have := hr (i + 1) (by simpa using hi)
      simpa using this
    · match r, hx with
      | y :: r', hx =>
        simp only [List.head?_cons, Option.some.injEq] at hx
        subst hx
        exact hr 0 (by simp)
theorem good_of {l : List En} (hg : ∀ e ∈ l, Gen e) (hr : Rises l) : Good l :=
  ⟨hg, rises_chn l _ hg hr (fun e he => klt_empty (hg e (List.mem_of_mem_head? he)).k1)⟩
theorem chn_rises : ∀ (l : List En) (b : ByteArray), chn b l → Rises l
  | [], _, _ => fun i hi => by simp at hi
  | [e], _, _ => fun i hi => by simp at hi
  | e :: f :: r, b, h => fun i hi => by
    match i, hi with
    | 0, _ => exact h.2.1
    | i + 1, hi =>
      have := chn_rises (f :: r) e.k h.2 i (by simpa using hi)
      simpa using this
theorem all_gen {l : List En} : l.all genB = true ↔ ∀ e ∈ l, Gen e := by
  rw [List.all_eq_true]
  exact ⟨fun h e he => (gen_iff e).1 (h e he), fun h e he => (gen_iff e).2 (h e he)⟩
set_option maxRecDepth 20000 in
set_option maxHeartbeats 4000000 in
theorem build_lim (l : List En) (a : Option Addr) (c : Nat) (E2 : Addr) (w : World) (hE : EsAt w a l) (hl : l.length ≤ 1073741824) (h2 : w.cell? ⟨0, 0, none⟩ = some (errV E2)) (hg : l.all genB = false) :
    Calls Tryd.prog 6 #[.slice a l.length c] w fun e w' => e = .returned (.tuple #[.slice none 0 0, errV E2]) ∧ Kept (fun _ => False) w w' := by
  have CK := hideQ (keepLimits_any l a c w hE (by omega))
  rw [hg] at CK
  have H2 := hideQ h2
  clear hE h2 hg
  generalize l.length = nl at *
  go_enter Tryd.func6, Tryd.ntmps6
  go_wp2_with (go_at_call 17; refine CK.out.mono ?_; rintro e W1 ⟨rfl, K1⟩; have h2 := K1.cell H2.out (fun f => f); unfold errV at h2)
  go_region
  all_goals go_wp2
  all_goals go_ret2
  all_goals exact ⟨rfl, K1.trans (Kept.drew _) (fun _ f => f.elim)⟩
set_option maxRecDepth 20000 in
set_option maxHeartbeats 4000000 in
theorem build_ord (l : List En) (a : Option Addr) (c : Nat) (E3 : Addr) (w : World) (hE : EsAt w a l) (hl : l.length ≤ 1073741824) (h3 : w.cell? ⟨1, 0, none⟩ = some (errV E3)) (hg : l.all genB = true) (hr : ¬ Rises l) :
    Calls Tryd.prog 6 #[.slice a l.length c] w fun e w' => e = .returned (.tuple #[.slice none 0 0, errV E3]) ∧ Kept (fun _ => False) w w' := by
  have CK := hideQ (keepLimits_any l a c w hE (by omega))
  have CR : Hid (∀ W, Kept (fun _ => False) w W → Calls Tryd.prog 18 #[.slice a l.length c] W fun e w' => e = .returned (.bool false) ∧ Kept (fun _ => False) W w') := hideQ (fun W k => (keysRise_any l a c W (hE.kept k) (by omega)).mono (fun e w' ⟨⟨B, he, hB⟩, k'⟩ => ⟨by
    have : B = false := by
      cases B with
      | false => rfl
      | true => exact absurd (hB.1 rfl) hr
    rw [he, this], k'⟩))
  rw [hg] at CK
  have H3 := hideQ h3
  clear hE h3 hg hr
  generalize l.length = nl at *
  go_enter Tryd.func6, Tryd.ntmps6
  go_wp2_with (first
    | (go_at_call 17; refine CK.out.mono ?_; rintro e W1 ⟨rfl, K1⟩)
    | (go_at_call 18; refine (CR.out _ K1).mono ?_; rintro e W2 ⟨rfl, K2⟩; have KK := K1.trans K2 (fun _ f => f.elim); have h3 := KK.cell H3.out (fun f => f); unfold errV at h3))
  go_region
  all_goals go_wp2
  all_goals go_ret2
  all_goals exact ⟨rfl, KK.trans (Kept.drew _) (fun _ f => f.elim)⟩
set_option maxRecDepth 20000 in
set_option maxHeartbeats 4000000 in
theorem build_good (l : List En) (a : Option Addr) (c : Nat) (w : World) (hE : EsAt w a l) (hl : l.length ≤ 1073741824) (hc : l.length ≤ c) (hg : Good l) :
    Calls Tryd.prog 6 #[.slice a l.length c] w fun e w' => (∃ g, w.heap.size ≤ g ∧ e = .returned (.tuple #[.slice (some ⟨g, 0, none⟩) (img l).length (img l).length, .nilIface]) ∧ w'.ownsRow w.heap.size 5 1 (.slice (some ⟨g, 0, none⟩) (img l).length (img l).length) (img l).length (bs (img l))) ∧ Kept (fun _ => False) w w' := by
  have CK := hideQ (keepLimits_any l a c w hE (by omega))
  rw [all_gen.2 hg.gen] at CK
  have CR : Hid (∀ W, Kept (fun _ => False) w W → Calls Tryd.prog 18 #[.slice a l.length c] W fun e w' => e = .returned (.bool true) ∧ Kept (fun _ => False) W w') := hideQ (fun W k => (keysRise_any l a c W (hE.kept k) (by omega)).mono (fun e w' ⟨⟨B, he, hB⟩, k'⟩ => ⟨by rw [he, hB.2 (chn_rises l _ hg.chn)], k'⟩))
  have CI : Hid (∀ W, Kept (fun _ => False) w W → Calls Tryd.prog 19 #[.slice a l.length c] W fun e w' => (∃ g, W.heap.size ≤ g ∧ e = .returned (.slice (some ⟨g, 0, none⟩) (img l).length (img l).length) ∧ w'.ownsRow W.heap.size 5 1 (.slice (some ⟨g, 0, none⟩) (img l).length (img l).length) (img l).length (bs (img l))) ∧ Kept (fun _ => False) W w') := hideQ (fun W k => imageOf_any l a c W (hE.kept k) hg.gen hl hc)
  clear hE hg
  generalize l.length = nl at *
  generalize img l = I at *
  go_enter Tryd.func6, Tryd.ntmps6
  go_wp2_with (first
    | (go_at_call 17; refine CK.out.mono ?_; rintro e W1 ⟨rfl, K1⟩)
    | (go_at_call 18; refine (CR.out _ K1).mono ?_; rintro e W2 ⟨rfl, K2⟩; have KK := K1.trans K2 (fun _ f => f.elim))
    | (go_at_call 19; refine (CI.out _ KK).mono ?_; rintro e W3 ⟨⟨g, hg, rfl, ho⟩, K3⟩))
  go_ret2
  have hs := KK.size
  exact ⟨⟨g, by omega, rfl, own_lowerE ho hs⟩, KK.trans K3 (fun _ f => f.elim)⟩
end Go.Proofs.YteeimpjjmdpbgaaDoor
