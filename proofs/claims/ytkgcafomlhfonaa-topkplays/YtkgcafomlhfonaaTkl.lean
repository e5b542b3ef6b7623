import Derived.Test.YtkgcafomlhfonaaTkk
namespace Go.Proofs.Ytkgcafomlhfonaa.Tk
open Go.ChangeShapes Go.WideShapes Go.ChangeAt Go.RowKit

set_option maxRecDepth 20000 in
set_option maxHeartbeats 4000000 in
theorem ins_none (w : World) : Calls Try.prog 42 #[.slice none 0 0, .int .i64 0, .int .i64 0, .func (.func 32) #[] #[]] w fun e w' => e = .returned (.tuple #[]) ∧ w' = w := by
  go_enter Try.func42, Try.ntmps42
  go_wp2
  go_loopw [8] (fun s8 wr => wr = w ∧ s8 = .int .i64 1) (fun _ _ => 0)
  case atStart => exact ⟨rfl, by go_num⟩
  case round =>
    obtain ⟨rfl, rfl⟩ := hrel
    go_wp2
    go_end0
    exact ⟨rfl, rfl⟩
set_option maxRecDepth 20000 in
set_option maxHeartbeats 4000000 in
theorem pdq_none (w : World) : Calls Try.prog 36 #[.slice none 0 0, .int .i64 0, .int .i64 0, .int .i64 0, .func (.func 32) #[] #[]] w fun e w' => e = .returned (.tuple #[]) ∧ w' = w := by
  have IN := hideT (ins_none w)
  go_enter Try.func36, Try.ntmps36
  go_wp2
  go_loopw [1, 2] (fun s1 s2 wr => wr = w ∧ s1 = .int .i64 0 ∧ s2 = .int .i64 0) (fun _ _ _ => 0)
  case atStart => exact ⟨rfl, rfl, rfl⟩
  case round =>
    obtain ⟨rfl, rfl, rfl⟩ := hrel
    go_wp2_with (go_at_call 42; refine IN.out.mono ?_; rintro e w' ⟨rfl, rfl⟩)
    refine bodyPost_ret (results_none rfl _ _ _) rfl ?_
    exact ⟨rfl, rfl⟩
set_option maxHeartbeats 4000000 in
theorem sort_none (w : World) : Calls Try.prog 31 #[.slice none 0 0, .func (.func 32) #[] #[]] w fun e w' => e = .returned (.tuple #[]) ∧ w' = w := by
  have PN := hideT (pdq_none w)
  have hl : Calls Try.prog 37 #[.int .u64 0] w fun e w' => e = .returned (.int .i64 0) ∧ w' = w := by
    have h := Any.bits_Len (SlLaysF0.n15.bits (P := Try.prog) (ρ := Try.sortHit_ren) { Try.sortHit with }) (0 : Int) w (by omega) (by omega)
    exact h
  have HL := hideT hl
  clear hl
  go_enter Try.func31, Try.ntmps31
  go_wp2_with (first | (go_at_call 37; refine HL.out.mono ?_; rintro e w' ⟨rfl, rfl⟩) | (go_at_call 36; refine PN.out.mono ?_; rintro e w' ⟨rfl, rfl⟩))
  go_end0
  exact ⟨rfl, rfl⟩
set_option maxHeartbeats 4000000 in
theorem clone_none (w : World) : Calls Try.prog 30 #[.slice none 0 0] w fun e w' => e = .returned (.slice none 0 0) ∧ w' = w := by
  have qe : ∀ (w : World) (a : Option Addr) (n c n' c' : Nat), (binOp .eql 26 (.slice a n c) (.slice none n' c')).run Try.prog w = .ok (.bool a.isNone) w := fun w a n c n' c' => Lib.run_eql_slice_nil w _ _ a n c n' c' Try.underlying26
  go_enter Try.func30, Try.ntmps30
  go_wp2
  go_ret
  simp
set_option maxHeartbeats 4000000 in
theorem clone_some (gb n c : Nat) (L : List Ht) (w : World) (h : HsAt w (some ⟨gb, 0, none⟩) L) (hn : n = L.length) (h0 : 0 < n) (hl : n ≤ 8796093022208) : Calls Try.prog 30 #[.slice (some ⟨gb, 0, none⟩) n c] w fun e w' => ∃ g c', e = .returned (.slice (some ⟨g, 0, none⟩) n c') ∧ RowH w.heap.size w' (.slice (some ⟨g, 0, none⟩) n c') L ∧ Kept (fun _ => False) w w' := by
  have HH := hideT h
  have HN := hideT hn
  have HL := hideT (show ([] : List Ht).length + n ≤ 8796093022208 from by simp; omega)
  clear h hn
  have HW := hideT (show HsAt (w.alloc (.cells #[] 29)) (some ⟨gb, 0, none⟩) L from HH.out.same (Kept.alloc _ _))
  have HR := hideT (show RowH w.heap.size (w.alloc (.cells #[] 29)) (.slice (some ⟨w.heap.size, 0, none⟩) 0 0) [] from ⟨rfl, .inr ⟨w.heap.size, 0, #[], rfl, Nat.le_refl _, heap_alloc_new w _, Nat.le_refl _, Nat.zero_le _, rfl, rfl⟩⟩)
  have HB := hideT (show w.heap.size ≤ (w.alloc (.cells #[] 29)).heap.size from (Kept.alloc w _).size)
  have qe : ∀ (w : World) (a : Option Addr) (n c n' c' : Nat), (binOp .eql 26 (.slice a n c) (.slice none n' c')).run Try.prog w = .ok (.bool a.isNone) w := fun w a n c n' c' => Lib.run_eql_slice_nil w _ _ a n c n' c' Try.underlying26
  go_enter Try.func30, Try.ntmps30
  go_wp2_with (refine wpList_catT (B := w.heap.size) rfl _ _ rfl (.slice (some ⟨w.heap.size, 0, none⟩) 0 0) [] L rfl HR _ n c rfl HW HN h0 HB HL ?_; intro g c' W' hR hK hg)
  go_wp2
  go_ret
  have e : ([] : List Ht).length + n = n := by simp
  rw [e] at hR
  refine ⟨g, c', rfl, hR.out, ?_⟩
  have hk := hK.out
  exact (Kept.alloc w (.cells #[] 29)).trans hk (fun i hi => by
    simp only [Value.ownBlock, Option.some.injEq] at hi
    exact .inr (by omega))
set_option maxHeartbeats 4000000 in
/-- The kept hits, the best first, in new memory. -/
theorem hits_any {B p : Nat} {k : Int} {v : Value} {K : List Ht} {w : World} (h : Keep B w p k v K) (hlim : K.length ≤ 8796093022208) : Calls Try.prog 13 #[.pointer (some ⟨p, 0, none⟩)] w fun e w' => ∃ a c, e = .returned (.slice a K.length c) ∧ RowH w.heap.size w' (.slice a K.length c) K ∧ Kept (fun _ => False) w w' := by
  obtain ⟨H, h1, h2, h3⟩ := h.at'
  have hl := h3.length_eq
  have hs : srt H = K := (srt_of h.srt h3.symm).symm
  have c2 := h1.cells.2.2
  by_cases hK : K = []
  · rw [h.nil hK] at c2
    have CN := hideT (clone_none w)
    have SN := hideT (sort_none w)
    subst hK
    clear h h1 h2 h3 hl hs
    go_enter Try.func13, Try.ntmps13
    go_wp2_with (first | (go_at_call 30; refine CN.out.mono ?_; rintro e w' ⟨rfl, rfl⟩) | (go_at_call 31; refine SN.out.mono ?_; rintro e w' ⟨rfl, rfl⟩))
    go_ret
    exact ⟨none, 0, rfl, ⟨rfl, .inl ⟨rfl, rfl⟩⟩, Kept.refl _ _⟩
  · have hn0 : 0 < H.length := by rw [hl]; exact List.length_pos_iff.2 hK
    obtain ⟨gb, c, rfl⟩ : ∃ gb c, v = .slice (some ⟨gb, 0, none⟩) H.length c := by
      rcases h1.row.2 with ⟨_, e⟩ | ⟨g, cap, cur, e, _⟩
      · omega
      · exact ⟨g, cap, e⟩
    obtain ⟨n, hn⟩ : ∃ n, n = H.length := ⟨_, rfl⟩
    have CS := hideT (clone_some gb n c H w (by have := h1.row; rw [← hn] at this; exact this.hs) hn (by omega) (by omega))
    have SA := hideT (fun B (W : World) g c' (hR : RowH B W (.slice (some ⟨g, 0, none⟩) n c') H) => (by have := sort_any (hn ▸ hR) (by omega); rw [← hn] at this; exact this : Calls Try.prog 31 #[.slice (some ⟨g, 0, none⟩) n c', .func (.func 32) #[] #[]] W fun e w' => e = .returned (.tuple #[]) ∧ RowH B w' (.slice (some ⟨g, 0, none⟩) n c') (srt H) ∧ Kept (fun i => i = g) W w'))
    have HS := hideT hs
    have HL := hideT (show K.length = n by omega)
    rw [← hn] at c2
    clear h h1 h2 h3 hl hs hn hn0
    rw [HL.out]
    go_enter Try.func13, Try.ntmps13
    go_upto_region 2 with (go_at_call 30; refine CS.out.mono ?_; rintro e W1 ⟨g, c', rfl, r1, k1⟩)
    have S1 := hideT (SA.out _ W1 g c' r1)
    have hg := hideT (World.ownsRow.lt r1 g rfl).1
    have K1 := hideT k1
    clear r1 k1
    go_wp2_with (go_at_call 31; refine S1.out.mono ?_; rintro e W2 ⟨rfl, r2, k2⟩)
    go_ret
    rw [HS.out] at r2
    exact ⟨_, c', rfl, r2, K1.out.trans k2 (fun i e => .inr (by rw [e]; exact hg.out))⟩
end Go.Proofs.Ytkgcafomlhfonaa.Tk
