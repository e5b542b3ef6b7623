import Derived.Test.YtoglgicmnhklbaaDoorRnw
import Derived.Test.YtoglgicmnhklbaaDoorDcc
namespace Go.Proofs.YtoglgicmnhklbaaDoor
open Go.ChangeShapes Go.WideShapes Go.ChangeAt Go.RowKit

def RdPost (w : World) (e : Ending) (w' : World) : Except Nat (Int × List Int × Nat) → Prop
  | .error er => e = .returned (.tuple #[.agg #[.int .u8 0, .slice none 0 0], .int .i64 0, .int .i64 ((er + 1 : Nat) : Int)]) ∧ Kept (fun _ => False) w w'
  | .ok (t, body, n) => ∃ a' c', e = .returned (.tuple #[.agg #[.int .u8 t, .slice a' body.length c'], .int .i64 n, .int .i64 0]) ∧ OwnB w w' (.slice a' body.length c') body
theorem blk_new (w : World) : (w.alloc (.cells #[.int .u8 0, .slice none 0 0] 35)).heap[w.heap.size]? = some (.cells #[.int .u8 0, .slice none 0 0] 35 (0, 0)) := heap_alloc_new w _
set_option maxRecDepth 20000 in
set_option maxHeartbeats 4000000 in
theorem rdec_err (l : List Int) (a : Option Addr) (n c er : Nat) (w : World) (hn : n = l.length) (hB : BytesAt w a l) (hb : IsBytes l) (hc : l.length ≤ c) (hl : l.length ≤ 281474976710656) (hr : bodyR l = .error er) :
    Calls Tryd.prog 19 #[.slice a n c] w fun e w' => RdPost w e w' (.error er) := by
  have k0 := Kept.alloc w (.cells #[.int .u8 0, .slice none 0 0] 35)
  have K0 := hideC k0
  have Z0 := hideC (blk_new w)
  have hP : Hid (∀ w', Kept (fun _ => False) w w' → RdPost w (.returned (.tuple #[.agg #[.int .u8 0, .slice none 0 0], .int .i64 0, .int .i64 ((er + 1 : Nat) : Int)])) w' (.error er)) := fun w' k => ⟨rfl, k⟩
  by_cases hl0 : l = []
  · have e0 : er = 0 := by rw [bodyR, if_pos hl0] at hr; cases hr; rfl
    subst e0
    obtain rfl : n = 0 := by rw [hn, hl0]; rfl
    clear hr hB hb hn hl0 hc hl k0
    go_enter Tryd.func19, Tryd.ntmps19
    go_wp2
    refine bodyPost_ret (results_cell3 rfl _ _ _ w.heap.size _ rfl (load_blk Z0.out)) rfl ?_
    exact hP.out _ K0.out
  obtain ⟨b, off, rfl, hcl⟩ := hB hl0
  have hpos : 0 < l.length := List.length_pos_iff.2 hl0
  have hc0 := hcl 0 hpos
  rw [Nat.add_zero] at hc0
  obtain ⟨t, ht0, ht1, _⟩ := hb.at hpos
  rw [ht0] at hc0
  have hc1 := k0.cell hc0 (fun f => f)
  by_cases htz : t = 0
  · have e5 : er = 5 := by rw [bodyR, if_neg hl0, if_pos (by rw [ht0, htz]; rfl)] at hr; cases hr; rfl
    subst e5
    subst htz
    have z0 : ((0 : Nat) : Int) = 0 := rfl
    rw [z0] at hc1
    rw [← hn] at hpos hc hl
    clear hr hB hb hn hl0 k0 hcl ht0 hc0
    go_enter Tryd.func19, Tryd.ntmps19
    go_wp2
    refine bodyPost_ret (results_cell3 rfl _ _ _ w.heap.size _ rfl (load_blk Z0.out)) rfl ?_
    exact hP.out _ K0.out
  have htn : l[0]?.getD 0 ≠ 0 := by rw [ht0]; omega
  have hlen1 : (l.drop 1).length = l.length - 1 := List.length_drop ..
  have hb1 : IsBytes (l.drop 1) := fun x hx => hb x (List.mem_of_mem_drop hx)
  rw [bodyR, if_neg hl0, if_neg htn] at hr
  have NM : ∀ a' c', BytesAt w a' (l.drop 1) → Calls Tryd.prog 34 #[.slice a' (l.length - 1) c'] (w.alloc (.cells #[.int .u8 0, .slice none 0 0] 35)) fun e W' => e = .returned (numV (rdu 0 0 ((l.drop 1).take 10))) ∧ W' = w.alloc (.cells #[.int .u8 0, .slice none 0 0] 35) := by
    intro a' c' h1
    exact rnum_any (l.drop 1) a' (l.length - 1) c' _ hlen1.symm (bytes_keptF h1 k0) hb1 (by omega)
  have NM1 := hideC (NM (some ⟨b, off + 1, none⟩) (c - 1) (bytes_drop1 hB))
  have NM2 : Hid (l.length = 1 → Calls Tryd.prog 34 #[.slice (some ⟨b, off, none⟩) 0 0] (w.alloc (.cells #[.int .u8 0, .slice none 0 0] 35)) fun e W' => e = .returned (numV (rdu 0 0 ((l.drop 1).take 10))) ∧ W' = w.alloc (.cells #[.int .u8 0, .slice none 0 0] 35)) := by
    intro h1
    have r := NM (some ⟨b, off, none⟩) 0 (fun hne => (hne (List.length_eq_zero_iff.1 (by omega))).elim)
    rw [h1] at r
    exact r
  have htI : (t : Int) ≠ 0 := by omega
  have hrl := rdu_lt ((l.drop 1).take 10) 0 0
  have hrk := rdu_le ((l.drop 1).take 10) 0 0
  have htl : ((l.drop 1).take 10).length ≤ l.length - 1 ∧ ((l.drop 1).take 10).length ≤ 10 := by rw [List.length_take, hlen1]; omega
  have hbt : ∀ x ∈ (l.drop 1).take 10, 0 ≤ x ∧ x ≤ 255 := fun x hx => hb1 x (List.mem_of_mem_take hx)
  cases hx : rdu 0 0 ((l.drop 1).take 10) with
  | error er' =>
    rw [hx] at hr NM1 NM2
    obtain rfl : er' = er := by cases hr; rfl
    have he := rdu_codes _ _ _ _ hx
    have hI : ((er' + 1 : Nat) : Int) ≠ 0 := by omega
    obtain ⟨z, hz⟩ : ∃ z : Int, z = ((er' + 1 : Nat) : Int) := ⟨_, rfl⟩
    have el : numV (.error er') = .tuple #[.int .u64 0, .int .i64 0, .int .i64 z] := by rw [hz]; rfl
    rw [el] at NM1 NM2
    rw [← hz] at hI hP
    rw [← hn] at hpos hc hl NM1 NM2
    clear hr hx he hz el hB hb hn hl0 k0 hcl ht0 hc0 htn hlen1 hb1 NM hrl hrk htl hbt
    by_cases hcc : c = 1
    · obtain rfl : n = 1 := by omega
      subst hcc
      have NM3 := hideC (NM2.out rfl)
      clear NM1 NM2
      go_enter Tryd.func19, Tryd.ntmps19
      go_wp2_with (go_at_call 34; refine NM3.out.mono ?_; rintro e W2 ⟨rfl, e2⟩; subst e2)
      refine bodyPost_ret (results_cell3 rfl _ _ _ w.heap.size _ rfl (load_blk Z0.out)) rfl ?_
      exact hP.out _ K0.out
    · clear NM2
      go_enter Tryd.func19, Tryd.ntmps19
      go_wp2_with (go_at_call 34; refine NM1.out.mono ?_; rintro e W2 ⟨rfl, e2⟩; subst e2)
      refine bodyPost_ret (results_cell3 rfl _ _ _ w.heap.size _ rfl (load_blk Z0.out)) rfl ?_
      exact hP.out _ K0.out
  | ok xk =>
    obtain ⟨x, k⟩ := xk
    rw [hx] at hr NM1
    have hx1 := hrl x k (by omega) (by decide) hbt hx
    have hk := hrk x k hx
    have hs : l.length < 1 + k + 4 + x := by
      simp only at hr
      split at hr
      · assumption
      · cases hr
    obtain rfl : er = 0 := by simp only at hr; rw [if_pos hs] at hr; cases hr; rfl
    have el : numV (.ok (x, k)) = .tuple #[.int .u64 x, .int .i64 k, .int .i64 0] := rfl
    rw [el] at NM1
    have hcc : ¬ c = 1 := by omega
    rw [← hn] at hpos hc hl NM1 hs
    have hkn : k ≤ n - 1 := by omega
    have hk10 : k ≤ 10 := by omega
    have hk1 : 1 ≤ k := by omega
    clear hr hx el hB hb hn hl0 k0 hcl ht0 hc0 htn hlen1 hb1 NM hrl hrk htl hbt NM2 hk
    by_cases hroom : n < 1 + k + 4
    · have i1 : (n : Int) - 1 - (k : Int) < 4 := by omega
      go_enter Tryd.func19, Tryd.ntmps19
      go_wp2_with (go_at_call 34; refine NM1.out.mono ?_; rintro e W2 ⟨rfl, e2⟩; subst e2)
      refine bodyPost_ret (results_cell3 rfl _ _ _ w.heap.size _ rfl (load_blk Z0.out)) rfl ?_
      exact hP.out _ K0.out
    · have i1 : ¬ ((n : Int) - 1 - (k : Int) < 4) := by omega
      have i2 : (n : Int) - 1 - (k : Int) - 4 < (x : Int) := by omega
      go_enter Tryd.func19, Tryd.ntmps19
      go_wp2_with (go_at_call 34; refine NM1.out.mono ?_; rintro e W2 ⟨rfl, e2⟩; subst e2)
      refine bodyPost_ret (results_cell3 rfl _ _ _ w.heap.size _ rfl (load_blk Z0.out)) rfl ?_
      exact hP.out _ K0.out
end Go.Proofs.YtoglgicmnhklbaaDoor
