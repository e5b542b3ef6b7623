import Derived.Test.YtkgcafomlhfonaaTkh
import Derived.Laws.ResultCell
namespace Go.Proofs.Ytkgcafomlhfonaa.Tk
open Go.ChangeShapes Go.WideShapes Go.ChangeAt Go.RowKit

/-- A keeper that keeps the hits K of at most k. -/
structure Keep (B : Nat) (w : World) (p : Nat) (k : Int) (v : Value) (K : List Ht) : Prop where
  at' : ∃ H, KpAt B w p k v H ∧ Hp H ∧ H.Perm K
  srt : Srt K
  len : K.length ≤ k.toNat
  old : B ≤ w.heap.size
  nil : K = [] → v = .slice none 0 0
theorem Keep.same {B : Nat} {w w' : World} {p : Nat} {k : Int} {v : Value} {K : List Ht} (h : Keep B w p k v K) (s : Kept (fun _ => False) w w') : Keep B w' p k v K := by
  obtain ⟨H, h1, h2, h3⟩ := h.at'
  exact ⟨⟨H, h1.same s, h2, h3⟩, h.srt, h.len, Nat.le_trans h.old s.size, h.nil⟩
theorem Keep.lt {B : Nat} {w : World} {p : Nat} {k : Int} {v : Value} {K : List Ht} (h : Keep B w p k v K) : p < w.heap.size ∧ ∀ i, v.ownBlock = some i → B ≤ i ∧ i < w.heap.size := by
  obtain ⟨H, h1, _⟩ := h.at'
  exact h1.lt
theorem Keep.other {B : Nat} {w w' : World} {p q : Nat} {k : Int} {v u u' : Value} {K : List Ht} (h : Keep B w p k v K) (s : KStep w w' q u u') (h1 : p ≠ q) (h2 : u.ownBlock ≠ some p) (h3 : v.ownBlock ≠ some q) (h4 : ∀ i, v.ownBlock = some i → u.ownBlock ≠ some i) : Keep B w' p k v K := by
  obtain ⟨H, a, b, c⟩ := h.at'
  exact ⟨⟨H, ⟨s.kept.heap a.box (by rintro (e | e); exact h1 e; exact h2 e), a.row.same s.kept (fun i hi => by rintro (e | e); exact h3 (by rw [hi, e]); exact h4 i hi e), a.far⟩, b, c⟩, h.srt, h.len, Nat.le_trans h.old s.kept.size, h.nil⟩
set_option maxHeartbeats 2000000 in
theorem new_any (k : Int) (w : World) : Calls Try.prog 10 #[.int .i64 k] w fun e w' => e = .returned (.pointer (some ⟨w.heap.size, 0, none⟩)) ∧ Keep w.heap.size w' w.heap.size k (.slice none 0 0) [] ∧ Kept (fun _ => False) w w' := by
  go_enter Try.func10, Try.ntmps10
  go_wp2
  go_ret
  refine ⟨rfl, ⟨⟨[], ⟨heap_alloc_new w _, ⟨rfl, .inl ⟨rfl, rfl⟩⟩, fun e => by cases e⟩, fun i _ h => by simp at h, .refl _⟩, List.Pairwise.nil, Nat.zero_le _, by simp, fun _ => rfl⟩, Kept.alloc _ _⟩
set_option maxHeartbeats 2000000 in
theorem len_any (p : Nat) (f v : Value) (a : Option Addr) (n c : Nat) (k : Int) (w : World) (hv : v = .slice a n c) (hb : w.heap[p]? = some (.cells #[.int .i64 k, f, v] 57 (0, 0))) : Calls Try.prog 14 #[.pointer (some ⟨p, 0, none⟩)] w fun e w' => e = .returned (.int .i64 n) ∧ w' = w := by
  have e2 : w.cell? ⟨p, 2, none⟩ = some (.slice a n c) := by rw [← hv]; exact (cell_of_row _ _ _ _ _ _ hb).trans rfl
  clear hb hv
  go_enter Try.func14, Try.ntmps14
  go_wp2
  go_ret
  simp
set_option maxRecDepth 20000 in
set_option maxHeartbeats 4000000 in
theorem worst_any {B p : Nat} {k : Int} {v : Value} {K : List Ht} {w : World} (h : Keep B w p k v K) (hlim : K.length ≤ 8796093022208) : Calls Try.prog 27 #[.pointer (some ⟨p, 0, none⟩)] w fun e w' => e = .returned (.tuple #[.agg #[.int .i64 (K.getLast?.getD (0, 0)).1, .int .u64 (K.getLast?.getD (0, 0)).2], .bool (decide (K ≠ []))]) ∧ Kept (fun _ => False) w w' := by
  obtain ⟨H, h1, h2, h3⟩ := h.at'
  obtain ⟨a, c, hv⟩ := h1.row.shape
  have LN := hideT (fun W (hW : Kept (fun _ => False) w W) => len_any p _ v a H.length c k W hv ((h1.same hW).box))
  have hl := h3.length_eq
  by_cases hK : K = []
  · subst hK
    have hH : H = [] := List.eq_nil_of_length_eq_zero (by rw [hl]; rfl)
    subst hH
    have ka := Kept.alloc w (.cells #[.int .i64 0, .int .u64 0] 29)
    have L1 := hideT (LN.out _ ka)
    clear LN h1 h2 h3 hv h hl ka
    go_enter Try.func27, Try.ntmps27
    go_wp2_with (go_at_call 14; refine L1.out.mono ?_; rintro e w' ⟨rfl, rfl⟩)
    have lv := run_loadVar_row (P := Try.prog) (w.alloc (.cells #[.int .i64 0, .int .u64 0] 29)) w.heap.size 29 29 #[.int .i64 0, .int .u64 0] (0, 0) _ (heap_alloc_new w _) Try.underlying29 rfl size_hit
    refine bodyPost_ret (v := .tuple #[.agg #[.int .i64 0, .int .u64 0], .bool false]) (by rw [results_cell_tmp (fn := Try.f27) (p := 2) (u := 3) (ty := 29) (by kernel_rfl)]; simp [asAddr, lv]) rfl ?_
    exact ⟨rfl, Kept.alloc _ _⟩
  · have hn : 0 < H.length := by rw [hl]; exact List.length_pos_iff.2 hK
    have hlast := top_last h2 h3 h.srt hK
    rw [hlast]
    obtain ⟨x, hx⟩ : ∃ x, x = g H 0 := ⟨_, rfl⟩
    rw [← hx]
    obtain ⟨gb, c', rfl⟩ : ∃ gb c, v = .slice (some ⟨gb, 0, none⟩) H.length c := by
      rcases h1.row.2 with ⟨_, e⟩ | ⟨g, cap, cur, e, _⟩
      · omega
      · exact ⟨g, cap, e⟩
    have HH := HsAt.hit h1.row hn
    rw [← hx] at HH
    have ka := Kept.alloc w (.cells #[.int .i64 0, .int .u64 0] 29)
    have L1 := hideT (LN.out _ ka)
    have e2 := ka.cell (h1.cells).2.2 (fun f => f)
    have m0 := ka.cell HH.1 (fun f => f)
    have m1 := ka.cell HH.2 (fun f => f)
    obtain ⟨n, hn'⟩ : ∃ n, n = H.length := ⟨_, rfl⟩
    rw [← hn'] at hn L1 e2
    clear LN h1 h2 h3 h hl ka HH hlast hx hv
    have hn0 : (0 : Int) < (n : Int) := by omega
    go_enter Try.func27, Try.ntmps27
    go_wp2_with (go_at_call 14; refine L1.out.mono ?_; rintro e w' ⟨rfl, rfl⟩)
    have lv := run_loadVar_row (P := Try.prog) (w.alloc (.cells #[.int .i64 x.1, .int .u64 x.2] 29)) w.heap.size 29 29 #[.int .i64 x.1, .int .u64 x.2] (0, 0) _ (heap_alloc_new w _) Try.underlying29 rfl size_hit
    refine bodyPost_ret (v := .tuple #[.agg #[.int .i64 x.1, .int .u64 x.2], .bool true]) (by rw [results_cell_tmp (fn := Try.f27) (p := 2) (u := 3) (ty := 29) (by kernel_rfl)]; simp [asAddr, lv]) rfl ?_
    exact ⟨by simp [hK], Kept.alloc _ _⟩
end Go.Proofs.Ytkgcafomlhfonaa.Tk
