import Derived.Test.YtohnkamobmkhkaaDoorIzc
import Derived.Test.YtohnkamobmkhkaaDoorIzr
namespace Go.Proofs.YtohnkamobmkhkaaDoor
open Go.ChangeShapes Go.WideShapes Go.ChangeAt Go.RowKit

def rtC : Array Value := #[.string ⟨#[101, 110, 100]⟩, .int .i64 0, .string ⟨#[110, 111, 110, 101]⟩, .int .i64 0, .string ⟨#[97, 108, 108]⟩, .int .i64 0, .string ⟨#[104, 97, 115]⟩, .int .i64 1, .string ⟨#[116, 101, 114, 109]⟩, .int .i64 2, .string ⟨#[112, 104, 114, 97, 115, 101]⟩, .int .i64 2, .string ⟨#[97, 110, 100]⟩, .int .i64 0, .string ⟨#[111, 114]⟩, .int .i64 0, .string ⟨#[109, 97, 120]⟩, .int .i64 0, .string ⟨#[111, 112, 116]⟩, .int .i64 0, .string ⟨#[101, 120, 99, 101, 112, 116]⟩, .int .i64 0, .string ⟨#[110, 111, 116]⟩, .int .i64 0, .string ⟨#[115, 99, 97, 108, 101]⟩, .int .i64 1, .string ⟨#[102, 105, 120]⟩, .int .i64 1, .string ⟨#[108, 101, 97, 115, 116]⟩, .int .i64 2, .string ⟨#[109, 105, 115, 115]⟩, .int .i64 1, .string ⟨#[104, 105, 116]⟩, .int .i64 1]
theorem rtC_at (k : Nat) (hk : k < 17) : rtC[k * 2]? = some (.string ⟨(nmN k).toArray⟩) ∧ rtC[k * 2 + 1]? = some (.int .i64 (arN k : Nat)) := by
  match k, hk with
  | 0, _ => exact ⟨rfl, rfl⟩
  | 1, _ => exact ⟨rfl, rfl⟩
  | 2, _ => exact ⟨rfl, rfl⟩
  | 3, _ => exact ⟨rfl, rfl⟩
  | 4, _ => exact ⟨rfl, rfl⟩
  | 5, _ => exact ⟨rfl, rfl⟩
  | 6, _ => exact ⟨rfl, rfl⟩
  | 7, _ => exact ⟨rfl, rfl⟩
  | 8, _ => exact ⟨rfl, rfl⟩
  | 9, _ => exact ⟨rfl, rfl⟩
  | 10, _ => exact ⟨rfl, rfl⟩
  | 11, _ => exact ⟨rfl, rfl⟩
  | 12, _ => exact ⟨rfl, rfl⟩
  | 13, _ => exact ⟨rfl, rfl⟩
  | 14, _ => exact ⟨rfl, rfl⟩
  | 15, _ => exact ⟨rfl, rfl⟩
  | 16, _ => exact ⟨rfl, rfl⟩
  | n + 17, h => omega
/-- The document's table at its block. -/
structure RT (w : World) (g : Nat) : Prop where
  nm : ∀ k : Nat, k < 17 → w.cell? ⟨g, k * 2, none⟩ = some (.string ⟨(nmN k).toArray⟩)
  ar : ∀ k : Nat, k < 17 → w.cell? ⟨g, k * 2 + 1, none⟩ = some (.int .i64 (arN k : Nat))
theorem rt_new (w : World) : RT (w.alloc (.cells rtC 116)) w.heap.size :=
  ⟨fun k hk => by rw [World.cell?_alloc_new]; exact (rtC_at k hk).1, fun k hk => by rw [World.cell?_alloc_new]; exact (rtC_at k hk).2⟩
set_option maxRecDepth 20000 in
set_option maxHeartbeats 4000000 in
theorem rtable_any (w : World) :
    Calls Tryd.prog 62 #[] w fun e w' => e = .returned (.slice (some ⟨w.heap.size, 0, none⟩) 17 17) ∧ RT w' w.heap.size ∧ Kept (fun _ => False) w w' := by
  have HT := hideI (rt_new w)
  have HK := hideI (Kept.alloc w (.cells rtC 116))
  unfold rtC at HT HK
  go_enter Tryd.func62, Tryd.ntmps62
  go_wp2
  go_ret
  exact ⟨rfl, HT.out, HK.out⟩
set_option maxRecDepth 20000 in
set_option maxHeartbeats 2000000 in
theorem rargs_any (op : Int) (w : World) :
    Calls Tryd.prog 47 #[.int .i64 op] w fun e w' => e = .returned (arV op) ∧ Kept (fun _ => False) w w' := by
  have HC := hideI (rtable_any w)
  cases hO : isO op with
  | true =>
    rw [arV_in hO]
    obtain ⟨h0, h1⟩ := isO_iff.1 hO
    obtain ⟨k, rfl⟩ : ∃ k : Nat, op = k := ⟨op.toNat, by omega⟩
    have hk : k < 17 := by omega
    have hk1 : ¬ (17 : Int) ≤ (k : Int) := by omega
    clear hO h0
    go_enter Tryd.func47, Tryd.ntmps47
    go_wp2_with (go_at_call 62; refine HC.out.mono ?_; rintro e W ⟨rfl, hR, K⟩; have x1 := hR.ar k hk; have HK := hideI K; clear hR K)
    go_ret2
    exact ⟨rfl, HK.out⟩
  | false =>
    rw [arV_out hO]
    have hn := isO_not.1 hO
    by_cases h0 : op < 0
    · clear hO hn
      go_enter Tryd.func47, Tryd.ntmps47
      go_wp2_with (go_at_call 62; refine HC.out.mono ?_; rintro e W ⟨rfl, -, K⟩; have HK := hideI K; clear K)
      go_ret2
      exact ⟨rfl, HK.out⟩
    · have h1 : (17 : Int) ≤ op := by omega
      clear hO hn
      go_enter Tryd.func47, Tryd.ntmps47
      go_wp2_with (go_at_call 62; refine HC.out.mono ?_; rintro e W ⟨rfl, -, K⟩; have HK := hideI K; clear K)
      go_ret2
      exact ⟨rfl, HK.out⟩
end Go.Proofs.YtohnkamobmkhkaaDoor
