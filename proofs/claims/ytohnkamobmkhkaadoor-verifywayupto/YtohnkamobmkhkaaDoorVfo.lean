import Derived.Test.YtohnkamobmkhkaaDoorVfn
import Derived.Test.YtohnkamobmkhkaaDoorIxa
import Derived.Test.YtohnkamobmkhkaaDoorIzx
import Derived.Test.YtohnkamobmkhkaaDoorIye
namespace Go.Proofs.YtohnkamobmkhkaaDoor
open Go.ChangeShapes Go.WideShapes Go.ChangeAt Go.RowKit

/-! The fixed calls of the law. -/
def fxL : List In := [⟨4, 0, 5⟩, ⟨15, 2, 0⟩, ⟨2, 0, 0⟩, ⟨6, 0, 0⟩, ⟨0, 0, 0⟩]
def fxP (av : List Int) : Pg := ⟨av, [⟨0, ⟨#[97]⟩⟩], [], true, [], ibL fxL⟩
theorem fxL_ok : ∀ x ∈ fxL, x.Ok := by
  intro x hx
  simp [fxL] at hx
  rcases hx with rfl | rfl | rfl | rfl | rfl <;> exact ⟨by decide, by decide, by decide, by decide⟩
theorem fxL_good : ∀ x ∈ fxL, okI x = true := by
  intro x hx
  simp [fxL] at hx
  rcases hx with rfl | rfl | rfl | rfl | rfl <;> decide
theorem fx_bytes : ibL fxL = [4, 0, 5, 15, 2, 2, 6, 0] := by
  have e1 : ib ⟨4, 0, 5⟩ = [4, 0, 5] := by
    have : ib ⟨4, 0, 5⟩ = 4 :: ([0, 5].map uvb).flatten := rfl
    rw [this]; simp [uvb]
  have e2 : ib ⟨15, 2, 0⟩ = [15, 2] := by
    have : ib ⟨15, 2, 0⟩ = 15 :: ([2].map uvb).flatten := rfl
    rw [this]; simp [uvb]
  have e3 : ib ⟨2, 0, 0⟩ = [2] := rfl
  have e4 : ib ⟨6, 0, 0⟩ = [6] := rfl
  have e5 : ib ⟨0, 0, 0⟩ = [0] := rfl
  simp [fxL, ibL, e1, e2, e3, e4, e5]
theorem fx_dec (av : List Int) : dcI (fxP av).co = some fxL := dcI_back fxL fxL_ok fxL_good
theorem fx_hL : hL fxL = [0, 1, 1, 2, 1] := by decide
theorem fx_mx : mxL (hL fxL) = 2 := by rw [fx_hL]; decide
theorem fx_ok (av : List Int) (h : IsInts av) (hl : av.length ≤ 1) : (fxP av).Ok := by
  refine ⟨h, ?_, ?_, ?_, ?_, ?_⟩
  · intro x hx; simp [fxP] at hx
  · intro x hx; simp [fxP] at hx; subst hx; decide
  · intro x hx; simp [fxP] at hx
  · intro x hx
    rw [show (fxP av).co = ibL fxL from rfl, fx_bytes] at hx
    simp at hx
    rcases hx with rfl | rfl | rfl | rfl | rfl | rfl | rfl | rfl <;> decide
  · unfold psz
    rw [show (fxP av).co = ibL fxL from rfl, fx_bytes]
    simp [fxP]
    have : ByteArray.size ⟨#[97]⟩ = 1 := rfl
    omega
theorem fx_vok : Vok (fxP [0]) fxL := by
  refine ⟨⟨⟨by decide, by decide, by decide⟩, ?_, ?_, fun _ => rfl, fun k hk => by simp [fxP] at hk⟩, fx_dec _, ⟨⟨by decide, ?_⟩, ?_, ?_, ?_, by decide⟩⟩
  · intro c hc
    simp [fxP] at hc
    subst hc
    exact ⟨by decide, by decide, by decide⟩
  · intro n hn
    simp [fxP] at hn
  · decide +kernel
  · unfold PaOk OpOk; decide +kernel
  · unfold StOk; decide +kernel
  · unfold SkOk; decide +kernel
theorem fx_bad : ¬ ∃ L, Vok (fxP []) L := by
  rintro ⟨L, h⟩
  have := h.tb.1.1
  simp [fxP] at this
theorem fx_ins (w : World) : InsAt (w.alloc (.cells #[.int .i64 4, .int .u64 0, .int .u64 5, .int .i64 15, .int .u64 2, .int .u64 0, .int .i64 2, .int .u64 0, .int .u64 0, .int .i64 6, .int .u64 0, .int .u64 0, .int .i64 0, .int .u64 0, .int .u64 0] 56)) (some ⟨w.heap.size, 0, none⟩) fxL := by
  intro _
  refine ⟨w.heap.size, 0, rfl, fun k hk => ?_⟩
  have hk5 : k < 5 := hk
  match k, hk5 with
  | 0, _ => refine ⟨?_, ?_, ?_⟩ <;> simp [fxL]
  | 1, _ => refine ⟨?_, ?_, ?_⟩ <;> simp [fxL]
  | 2, _ => refine ⟨?_, ?_, ?_⟩ <;> simp [fxL]
  | 3, _ => refine ⟨?_, ?_, ?_⟩ <;> simp [fxL]
  | 4, _ => refine ⟨?_, ?_, ?_⟩ <;> simp [fxL]
/-- What 'least' answers. -/
def lsP (w : World) (e : Ending) (w' : World) : Prop := ∃ (aA aC aO : Option Addr) (cO : Nat), e = .returned (.agg #[.slice aA 1 1, .slice aC 1 1, .slice none 0 0, .bool true, .slice none 0 0, .slice aO (ibL fxL).length cO]) ∧ PgAt w' (fxP [0]) aA aC none none aO ∧ Kept (fun _ => False) w w'
end Go.Proofs.YtohnkamobmkhkaaDoor
