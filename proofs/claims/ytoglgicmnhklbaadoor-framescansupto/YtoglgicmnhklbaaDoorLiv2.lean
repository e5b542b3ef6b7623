import Derived.Test.YtoglgicmnhklbaaDoorEnc
import Derived.Lib.SlBytesConst
namespace Go.Proofs.YtoglgicmnhklbaaDoor
open Go.ChangeShapes Go.WideShapes Go.ChangeAt Go.RowKit

def nine : List Int := [49, 50, 51, 52, 53, 54, 55, 56, 57]
theorem nine_sum : ext 0 nine = 3421780262 := by decide +kernel
theorem nine_seal : sealed nine = 3808858755 := by decide +kernel
theorem nine_bytes : IsBytes nine := by unfold IsBytes nine; decide
theorem nine_len : nine.length = 9 := rfl
theorem one_len : (benc 1 [97]).length = 7 := by
  have u : ulen [(97 : Int)].length = 1 := ulen_small (by decide)
  rw [benc_length, u]
  rfl
theorem one_get : (benc 1 [97])[2]?.getD 0 = 97 := by
  have e : benc 1 [97] = [1] ++ uvb 1 ++ [97] ++ le 4 (ext 0 (bhead 1 [97])) := rfl
  have e1 : uvb 1 = [1] := by rw [uvb, if_pos (by decide)]; rfl
  rw [e, e1]
  rfl
/-- A row of bytes just built, out of a constant. -/
theorem built_bytes (w : World) (l : List Int) (fr : Nat × Nat) : BytesAt (w.alloc (.cells (bs l).toArray 5 fr)) (some ⟨w.heap.size, 0, none⟩) l := by
  intro _
  refine ⟨w.heap.size, 0, rfl, fun k hk => ?_⟩
  rw [Nat.zero_add, World.cell?_alloc_mark]
  simp [bs, List.getElem?_eq_getElem hk]
set_option maxHeartbeats 2000000 in
theorem lives2_any (w : World) (hT : TabAt w) :
    Calls Tryd.prog 6 #[] w fun e w' => e = .returned (.bool true) ∧ Kept (fun _ => False) w w' := by
  obtain ⟨o1, ho1⟩ : ∃ o : Obj, o = .cells #[.int .u8 97] 5 (1, 2) := ⟨_, rfl⟩
  have k1 := Kept.alloc w o1
  have hb1 : BytesAt (w.alloc o1) (some ⟨w.heap.size, 0, none⟩) [97] := by rw [ho1]; exact built_bytes w [97] (1, 2)
  have en := encode_any 1 [97] (some ⟨w.heap.size, 0, none⟩) 1 (w.alloc o1) (by decide) (by decide) hb1 (by unfold IsBytes; decide) (by simp) (by decide) (hT.kept k1)
  have z1 : ((1 : Nat) : Int) = 1 := rfl
  rw [z1] at en
  have EN : Hid (Calls Tryd.prog 12 #[.int .u8 1, .slice (some ⟨w.heap.size, 0, none⟩) 1 1] (w.alloc o1) fun e W => ∃ g, e = .returned (.tuple #[.slice (some ⟨g, 0, none⟩) 7 7, .nilIface]) ∧ W.cell? ⟨g, 2, none⟩ = some (.int .u8 97) ∧ Hid (Kept (fun _ => False) w W)) := by
    refine en.mono ?_
    rintro e W ⟨g, rfl, h1, h2, h3⟩
    have hb := (own_bytesF h2).1
    have hne : benc 1 [97] ≠ [] := by intro e; have := one_len; rw [e] at this; simp at this
    obtain ⟨b, off, e, hc⟩ := hb hne
    simp only [Option.some.injEq, Addr.mk.injEq, and_true] at e
    obtain ⟨rfl, rfl⟩ := e
    have h27 := hc 2 (by rw [one_len]; omega)
    rw [one_get] at h27
    have e7 := one_len
    refine ⟨g, ?_, h27, k1.trans h3 (fun _ f => f.elim)⟩
    rw [e7]
  have SM : Hid (∀ W, Hid (Kept (fun _ => False) w W) → Calls Tryd.prog 18 #[.slice (some ⟨W.heap.size, 0, none⟩) 9 9] (W.alloc (.cells #[.int .u8 49, .int .u8 50, .int .u8 51, .int .u8 52, .int .u8 53, .int .u8 54, .int .u8 55, .int .u8 56, .int .u8 57] 5 (9, 10))) fun e W' => e = .returned (.int .u32 3421780262) ∧ Hid (Kept (fun _ => False) w W')) := by
    intro W q
    have k2 := Kept.alloc W (.cells (bs nine).toArray 5 (9, 10))
    have s := sum_any nine (some ⟨W.heap.size, 0, none⟩) 9 (W.alloc (.cells (bs nine).toArray 5 (9, 10))) (built_bytes W nine (9, 10)) nine_bytes (by rw [nine_len]; decide) ((hT.kept q.out).kept k2)
    rw [nine_sum] at s
    refine Calls.mono s ?_
    rintro e W' ⟨rfl, rfl⟩
    exact ⟨rfl, q.out.trans k2 (fun _ f => f.elim)⟩
  subst ho1
  clear en hb1 k1 hT
  have kc := fun (w : World) (C : Array Value) (n c : Nat) => Lib.run_convert_bytes_const (P := Tryd.prog) w 22 5 C n c Tryd.underlying22 Tryd.underlying5
  go_enter Tryd.func6, Tryd.ntmps6
  go_wp2_with (first | (go_at_call 12; refine EN.out.mono ?_; rintro e W2 ⟨g, rfl, hc, K2⟩) | (go_at_call 18; refine (SM.out W2 K2).mono ?_; rintro e W3 ⟨rfl, K3⟩))
  go_ret
  exact ⟨rfl, K3.out⟩
end Go.Proofs.YtoglgicmnhklbaaDoor
