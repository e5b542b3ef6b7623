import Derived.Test.YtbhoplmbiomogaaDoorRda2
namespace Go.Proofs.YtbhoplmbiomogaaDoor
open Go.ChangeShapes Go.WideShapes Go.ChangeAt Go.RowKit

theorem and3 (c : Nat) (h : c < 256) : bits .and .u8 (c : Int) 3 = ((c % 4 : Nat) : Int) := by
  have q : ∀ k : Fin 256, bits .and .u8 ((k.val : Nat) : Int) 3 = ((k.val % 4 : Nat) : Int) := by decide +kernel
  exact q ⟨c, h⟩
theorem and4 (c : Nat) (h : c < 256) : bits .and .u8 (c : Int) 4 = ((4 * (c / 4 % 2) : Nat) : Int) := by
  have q : ∀ k : Fin 256, bits .and .u8 ((k.val : Nat) : Int) 4 = ((4 * (k.val / 4 % 2) : Nat) : Int) := by decide +kernel
  exact q ⟨c, h⟩
theorem and8 (c : Nat) (h : c < 256) : bits .and .u8 (c : Int) 8 = ((8 * (c / 8 % 2) : Nat) : Int) := by
  have q : ∀ k : Fin 256, bits .and .u8 ((k.val : Nat) : Int) 8 = ((8 * (k.val / 8 % 2) : Nat) : Int) := by decide +kernel
  exact q ⟨c, h⟩
theorem and16 (c : Nat) (h : c < 256) : bits .and .u8 (c : Int) 16 = ((16 * (c / 16 % 2) : Nat) : Int) := by
  have q : ∀ k : Fin 256, bits .and .u8 ((k.val : Nat) : Int) 16 = ((16 * (k.val / 16 % 2) : Nat) : Int) := by decide +kernel
  exact q ⟨c, h⟩
theorem bitB (k : Int) (q : Nat) (hk : 0 < k) {z : Int} (hz : z = (q : Int)) : (k * (z % 2) != 0) = decide (q % 2 = 1) := by
  subst hz
  rw [Bool.eq_iff_iff]
  simp only [bne_iff_ne, ne_eq, decide_eq_true_eq]
  constructor
  · intro h
    by_cases e : q % 2 = 1
    · exact e
    · exfalso
      apply h
      rw [show ((q : Int) % 2) = 0 by omega, Int.mul_zero]
  · intro h e
    rw [show ((q : Int) % 2) = 1 by omega, Int.mul_one] at e
    omega
/-- The field of a name and a byte. -/
def fdOf (n : ByteArray) (b : Nat) : Fd := ⟨n, ((b % 4 : Nat) : Int), decide (b / 4 % 2 = 1), decide (b / 8 % 2 = 1), decide (b / 16 % 2 = 1)⟩
set_option maxRecDepth 20000 in
theorem fieldOf_any (n : ByteArray) (b : Nat) (w : World) (hb : b < 256) :
    Calls Tryd.prog 43 #[.string n, .int .u8 b] w fun e w' => e = .returned (.agg #[.string (fdOf n b).n, .int .i64 (fdOf n b).k, .bool (fdOf n b).fo, .bool (fdOf n b).st, .bool (fdOf n b).se]) ∧ Kept (fun _ => False) w w' := by
  have a3 := and3 b hb
  have a4 := and4 b hb
  have a8 := and8 b hb
  have a16 := and16 b hb
  go_enter Tryd.func43, Tryd.ntmps43
  go_wp2
  refine bodyPost_ret (v := .agg #[.string n, .int .i64 ((b : Int) % 4), .bool (4 * ((b : Int) / 4 % 2) != 0), .bool (8 * ((b : Int) / 8 % 2) != 0), .bool (16 * ((b : Int) / 16 % 2) != 0)]) (by simp [results, Tryd.results43, go_sem]) rfl ⟨?_, Kept.alloc _ _⟩
  rw [bitB 4 (b / 4) (by decide) (by simp), bitB 8 (b / 8) (by decide) (by simp), bitB 16 (b / 16) (by decide) (by simp)]
  rfl
theorem clone_any (s : ByteArray) (w : World) (h : s.size ≤ 281474976710656) : Calls Tryd.prog 52 #[.string s] w fun e w' => e = .returned (.string s) ∧ Kept (fun _ => False) w w' := by
  go_enter Tryd.func52, Tryd.ntmps52
  go_wp2_with (go_at_call 59; refine (Tryd.stringslite_Clone s _ h).mono ?_; rintro e w1 ⟨rfl, hb⟩)
  go_ret
  exact ⟨rfl, Kept.of_below hb⟩
set_option maxRecDepth 20000 in
theorem scut_yes (s : ByteArray) (i : Nat) (w : World) (hl : s.size ≤ maxLen) (h : Lib.indexByte s.data.toList 58 = (i : Int)) (hi : i < s.size) :
    Calls Tryd.prog 57 #[.string s, .string ⟨#[58]⟩] w fun e w' => e = .returned (.tuple #[.string (s.extract 0 i), .string (s.extract (i + 1) s.size), .bool true]) ∧ Kept (fun _ => False) w w' := by
  unfold maxLen at hl
  go_enter Tryd.func57, Tryd.ntmps57
  go_wp2_with (go_at_call 61; refine (Tryd.stringslite_Index_one s 58 _).mono ?_; rintro e w ⟨rfl, rfl⟩)
  go_region
  go_wp2
  go_ret3
  exact ⟨rfl, Kept.drew _⟩
set_option maxRecDepth 20000 in
theorem scut_no (s : ByteArray) (w : World) (h : Lib.indexByte s.data.toList 58 = -1) :
    Calls Tryd.prog 57 #[.string s, .string ⟨#[58]⟩] w fun e w' => e = .returned (.tuple #[.string s, .string ⟨#[]⟩, .bool false]) ∧ Kept (fun _ => False) w w' := by
  go_enter Tryd.func57, Tryd.ntmps57
  go_wp2_with (go_at_call 61; refine (Tryd.stringslite_Index_one s 58 _).mono ?_; rintro e w ⟨rfl, rfl⟩)
  go_ret3
  exact ⟨rfl, Kept.refl _ _⟩
set_option maxRecDepth 20000 in
theorem cut_yes (s : ByteArray) (i : Nat) (w : World) (hl : s.size ≤ maxLen) (h : Lib.indexByte s.data.toList 58 = (i : Int)) (hi : i < s.size) :
    Calls Tryd.prog 50 #[.string s, .string ⟨#[58]⟩] w fun e w' => e = .returned (.tuple #[.string (s.extract 0 i), .string (s.extract (i + 1) s.size), .bool true]) ∧ Kept (fun _ => False) w w' := by
  go_enter Tryd.func50, Tryd.ntmps50
  go_wp2_with (go_at_call 57; refine (scut_yes s i _ hl h hi).mono ?_; rintro e w1 ⟨rfl, hk⟩)
  go_ret3
  exact ⟨rfl, hk⟩
set_option maxRecDepth 20000 in
theorem cut_no (s : ByteArray) (w : World) (h : Lib.indexByte s.data.toList 58 = -1) :
    Calls Tryd.prog 50 #[.string s, .string ⟨#[58]⟩] w fun e w' => e = .returned (.tuple #[.string s, .string ⟨#[]⟩, .bool false]) ∧ Kept (fun _ => False) w w' := by
  go_enter Tryd.func50, Tryd.ntmps50
  go_wp2_with (go_at_call 57; refine (scut_no s _ h).mono ?_; rintro e w1 ⟨rfl, hk⟩)
  go_ret3
  exact ⟨rfl, hk⟩
end Go.Proofs.YtbhoplmbiomogaaDoor
