import Derived.Test.YtcbhgpdookappaaDoorDue
import Derived.Test.YtcbhgpdookappaaDoorDug
import Derived.Test.YtcbhgpdookappaaDoorDtv
import Derived.Test.YtcbhgpdookappaaDoorDtj
import Derived.Test.YtcbhgpdookappaaDoorDtk
namespace Go.Proofs.YtcbhgpdookappaaDoor.Ds
open Go.ChangeShapes Go.WideShapes Go.ChangeAt Go.RowKit

set_option maxRecDepth 20000 in
set_option maxHeartbeats 1000000 in
theorem andS_any (p rb pt tb n cap tap : Nat) (ws us : Nat → Nat) (w : World) (h : SetAt w p rb n cap ws) (h2 : SetAt w pt tb n tap us) :
    Calls Tryd.prog 57 #[.pointer (some ⟨p, 0, none⟩), .pointer (some ⟨pt, 0, none⟩)] w fun e w' => ∃ q cb c, e = .returned (.tuple #[.pointer (some ⟨q, 0, none⟩), .nilIface]) ∧ SetAt w' q cb n c (joinW andB ws us) ∧ Kept (fun _ => False) w w' := by
  have WT := hideD (withA_any p rb pt tb n cap tap ws us w h h2)
  clear h h2
  go_enter Tryd.func57, Tryd.ntmps57
  go_wp2_with (go_at_call 74; refine WT.out.mono ?_; rintro e W1 ⟨q, cb, c, rfl, -, -, -, S1, K1⟩; have HS1 := hideD S1; have HK1 := hideD K1; clear S1 K1)
  go_ret2
  exact ⟨q, cb, c, rfl, HS1.out, HK1.out⟩
set_option maxRecDepth 20000 in
set_option maxHeartbeats 1000000 in
theorem orS_any (p rb pt tb n cap tap : Nat) (ws us : Nat → Nat) (w : World) (h : SetAt w p rb n cap ws) (h2 : SetAt w pt tb n tap us) :
    Calls Tryd.prog 58 #[.pointer (some ⟨p, 0, none⟩), .pointer (some ⟨pt, 0, none⟩)] w fun e w' => ∃ q cb c, e = .returned (.tuple #[.pointer (some ⟨q, 0, none⟩), .nilIface]) ∧ SetAt w' q cb n c (joinW orB ws us) ∧ Kept (fun _ => False) w w' := by
  have WT := hideD (withO_any p rb pt tb n cap tap ws us w h h2)
  clear h h2
  go_enter Tryd.func58, Tryd.ntmps58
  go_wp2_with (go_at_call 74; refine WT.out.mono ?_; rintro e W1 ⟨q, cb, c, rfl, -, -, -, S1, K1⟩; have HS1 := hideD S1; have HK1 := hideD K1; clear S1 K1)
  go_ret2
  exact ⟨q, cb, c, rfl, HS1.out, HK1.out⟩
set_option maxRecDepth 20000 in
set_option maxHeartbeats 1000000 in
theorem minusS_any (p rb pt tb n cap tap : Nat) (ws us : Nat → Nat) (w : World) (h : SetAt w p rb n cap ws) (h2 : SetAt w pt tb n tap us) :
    Calls Tryd.prog 59 #[.pointer (some ⟨p, 0, none⟩), .pointer (some ⟨pt, 0, none⟩)] w fun e w' => ∃ q cb c, e = .returned (.tuple #[.pointer (some ⟨q, 0, none⟩), .nilIface]) ∧ SetAt w' q cb n c (joinW minusB ws us) ∧ Kept (fun _ => False) w w' := by
  have WT := hideD (withM_any p rb pt tb n cap tap ws us w h h2)
  clear h h2
  go_enter Tryd.func59, Tryd.ntmps59
  go_wp2_with (go_at_call 74; refine WT.out.mono ?_; rintro e W1 ⟨q, cb, c, rfl, -, -, -, S1, K1⟩; have HS1 := hideD S1; have HK1 := hideD K1; clear S1 K1)
  go_ret2
  exact ⟨q, cb, c, rfl, HS1.out, HK1.out⟩
set_option maxRecDepth 20000 in
set_option maxHeartbeats 1000000 in
theorem joinedA_any (p rb pt tb n cap tap : Nat) (ws us : Nat → Nat) (w : World) (h : SetAt w p rb n cap ws) (h2 : SetAt w pt tb n tap us) :
    Calls Tryd.prog 27 #[.int .i64 1, .pointer (some ⟨p, 0, none⟩), .pointer (some ⟨pt, 0, none⟩)] w fun e w' => ∃ q cb c, e = .returned (.pointer (some ⟨q, 0, none⟩)) ∧ SetAt w' q cb n c (joinW andB ws us) ∧ Kept (fun _ => False) w w' := by
  have WT := hideD (andS_any p rb pt tb n cap tap ws us w h h2)
  clear h h2
  go_enter Tryd.func27, Tryd.ntmps27
  go_wp2_with (go_at_call 57; refine WT.out.mono ?_; rintro e W1 ⟨q, cb, c, rfl, S1, K1⟩; have HS1 := hideD S1; have HK1 := hideD K1; clear S1 K1)
  go_ret
  exact ⟨q, cb, c, rfl, HS1.out, HK1.out⟩
set_option maxRecDepth 20000 in
set_option maxHeartbeats 1000000 in
theorem joinedO_any (p rb pt tb n cap tap : Nat) (ws us : Nat → Nat) (w : World) (h : SetAt w p rb n cap ws) (h2 : SetAt w pt tb n tap us) :
    Calls Tryd.prog 27 #[.int .i64 2, .pointer (some ⟨p, 0, none⟩), .pointer (some ⟨pt, 0, none⟩)] w fun e w' => ∃ q cb c, e = .returned (.pointer (some ⟨q, 0, none⟩)) ∧ SetAt w' q cb n c (joinW orB ws us) ∧ Kept (fun _ => False) w w' := by
  have WT := hideD (orS_any p rb pt tb n cap tap ws us w h h2)
  clear h h2
  go_enter Tryd.func27, Tryd.ntmps27
  go_wp2_with (go_at_call 58; refine WT.out.mono ?_; rintro e W1 ⟨q, cb, c, rfl, S1, K1⟩; have HS1 := hideD S1; have HK1 := hideD K1; clear S1 K1)
  go_ret
  exact ⟨q, cb, c, rfl, HS1.out, HK1.out⟩
set_option maxRecDepth 20000 in
set_option maxHeartbeats 1000000 in
theorem joinedM_any (p rb pt tb n cap tap : Nat) (ws us : Nat → Nat) (w : World) (h : SetAt w p rb n cap ws) (h2 : SetAt w pt tb n tap us) :
    Calls Tryd.prog 27 #[.int .i64 3, .pointer (some ⟨p, 0, none⟩), .pointer (some ⟨pt, 0, none⟩)] w fun e w' => ∃ q cb c, e = .returned (.pointer (some ⟨q, 0, none⟩)) ∧ SetAt w' q cb n c (joinW minusB ws us) ∧ Kept (fun _ => False) w w' := by
  have WT := hideD (minusS_any p rb pt tb n cap tap ws us w h h2)
  clear h h2
  go_enter Tryd.func27, Tryd.ntmps27
  go_wp2_with (go_at_call 59; refine WT.out.mono ?_; rintro e W1 ⟨q, cb, c, rfl, S1, K1⟩; have HS1 := hideD S1; have HK1 := hideD K1; clear S1 K1)
  go_ret
  exact ⟨q, cb, c, rfl, HS1.out, HK1.out⟩
/-- A set of n places lies at q. -/
def SetQ (W : World) (n q : Nat) (f : Nat → Nat) : Prop := ∃ cb c, SetAt W q cb n c f
theorem SetQ.kept {W W' : World} {n q : Nat} {f : Nat → Nat} (h : SetQ W n q f) (k : Kept (fun _ => False) W W') : SetQ W' n q f := by
  obtain ⟨cb, c, h⟩ := h
  exact ⟨cb, c, h.same k⟩
theorem SetQ.tight {W : World} {n q : Nat} {f : Nat → Nat} (h : SetQ W n q f) : ∀ i, mem f i = true → i < n := by
  obtain ⟨cb, c, h⟩ := h
  exact h.tight
theorem notQ {W : World} {n q : Nat} {f : Nat → Nat} (h : SetQ W n q f) : Calls Tryd.prog 26 #[.pointer (some ⟨q, 0, none⟩)] W fun e w' => ∃ q', e = .returned (.pointer (some ⟨q', 0, none⟩)) ∧ SetQ w' n q' (notW n f) ∧ Kept (fun _ => False) W w' := by
  obtain ⟨cb, c, h⟩ := h
  exact (not_any q cb n c f W h).mono fun e w' ⟨q', cb', c', h1, _, _, _, h2, h3⟩ => ⟨q', h1, ⟨cb', c', h2⟩, h3⟩
theorem joinAQ {W : World} {n q r : Nat} {f g : Nat → Nat} (h : SetQ W n q f) (h2 : SetQ W n r g) : Calls Tryd.prog 27 #[.int .i64 1, .pointer (some ⟨q, 0, none⟩), .pointer (some ⟨r, 0, none⟩)] W fun e w' => ∃ q', e = .returned (.pointer (some ⟨q', 0, none⟩)) ∧ SetQ w' n q' (joinW andB f g) ∧ Kept (fun _ => False) W w' := by
  obtain ⟨cb, c, h⟩ := h
  obtain ⟨cb2, c2, h2⟩ := h2
  exact (joinedA_any q cb r cb2 n c c2 f g W h h2).mono fun e w' ⟨q', cb', c', h1, h2, h3⟩ => ⟨q', h1, ⟨cb', c', h2⟩, h3⟩
theorem joinOQ {W : World} {n q r : Nat} {f g : Nat → Nat} (h : SetQ W n q f) (h2 : SetQ W n r g) : Calls Tryd.prog 27 #[.int .i64 2, .pointer (some ⟨q, 0, none⟩), .pointer (some ⟨r, 0, none⟩)] W fun e w' => ∃ q', e = .returned (.pointer (some ⟨q', 0, none⟩)) ∧ SetQ w' n q' (joinW orB f g) ∧ Kept (fun _ => False) W w' := by
  obtain ⟨cb, c, h⟩ := h
  obtain ⟨cb2, c2, h2⟩ := h2
  exact (joinedO_any q cb r cb2 n c c2 f g W h h2).mono fun e w' ⟨q', cb', c', h1, h2, h3⟩ => ⟨q', h1, ⟨cb', c', h2⟩, h3⟩
theorem joinMQ {W : World} {n q r : Nat} {f g : Nat → Nat} (h : SetQ W n q f) (h2 : SetQ W n r g) : Calls Tryd.prog 27 #[.int .i64 3, .pointer (some ⟨q, 0, none⟩), .pointer (some ⟨r, 0, none⟩)] W fun e w' => ∃ q', e = .returned (.pointer (some ⟨q', 0, none⟩)) ∧ SetQ w' n q' (joinW minusB f g) ∧ Kept (fun _ => False) W w' := by
  obtain ⟨cb, c, h⟩ := h
  obtain ⟨cb2, c2, h2⟩ := h2
  exact (joinedM_any q cb r cb2 n c c2 f g W h h2).mono fun e w' ⟨q', cb', c', h1, h2, h3⟩ => ⟨q', h1, ⟨cb', c', h2⟩, h3⟩
theorem alikeQ {W : World} {n q r : Nat} {f g : Nat → Nat} (h : SetQ W n q f) (h2 : SetQ W n r g) (hD : DbAt W) (e : ∀ i, mem f i = mem g i) : Calls Tryd.prog 28 #[.pointer (some ⟨q, 0, none⟩), .pointer (some ⟨r, 0, none⟩)] W fun e w' => e = .returned (.bool true) ∧ Kept (fun _ => False) W w' := by
  obtain ⟨cb, c, h⟩ := h
  obtain ⟨cb2, c2, h2⟩ := h2
  have q0 := alike_any q cb r cb2 n c c2 f g W h h2 hD
  rw [eqW_mem h.ok h2.ok e] at q0
  exact q0
theorem countQ {W : World} {n q : Nat} {f : Nat → Nat} (h : SetQ W n q f) : Calls Tryd.prog 20 #[.pointer (some ⟨q, 0, none⟩)] W fun e w' => e = .returned (.int .i64 (cnt f n : Nat)) ∧ Kept (fun _ => False) W w' := by
  obtain ⟨cb, c, h⟩ := h
  exact count_any q cb n c f W h
theorem encodeQ {W : World} {n q : Nat} {f : Nat → Nat} (h : SetQ W n q f) (hD : DbAt W) : Calls Tryd.prog 11 #[.pointer (some ⟨q, 0, none⟩)] W fun e w' => ∃ g, e = .returned (.slice (some ⟨g, 0, none⟩) (encS n f).length (encS n f).length) ∧ BytesAt w' (some ⟨g, 0, none⟩) (encS n f) ∧ Kept (fun _ => False) W w' := by
  obtain ⟨cb, c, h⟩ := h
  exact (encode_any q cb n c f W h hD).mono fun e w' ⟨g, h1, _, h2, h3⟩ => ⟨g, h1, bytes_rowV h2, h3⟩
theorem cnt_succ (f : Nat → Nat) (m : Nat) : cnt f (m + 1) = cnt f m + (mem f m).toNat := rfl
theorem cnt_andor (f g : Nat → Nat) : ∀ m, cnt (joinW andB f g) m + cnt (joinW orB f g) m = cnt f m + cnt g m
  | 0 => rfl
  | m + 1 => by
    have := cnt_andor f g m
    rw [cnt_succ, cnt_succ, cnt_succ, cnt_succ, mem_joinA, mem_joinO]
    cases mem f m <;> cases mem g m <;> simp <;> omega
theorem cnt_not (n : Nat) (f : Nat → Nat) : ∀ m, m ≤ n → cnt (notW n f) m + cnt f m = m
  | 0, _ => rfl
  | m + 1, hm => by
    have := cnt_not n f m (by omega)
    rw [cnt_succ, cnt_succ, mem_notW, decide_eq_true (show m < n by omega)]
    cases mem f m <;> simp <;> omega
theorem cnt_none (n : Nat) (f : Nat → Nat) : ∀ m, cnt (joinW andB f (notW n f)) m = 0
  | 0 => rfl
  | m + 1 => by
    rw [cnt_succ, cnt_none n f m, mem_joinA, mem_notW]
    cases mem f m <;> simp
end Go.Proofs.YtcbhgpdookappaaDoor.Ds
