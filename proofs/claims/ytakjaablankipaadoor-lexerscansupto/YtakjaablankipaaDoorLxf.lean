import Derived.Test.YtakjaablankipaaDoorLxe
import Derived.Lib.SlBytesConst
namespace Go.Proofs.YtakjaablankipaaDoor
open Go.ChangeShapes Go.WideShapes Go.ChangeAt Go.RowKit

/-- The document's blanks and marks. -/
def bkB (c : UInt8) : Bool := c == 32 || c == 9 || c == 10 || c == 13
def mkL : List UInt8 := [40, 41, 91, 93, 123, 125, 58, 124, 94, 126, 64, 34]
def mkB (c : UInt8) : Bool := mkL.contains c
theorem plB_eq (f : Bool) (c : UInt8) : plB f c = !(bkB c || mkB c || wdB c || c == 92 || f && (c == 43 || c == 45)) := by
  cases f
  · have := u8_all (fun c => plB false c == !(bkB c || mkB c || wdB c || c == 92 || false && (c == 43 || c == 45))) (by decide +kernel) c
    simpa using this
  · have := u8_all (fun c => plB true c == !(bkB c || mkB c || wdB c || c == 92 || true && (c == 43 || c == 45))) (by decide +kernel) c
    simpa using this
theorem Tryd.infoBl : (Tryd.prog.info? 5).map (fun i => (i.zero, i.size, i.bytes)) = some (some (.int .u8 0), 1, 1) := Tryd.infoB
theorem u8_byL (c d : UInt8) : ((c.toNat : Int) == (d.toNat : Int)) = (c == d) := by
  by_cases h : c = d
  · subst h; simp
  · rw [u8_intL c d h]; simpa using h
set_option maxRecDepth 20000 in
set_option maxHeartbeats 2000000 in
theorem rblank_any (c : UInt8) (w : World) : Calls Tryd.prog 17 #[.int .u8 (c.toNat : Int)] w fun e w' => e = .returned (.bool (bkB c)) ∧ w' = w := by
  have hb : c.toNat < 256 := c.toNat_lt
  have q1 := u8_byL c 32
  have q2 := u8_byL c 9
  have q3 := u8_byL c 10
  have q4 := u8_byL c 13
  unfold bkB
  generalize (c == 32) = b1 at *
  generalize (c == 9) = b2 at *
  generalize (c == 10) = b3 at *
  generalize (c == 13) = b4 at *
  have q1 : ((c.toNat : Int) == 32) = b1 := q1
  have q2 : ((c.toNat : Int) == 9) = b2 := q2
  have q3 : ((c.toNat : Int) == 10) = b3 := q3
  have q4 : ((c.toNat : Int) == 13) = b4 := q4
  generalize c.toNat = m at *
  cases b1 <;> cases b2 <;> cases b3 <;> cases b4
  all_goals
    go_enter Tryd.func17, Tryd.ntmps17
    go_wp2
    go_ret
    exact ⟨rfl, rfl⟩
set_option maxRecDepth 20000 in
set_option maxHeartbeats 2000000 in
theorem rwild_any (c : UInt8) (w : World) : Calls Tryd.prog 38 #[.int .u8 (c.toNat : Int)] w fun e w' => e = .returned (.bool (wdB c)) ∧ w' = w := by
  have hb : c.toNat < 256 := c.toNat_lt
  have q1 := u8_byL c 42
  have q2 := u8_byL c 63
  unfold wdB
  generalize (c == 42) = b1 at *
  generalize (c == 63) = b2 at *
  have q1 : ((c.toNat : Int) == 42) = b1 := q1
  have q2 : ((c.toNat : Int) == 63) = b2 := q2
  generalize c.toNat = m at *
  cases b1 <;> cases b2
  all_goals
    go_enter Tryd.func38, Tryd.ntmps38
    go_wp2
    go_ret
    exact ⟨rfl, rfl⟩
/-- The marks in a row. -/
structure MkAt (w : World) (b : Nat) : Prop where
  at' : ∀ j, j < 12 → w.cell? ⟨b, j, none⟩ = some (.int .u8 ((mkL.getD j 0).toNat : Int))
theorem mk_new (w : World) : ∃ W1 : World, (convert 37 37 (.slice (some ⟨w.heap.size, 0, none⟩) 12 12)).run Tryd.prog (w.alloc (.cells #[.int .u8 40, .int .u8 41, .int .u8 91, .int .u8 93, .int .u8 123, .int .u8 125, .int .u8 58, .int .u8 124, .int .u8 94, .int .u8 126, .int .u8 64, .int .u8 34] 5)) = .ok (.slice (some ⟨w.heap.size, 0, none⟩) 12 12) W1 ∧ MkAt W1 w.heap.size ∧ Kept (fun _ => False) w W1 := by
  refine ⟨_, Lib.run_convert_bytes_const w 37 5 #[.int .u8 40, .int .u8 41, .int .u8 91, .int .u8 93, .int .u8 123, .int .u8 125, .int .u8 58, .int .u8 124, .int .u8 94, .int .u8 126, .int .u8 64, .int .u8 34] 12 12 Tryd.underlying37 Tryd.underlying5, ⟨fun j hj => ?_⟩, Kept.alloc _ _⟩
  rw [World.cell?_alloc_mark]
  obtain rfl | rfl | rfl | rfl | rfl | rfl | rfl | rfl | rfl | rfl | rfl | rfl : j = 0 ∨ j = 1 ∨ j = 2 ∨ j = 3 ∨ j = 4 ∨ j = 5 ∨ j = 6 ∨ j = 7 ∨ j = 8 ∨ j = 9 ∨ j = 10 ∨ j = 11 := by omega
  all_goals rfl
theorem mk_next (c : UInt8) (k : Nat) (h : k < 12) : (mkL.drop k).contains c = (c == mkL.getD k 0 || (mkL.drop (k + 1)).contains c) := by
  rw [List.drop_eq_getElem_cons (show k < mkL.length from h), List.contains_cons, List.getD_eq_getElem?_getD, List.getElem?_eq_getElem (show k < mkL.length from h)]
  rfl
set_option maxRecDepth 20000 in
set_option maxHeartbeats 2000000 in
theorem rmark_any (c : UInt8) (w : World) : Calls Tryd.prog 37 #[.int .u8 (c.toNat : Int)] w fun e w' => e = .returned (.bool (mkB c)) ∧ Kept (fun _ => False) w w' := by
  have hb : c.toNat < 256 := c.toNat_lt
  obtain ⟨W1, hkc, hM, hK⟩ := mk_new w
  have HM := hideL hM
  have HK := hideL hK
  clear hM hK
  obtain ⟨Z, hZ⟩ : ∃ Z, Z = mkB c := ⟨_, rfl⟩
  rw [← hZ]
  have HZ : Hid (Z = (mkL.drop 0).contains c) := hideL (by rw [hZ, List.drop_zero]; rfl)
  obtain ⟨q, hq⟩ : ∃ q, q = c.toNat := ⟨_, rfl⟩
  have HQ := hideL (fun d : UInt8 => u8_byL c d)
  rw [← hq] at HQ hb ⊢
  clear hq hZ
  go_enter Tryd.func37, Tryd.ntmps37
  go_wp2
  generalize w.heap.size = b0 at *
  go_loopw [8] (fun i wr => ∃ (k : Nat), k ≤ 12 ∧ i = .int .i64 k ∧ Hid (Z = (mkL.drop k).contains c) ∧ Hid (MkAt wr b0) ∧ Hid (Kept (fun _ => False) w wr)) (fun i _ => 12 - (intOf i).toNat)
  case atStart => exact ⟨0, by omega, rfl, HZ, HM, HK⟩
  case round =>
    obtain ⟨k, hk, rfl, HD, HMr, HKr⟩ := hrel
    clear HZ HM HK
    by_cases hlt : k < 12
    · have x0 := HMr.out.at' k hlt
      have HD2 := HD.out
      rw [mk_next c k hlt] at HD2
      have q1 := HQ.out (mkL.getD k 0)
      have hkz : (k : Int) < 12 := by omega
      obtain ⟨d, hd⟩ : ∃ d, d = (mkL.getD k 0).toNat := ⟨_, rfl⟩
      have hdb : d < 256 := by rw [hd]; exact (mkL.getD k 0).toNat_lt
      rw [← hd] at x0 q1
      generalize (c == mkL.getD k 0) = t at *
      have HD3 := hideL HD2
      clear HD HD2 hd HQ
      cases t with
      | true =>
        obtain rfl : Z = true := HD3.out
        clear HD3
        go_wp2
        go_ret
        exact ⟨rfl, HKr.out⟩
      | false =>
        have HZ2 : Hid (Z = (mkL.drop (k + 1)).contains c) := hideL (by rw [HD3.out]; rfl)
        clear HD3
        go_wp2
        go_roundw
        case rel => exact ⟨k + 1, by omega, by go_num, HZ2, HMr, HKr⟩
        case measure => simp [intOf]; omega
    · obtain rfl : k = 12 := by omega
      obtain rfl : Z = false := HD.out
      clear HD HQ
      go_wp2
      go_ret
      exact ⟨rfl, HKr.out⟩
/-- A row of bytes that lies somewhere. -/
structure Rb (w : World) (g : Nat) (l : List UInt8) : Prop where
  at' : ∀ j u, (bu l)[j]? = some u → w.cell? ⟨g, j, none⟩ = some u
theorem rb_two (w : World) (a b : UInt8) (x y : Int) (hx : x = (a.toNat : Int)) (hy : y = (b.toNat : Int)) : Rb (w.alloc (.cells #[.int .u8 x, .int .u8 y] 5)) w.heap.size [a, b] := by
  subst hx hy
  refine ⟨fun j u h => ?_⟩
  rw [World.cell?_alloc_new, ← h]
  exact List.getElem?_toArray
theorem rb_one (w : World) (a : UInt8) (x : Int) (hx : x = (a.toNat : Int)) : Rb (w.alloc (.cells #[.int .u8 x] 5)) w.heap.size [a] := by
  subst hx
  refine ⟨fun j u h => ?_⟩
  rw [World.cell?_alloc_new, ← h]
  exact List.getElem?_toArray
def esPost (w : World) (p : List UInt8) (e : Ending) (w' : World) : Prop := ∃ g, e = .returned (.slice (some ⟨g, 0, none⟩) p.length p.length) ∧ Rb w' g p ∧ Kept (fun _ => False) w w'
end Go.Proofs.YtakjaablankipaaDoor
