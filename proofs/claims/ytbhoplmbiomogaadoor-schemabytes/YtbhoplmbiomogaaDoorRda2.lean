import Derived.Test.YtbhoplmbiomogaaDoorScy
import Derived.Test.YtbhoplmbiomogaaDoorShl
namespace Go.Proofs.YtbhoplmbiomogaaDoor
open Go.ChangeShapes Go.WideShapes Go.ChangeAt Go.RowKit

def bstr (l : List UInt8) : ByteArray := ⟨l.toArray⟩
theorem bstr_data (l : List UInt8) : (bstr l).data.toList = l := rfl
theorem bstr_of (s : ByteArray) : bstr s.data.toList = s := bytes_inj rfl
theorem bstr_size (l : List UInt8) : (bstr l).size = l.length := rfl
def wText : List UInt8 := [116, 101, 120, 116]
def wKey : List UInt8 := [107, 101, 121, 119, 111, 114, 100]
def wNum : List UInt8 := [110, 117, 109, 98, 101, 114]
def mFold : List UInt8 := [44, 102, 111, 108, 100]
def mStop : List UInt8 := [44, 115, 116, 111, 112]
def mStem : List UInt8 := [44, 115, 116, 101, 109]
/-- The words of the kinds, the marks. -/
structure Words (w : World) : Prop where
  k0 : w.cell? ⟨24, 0, none⟩ = some (.string ⟨#[116, 101, 120, 116]⟩)
  k1 : w.cell? ⟨24, 1, none⟩ = some (.string ⟨#[107, 101, 121, 119, 111, 114, 100]⟩)
  k2 : w.cell? ⟨24, 2, none⟩ = some (.string ⟨#[110, 117, 109, 98, 101, 114]⟩)
  m0 : w.cell? ⟨25, 0, none⟩ = some (.string ⟨#[44, 102, 111, 108, 100]⟩)
  m1 : w.cell? ⟨25, 1, none⟩ = some (.string ⟨#[44, 115, 116, 111, 112]⟩)
  m2 : w.cell? ⟨25, 2, none⟩ = some (.string ⟨#[44, 115, 116, 101, 109]⟩)
theorem Words.kept {w w' : World} (h : Words w) (k : Kept (fun _ => False) w w') : Words w' :=
  ⟨k.cell h.k0 (fun f => f), k.cell h.k1 (fun f => f), k.cell h.k2 (fun f => f), k.cell h.m0 (fun f => f), k.cell h.m1 (fun f => f), k.cell h.m2 (fun f => f)⟩
/-- The kind with whose word a text begins, and what stands behind. -/
def rkN (l : List UInt8) : Nat := if Lib.hasPrefix l wText then 1 else if Lib.hasPrefix l wKey then 2 else if Lib.hasPrefix l wNum then 3 else 0
def rkR (l : List UInt8) : List UInt8 := if Lib.hasPrefix l wText then l.drop 4 else if Lib.hasPrefix l wKey then l.drop 7 else if Lib.hasPrefix l wNum then l.drop 6 else []
theorem trim_yes {s p : List UInt8} (h : Lib.hasPrefix s p = true) : Lib.trimPrefix s p = s.drop p.length := by rw [Lib.trimPrefix, if_pos h]
theorem idx0 (x y z : ByteArray) (w : World) : (Instr.index 100 (.agg #[.string x, .string y, .string z]) (.int .i64 0)).run Tryd.prog w = .ok (.string x) w := by kernel_rfl
theorem idx1 (x y z : ByteArray) (w : World) : (Instr.index 100 (.agg #[.string x, .string y, .string z]) (.int .i64 1)).run Tryd.prog w = .ok (.string y) w := by kernel_rfl
theorem idx2 (x y z : ByteArray) (w : World) : (Instr.index 100 (.agg #[.string x, .string y, .string z]) (.int .i64 2)).run Tryd.prog w = .ok (.string z) w := by kernel_rfl
set_option maxRecDepth 20000 in
set_option maxHeartbeats 1000000 in
theorem rkind_any (s : ByteArray) (w : World) (hW : Words w) :
    Calls Tryd.prog 51 #[.string s] w fun e w' => e = .returned (.tuple #[.int .u8 (rkN s.data.toList), .string (bstr (rkR s.data.toList))]) ∧ w' = w := by
  obtain ⟨k0, k1, k2, -, -, -⟩ := hW
  have i0 := idx0
  have i1 := idx1
  have i2 := idx2
  cases h0 : Lib.hasPrefix s.data.toList wText with
  | true =>
    have p0 : Lib.hasPrefix s.data.toList [116, 101, 120, 116] = true := h0
    have r1 : rkN s.data.toList = 1 := by simp [rkN, h0]
    have r2 : rkR s.data.toList = Lib.trimPrefix s.data.toList wText := by rw [trim_yes h0, rkR, h0]; rfl
    rw [r1, r2]
    clear r1 r2 h0
    go_enter Tryd.func51, Tryd.ntmps51
    go_wp2
    refine wp_loop_rounds 1 ?_
    rw [rounds_succ]
    go_wp2_with (go_at_call 58; refine (Tryd.strings_CutPrefix _ _ _).mono ?_; rintro e w ⟨rfl, rfl⟩)
    go_ret2
    exact ⟨rfl, rfl⟩
  | false =>
    cases h1 : Lib.hasPrefix s.data.toList wKey with
    | true =>
      have p0 : Lib.hasPrefix s.data.toList [116, 101, 120, 116] = false := h0
      have p1 : Lib.hasPrefix s.data.toList [107, 101, 121, 119, 111, 114, 100] = true := h1
      have r1 : rkN s.data.toList = 2 := by simp [rkN, h0, h1]
      have r2 : rkR s.data.toList = Lib.trimPrefix s.data.toList wKey := by rw [trim_yes h1, rkR, h0, h1]; rfl
      rw [r1, r2]
      clear r1 r2 h0 h1
      go_enter Tryd.func51, Tryd.ntmps51
      go_wp2
      refine wp_loop_rounds 2 ?_
      rw [rounds_succ]
      go_wp2_with (go_at_call 58; refine (Tryd.strings_CutPrefix _ _ _).mono ?_; rintro e w ⟨rfl, rfl⟩)
      rw [rounds_succ]
      go_wp2_with (go_at_call 58; refine (Tryd.strings_CutPrefix _ _ _).mono ?_; rintro e w ⟨rfl, rfl⟩)
      go_ret2
      exact ⟨rfl, rfl⟩
    | false =>
      cases h2 : Lib.hasPrefix s.data.toList wNum with
      | true =>
        have p0 : Lib.hasPrefix s.data.toList [116, 101, 120, 116] = false := h0
        have p1 : Lib.hasPrefix s.data.toList [107, 101, 121, 119, 111, 114, 100] = false := h1
        have p2 : Lib.hasPrefix s.data.toList [110, 117, 109, 98, 101, 114] = true := h2
        have r1 : rkN s.data.toList = 3 := by simp [rkN, h0, h1, h2]
        have r2 : rkR s.data.toList = Lib.trimPrefix s.data.toList wNum := by rw [trim_yes h2, rkR, h0, h1, h2]; rfl
        rw [r1, r2]
        clear r1 r2 h0 h1 h2
        go_enter Tryd.func51, Tryd.ntmps51
        go_wp2
        refine wp_loop_rounds 3 ?_
        rw [rounds_succ]
        go_wp2_with (go_at_call 58; refine (Tryd.strings_CutPrefix _ _ _).mono ?_; rintro e w ⟨rfl, rfl⟩)
        rw [rounds_succ]
        go_wp2_with (go_at_call 58; refine (Tryd.strings_CutPrefix _ _ _).mono ?_; rintro e w ⟨rfl, rfl⟩)
        rw [rounds_succ]
        go_wp2_with (go_at_call 58; refine (Tryd.strings_CutPrefix _ _ _).mono ?_; rintro e w ⟨rfl, rfl⟩)
        go_ret2
        exact ⟨rfl, rfl⟩
      | false =>
        have p0 : Lib.hasPrefix s.data.toList [116, 101, 120, 116] = false := h0
        have p1 : Lib.hasPrefix s.data.toList [107, 101, 121, 119, 111, 114, 100] = false := h1
        have p2 : Lib.hasPrefix s.data.toList [110, 117, 109, 98, 101, 114] = false := h2
        have r1 : rkN s.data.toList = 0 := by simp [rkN, h0, h1, h2]
        have r2 : rkR s.data.toList = [] := by simp [rkR, h0, h1, h2]
        rw [r1, r2]
        clear r1 r2 h0 h1 h2
        go_enter Tryd.func51, Tryd.ntmps51
        go_wp2
        refine wp_loop_rounds 4 ?_
        rw [rounds_succ]
        go_wp2_with (go_at_call 58; refine (Tryd.strings_CutPrefix _ _ _).mono ?_; rintro e w ⟨rfl, rfl⟩)
        rw [rounds_succ]
        go_wp2_with (go_at_call 58; refine (Tryd.strings_CutPrefix _ _ _).mono ?_; rintro e w ⟨rfl, rfl⟩)
        rw [rounds_succ]
        go_wp2_with (go_at_call 58; refine (Tryd.strings_CutPrefix _ _ _).mono ?_; rintro e w ⟨rfl, rfl⟩)
        rw [rounds_succ]
        go_wp2
        go_ret2
        exact ⟨rfl, rfl⟩
/-- The bit of the mark with which a text begins, and what stands behind. -/
def rmN (l : List UInt8) (b : Nat) : Nat := if Lib.hasPrefix l mFold ∧ b < 4 then 4 else if Lib.hasPrefix l mStop ∧ b < 8 then 8 else if Lib.hasPrefix l mStem ∧ b < 16 then 16 else 0
def rmR (l : List UInt8) (b : Nat) : List UInt8 := if Lib.hasPrefix l mFold ∧ b < 4 then l.drop 5 else if Lib.hasPrefix l mStop ∧ b < 8 then l.drop 5 else if Lib.hasPrefix l mStem ∧ b < 16 then l.drop 5 else []
set_option maxRecDepth 20000 in
set_option maxHeartbeats 4000000 in
theorem rmark_any (s : ByteArray) (b : Nat) (w : World) (hW : Words w) (hb : b < 256) :
    Calls Tryd.prog 53 #[.string s, .int .u8 b] w fun e w' => e = .returned (.tuple #[.int .u8 (rmN s.data.toList b), .string (bstr (rmR s.data.toList b))]) ∧ w' = w := by
  obtain ⟨-, -, -, k0, k1, k2⟩ := hW
  have i0 := idx0
  have i1 := idx1
  have i2 := idx2
  cases h0 : Lib.hasPrefix s.data.toList mFold with
  | false =>
    cases h1 : Lib.hasPrefix s.data.toList mStop with
    | false =>
      cases h2 : Lib.hasPrefix s.data.toList mStem with
      | false =>
        have p0 : Lib.hasPrefix s.data.toList [44, 102, 111, 108, 100] = false := h0
        have p1 : Lib.hasPrefix s.data.toList [44, 115, 116, 111, 112] = false := h1
        have p2 : Lib.hasPrefix s.data.toList [44, 115, 116, 101, 109] = false := h2
        have r1 : rmN s.data.toList b = 0 := by simp [rmN, h0, h1, h2]
        have r2 : rmR s.data.toList b = [] := by simp [rmR, h0, h1, h2]
        rw [r1, r2]
        clear r1 r2 h0 h1 h2
        go_enter Tryd.func53, Tryd.ntmps53
        go_wp2
        refine wp_loop_rounds 4 ?_
        rw [rounds_succ]
        go_wp2_with (go_at_call 58; refine (Tryd.strings_CutPrefix _ _ _).mono ?_; rintro e w ⟨rfl, rfl⟩)
        rw [rounds_succ]
        go_wp2_with (go_at_call 58; refine (Tryd.strings_CutPrefix _ _ _).mono ?_; rintro e w ⟨rfl, rfl⟩)
        rw [rounds_succ]
        go_wp2_with (go_at_call 58; refine (Tryd.strings_CutPrefix _ _ _).mono ?_; rintro e w ⟨rfl, rfl⟩)
        rw [rounds_succ]
        go_wp2
        go_ret2
        exact ⟨rfl, rfl⟩
      | true =>
        by_cases g2 : b < 16
        · have p0 : Lib.hasPrefix s.data.toList [44, 102, 111, 108, 100] = false := h0
          have p1 : Lib.hasPrefix s.data.toList [44, 115, 116, 111, 112] = false := h1
          have p2 : Lib.hasPrefix s.data.toList [44, 115, 116, 101, 109] = true := h2
          have r1 : rmN s.data.toList b = 16 := by simp [rmN, h0, h1, h2, g2]
          have r2 : rmR s.data.toList b = Lib.trimPrefix s.data.toList mStem := by rw [trim_yes h2, show mStem.length = 5 from rfl]; simp [rmR, h0, h1, h2, g2]
          rw [r1, r2]
          clear r1 r2 h0 h1 h2
          have q2 : (b : Int) < 16 := by omega
          go_enter Tryd.func53, Tryd.ntmps53
          go_wp2
          refine wp_loop_rounds 3 ?_
          rw [rounds_succ]
          go_wp2_with (go_at_call 58; refine (Tryd.strings_CutPrefix _ _ _).mono ?_; rintro e w ⟨rfl, rfl⟩)
          rw [rounds_succ]
          go_wp2_with (go_at_call 58; refine (Tryd.strings_CutPrefix _ _ _).mono ?_; rintro e w ⟨rfl, rfl⟩)
          rw [rounds_succ]
          go_wp2_with (go_at_call 58; refine (Tryd.strings_CutPrefix _ _ _).mono ?_; rintro e w ⟨rfl, rfl⟩)
          go_ret2
          exact ⟨rfl, rfl⟩
        · have p0 : Lib.hasPrefix s.data.toList [44, 102, 111, 108, 100] = false := h0
          have p1 : Lib.hasPrefix s.data.toList [44, 115, 116, 111, 112] = false := h1
          have p2 : Lib.hasPrefix s.data.toList [44, 115, 116, 101, 109] = true := h2
          have r1 : rmN s.data.toList b = 0 := by simp [rmN, h0, h1, h2, g2]
          have r2 : rmR s.data.toList b = [] := by simp [rmR, h0, h1, h2, g2]
          rw [r1, r2]
          clear r1 r2 h0 h1 h2
          have q2 : ¬ (b : Int) < 16 := by omega
          go_enter Tryd.func53, Tryd.ntmps53
          go_wp2
          refine wp_loop_rounds 4 ?_
          rw [rounds_succ]
          go_wp2_with (go_at_call 58; refine (Tryd.strings_CutPrefix _ _ _).mono ?_; rintro e w ⟨rfl, rfl⟩)
          rw [rounds_succ]
          go_wp2_with (go_at_call 58; refine (Tryd.strings_CutPrefix _ _ _).mono ?_; rintro e w ⟨rfl, rfl⟩)
          rw [rounds_succ]
          go_wp2_with (go_at_call 58; refine (Tryd.strings_CutPrefix _ _ _).mono ?_; rintro e w ⟨rfl, rfl⟩)
          rw [rounds_succ]
          go_wp2
          go_ret2
          exact ⟨rfl, rfl⟩
    | true =>
      by_cases g1 : b < 8
      · have p0 : Lib.hasPrefix s.data.toList [44, 102, 111, 108, 100] = false := h0
        have p1 : Lib.hasPrefix s.data.toList [44, 115, 116, 111, 112] = true := h1
        have r1 : rmN s.data.toList b = 8 := by simp [rmN, h0, h1, g1]
        have r2 : rmR s.data.toList b = Lib.trimPrefix s.data.toList mStop := by rw [trim_yes h1, show mStop.length = 5 from rfl]; simp [rmR, h0, h1, g1]
        rw [r1, r2]
        clear r1 r2 h0 h1
        have q1 : (b : Int) < 8 := by omega
        go_enter Tryd.func53, Tryd.ntmps53
        go_wp2
        refine wp_loop_rounds 2 ?_
        rw [rounds_succ]
        go_wp2_with (go_at_call 58; refine (Tryd.strings_CutPrefix _ _ _).mono ?_; rintro e w ⟨rfl, rfl⟩)
        rw [rounds_succ]
        go_wp2_with (go_at_call 58; refine (Tryd.strings_CutPrefix _ _ _).mono ?_; rintro e w ⟨rfl, rfl⟩)
        go_ret2
        exact ⟨rfl, rfl⟩
      · cases h2 : Lib.hasPrefix s.data.toList mStem with
        | false =>
          have p0 : Lib.hasPrefix s.data.toList [44, 102, 111, 108, 100] = false := h0
          have p1 : Lib.hasPrefix s.data.toList [44, 115, 116, 111, 112] = true := h1
          have p2 : Lib.hasPrefix s.data.toList [44, 115, 116, 101, 109] = false := h2
          have r1 : rmN s.data.toList b = 0 := by simp [rmN, h0, h1, h2, g1]
          have r2 : rmR s.data.toList b = [] := by simp [rmR, h0, h1, h2, g1]
          rw [r1, r2]
          clear r1 r2 h0 h1 h2
          have q1 : ¬ (b : Int) < 8 := by omega
          go_enter Tryd.func53, Tryd.ntmps53
          go_wp2
          refine wp_loop_rounds 4 ?_
          rw [rounds_succ]
          go_wp2_with (go_at_call 58; refine (Tryd.strings_CutPrefix _ _ _).mono ?_; rintro e w ⟨rfl, rfl⟩)
          rw [rounds_succ]
          go_wp2_with (go_at_call 58; refine (Tryd.strings_CutPrefix _ _ _).mono ?_; rintro e w ⟨rfl, rfl⟩)
          rw [rounds_succ]
          go_wp2_with (go_at_call 58; refine (Tryd.strings_CutPrefix _ _ _).mono ?_; rintro e w ⟨rfl, rfl⟩)
          rw [rounds_succ]
          go_wp2
          go_ret2
          exact ⟨rfl, rfl⟩
        | true =>
          by_cases g2 : b < 16
          · have p0 : Lib.hasPrefix s.data.toList [44, 102, 111, 108, 100] = false := h0
            have p1 : Lib.hasPrefix s.data.toList [44, 115, 116, 111, 112] = true := h1
            have p2 : Lib.hasPrefix s.data.toList [44, 115, 116, 101, 109] = true := h2
            have r1 : rmN s.data.toList b = 16 := by simp [rmN, h0, h1, h2, g1, g2]
            have r2 : rmR s.data.toList b = Lib.trimPrefix s.data.toList mStem := by rw [trim_yes h2, show mStem.length = 5 from rfl]; simp [rmR, h0, h1, h2, g1, g2]
            rw [r1, r2]
            clear r1 r2 h0 h1 h2
            have q1 : ¬ (b : Int) < 8 := by omega
            have q2 : (b : Int) < 16 := by omega
            go_enter Tryd.func53, Tryd.ntmps53
            go_wp2
            refine wp_loop_rounds 3 ?_
            rw [rounds_succ]
            go_wp2_with (go_at_call 58; refine (Tryd.strings_CutPrefix _ _ _).mono ?_; rintro e w ⟨rfl, rfl⟩)
            rw [rounds_succ]
            go_wp2_with (go_at_call 58; refine (Tryd.strings_CutPrefix _ _ _).mono ?_; rintro e w ⟨rfl, rfl⟩)
            rw [rounds_succ]
            go_wp2_with (go_at_call 58; refine (Tryd.strings_CutPrefix _ _ _).mono ?_; rintro e w ⟨rfl, rfl⟩)
            go_ret2
            exact ⟨rfl, rfl⟩
          · have p0 : Lib.hasPrefix s.data.toList [44, 102, 111, 108, 100] = false := h0
            have p1 : Lib.hasPrefix s.data.toList [44, 115, 116, 111, 112] = true := h1
            have p2 : Lib.hasPrefix s.data.toList [44, 115, 116, 101, 109] = true := h2
            have r1 : rmN s.data.toList b = 0 := by simp [rmN, h0, h1, h2, g1, g2]
            have r2 : rmR s.data.toList b = [] := by simp [rmR, h0, h1, h2, g1, g2]
            rw [r1, r2]
            clear r1 r2 h0 h1 h2
            have q1 : ¬ (b : Int) < 8 := by omega
            have q2 : ¬ (b : Int) < 16 := by omega
            go_enter Tryd.func53, Tryd.ntmps53
            go_wp2
            refine wp_loop_rounds 4 ?_
            rw [rounds_succ]
            go_wp2_with (go_at_call 58; refine (Tryd.strings_CutPrefix _ _ _).mono ?_; rintro e w ⟨rfl, rfl⟩)
            rw [rounds_succ]
            go_wp2_with (go_at_call 58; refine (Tryd.strings_CutPrefix _ _ _).mono ?_; rintro e w ⟨rfl, rfl⟩)
            rw [rounds_succ]
            go_wp2_with (go_at_call 58; refine (Tryd.strings_CutPrefix _ _ _).mono ?_; rintro e w ⟨rfl, rfl⟩)
            rw [rounds_succ]
            go_wp2
            go_ret2
            exact ⟨rfl, rfl⟩
  | true =>
    by_cases g0 : b < 4
    · have p0 : Lib.hasPrefix s.data.toList [44, 102, 111, 108, 100] = true := h0
      have r1 : rmN s.data.toList b = 4 := by simp [rmN, h0, g0]
      have r2 : rmR s.data.toList b = Lib.trimPrefix s.data.toList mFold := by rw [trim_yes h0, show mFold.length = 5 from rfl]; simp [rmR, h0, g0]
      rw [r1, r2]
      clear r1 r2 h0
      have q0 : (b : Int) < 4 := by omega
      go_enter Tryd.func53, Tryd.ntmps53
      go_wp2
      refine wp_loop_rounds 1 ?_
      rw [rounds_succ]
      go_wp2_with (go_at_call 58; refine (Tryd.strings_CutPrefix _ _ _).mono ?_; rintro e w ⟨rfl, rfl⟩)
      go_ret2
      exact ⟨rfl, rfl⟩
    · cases h1 : Lib.hasPrefix s.data.toList mStop with
      | false =>
        cases h2 : Lib.hasPrefix s.data.toList mStem with
        | false =>
          have p0 : Lib.hasPrefix s.data.toList [44, 102, 111, 108, 100] = true := h0
          have p1 : Lib.hasPrefix s.data.toList [44, 115, 116, 111, 112] = false := h1
          have p2 : Lib.hasPrefix s.data.toList [44, 115, 116, 101, 109] = false := h2
          have r1 : rmN s.data.toList b = 0 := by simp [rmN, h0, h1, h2, g0]
          have r2 : rmR s.data.toList b = [] := by simp [rmR, h0, h1, h2, g0]
          rw [r1, r2]
          clear r1 r2 h0 h1 h2
          have q0 : ¬ (b : Int) < 4 := by omega
          go_enter Tryd.func53, Tryd.ntmps53
          go_wp2
          refine wp_loop_rounds 4 ?_
          rw [rounds_succ]
          go_wp2_with (go_at_call 58; refine (Tryd.strings_CutPrefix _ _ _).mono ?_; rintro e w ⟨rfl, rfl⟩)
          rw [rounds_succ]
          go_wp2_with (go_at_call 58; refine (Tryd.strings_CutPrefix _ _ _).mono ?_; rintro e w ⟨rfl, rfl⟩)
          rw [rounds_succ]
          go_wp2_with (go_at_call 58; refine (Tryd.strings_CutPrefix _ _ _).mono ?_; rintro e w ⟨rfl, rfl⟩)
          rw [rounds_succ]
          go_wp2
          go_ret2
          exact ⟨rfl, rfl⟩
        | true =>
          by_cases g2 : b < 16
          · have p0 : Lib.hasPrefix s.data.toList [44, 102, 111, 108, 100] = true := h0
            have p1 : Lib.hasPrefix s.data.toList [44, 115, 116, 111, 112] = false := h1
            have p2 : Lib.hasPrefix s.data.toList [44, 115, 116, 101, 109] = true := h2
            have r1 : rmN s.data.toList b = 16 := by simp [rmN, h0, h1, h2, g0, g2]
            have r2 : rmR s.data.toList b = Lib.trimPrefix s.data.toList mStem := by rw [trim_yes h2, show mStem.length = 5 from rfl]; simp [rmR, h0, h1, h2, g0, g2]
            rw [r1, r2]
            clear r1 r2 h0 h1 h2
            have q0 : ¬ (b : Int) < 4 := by omega
            have q2 : (b : Int) < 16 := by omega
            go_enter Tryd.func53, Tryd.ntmps53
            go_wp2
            refine wp_loop_rounds 3 ?_
            rw [rounds_succ]
            go_wp2_with (go_at_call 58; refine (Tryd.strings_CutPrefix _ _ _).mono ?_; rintro e w ⟨rfl, rfl⟩)
            rw [rounds_succ]
            go_wp2_with (go_at_call 58; refine (Tryd.strings_CutPrefix _ _ _).mono ?_; rintro e w ⟨rfl, rfl⟩)
            rw [rounds_succ]
            go_wp2_with (go_at_call 58; refine (Tryd.strings_CutPrefix _ _ _).mono ?_; rintro e w ⟨rfl, rfl⟩)
            go_ret2
            exact ⟨rfl, rfl⟩
          · have p0 : Lib.hasPrefix s.data.toList [44, 102, 111, 108, 100] = true := h0
            have p1 : Lib.hasPrefix s.data.toList [44, 115, 116, 111, 112] = false := h1
            have p2 : Lib.hasPrefix s.data.toList [44, 115, 116, 101, 109] = true := h2
            have r1 : rmN s.data.toList b = 0 := by simp [rmN, h0, h1, h2, g0, g2]
            have r2 : rmR s.data.toList b = [] := by simp [rmR, h0, h1, h2, g0, g2]
            rw [r1, r2]
            clear r1 r2 h0 h1 h2
            have q0 : ¬ (b : Int) < 4 := by omega
            have q2 : ¬ (b : Int) < 16 := by omega
            go_enter Tryd.func53, Tryd.ntmps53
            go_wp2
            refine wp_loop_rounds 4 ?_
            rw [rounds_succ]
            go_wp2_with (go_at_call 58; refine (Tryd.strings_CutPrefix _ _ _).mono ?_; rintro e w ⟨rfl, rfl⟩)
            rw [rounds_succ]
            go_wp2_with (go_at_call 58; refine (Tryd.strings_CutPrefix _ _ _).mono ?_; rintro e w ⟨rfl, rfl⟩)
            rw [rounds_succ]
            go_wp2_with (go_at_call 58; refine (Tryd.strings_CutPrefix _ _ _).mono ?_; rintro e w ⟨rfl, rfl⟩)
            rw [rounds_succ]
            go_wp2
            go_ret2
            exact ⟨rfl, rfl⟩
      | true =>
        by_cases g1 : b < 8
        · have p0 : Lib.hasPrefix s.data.toList [44, 102, 111, 108, 100] = true := h0
          have p1 : Lib.hasPrefix s.data.toList [44, 115, 116, 111, 112] = true := h1
          have r1 : rmN s.data.toList b = 8 := by simp [rmN, h0, h1, g0, g1]
          have r2 : rmR s.data.toList b = Lib.trimPrefix s.data.toList mStop := by rw [trim_yes h1, show mStop.length = 5 from rfl]; simp [rmR, h0, h1, g0, g1]
          rw [r1, r2]
          clear r1 r2 h0 h1
          have q0 : ¬ (b : Int) < 4 := by omega
          have q1 : (b : Int) < 8 := by omega
          go_enter Tryd.func53, Tryd.ntmps53
          go_wp2
          refine wp_loop_rounds 2 ?_
          rw [rounds_succ]
          go_wp2_with (go_at_call 58; refine (Tryd.strings_CutPrefix _ _ _).mono ?_; rintro e w ⟨rfl, rfl⟩)
          rw [rounds_succ]
          go_wp2_with (go_at_call 58; refine (Tryd.strings_CutPrefix _ _ _).mono ?_; rintro e w ⟨rfl, rfl⟩)
          go_ret2
          exact ⟨rfl, rfl⟩
        · cases h2 : Lib.hasPrefix s.data.toList mStem with
          | false =>
            have p0 : Lib.hasPrefix s.data.toList [44, 102, 111, 108, 100] = true := h0
            have p1 : Lib.hasPrefix s.data.toList [44, 115, 116, 111, 112] = true := h1
            have p2 : Lib.hasPrefix s.data.toList [44, 115, 116, 101, 109] = false := h2
            have r1 : rmN s.data.toList b = 0 := by simp [rmN, h0, h1, h2, g0, g1]
            have r2 : rmR s.data.toList b = [] := by simp [rmR, h0, h1, h2, g0, g1]
            rw [r1, r2]
            clear r1 r2 h0 h1 h2
            have q0 : ¬ (b : Int) < 4 := by omega
            have q1 : ¬ (b : Int) < 8 := by omega
            go_enter Tryd.func53, Tryd.ntmps53
            go_wp2
            refine wp_loop_rounds 4 ?_
            rw [rounds_succ]
            go_wp2_with (go_at_call 58; refine (Tryd.strings_CutPrefix _ _ _).mono ?_; rintro e w ⟨rfl, rfl⟩)
            rw [rounds_succ]
            go_wp2_with (go_at_call 58; refine (Tryd.strings_CutPrefix _ _ _).mono ?_; rintro e w ⟨rfl, rfl⟩)
            rw [rounds_succ]
            go_wp2_with (go_at_call 58; refine (Tryd.strings_CutPrefix _ _ _).mono ?_; rintro e w ⟨rfl, rfl⟩)
            rw [rounds_succ]
            go_wp2
            go_ret2
            exact ⟨rfl, rfl⟩
          | true =>
            by_cases g2 : b < 16
            · have p0 : Lib.hasPrefix s.data.toList [44, 102, 111, 108, 100] = true := h0
              have p1 : Lib.hasPrefix s.data.toList [44, 115, 116, 111, 112] = true := h1
              have p2 : Lib.hasPrefix s.data.toList [44, 115, 116, 101, 109] = true := h2
              have r1 : rmN s.data.toList b = 16 := by simp [rmN, h0, h1, h2, g0, g1, g2]
              have r2 : rmR s.data.toList b = Lib.trimPrefix s.data.toList mStem := by rw [trim_yes h2, show mStem.length = 5 from rfl]; simp [rmR, h0, h1, h2, g0, g1, g2]
              rw [r1, r2]
              clear r1 r2 h0 h1 h2
              have q0 : ¬ (b : Int) < 4 := by omega
              have q1 : ¬ (b : Int) < 8 := by omega
              have q2 : (b : Int) < 16 := by omega
              go_enter Tryd.func53, Tryd.ntmps53
              go_wp2
              refine wp_loop_rounds 3 ?_
              rw [rounds_succ]
              go_wp2_with (go_at_call 58; refine (Tryd.strings_CutPrefix _ _ _).mono ?_; rintro e w ⟨rfl, rfl⟩)
              rw [rounds_succ]
              go_wp2_with (go_at_call 58; refine (Tryd.strings_CutPrefix _ _ _).mono ?_; rintro e w ⟨rfl, rfl⟩)
              rw [rounds_succ]
              go_wp2_with (go_at_call 58; refine (Tryd.strings_CutPrefix _ _ _).mono ?_; rintro e w ⟨rfl, rfl⟩)
              go_ret2
              exact ⟨rfl, rfl⟩
            · have p0 : Lib.hasPrefix s.data.toList [44, 102, 111, 108, 100] = true := h0
              have p1 : Lib.hasPrefix s.data.toList [44, 115, 116, 111, 112] = true := h1
              have p2 : Lib.hasPrefix s.data.toList [44, 115, 116, 101, 109] = true := h2
              have r1 : rmN s.data.toList b = 0 := by simp [rmN, h0, h1, h2, g0, g1, g2]
              have r2 : rmR s.data.toList b = [] := by simp [rmR, h0, h1, h2, g0, g1, g2]
              rw [r1, r2]
              clear r1 r2 h0 h1 h2
              have q0 : ¬ (b : Int) < 4 := by omega
              have q1 : ¬ (b : Int) < 8 := by omega
              have q2 : ¬ (b : Int) < 16 := by omega
              go_enter Tryd.func53, Tryd.ntmps53
              go_wp2
              refine wp_loop_rounds 4 ?_
              rw [rounds_succ]
              go_wp2_with (go_at_call 58; refine (Tryd.strings_CutPrefix _ _ _).mono ?_; rintro e w ⟨rfl, rfl⟩)
              rw [rounds_succ]
              go_wp2_with (go_at_call 58; refine (Tryd.strings_CutPrefix _ _ _).mono ?_; rintro e w ⟨rfl, rfl⟩)
              rw [rounds_succ]
              go_wp2_with (go_at_call 58; refine (Tryd.strings_CutPrefix _ _ _).mono ?_; rintro e w ⟨rfl, rfl⟩)
              rw [rounds_succ]
              go_wp2
              go_ret2
              exact ⟨rfl, rfl⟩
end Go.Proofs.YtbhoplmbiomogaaDoor
