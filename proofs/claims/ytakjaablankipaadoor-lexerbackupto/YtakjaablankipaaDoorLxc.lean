import Derived.Test.YtakjaablankipaaDoorLxb
namespace Go.Proofs.YtakjaablankipaaDoor
open Go.ChangeShapes Go.WideShapes Go.ChangeAt Go.RowKit

theorem info_partsL {e : TypeId} {z : Value} {s b : Nat} (h : (Tryd.prog.info? e).map (fun i => (i.zero, i.size, i.bytes)) = some (some z, s, b)) : ∃ i, Tryd.prog.info? e = some i ∧ i.zero = some z ∧ i.size = s ∧ i.bytes = b := by
  cases e0 : Tryd.prog.info? e with
  | none => rw [e0] at h; cases h
  | some i =>
    rw [e0] at h
    simp only [Option.map_some, Option.some.injEq, Prod.mk.injEq] at h
    exact ⟨i, rfl, h.1, h.2.1, h.2.2⟩
/-- 'make([]byte, 0, n)'. -/
theorem gb_make0 (w : World) (n : Nat) (h63 : n ≤ maxLen) : Gb w (w.alloc (.cells (madeCells (Value.int .u8 0).cells (n * 1)) 5)) (some ⟨w.heap.size, 0, none⟩) n 0 [] := by
  refine ⟨⟨⟨rfl, .inr ⟨w.heap.size, n, madeCells (Value.int .u8 0).cells (n * 1), rfl, Nat.le_refl _, heap_alloc_new w _, Nat.zero_le _, h63, size_madeCells _ _, ?_⟩⟩, Kept.alloc _ _⟩, rfl⟩
  rw [Nat.zero_mul]; rfl
/-- What 'make([]byte, 0, n)' does: an equation for the walk, and the row. -/
theorem make0B (w : World) (n : Nat) (hn : n ≤ 1099511627776) : ∃ W1 : World, ((Instr.makeSlice 37 (.int .i64 0) (.int .i64 (n : Int))).run Tryd.prog w = .ok (.slice (some ⟨w.heap.size, 0, none⟩) 0 n) W1) ∧ Gb w W1 (some ⟨w.heap.size, 0, none⟩) n 0 [] := by
  obtain ⟨i0, hi, hz0, hz1, hz2⟩ := info_partsL Tryd.infoB
  have hr := run_make (P := Tryd.prog) w 37 5 i0 (.int .u8 0) Tryd.underlying37 hi hz0 .i64 .i64 0 (n : Int) (by omega) (by omega) (by rw [hz2]; omega) (by omega)
  rw [hz1] at hr
  exact ⟨_, hr, gb_make0 w n (by unfold maxLen; omega)⟩
theorem rsv_is (l : List UInt8) : rsv l ≤ 7 := by unfold rsv; (repeat' split) <;> omega
set_option maxRecDepth 20000 in
set_option maxHeartbeats 4000000 in
theorem word_any (l : List UInt8) (w : World) (hC : ClsAt w) (hl : l.length ≤ 400000000000) :
    Calls Tryd.prog 10 #[.string (bq l)] w fun e w' => e = .returned (.string (bq (wordF l))) ∧ Kept (fun _ => False) w w' := by
  have CR := hideL (reserved_any l w)
  have hr7 := rsv_is l
  unfold wordF
  by_cases hr : rsv l = 1
  · rw [if_neg (by omega)]
    rw [hr] at CR
    obtain ⟨W1, hm, hg⟩ := make0B w l.length (by omega)
    have HG := hideL hg
    obtain ⟨s, hs⟩ : ∃ s, s = bq l := ⟨_, rfl⟩
    have hz : s.size = l.length := by rw [hs]; exact bq_size l
    have HX : Hid (∀ k (h : k < l.length) (h2 : k < s.size), s[k] = l[k]) := hideL (fun k h h2 => by subst hs; rfl)
    rw [← hs] at CR ⊢
    obtain ⟨g, hg0⟩ : ∃ g, g = w.heap.size := ⟨_, rfl⟩
    rw [← hg0] at hm HG
    have HC := hideL hC
    have hz' : (s.size : Int) = (l.length : Int) := by rw [hz]
    obtain ⟨zn, hzn⟩ : ∃ zn : Int, zn = (l.length : Int) := ⟨_, rfl⟩
    rw [← hzn] at hm
    rw [hzn, ← hz'] at hm
    obtain ⟨n, hn⟩ : ∃ n, n = s.size := ⟨_, rfl⟩
    have HLn : Hid (n = l.length) := hideL (by omega)
    have hnb : n ≤ 400000000000 := by omega
    obtain ⟨cp, hcp⟩ : ∃ cp, cp = l.length := ⟨_, rfl⟩
    rw [← hcp] at hm HG
    have PC := hideL (fun (c : UInt8) (w1 : World) (h1 : ClsAt w1) {a : Option Addr} {c0 m : Nat} {o : List UInt8} (h2 : Gb w w1 a c0 m o) (h3 : m ≤ 1000000000000) => putLetter_any c w w1 h1 h2 h3)
    clear hs hg hg0 hC hr hr7 hl hz hz' hcp hzn
    go_enter Tryd.func10, Tryd.ntmps10
    go_wp2_with (go_at_call 20; refine CR.out.mono ?_; clear CR; rintro e w5 ⟨rfl, e5⟩; subst e5)
    go_loopw [3, 15] (fun v i wr => ∃ (k m : Nat) (a : Option Addr) (c : Nat), k ≤ n ∧ m ≤ 2 * k ∧ i = .int .i64 k ∧ v = .slice a m c ∧ Hid (Gb w5 wr a c m (wl (l.take k)))) (fun _ i _ => n - (intOf i).toNat)
    case atStart => exact ⟨0, 0, _, _, by omega, by omega, rfl, rfl, HG⟩
    case round =>
      obtain ⟨k, m, a, c0, hk, hmk, rfl, rfl, HR⟩ := hrel
      clear HG hm
      by_cases hlt : k < n
      · have hkl : k < l.length := by rw [← HLn.out]; exact hlt
        have hks : k < s.size := by rw [← hn]; exact hlt
        have c0' := HX.out k hkl hks
        have HW := hideL (wl_next l k hkl)
        have c3 : s[k].toNat = l[k].toNat := by rw [c0']
        have HP := hideL (PC.out l[k] wr (HC.out.later HR.out.gro.kept) HR.out (by omega))
        have hp2 := pl_len (wl (l.take k)).isEmpty l[k]
        rw [← HW.out] at HP
        generalize (pl (wl (l.take k)).isEmpty l[k]).length = q at *
        generalize l[k].toNat = z at *
        have hkz : (k : Int) < (n : Int) := by omega
        clear PC HW c0'
        go_wp2_with (go_at_call 21; refine HP.out.mono ?_; clear HP; rintro e w6 ⟨a6, c6, rfl, G6⟩; have G6 := hideL G6)
        go_roundw
        case rel => exact ⟨k + 1, m + q, a6, c6, by omega, by omega, by go_num, rfl, G6⟩
        case measure => simp [intOf]; omega
      · obtain rfl : k = n := by omega
        have hb := gro_string HR.out.gro HR.out.len
        rw [List.take_of_length_le (by rw [HLn.out]; exact Nat.le_refl _)] at hb
        have HK := hideL HR.out.gro.kept
        have hb2 : (convert 37 9 (.slice a m c0)).run Tryd.prog wr = .ok (.string (bq (wl l))) wr := hb
        clear hb PC HR
        go_wp2
        go_ret
        exact ⟨rfl, HK.out⟩
  · rw [if_pos hr]
    have e2 : (⟨#[92]⟩ : ByteArray) ++ bq l = bq (92 :: l) := bq_append [92] l
    have hz : (bq l).size = l.length := bq_size l
    generalize bq (92 :: l) = t at *
    generalize bq l = s at *
    generalize rsv l = r at *
    have q1 : ((r : Int) != 1) = true := by simp; omega
    clear hC
    go_enter Tryd.func10, Tryd.ntmps10
    go_wp2_with (go_at_call 20; refine CR.out.mono ?_; clear CR; rintro e w5 ⟨rfl, e5⟩; subst e5)
    go_ret
    exact ⟨rfl, Kept.refl _ _⟩
end Go.Proofs.YtakjaablankipaaDoor
