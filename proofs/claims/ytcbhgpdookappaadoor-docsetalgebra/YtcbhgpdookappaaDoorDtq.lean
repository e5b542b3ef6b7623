import Derived.Test.YtcbhgpdookappaaDoorDtp
namespace Go.Proofs.YtcbhgpdookappaaDoor.Ds
open Go.ChangeShapes Go.WideShapes Go.ChangeAt Go.RowKit

def byteN (b : Nat → Nat) (i : Nat) : Nat := b (i / 8) / 2 ^ (i % 8 * 8) % 256
def bitsN (b : Nat → Nat) (m : Nat) : List Nat := (List.range m).map (byteN b)
theorem bitsN_succ (b : Nat → Nat) (m : Nat) : bitsN b (m + 1) = bitsN b m ++ [byteN b m] := by simp [bitsN, List.range_succ]
theorem bitsN_len (b : Nat → Nat) (m : Nat) : (bitsN b m).length = m := by simp [bitsN]
set_option maxRecDepth 20000 in
theorem bob_any (wd : Nat) (hw : wd ≤ 256) (w : World) : Calls Tryd.prog 79 #[.int .i64 wd] w fun e w' => e = .returned (.int .i64 ((wd + 7) / 8 : Nat)) ∧ w' = w := by
  have hmi : ((wd : Int) + 7) / 8 = (((wd + 7) / 8 : Nat) : Int) := by omega
  have HM := hideD hmi
  clear hmi
  go_enter Tryd.func79, Tryd.ntmps79
  go_wp2
  go_ret
  exact ⟨by rw [← HM.out]; rfl, rfl⟩
set_option maxRecDepth 20000 in
set_option maxHeartbeats 2000000 in
theorem putBits_any (e : Nat) (b : Nat → Nat) (hb : BOk b) (L : List Nat) (wd : Nat) (hw : wd ≤ 256) (hcap : L.length + (wd + 7) / 8 ≤ 33) (w : World) (h : EcAt w e L) :
    Calls Tryd.prog 70 #[.pointer (some ⟨e, 0, none⟩), .agg (bw b), .int .i64 wd] w fun r w' => (∃ v, r = .returned v) ∧ EcAt w' e (L ++ bitsN b ((wd + 7) / 8)) ∧ Kept (fun i => i = e) w w' := by
  have PT := hideD (fun (L' : List Nat) (x : Nat) (W : World) (h : EcAt W e L') (hl : L'.length < 33) => put_any e x L' W h hl)
  have HE := hideD h
  obtain ⟨m, hm⟩ : ∃ m, m = (wd + 7) / 8 := ⟨_, rfl⟩
  have BO := hideD (fun w => bob_any wd hw w)
  rw [← hm] at hcap BO ⊢
  have hm32 : m ≤ 32 := by omega
  have hew := h.lt
  have HB := hideD hb
  clear h hm hb
  go_enter Tryd.func70, Tryd.ntmps70
  go_wp2_with (go_at_call 79; refine (BO.out _).mono ?_; rintro r W1 ⟨rfl, rfl⟩)
  obtain ⟨W, hW⟩ : ∃ W, W = w.alloc (.cells (bw b) 73) := ⟨_, rfl⟩
  have HC0 := hideD (show W.heap[w.heap.size]? = some (.cells (bw b) 73 (0, 0)) from by rw [hW]; exact heap_alloc_new w _)
  have HKW := hideD (show Kept (fun i => i = e) w W from by rw [hW]; exact (Kept.alloc _ _).mono (fun _ f => f.elim))
  have HE0 := hideD (show EcAt W e L from by rw [hW]; exact HE.out.kept (Kept.alloc _ _) (fun f => f))
  rw [← hW]
  clear hW
  go_loopw [9] (fun i wr => ∃ k : Nat, k ≤ m ∧ i = .int .i64 k ∧ Hid (EcAt wr e (L ++ bitsN b k)) ∧ Hid (wr.heap[w.heap.size]? = some (.cells (bw b) 73 (0, 0))) ∧ Hid (Kept (fun i => i = e) w wr)) (fun i _ => m - (intOf i).toNat)
  case atStart => exact ⟨0, by omega, rfl, hideD (by simpa [bitsN] using HE0.out), HC0, HKW⟩
  case round =>
    obtain ⟨k, hk, rfl, HA, HC, HK⟩ := hrel
    by_cases hlt : k < m
    · have hc : wr.cell? ⟨w.heap.size, k / 8, none⟩ = some (.int .u64 (b (k / 8) : Nat)) := (cell_of_row _ _ _ _ _ _ HC.out).trans (bw_at b _ (by omega))
      have h1 : 0 ≤ (k : Int) / 8 ∧ (k : Int) / 8 < 4 := by omega
      have hx := HB.out (k / 8)
      obtain ⟨x, hX⟩ : ∃ x, x = b (k / 8) := ⟨_, rfl⟩
      rw [← hX] at hc hx
      have hq : x / 2 ^ (k % 8 * 8) < 18446744073709551616 := Nat.lt_of_le_of_lt (Nat.div_le_self _ _) hx
      have hcv : IntKind.u8.wrap ((x : Int) / 2 ^ (k % 8 * 8)) = ((byteN b k : Nat) : Int) := by
        unfold byteN
        rw [← hX, show (x : Int) / 2 ^ (k % 8 * 8) = ((x / 2 ^ (k % 8 * 8) : Nat) : Int) by push_cast; rfl, IntKind.wrap_u8]
        omega
      have P2 := hideD (PT.out (L ++ bitsN b k) (byteN b k) wr HA.out (by rw [List.length_append, bitsN_len]; omega))
      obtain ⟨z, hz⟩ : ∃ z, z = byteN b k := ⟨_, rfl⟩
      have HZ := hideD hz
      rw [← hz] at hcv P2
      clear hX hz
      go_wp2_with (go_at_call 68; refine P2.out.mono ?_; rintro r W2 ⟨⟨v, rfl⟩, E2, K2⟩; have HE2 := hideD E2; have HK2 := hideD K2; clear E2 K2)
      go_round
      case rel =>
        refine ⟨k + 1, by omega, by go_num, hideD ?_, hideD (HK2.out.heap HC.out (by omega)), hideD (HK.out.trans HK2.out (fun i hi => .inl hi))⟩
        rw [bitsN_succ, ← List.append_assoc, ← HZ.out]
        exact HE2.out
      case measure => simp [intOf]; omega
    · obtain rfl : k = m := by omega
      clear hlt hk
      go_wp2
      go_end0
      exact ⟨⟨_, rfl⟩, HA.out, HK.out⟩
end Go.Proofs.YtcbhgpdookappaaDoor.Ds
