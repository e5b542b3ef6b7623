import Derived.Test.YtohnkamobmkhkaaDoorVfi
import Derived.Test.YtohnkamobmkhkaaDoorMki
namespace Go.Proofs.YtohnkamobmkhkaaDoor
open Go.ChangeShapes Go.WideShapes Go.ChangeAt Go.RowKit

/-- The heights laid so far. -/
def hK (L : List In) (n k : Nat) : List Int := (List.range n).map fun i => if i < k then (hA L i : Int) else 0
theorem hK_zero (L : List In) (n : Nat) : hK L n 0 = List.replicate n 0 := by
  apply List.ext_getElem
  · simp [hK]
  · intro i h1 h2; simp [hK]
theorem hK_set (L : List In) (n k : Nat) : (hK L n k).set k (hA L k) = hK L n (k + 1) := by
  apply List.ext_getElem
  · simp [hK]
  · intro i h1 h2
    rw [List.getElem_set]
    simp only [hK, List.getElem_map, List.getElem_range]
    by_cases h : k = i
    · subst h; rw [if_pos rfl, if_pos (by omega)]
    · rw [if_neg h]
      by_cases h2 : i < k
      · rw [if_pos h2, if_pos (by omega)]
      · rw [if_neg h2, if_neg (by omega)]
theorem hK_all (L : List In) : hK L L.length L.length = hL L := by
  apply List.ext_getElem
  · simp [hK, hL]
  · intro i h1 h2
    simp only [hK, hL, List.getElem_map, List.getElem_range]
    rw [if_pos (by simp [hK] at h1; exact h1)]
/-- What 'straight' answers. -/
def stQ (w : World) (L : List In) (e : Ending) (w' : World) : Prop :=
  (StOk L → ∃ a c, e = .returned (.tuple #[.slice a L.length c, .bool true]) ∧ Gro w w' 3 1 (.slice a L.length c) L.length (is (hL L))) ∧ (¬ StOk L → e = .returned (.tuple #[.slice none 0 0, .bool false])) ∧ Kept (fun _ => False) w w'
set_option maxRecDepth 20000 in
set_option maxHeartbeats 8000000 in
theorem straight_any (L : List In) (aL : Option Addr) (cL : Nat) (w : World) (hL' : InsAt w aL L) (hl : L.length ≤ 1099511627776) (hLx : ∀ x ∈ L, 0 ≤ x.op ∧ x.op < 17) (hT : TkT w) :
    Calls Tryd.prog 27 #[.slice aL L.length cL] w (stQ w L) := by
  have HL := hideI hL'
  have HLX := hideI hLx
  have HT := hideI hT
  clear hL' hLx hT
  obtain ⟨n, hn⟩ : ∃ n, n = L.length := ⟨_, rfl⟩
  have HN := hideI hn
  rw [← hn] at hl
  rw [← hn]
  clear hn
  have mk := mkI_run n w hl
  have HG0 := hideI (mkI_gro n w hl)
  go_enter Tryd.func27, Tryd.ntmps27
  go_wp2
  rw [← hK_zero L n] at HG0 mk
  obtain ⟨g, hg⟩ : ∃ g, g = w.heap.size := ⟨_, rfl⟩
  rw [← hg] at HG0 mk ⊢
  have hgw := HG0.out.kept.size
  have HGE := hideI hg
  clear hg
  generalize hV0 : w.alloc (.cells (is (List.replicate n (0 : Int))).toArray 3) = V0 at *
  rw [hK_zero L n, hV0, ← hK_zero L n] at HG0
  clear mk hV0
  go_loopw [5, 14] (fun v5 v14 wr => ∃ k : Nat, k ≤ n ∧ v5 = .int .i64 (hA L k : Nat) ∧ v14 = .int .i64 k ∧ Hid (∀ i (hi : i < L.length), i < k → tkN L[i] ≤ hA L i) ∧ Hid (Gro w wr 3 1 (.slice (some ⟨g, 0, none⟩) n n) n (is (hK L n k)))) (fun _ v14 _ => n - (intOf v14).toNat)
  case atStart => exact ⟨0, by omega, rfl, rfl, hideI (fun i _ h => by omega), HG0⟩
  case round =>
    obtain ⟨k, hk, rfl, rfl, HA, HG⟩ := hrel
    by_cases hlt : k < n
    · have hkl : k < L.length := by rw [← HN.out]; exact hlt
      have hkk : (k : Int) < (n : Int) := by omega
      obtain ⟨b, off, rfl, hc⟩ := HL.out (by intro e; rw [e] at hkl; simp at hkl)
      obtain ⟨x0, x1, x2⟩ := hc k hkl
      have y0 := HG.out.kept.cell x0 (fun f => f)
      have y1 := HG.out.kept.cell x1 (fun f => f)
      have y2 := HG.out.kept.cell x2 (fun f => f)
      have HS : Hid (tkN L[k] ≤ hA L k → (∀ i (hi : i < L.length), i < k + 1 → tkN L[i] ≤ hA L i) ∧ ((hA L (k + 1) : Nat) : Int) = (hA L k : Int) + (1 - (tkN L[k] : Int))) := hideI (fun e => ⟨fun i hi hik => by
        by_cases hkj : i = k
        · subst hkj; exact e
        · exact HA.out i hi (by omega), by rw [hA_next hkl]; omega⟩)
      have HB : Hid (¬ tkN L[k] ≤ hA L k → ¬ StOk L) := hideI (fun e f => e (f k hkl))
      have hxo := HLX.out L[k] (List.getElem_mem hkl)
      have hhk : hA L k ≤ k := hA_le L k
      have HSET : Hid (∀ W, Gro w W 3 1 (.slice (some ⟨g, 0, none⟩) n n) n (is (hK L n k)) → Gro w (W.setCell ⟨g, k, none⟩ (.int .i64 (hA L k : Nat))) 3 1 (.slice (some ⟨g, 0, none⟩) n n) n (is (hK L n (k + 1))) ∧ W.frozen? ⟨g, k, none⟩ = false ∧ ∃ u, W.cell? ⟨g, k, none⟩ = some (.int .i64 u)) := hideI (fun W h => by
        have q := h.set k (.int .i64 (hA L k : Nat))
        rw [isV_set, hK_set] at q
        refine ⟨q.1, q.2, (hK L n k)[k]'(by simp [hK]; exact hlt), h.at (isV_get (by rw [List.getElem?_eq_getElem]))⟩)
      generalize L[k] = x at *
      have HKx := hideI (Kept.alloc wr (.cells #[.int .i64 x.op, .int .u64 (x.a : Int), .int .u64 (x.b : Int)] 56))
      have HG1 := hideI (HG.out.later HKx.out)
      have CT := hideI (taken_any x _ (HT.out.kept HG1.out.kept) hxo)
      generalize hA L k = h0 at *
      generalize tkN x = t at *
      obtain ⟨op, xa, xb⟩ := x
      simp only at y0 y1 y2 CT HKx HG1
      clear hxo HA x0 x1 x2 hc HG
      have hw1 : IntKind.u64.wrap (h0 : Int) = (h0 : Int) := by rw [IntKind.wrap_u64]; omega
      by_cases hle : t ≤ h0
      · have hgt : ¬ (t : Int) > (h0 : Int) := by omega
        have hgt2 : ¬ (h0 : Int) < (t : Int) := by omega
        have hw2 : IntKind.i64.wrap (t : Int) = (t : Int) := by rw [IntKind.wrap_i64]; omega
        obtain ⟨HS1, hs2⟩ := HS.out hle
        have HS1 := hideI HS1
        have HS2 := hideI hs2
        clear hs2 HS HB
        go_wp2_with (go_at_call 46; refine CT.out.mono ?_; clear CT; rintro e W1 ⟨rfl, K1⟩; have HG2 := hideI (HG1.out.later K1); obtain ⟨q1, q2, u, q3⟩ := HSET.out W1 HG2.out; have HG3 := hideI q1; clear q1 K1)
        go_roundw
        case rel => exact ⟨k + 1, hlt, by rw [HS2.out], by go_num, HS1, HG3⟩
        case measure => simp [intOf]; omega
      · have hgt : (t : Int) > (h0 : Int) := by omega
        have hgt2 : (h0 : Int) < (t : Int) := by omega
        have HB2 := hideI (HB.out hle)
        clear HS HB HSET
        go_wp2_with (go_at_call 46; refine CT.out.mono ?_; clear CT; rintro e W1 ⟨rfl, K1⟩; have HG2 := hideI (HG1.out.later K1); clear K1)
        go_ret2
        exact ⟨fun e => absurd e HB2.out, fun _ => rfl, HG2.out.kept⟩
    · obtain rfl : k = n := by omega
      have hkk : ¬ (k : Int) < (k : Int) := by omega
      go_wp2
      go_ret2
      have hst : StOk L := fun i hi => HA.out i hi (by have := HN.out; omega)
      refine ⟨fun _ => ⟨some ⟨g, 0, none⟩, k, by rw [← HN.out]; rfl, ?_⟩, fun e => absurd hst e, HG.out.kept⟩
      have q := HG.out
      rw [HN.out, hK_all] at q
      rw [← HN.out] at q ⊢
      exact q
end Go.Proofs.YtohnkamobmkhkaaDoor
