import Derived.Test.YtmpneljkpcniiaaDoorHnl
import Derived.Test.YtmpneljkpcniiaaDoorRdL
import Derived.Test.YtmpneljkpcniiaaDoorBp
namespace Go.Proofs.YtmpneljkpcniiaaDoor
open Go.ChangeShapes Go.WideShapes Go.ChangeAt Go.RowKit

theorem orl_more (l : List Int) (x : Int) (hx : 1 ≤ x) : orl (l ++ [x]) ≠ 0 ∧ bitLen (orl (l ++ [x])) ≠ 0 := by
  have h : orl (l ++ [x]) ≠ 0 := by
    rw [orl_snoc]
    intro e
    have h2 : x.toNat ≤ orl l ||| x.toNat := Nat.right_le_or
    omega
  refine ⟨h, fun e => h ?_⟩
  have := (bitLen_le_iff (orl (l ++ [x])) 0).1 (by omega)
  simpa using this
/-- What CodecTwice writes: a rising list, the same with one number behind it packed, plain bytes. -/
def twd (s : List Int) (x : Int) (R : List Int) : List Int := rising s ++ (packed (s ++ [x]) ++ R)
/-- The rising list is read. -/
theorem rd_rising (s : List Int) (x : Int) (R : List Int) (br : Nat) (v : Value) (a0 a1 a2 : Addr) (w : World) (hs : Rsn s) (h : Rd w br v (twd s x R) 0) (hl : (twd s x R).length ≤ 1099511627776) (hn : s.length ≤ 1099511627776) (g0 : w.cell? ⟨3, 0, none⟩ = some (errV a0)) (g1 : w.cell? ⟨4, 0, none⟩ = some (errV a1)) (g2 : w.cell? ⟨2, 0, none⟩ = some (errV a2)) :
    Calls Tryd.prog 12 #[.pointer (some ⟨br, 0, none⟩), .int .i64 s.length] w fun e w' => ∃ u, e = .returned (.tuple #[u, .nilIface]) ∧ w'.ownsRow w.heap.size 3 1 u s.length (isH s) ∧ Rd w' br v (twd s x R) (rising s).length ∧ Kept (fun i => i = br) w w' := by
  have e1 : twd s x R = uvb s.length ++ (risb s 0 ++ (packed (s ++ [x]) ++ R)) := by unfold twd rising; rw [List.append_assoc]
  have hr : rdu 0 0 ((twd s x R).drop 0) = .ok (s.length, (uvb s.length).length) := by rw [List.drop_zero, e1]; exact rdu_uvb _ _ (by omega)
  refine (rris_any br v (twd s x R) 0 s.length (uvb s.length).length s.length a0 a1 a2 w h hr (Int.le_refl _) (by omega) hl g0 g1 g2).mono ?_
  intro e w' hp
  rw [Nat.zero_add, e1, List.drop_left' rfl, rdr_back s 0 _ (ris_of hs.ii hs.nn hs.rb), ← e1] at hp
  obtain ⟨u, h1, h2, h3, h4⟩ := hp
  refine ⟨u, h1, h2, ?_, h4⟩
  have e2 : (rising s).length = (uvb s.length).length + (risb s 0).length := by unfold rising; rw [List.length_append]
  rw [e2]
  exact h3
/-- The packed list is read. -/
theorem rd_packed (s : List Int) (x : Int) (R : List Int) (br : Nat) (v : Value) (a0 a1 a2 a3 : Addr) (w : World) (hs : Rsn s) (hx : 1 ≤ x) (hx2 : x ≤ 9223372036854775807) (h : Rd w br v (twd s x R) (rising s).length) (hl : (twd s x R).length ≤ 1099511627776) (hn : s.length ≤ 1099511627775) (g0 : w.cell? ⟨3, 0, none⟩ = some (errV a0)) (g1 : w.cell? ⟨4, 0, none⟩ = some (errV a1)) (g2 : w.cell? ⟨2, 0, none⟩ = some (errV a2)) (g3 : w.cell? ⟨1, 0, none⟩ = some (errV a3)) :
    Calls Tryd.prog 13 #[.pointer (some ⟨br, 0, none⟩), .int .i64 ((s.length + 1 : Nat) : Int)] w fun e w' => ∃ u, e = .returned (.tuple #[u, .nilIface]) ∧ w'.ownsRow w.heap.size 3 1 u (s.length + 1) (isH (s ++ [x])) ∧ Rd w' br v (twd s x R) ((rising s).length + (packed (s ++ [x])).length) ∧ Kept (fun i => i = br) w w' := by
  have hlen : (s ++ [x]).length = s.length + 1 := by rw [List.length_append, List.length_singleton]
  have hd : (twd s x R).drop (rising s).length = uvb (s.length + 1) ++ (pbody (s ++ [x]) ++ R) := by
    unfold twd
    rw [List.drop_left' rfl, packed_eq, hlen, List.append_assoc]
  have hI : IsInts (s ++ [x]) := fun y hy => by
    rcases List.mem_append.1 hy with q | q
    · exact hs.ii y q
    · simp only [List.mem_singleton] at q
      omega
  have h0 : ∀ y ∈ s ++ [x], 0 ≤ y := fun y hy => by
    rcases List.mem_append.1 hy with q | q
    · exact hs.nn y q
    · simp only [List.mem_singleton] at q
      omega
  have hr : rdu 0 0 ((twd s x R).drop (rising s).length) = .ok (s.length + 1, (uvb (s.length + 1)).length) := by rw [hd]; exact rdu_uvb _ _ (by omega)
  refine (rpak_any br v (twd s x R) (rising s).length (s.length + 1) (uvb (s.length + 1)).length ((s.length + 1 : Nat) : Int) a0 a1 a2 a3 w h hr (Int.le_refl _) (by omega) hl g0 g1 g2 g3).mono ?_
  intro e w' hp
  rw [← List.drop_drop, hd, List.drop_left' rfl] at hp
  have hb := rdp_back (s ++ [x]) R hI h0 (fun q => (orl_more s x hx).1 q.1)
  rw [hlen] at hb
  rw [hb] at hp
  obtain ⟨u, h1, h2, h3, h4⟩ := hp
  rw [hlen] at h2
  refine ⟨u, h1, h2, ?_, h4⟩
  have e2 : (packed (s ++ [x])).length = (uvb (s.length + 1)).length + (pbody (s ++ [x])).length := by rw [packed_eq, hlen, List.length_append]
  rw [e2, ← Nat.add_assoc]
  exact h3
/-- The plain bytes are read. -/
theorem rd_raw (s : List Int) (x : Int) (R : List Int) (br : Nat) (v : Value) (w : World) (h : Rd w br v (twd s x R) ((rising s).length + (packed (s ++ [x])).length)) :
    Calls Tryd.prog 14 #[.pointer (some ⟨br, 0, none⟩), .int .i64 R.length] w fun e w' => ∃ g, e = .returned (.tuple #[.slice (some ⟨g, 0, none⟩) R.length R.length, .nilIface]) ∧ w.heap.size ≤ g ∧ w'.ownsRow w.heap.size 5 1 (.slice (some ⟨g, 0, none⟩) R.length R.length) R.length (bs R) ∧ Kept (fun i => i = br) w w' := by
  have hlen : (twd s x R).length = (rising s).length + (packed (s ++ [x])).length + R.length := by unfold twd; rw [List.length_append, List.length_append]; omega
  have hd : ((twd s x R).drop ((rising s).length + (packed (s ++ [x])).length)).take R.length = R := by
    unfold twd
    rw [← List.append_assoc, List.drop_left' (by rw [List.length_append]), List.take_of_length_le (Nat.le_refl _)]
  refine (rraw_ok br v (twd s x R) _ R.length w h (by omega)).mono ?_
  rintro e w' ⟨g, h1, h2, h3, -, h5⟩
  rw [hd] at h3
  exact ⟨g, h1, h2, h3, h5⟩
set_option maxRecDepth 20000 in
set_option maxHeartbeats 4000000 in
/-- Two lists of numbers that are alike. -/
theorem sameI_true (l : List Int) (a b : Option Addr) (n c d : Nat) (w : World) (hn : n = l.length) (hA : IntsAt w a l) (hB : IntsAt w b l) (hl : n ≤ 1099511627776) :
    Calls Tryd.prog 15 #[.slice a n c, .slice b n d] w fun e w' => e = .returned (.bool true) ∧ Kept (fun _ => False) w w' := by
  have HA := hideH hA
  have HB := hideH hB
  have HN := hideH hn
  clear hA hB hn
  go_enter Tryd.func15, Tryd.ntmps15
  go_wp2
  go_loopw [13] (fun s13 wr => ∃ k : Nat, k ≤ n ∧ s13 = .int .i64 k ∧ Hid (Kept (fun _ => False) w wr)) (fun s13 _ => n - (intOf s13).toNat)
  case atStart => exact ⟨0, Nat.zero_le _, rfl, hideH (Kept.refl _ _)⟩
  case round =>
    obtain ⟨k, hk, rfl, HK⟩ := hrel
    by_cases hlt : k < n
    · have hkl : k < l.length := by rw [← HN.out]; exact hlt
      obtain ⟨b1, o1, rfl, hc1⟩ := HA.out (by intro e; rw [e] at hkl; simp at hkl)
      obtain ⟨b2, o2, rfl, hc2⟩ := HB.out (by intro e; rw [e] at hkl; simp at hkl)
      have x1 := HK.out.cell (hc1 k hkl) (fun f => f)
      have x2 := HK.out.cell (hc2 k hkl) (fun f => f)
      generalize l[k]?.getD 0 = y at x1 x2
      have i1 : (k : Int) < (n : Int) := by omega
      clear hc1 hc2
      go_wp2
      go_quiet (fail)
      go_wp2
      go_roundw
      case rel => exact ⟨k + 1, by omega, by go_num, hideH (HK.out.trans (Kept.drewN _ _) (fun _ f => f.elim))⟩
      case measure => simp [intOf]; omega
    · obtain rfl : k = n := by omega
      have i1 : ¬ (k : Int) < (k : Int) := by omega
      go_wp2
      go_ret
      exact ⟨rfl, HK.out⟩
end Go.Proofs.YtmpneljkpcniiaaDoor
