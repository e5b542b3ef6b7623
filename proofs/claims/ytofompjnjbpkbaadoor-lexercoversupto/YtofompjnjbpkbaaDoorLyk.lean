import Derived.Test.YtofompjnjbpkbaaDoorLyj
import Derived.LaidEql
namespace Go.Proofs.YtofompjnjbpkbaaDoor
open Go.ChangeShapes Go.WideShapes Go.ChangeAt Go.RowKit

theorem errEqL (W : World) (a : Addr) : (binOp .eql 25 (.iface 68 (.pointer (some a))) (.iface 68 (.pointer (some a)))).run Tryd.prog W = .ok (.bool true) W := by
  obtain ⟨i, hi, hci⟩ := Option.map_eq_some_iff.1 (show (Tryd.prog.info? 68).map (·.comparable) = some true by kernel_rfl)
  obtain ⟨j, hj, _⟩ := Option.map_eq_some_iff.1 (show (Tryd.prog.info? 85).map (·.comparable) = some true by kernel_rfl)
  exact run_eql_iface_ptr_same W a Tryd.underlying25 Tryd.underlying68 hi hci hj
theorem errNeL (W : World) (a : Addr) : (binOp .neq 25 (.iface 68 (.pointer (some a))) (.iface 68 (.pointer (some a)))).run Tryd.prog W = .ok (.bool false) W := by
  obtain ⟨i, hi, hci⟩ := Option.map_eq_some_iff.1 (show (Tryd.prog.info? 68).map (·.comparable) = some true by kernel_rfl)
  obtain ⟨j, hj, _⟩ := Option.map_eq_some_iff.1 (show (Tryd.prog.info? 85).map (·.comparable) = some true by kernel_rfl)
  simp only [binOp]
  simp [Op.equal, Op.maxDepth, run_equalIn_iface_ptr_same W 9998 a Tryd.underlying25 Tryd.underlying68 hi hci hj]
theorem u8_neL (c d : UInt8) : ((c.toNat : Int) != (d.toNat : Int)) = !(c == d) := by
  show (!((c.toNat : Int) == (d.toNat : Int))) = !(c == d)
  by_cases h : c = d
  · subst h; simp
  · rw [u8_intL c d h, beq_eq_false_iff_ne.2 h]
set_option maxRecDepth 20000 in
set_option maxHeartbeats 4000000 in
theorem blanks_any (l : List UInt8) (w : World) (hl : l.length ≤ 400000000000) :
    Calls Tryd.prog 13 #[.string (bq l)] w fun e w' => e = .returned (.bool (l.all (fun c => cl c == 101))) ∧ w' = w := by
  obtain ⟨Z, hZ⟩ : ∃ Z, Z = l.all (fun c => cl c == 101) := ⟨_, rfl⟩
  rw [← hZ]
  have HZ : Hid (Z = (l.drop 0).all (fun c => cl c == 101)) := hideL (by rw [hZ, List.drop_zero])
  obtain ⟨s, hs⟩ : ∃ s, s = bq l := ⟨_, rfl⟩
  have hz : s.size = l.length := by rw [hs]; exact bq_size l
  have HX : Hid (∀ k (h : k < l.length) (h2 : k < s.size), s[k] = l[k]) := hideL (fun k h h2 => by subst hs; rfl)
  rw [← hs]
  obtain ⟨n, hn⟩ : ∃ n, n = s.size := ⟨_, rfl⟩
  have HLn : Hid (n = l.length) := hideL (by omega)
  have hnb : n ≤ 400000000000 := by omega
  clear hs hl hz hZ
  go_enter Tryd.func13, Tryd.ntmps13
  go_wp2
  go_loopw [3] (fun i wr => ∃ (k : Nat), k ≤ n ∧ i = .int .i64 k ∧ Hid (Z = (l.drop k).all (fun c => cl c == 101)) ∧ Hid (wr = w)) (fun i _ => n - (intOf i).toNat)
  case atStart => exact ⟨0, by omega, rfl, HZ, hideL rfl⟩
  case round =>
    obtain ⟨k, hk, rfl, HD, HW⟩ := hrel
    have HW := HW.out
    subst HW
    clear HZ
    by_cases hlt : k < n
    · have hkl : k < l.length := by rw [← HLn.out]; exact hlt
      have hks : k < s.size := by rw [← hn]; exact hlt
      have hkz : (k : Int) < (n : Int) := by omega
      have c0' := HX.out k hkl hks
      have HD2 := HD.out
      rw [List.drop_eq_getElem_cons hkl, List.all_cons] at HD2
      obtain ⟨x, hx⟩ : ∃ x, x = l[k] := ⟨_, rfl⟩
      rw [← hx] at HD2 c0'
      rw [cl_blank x] at HD2
      have q1 := u8_neL x 32
      have q2 := u8_neL x 9
      have q3 := u8_neL x 10
      have q4 := u8_neL x 13
      obtain ⟨q, hq⟩ : ∃ q, q = x.toNat := ⟨_, rfl⟩
      have hqb : q < 256 := by rw [hq]; exact x.toNat_lt
      have y0 : s[k].toNat = q := by rw [c0', hq]
      rw [← hq] at q1 q2 q3 q4
      generalize (x == 32) = b1 at *
      generalize (x == 9) = b2 at *
      generalize (x == 10) = b3 at *
      generalize (x == 13) = b4 at *
      have p1 : ((q : Int) != 32) = !b1 := q1
      have p2 : ((q : Int) != 9) = !b2 := q2
      have p3 : ((q : Int) != 10) = !b3 := q3
      have p4 : ((q : Int) != 13) = !b4 := q4
      have HD3 := hideL HD2
      clear q1 q2 q3 q4 hq hx c0' HD HX HD2
      cases b1 with
      | true =>
        have HQ : Hid (Z = (l.drop (k + 1)).all (fun c => cl c == 101)) := hideL HD3.out
        clear HD3
        go_wp2
        go_roundw
        case rel => exact ⟨k + 1, by omega, by go_num, HQ, by first | exact hideL rfl | exact hideL trivial⟩
        case measure => simp [intOf] <;> omega
      | false =>
        cases b2 with
        | true =>
          have HQ : Hid (Z = (l.drop (k + 1)).all (fun c => cl c == 101)) := hideL HD3.out
          clear HD3
          go_wp2
          go_roundw
          case rel => exact ⟨k + 1, by omega, by go_num, HQ, by first | exact hideL rfl | exact hideL trivial⟩
          case measure => simp [intOf] <;> omega
        | false =>
          cases b3 with
          | true =>
            have HQ : Hid (Z = (l.drop (k + 1)).all (fun c => cl c == 101)) := hideL HD3.out
            clear HD3
            go_wp2
            go_roundw
            case rel => exact ⟨k + 1, by omega, by go_num, HQ, by first | exact hideL rfl | exact hideL trivial⟩
            case measure => simp [intOf] <;> omega
          | false =>
            cases b4 with
            | true =>
              have HQ : Hid (Z = (l.drop (k + 1)).all (fun c => cl c == 101)) := hideL HD3.out
              clear HD3
              go_wp2
              go_roundw
              case rel => exact ⟨k + 1, by omega, by go_num, HQ, by first | exact hideL rfl | exact hideL trivial⟩
              case measure => simp [intOf] <;> omega
            | false =>
              obtain rfl : Z = false := HD3.out
              clear HD3
              go_wp2
              go_ret
              exact ⟨rfl, rfl⟩
    · obtain rfl : Z = true := by rw [HD.out, List.drop_of_length_le (by have := HLn.out; omega)]; rfl
      have hkz : ¬ (k : Int) < (n : Int) := by omega
      clear HD
      go_wp2
      go_ret
      exact ⟨rfl, rfl⟩
/-- Scan of the two texts that every law asks. -/
theorem scan_live (w : World) (ad : Addr) (hC : ClsAt w) (hS : SynAt w ad) : Calls Tryd.prog 9 #[.string ⟨#[97, 32, 45, 98]⟩] w fun x w' => (∃ g c, x = .returned (.tuple #[.slice (some ⟨g, 0, none⟩) 4 c, .int .i64 0, .nilIface]) ∧ w'.cell? ⟨g, 0, none⟩ = some (.int .i64 1) ∧ w'.cell? ⟨g, 5, none⟩ = some (.int .i64 16) ∧ w'.cell? ⟨g, 11, none⟩ = some (.string ⟨#[98]⟩) ∧ w'.cell? ⟨g, 15, none⟩ = some (.int .i64 0)) ∧ Kept (fun _ => False) w w' := by
  refine (lscan_any [97, 32, 45, 98] w ad hC hS (by decide)).mono ?_
  intro x w' h
  unfold lxPost at h
  rw [ex_live] at h
  rcases h with ⟨_, a, c, m, rfl, hT⟩ | ⟨f, hf, _⟩
  · have hm : m = 4 := hT.len
    subst hm
    obtain ⟨g, rfl, _, hc⟩ := hT.cell (by decide)
    exact ⟨⟨g, c, rfl, (hc 0 (by decide)).1, (hc 1 (by decide)).1, (hc 2 (by decide)).2.1, (hc 3 (by decide)).1⟩, hT.gro.kept⟩
  · cases hf
theorem scan_dead (w : World) (ad : Addr) (hC : ClsAt w) (hS : SynAt w ad) : Calls Tryd.prog 9 #[.string ⟨#[97, 32, 94]⟩] w fun x w' => x = .returned (.tuple #[.slice none 0 0, .int .i64 2, .iface 68 (.pointer (some ad))]) ∧ Kept (fun _ => False) w w' := by
  refine (lscan_any [97, 32, 94] w ad hC hS (by decide)).mono ?_
  intro x w' h
  unfold lxPost at h
  rw [ex_dead] at h
  rcases h with ⟨hf, _⟩ | ⟨f, hf, rfl, hk⟩
  · cases hf
  · cases hf
    exact ⟨rfl, hk⟩
set_option maxRecDepth 20000 in
set_option maxHeartbeats 4000000 in
theorem lives13_any (w : World) (ad : Addr) (hC : ClsAt w) (hS : SynAt w ad) :
    Calls Tryd.prog 8 #[] w fun e w' => e = .returned (.bool true) ∧ Kept (fun _ => False) w w' := by
  have C1 := hideL (scan_live w ad hC hS)
  have C2 := hideL (fun W (k : Kept (fun _ => False) w W) => scan_dead W ad (hC.later k) (hS.later k))
  have HS := hideL hS
  clear hC hS
  go_enter Tryd.func8, Tryd.ntmps8
  go_wp2_with (first
    | (go_at_call 9; refine C1.out.mono ?_; clear C1; rintro x W1 ⟨⟨g, c, rfl, a0, a1, a2, a3⟩, k1⟩; have A0 := hideL a0; have A1 := hideL a1; have A2 := hideL a2; have A3 := hideL a3; have K1 := hideL k1; clear a0 a1 a2 a3 k1)
    | (go_at_call 9; refine (C2.out _ K1.out).mono ?_; clear C2; rintro x W2 ⟨rfl, k2⟩; have b0 := k2.cell A0.out (fun f => f); have b1 := k2.cell A1.out (fun f => f); have b2 := k2.cell A2.out (fun f => f); have b3 := k2.cell A3.out (fun f => f); have K2 := hideL (K1.out.trans k2 (fun _ f => f.elim)); have b4 := (HS.out.later K2.out).var; unfold synV at b4; have eq4 := errEqL W2 ad; clear A0 A1 A2 A3 K1 k2))
  go_ret
  exact ⟨rfl, K2.out⟩
end Go.Proofs.YtofompjnjbpkbaaDoor
