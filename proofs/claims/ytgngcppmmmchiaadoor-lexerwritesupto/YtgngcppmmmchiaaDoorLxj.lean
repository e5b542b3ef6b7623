import Derived.Test.YtgngcppmmmchiaaDoorLxi
namespace Go.Proofs.YtgngcppmmmchiaaDoor
open Go.ChangeShapes Go.WideShapes Go.ChangeAt Go.RowKit

/-- The world with a sign laid new. -/
def nsg (w : World) (q p z : Int) (b : Bool) : World := w.alloc (.cells #[.int .u8 q, .bool b, .int .i64 p, .int .i64 z] 34)
theorem nsg_blk {w W : World} {q p z : Int} {b : Bool} (k : KT 5 (nsg w q p z b) W) : W.cell? ⟨w.heap.size, 0, none⟩ = some (.int .u8 q) ∧ W.cell? ⟨w.heap.size, 1, none⟩ = some (.bool b) := by
  have h := k.heap (heap_alloc_new w (.cells #[.int .u8 q, .bool b, .int .i64 p, .int .i64 z] 34)) (by decide)
  exact ⟨cell_of_row _ _ 0 _ _ _ h, cell_of_row _ _ 1 _ _ _ h⟩
set_option maxRecDepth 20000 in
set_option maxHeartbeats 4000000 in
theorem canon_any (l : List UInt8) (w : World) (hl : l.length ≤ 400000000000) :
    Calls Tryd.prog 15 #[.string (bq l)] w fun e w' => (∃ v, e = .returned (.tuple #[.string v, .bool (!(sgn l).any isE)])) ∧ Kept (fun _ => False) w w' := by
  rw [sgp_any]
  have HL := hideL (sgp_len 0 l)
  have CS := hideL (fun W => signs_any l W hl)
  have HB := hideL (gb_empty w)
  have CW := hideL (fun (c : UInt8) W => rwild_any c W)
  generalize sgp 0 l = G at *
  have hnb : G.length ≤ 400000000000 := Nat.le_trans HL.out hl
  obtain ⟨N, hN⟩ : ∃ N, N = G.length := ⟨_, rfl⟩
  unfold sgPost at CS
  rw [← hN] at hnb CS
  have HN := hideL hN
  obtain ⟨Z, hZ⟩ : ∃ Z, Z = G.any (fun x => isE (sgB x)) := ⟨_, rfl⟩
  rw [← hZ]
  have HZ : Hid (Z = (G.drop 0).any (fun x => isE (sgB x))) := hideL hZ
  generalize bq l = s at *
  clear HL hl hZ hN
  go_enter Tryd.func15, Tryd.ntmps15
  go_wp2_with (go_at_call 16; refine (CS.out _).mono ?_; clear CS; rintro e W9 ⟨a9, c9, rfl, G9⟩; have HS : Hid (Bs13 w W9 (some ⟨w.heap.size, 0, none⟩) 0 0 [] a9 c9 N G) := hideL ⟨HB.out.later G9.gro.kept, ⟨⟨⟨G9.gro.own.1, by rcases G9.gro.own.2 with h | ⟨g, cap, cur, e, hb, hr⟩; exact .inl h; exact .inr ⟨g, cap, cur, e, Nat.le_trans HB.out.gro.kept.size hb, hr⟩⟩, HB.out.gro.kept.trans G9.gro.kept (fun _ f => f.elim)⟩, G9.len⟩⟩; clear HB G9)
  generalize w.heap.size = b0 at *
  go_loopw [4, 11] (fun v i wr => ∃ (k m : Nat) (a : Option Addr) (c : Nat) (o : List UInt8), k ≤ N ∧ m ≤ 2 * k ∧ i = .int .i64 k ∧ v = .slice a m c ∧ Hid (Bs13 w wr a c m o a9 c9 N G) ∧ Hid (Z = (G.drop k).any (fun x => isE (sgB x)))) (fun _ i _ => N - (intOf i).toNat)
  case atStart => exact ⟨0, 0, _, _, _, by omega, by omega, rfl, rfl, HS, HZ⟩
  case round =>
    obtain ⟨k, m, a, c0, o, hk, hmk, rfl, rfl, HR, HD⟩ := hrel
    clear HS HZ
    by_cases hlt : k < N
    · have hkg : k < G.length := by rw [← HN.out]; exact hlt
      have hkz : (k : Int) < (N : Int) := by omega
      obtain ⟨g9, e9, x0, x1, x2, x3⟩ := HR.out.g.cell k hkg
      subst e9
      have HD2 := HD.out
      rw [drop_any _ _ _ hkg] at HD2
      have C1 := hideL (fun W => CW.out G[k].c W)
      generalize G[k] = X at x0 x1 x2 x3 HD2 C1
      obtain ⟨xc, xl, xp, xz⟩ := X
      dsimp only at x0 x1 x2 x3 HD2 C1
      obtain ⟨q, hq⟩ : ∃ q, q = xc.toNat := ⟨_, rfl⟩
      have hqb : q < 256 := by rw [hq]; exact xc.toNat_lt
      have HQ0 : Hid ((q : Int) = (xc.toNat : Int)) := hideL (by rw [hq])
      have H92 : Hid ((92 : Int) = ((92 : UInt8).toNat : Int)) := hideL rfl
      have HV : Hid (Bs13 w (nsg wr q xp xz xl) a c0 m o (some ⟨g9, 0, none⟩) c9 N G) := hideL (HR.out.later (Kept.alloc _ _))
      have HC := hideL (fun (W : World) (h : KT 5 (nsg wr q xp xz xl) W) => nsg_blk h)
      rw [← hq] at x0 C1
      have q1 : ((q : Int) == 92) = (xc == 92) := by rw [hq]; exact u8_byL xc 92
      have HE : Hid (isE (sgB ⟨xc, xl, xp, xz⟩) = (!xl && xc == 92)) := hideL rfl
      rw [HE.out] at HD2
      generalize (xc == 92) = t at *
      generalize wdB xc = wv at *
      have HD3 := hideL HD2
      clear HD HD2 hq CW HE
      cases xl with
      | false =>
        cases t with
        | true =>
          obtain rfl : Z = true := HD3.out
          have HK := hideL HV.out.b.gro.kept
          clear HD3 HV HC HR C1
          go_wp2
          go_ret2
          exact ⟨⟨_, rfl⟩, HK.out⟩
        | false =>
          have HZ2 : Hid (Z = (G.drop (k + 1)).any (fun x => isE (sgB x))) := hideL HD3.out
          clear HD3 HR C1 HC
          go_wp2_with (at_builtin; refine wpList_pushC rfl _ _ rfl _ _ m _ xc _ rfl (hideL HV.out.b) _ (by first | rfl | simp) rfl HQ0 (by omega) ?_; intro a4 c4 W4 G4 K4; have H4 := hideL (HV.out.push G4.out K4.out); clear HV G4 K4)
          go_roundw
          case rel => exact ⟨k + 1, m + 1, a4, c4, _, by omega, by omega, by go_num, rfl, H4, HZ2⟩
          case measure => simp [intOf] <;> omega
      | true =>
        have HZ2 : Hid (Z = (G.drop (k + 1)).any (fun x => isE (sgB x))) := hideL HD3.out
        clear HD3 HR
        cases wv with
        | true =>
          go_wp2_with (first
            | (go_at_call 17; refine (C1.out _).mono ?_; clear C1; rintro e w6 ⟨rfl, e6⟩; subst e6)
            | (at_builtin; refine wpList_pushC rfl _ _ rfl _ _ m _ 92 _ rfl (hideL HV.out.b) _ (by first | rfl | simp) rfl H92 (by omega) ?_; intro a3 c3 W3 G3 K3; have H3 := hideL (HV.out.push G3.out K3.out); obtain ⟨y0, y1⟩ := HC.out _ K3.out; clear HV G3 K3 HC)
            | (at_builtin; refine wpList_pushC rfl _ _ rfl _ _ (m + 1) _ xc _ rfl (hideL H3.out.b) _ (by first | rfl | simp) rfl HQ0 (by omega) ?_; intro a4 c4 W4 G4 K4; have H4 := hideL (H3.out.push G4.out K4.out); clear H3 G4 K4))
          go_roundw
          case rel => exact ⟨k + 1, m + 1 + 1, a4, c4, _, by omega, by omega, by go_num, rfl, H4, HZ2⟩
          case measure => simp [intOf] <;> omega
        | false =>
          cases t with
          | true =>
            go_wp2_with (first
              | (go_at_call 17; refine (C1.out _).mono ?_; clear C1; rintro e w6 ⟨rfl, e6⟩; subst e6)
              | (at_builtin; refine wpList_pushC rfl _ _ rfl _ _ m _ 92 _ rfl (hideL HV.out.b) _ (by first | rfl | simp) rfl H92 (by omega) ?_; intro a3 c3 W3 G3 K3; have H3 := hideL (HV.out.push G3.out K3.out); obtain ⟨y0, y1⟩ := HC.out _ K3.out; clear HV G3 K3 HC)
              | (at_builtin; refine wpList_pushC rfl _ _ rfl _ _ (m + 1) _ xc _ rfl (hideL H3.out.b) _ (by first | rfl | simp) rfl HQ0 (by omega) ?_; intro a4 c4 W4 G4 K4; have H4 := hideL (H3.out.push G4.out K4.out); clear H3 G4 K4))
            go_roundw
            case rel => exact ⟨k + 1, m + 1 + 1, a4, c4, _, by omega, by omega, by go_num, rfl, H4, HZ2⟩
            case measure => simp [intOf] <;> omega
          | false =>
            go_wp2_with (first
              | (go_at_call 17; refine (C1.out _).mono ?_; clear C1; rintro e w6 ⟨rfl, e6⟩; subst e6)
              | (at_builtin; refine wpList_pushC rfl _ _ rfl _ _ m _ xc _ rfl (hideL HV.out.b) _ (by first | rfl | simp) rfl HQ0 (by omega) ?_; intro a4 c4 W4 G4 K4; have H4 := hideL (HV.out.push G4.out K4.out); clear HV G4 K4))
            go_roundw
            case rel => exact ⟨k + 1, m + 1, a4, c4, _, by omega, by omega, by go_num, rfl, H4, HZ2⟩
            case measure => simp [intOf] <;> omega
    · obtain rfl : k = N := by omega
      obtain rfl : Z = false := by rw [HD.out, List.drop_of_length_le (by have := HN.out; omega)]; rfl
      have hb := gro_string HR.out.b.gro HR.out.b.len
      have HK := hideL HR.out.b.gro.kept
      have hb2 : (convert 25 9 (.slice a m c0)).run Tryd.prog wr = .ok (.string (bq o)) wr := hb
      clear hb HR HD CW
      go_wp2
      go_ret2
      exact ⟨⟨_, rfl⟩, HK.out⟩
end Go.Proofs.YtgngcppmmmchiaaDoor
