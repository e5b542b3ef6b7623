import Derived.Test.YtehjbceknnopoabDoorUpa
import Derived.Test.YtehjbceknnopoabDoorFsw
import Derived.BigRegion
namespace Go.Proofs.YtehjbceknnopoabDoor
open Go.ChangeShapes Go.WideShapes Go.ChangeAt Go.RowKit

theorem Tryd.cTu : Tryd.prog.cellsOf 5 = 1 ∧ Tryd.prog.cellsOf 22 = 1 ∧ Tryd.prog.cellsOf 23 = 1 ∧ Tryd.prog.cellsOf 25 = 5 := by
  refine ⟨?_, ?_, ?_, ?_⟩ <;> kernel_rfl
theorem list5 {α : Type} {l : List α} (h : l.length = 5) : ∃ a b c d e, l = [a, b, c, d, e] := by
  match l, h with
  | [a, b, c, d, e], _ => exact ⟨a, b, c, d, e, rfl⟩
set_option maxRecDepth 100000 in
/-- The cells of a Turn that came in. -/
theorem turn_of {H : Type} {enc : TypeId × Value → H} {W : World} {fuel : Nat} {cs : List Value} {x : DataW H × List MemPlace} (hf : DataW.trod enc Tryd.prog W 0 (fun _ => true) true fuel 25 cs = some x) :
    ∃ (kind other : Nat) (a : Option Addr) (c : Nat) (S : List BkD) (at_ turn : Nat), cs = [.int .u8 kind, .int .u8 other, .slice a S.length c, .int .u64 at_, .int .u8 turn] ∧ kind < 256 ∧ other < 256 ∧ turn < 256 ∧ at_ < 18446744073709551616 ∧ BksAt W a S ∧ (∀ o ∈ S, o.At W) ∧ btot S < Rows.uptoBulk x.1 := by
  obtain ⟨xs, k, rfl, hx, hl, hxl, hfs⟩ := DataW.trod_struct Tryd.underlying25 hf
  obtain ⟨c1, c2, c3, c4⟩ := Tryd.cTu
  obtain ⟨x0, x1, x2, x3, x4, rfl⟩ := list5 hxl
  rw [c4] at hl
  obtain ⟨y0, y1, y2, y3, y4, rfl⟩ := list5 hl
  have q0 : DataW.trod enc Tryd.prog W 0 (fun _ => true) true k 5 (([y0, y1, y2, y3, y4].drop 0).take (Tryd.prog.cellsOf 5)) = some x0 := hfs 0 _ rfl
  have q1 : DataW.trod enc Tryd.prog W 0 (fun _ => true) true k 5 (([y0, y1, y2, y3, y4].drop 1).take (Tryd.prog.cellsOf 5)) = some x1 := hfs 1 _ rfl
  have q2 : DataW.trod enc Tryd.prog W 0 (fun _ => true) true k 22 (([y0, y1, y2, y3, y4].drop 2).take (Tryd.prog.cellsOf 22)) = some x2 := hfs 2 _ rfl
  have q3 : DataW.trod enc Tryd.prog W 0 (fun _ => true) true k 23 (([y0, y1, y2, y3, y4].drop 3).take (Tryd.prog.cellsOf 23)) = some x3 := hfs 3 _ rfl
  have q4 : DataW.trod enc Tryd.prog W 0 (fun _ => true) true k 5 (([y0, y1, y2, y3, y4].drop 4).take (Tryd.prog.cellsOf 5)) = some x4 := hfs 4 _ rfl
  rw [c1] at q0 q1 q4
  rw [c2] at q2
  rw [c3] at q3
  simp only [List.drop, List.take] at q0 q1 q2 q3 q4
  obtain ⟨t, e0, -, w0⟩ := DataW.trod_int Tryd.underlying5 q0
  obtain ⟨o, e1, -, w1⟩ := DataW.trod_int Tryd.underlying5 q1
  obtain ⟨a, c, S, e2, hb1, hb2, hb3⟩ := blocks_of q2
  obtain ⟨n, e3, -, w3⟩ := DataW.trod_int Tryd.underlying23 q3
  obtain ⟨u, e4, -, w4⟩ := DataW.trod_int Tryd.underlying5 q4
  have b0 := bounds_u8 w0
  have b1 := bounds_u8 w1
  have b3 := bounds_u64 w3
  have b4 := bounds_u8 w4
  obtain ⟨T, rfl⟩ : ∃ A : Nat, t = A := ⟨t.toNat, by omega⟩
  obtain ⟨O, rfl⟩ : ∃ A : Nat, o = A := ⟨o.toNat, by omega⟩
  obtain ⟨N, rfl⟩ : ∃ A : Nat, n = A := ⟨n.toNat, by omega⟩
  obtain ⟨U, rfl⟩ : ∃ A : Nat, u = A := ⟨u.toNat, by omega⟩
  simp only [List.cons.injEq, and_true] at e0 e1 e2 e3 e4
  subst e0 e1 e2 e3 e4
  have hB : Rows.uptoBulk x.1 = Rows.uptoBulk x0.1 + (Rows.uptoBulk x1.1 + (Rows.uptoBulk x2.1 + (Rows.uptoBulk x3.1 + (Rows.uptoBulk x4.1 + 0)))) + 1 := by
    rw [hx]
    simp only [List.map, Rows.uptoBulk, Rows.uptoBulkAll]
  exact ⟨T, O, a, c, S, N, U, rfl, by omega, by omega, by omega, by omega, hb1, hb2, by omega⟩
set_option maxRecDepth 20000 in
set_option maxHeartbeats 8000000 in
theorem turned_walk (kind other turn at_ : Nat) (S : List BkD) (a : Option Addr) (c : Nat) (w : World) (hk2 : kind < 256) (hu2 : turn < 256) (hat : at_ < 18446744073709551616) (hS : BksAt w a S) (hA : ∀ o ∈ S, o.At w) (htot : btot S ≤ 1073741824) (hT : TabAt w) {a0 a1 a2 a3 a4 a5 a6 : Addr} (hE : Errs7 w a0 a1 a2 a3 a4 a5 a6) :
    Calls Tryd.prog 3 #[.agg #[.int .u8 kind, .int .u8 other, .slice a S.length c, .int .u64 at_, .int .u8 turn]] w fun e w' => e = .returned (.bool true) ∧ Kept (fun _ => False) w w' := by
  obtain ⟨ob, hob⟩ : ∃ ob : Obj, ob = .cells #[.int .u8 kind, .int .u8 other, .slice a S.length c, .int .u64 at_, .int .u8 turn] 25 := ⟨_, rfl⟩
  have k0 := Kept.alloc w ob
  have hob0 : (w.alloc ob).heap[w.heap.size]? = some ob := heap_alloc_new w ob
  have BX : Hid (∀ W, Kept (fun _ => False) (w.alloc ob) W → W.cell? ⟨w.heap.size, 0, none⟩ = some (.int .u8 kind) ∧ W.cell? ⟨w.heap.size, 1, none⟩ = some (.int .u8 other) ∧ W.cell? ⟨w.heap.size, 2, none⟩ = some (.slice a S.length c) ∧ W.cell? ⟨w.heap.size, 3, none⟩ = some (.int .u64 at_) ∧ W.cell? ⟨w.heap.size, 4, none⟩ = some (.int .u8 turn)) := by
    intro W k
    have z := k.heap hob0 (fun f => f)
    rw [hob] at z
    refine ⟨?_, ?_, ?_, ?_, ?_⟩ <;> simp [World.cell?, z]
  have LV : Hid (∀ W, Kept (fun _ => False) (w.alloc ob) W → Calls Tryd.prog 4 #[] W fun e W' => e = .returned (.bool true) ∧ Hid (Kept (fun _ => False) (w.alloc ob) W')) := by
    intro W k
    have kw := k0.trans k (fun _ f => f.elim)
    exact (lives2_any W (hT.kept kw)).mono fun e W' q => ⟨q.1, k.trans q.2 (fun _ f => f.elim)⟩
  have KW : Hid (∀ W, Kept (fun _ => False) (w.alloc ob) W → Kept (fun _ => False) w W) := fun W k => k0.trans k (fun _ f => f.elim)
  have hcount := btot_count S
  have hcb : S.length ≤ 1073741824 := by omega
  by_cases hkz : kind = 0
  · subst hkz
    have z0 : ((0 : Nat) : Int) = 0 := rfl
    rw [z0] at hob BX ⊢
    clear hT hE hA hS hob0 k0 hcount htot
    subst hob
    go_enter Tryd.func3, Tryd.ntmps3
    go_wp2_with (go_at_call 4; refine (LV.out _ (Kept.refl _ _)).mono ?_; rintro e W2 ⟨rfl, K2⟩; obtain ⟨y0, y1, y2, y3, y4⟩ := BX.out W2 K2.out)
    go_ret
    exact ⟨rfl, KW.out _ K2.out⟩
  have htI : (kind : Int) ≠ 0 := by omega
  by_cases huz : turn = 0
  · subst huz
    have z0 : ((0 : Nat) : Int) = 0 := rfl
    rw [z0] at hob BX ⊢
    clear hT hE hA hS hob0 k0 hcount htot
    subst hob
    go_enter Tryd.func3, Tryd.ntmps3
    go_wp2_with (go_at_call 4; refine (LV.out _ (Kept.refl _ _)).mono ?_; rintro e W2 ⟨rfl, K2⟩; obtain ⟨y0, y1, y2, y3, y4⟩ := BX.out W2 K2.out)
    go_ret
    exact ⟨rfl, KW.out _ K2.out⟩
  have huI : (turn : Int) ≠ 0 := by omega
  have huB : ((turn : Int) == 0) = false := beq_eq_false_iff_ne.2 huI
  have htB : ((kind : Int) == 0) = false := beq_eq_false_iff_ne.2 htI
  have hul := ulen_le S.length (by omega)
  have hel := penc_length kind S
  have hbl := bencs_small S (by omega)
  obtain ⟨E, hEE⟩ : ∃ E, E = penc kind S := ⟨_, rfl⟩
  have bE : IsBytes E := by rw [hEE]; exact penc_bytes hk2 fun x hx => ⟨(hA x hx).t2, (hA x hx).i⟩
  have bH : IsBytes (phead kind S) := phead_bytes hk2 fun x hx => ⟨(hA x hx).t2, (hA x hx).i⟩
  rw [← hEE] at hel
  have h10 : 10 ≤ E.length := by omega
  obtain ⟨i, hi⟩ : ∃ i, i = at_ % E.length := ⟨_, rfl⟩
  have hiE : i < E.length := by rw [hi]; exact Nat.mod_lt _ (by omega)
  have hiI : (at_ : Int) % (E.length : Int) = (i : Int) := by rw [hi, Int.natCast_emod]
  obtain ⟨y, hy1, hy2, _⟩ := bE.at hiE
  have hx256 : y ^^^ turn < 256 := Nat.xor_lt_two_pow (n := 8) hy2 hu2
  have hxor := xor_u8 y turn hy2 hu2
  have hxy : y ^^^ turn ≠ y := xor_ne (by omega)
  obtain ⟨x, hx⟩ : ∃ x, x = y ^^^ turn := ⟨_, rfl⟩
  rw [← hx] at hx256 hxor hxy
  have hbad : ¬ sealOk (E.set i (x : Int)) := by
    have hne : (penc kind S)[i]?.getD 0 ≠ (x : Int) := by rw [← hEE, hy1]; omega
    rw [hEE]
    refine seal_spoilt (M := phead kind S) bH ?_ hx256 hne
    have := hiE
    rw [hEE, penc, List.length_append, le_length] at this
    exact this
  have PK : Hid ((∀ x ∈ S, 0 < x.t) → ∀ W, Kept (fun _ => False) (w.alloc ob) W → Calls Tryd.prog 5 #[.int .u8 kind, .slice a S.length c] W fun e W' => ∃ g, e = .returned (.tuple #[.slice (some ⟨g, 0, none⟩) E.length E.length, .nilIface]) ∧ (W'.cell? ⟨g, i, none⟩ = some (.int .u8 y) ∧ W'.frozen? ⟨g, i, none⟩ = false) ∧ Hid (W'.ownsRow g 5 1 (.slice (some ⟨g, 0, none⟩) E.length E.length) E.length (bs E) ∧ (w.alloc ob).heap.size ≤ g ∧ Kept (fun _ => False) (w.alloc ob) W')) := by
    intro hall W k
    have kw := k0.trans k (fun _ f => f.elim)
    rw [hEE]
    refine (pack_any kind S a c W (by omega) hk2 (hS.kept kw) (fun x hx => (hA x hx).kept kw) (hT.kept kw) (by omega) (hE.kept kw)).mono ?_
    rintro e W' (⟨g, -, rfl, h1, h2, h3⟩ | ⟨⟨z, hz, hz0⟩, -, -⟩)
    · obtain ⟨_, q1, q2⟩ := bytes_set (x := 0) h2 (by rw [← hEE]; exact hiE)
      rw [← hEE, hy1] at q1
      exact ⟨g, rfl, ⟨q1, q2⟩, h2, Nat.le_trans k.size h1, k.trans h3 (fun _ f => f.elim)⟩
    · have := hall z hz
      omega
  have UP : Hid (∀ W g, W.ownsRow g 5 1 (.slice (some ⟨g, 0, none⟩) E.length E.length) E.length (bs E) ∧ (w.alloc ob).heap.size ≤ g ∧ Kept (fun _ => False) (w.alloc ob) W → ∀ j, Calls Tryd.prog 6 #[.int .u8 other, .slice (some ⟨g, 0, none⟩) E.length E.length] ((W.drewN j).setCell ⟨g, i, none⟩ (.int .u8 x)) fun e W' => e = .returned (.tuple #[.slice none 0 0, .iface 78 (.pointer (some a6))]) ∧ Hid (Kept (fun _ => False) w W')) := by
    intro W g k j
    have kd := Kept.drewN W j
    have ho := kd.row k.1 (fun _ _ f => f)
    obtain ⟨hb, _, _⟩ := bytes_set (x := (x : Int)) ho hiE
    have kw : Kept (fun _ => False) w ((W.drewN j).setCell ⟨g, i, none⟩ (.int .u8 x)) := by
      have h1 := (k0.trans k.2.2 (fun _ f => f.elim)).trans kd (fun _ f => f.elim)
      refine h1.trans (Kept.setCell _ _ _) (fun i e => .inr ?_)
      have h2 := k0.size
      have h3 := k.2.1
      simp only at e
      omega
    have hbs : IsBytes (E.set i (x : Int)) := fun y hy => by
      rcases List.mem_or_eq_of_mem_set hy with h | h
      · exact bE y h
      · omega
    refine (unpack_seal other (E.set i (x : Int)) (some ⟨g, 0, none⟩) E.length E.length _ (List.length_set ..).symm h10 hb hbs (Nat.le_refl _) (by omega) (hT.kept kw) (hE.kept kw) hbad).mono ?_
    rintro e W' ⟨rfl, k'⟩
    exact ⟨rfl, kw.trans k' (fun _ f => f.elim)⟩
  have UPW : Hid (∀ W W' g, (w.alloc ob).heap.size ≤ g → Kept (fun _ => False) (w.alloc ob) W → ∀ u, W' = W.setCell ⟨g, i, none⟩ u → Kept (fun _ => False) (w.alloc ob) W') := by
    intro W W' g hg k u e
    subst e
    exact k.trans (Kept.setCell _ _ _) (fun i e => .inr (by simp only at e; omega))
  have NS : Hid (∀ W, Kept (fun _ => False) w W → Calls Tryd.prog 7 #[.iface 78 (.pointer (some a6))] W fun e W' => e = .returned (.int .i64 7) ∧ W' = W) := fun W k => num_sum (hE.kept k)
  have HS := hideC hS
  have hEb : E.length ≤ 1099511627776 := by omega
  obtain ⟨nE, hnE⟩ : ∃ n, n = E.length := ⟨_, rfl⟩
  rw [← hnE] at PK UP h10 hiE hiI hEb
  have hiN : (i : Int) < (nE : Int) := by omega
  have hi0 : (0 : Int) ≤ (i : Int) := by omega
  have hnI : ¬ ((nE : Int) < 10) := by omega
  have hnz : (nE : Int) ≠ 0 := by omega
  clear hbad hx hxy hy1 hi hnE hEE hel hbl hul bH bE hT hE hA hS hob0 k0 hcount htot UPW
  subst hob
  go_enter Tryd.func3, Tryd.ntmps3
  go_wp2_with (go_at_call 4; refine (LV.out _ (Kept.refl _ _)).mono ?_; rintro e W2 ⟨rfl, K2⟩; obtain ⟨y0, y1, y2, y3, y4⟩ := BX.out W2 K2.out)
  go_loopw [21] (fun i wr => ∃ (k : Nat), k ≤ S.length ∧ i = .int .i64 k ∧ Hid (∀ x ∈ S.take k, 0 < x.t) ∧ Hid (Kept (fun _ => False) (w.alloc (.cells #[.int .u8 kind, .int .u8 other, .slice a S.length c, .int .u64 at_, .int .u8 turn] 25)) wr)) (fun i _ => S.length - (intOf i).toNat)
  case atStart => exact ⟨0, Nat.zero_le _, rfl, fun x hx => by simp at hx, K2⟩
  case round =>
    clear y0 y1 y2 y3 y4 K2 LV
    obtain ⟨k, hkn, rfl, HP, HK⟩ := hrel
    by_cases hlt : k < S.length
    · obtain ⟨b, off, rfl, hc⟩ := HS.out (by intro e; rw [e] at hlt; simp at hlt)
      have h0 := (KW.out _ HK.out).cell (hc k hlt).1 (fun f => f)
      have h1 := (KW.out _ HK.out).cell (hc k hlt).2 (fun f => f)
      by_cases ht : (S[k]).t = 0
      · rw [ht] at h0
        have z0 : ((0 : Nat) : Int) = 0 := rfl
        rw [z0] at h0
        generalize S[k] = x at h1
        obtain ⟨t, ab, cb, B⟩ := x
        simp only at h1
        generalize B.length = nb at h1
        clear ht hc HP PK UP NS
        go_wp2
        go_ret
        exact ⟨rfl, KW.out _ (HK.out.trans (Kept.alloc _ _) (fun _ f => f.elim))⟩
      · have ht' : 0 < (S[k]).t := by omega
        have HP2 : Hid (∀ x ∈ S.take (k + 1), 0 < x.t) := by
          intro x hx
          rw [take_nextB hlt, List.mem_append, List.mem_singleton] at hx
          rcases hx with hx | rfl
          · exact HP.out x hx
          · exact ht'
        generalize S[k] = x at h0 h1 ht ht'
        obtain ⟨t, ab, cb, B⟩ := x
        simp only at h0 h1 ht ht'
        have hti : (t : Int) ≠ 0 := by omega
        generalize B.length = nb at h1
        clear ht ht' hc HP PK UP NS
        go_wp2
        go_roundw
        case rel => exact ⟨k + 1, by omega, by go_num, HP2, HK.out.trans (Kept.alloc _ _) (fun _ f => f.elim)⟩
        case measure => simp [intOf]; omega
    · obtain rfl : k = S.length := by omega
      have hall : ∀ x ∈ S, 0 < x.t := by have := HP.out; rwa [List.take_length] at this
      have PK2 := hideC (PK.out hall)
      obtain ⟨y0, y1, y2, y3, y4⟩ := BX.out wr HK.out
      clear HP PK HS hall
      go_wp2_with (go_at_call 5; refine (PK2.out wr HK.out).mono ?_; rintro e W3 ⟨g, rfl, ⟨c1, c2⟩, K3⟩; clear y0 y1 y2 y3 y4; obtain ⟨y0, y1, y2, y3, y4⟩ := BX.out W3 K3.out.2.2)
      have UP3 := hideC (UP.out W3 g K3.out)
      have hgn : g ≠ w.heap.size := by have := K3.out.2.1; simp at this; omega
      clear UP PK2
      go_region
      go_wp2_with (first | (go_at_call 6; refine (UP3.out _).mono ?_; clear UP3; rintro e W5 ⟨rfl, K5⟩) | (go_at_call 7; refine (NS.out _ K5.out).mono ?_; rintro e W6 ⟨rfl, e6⟩; subst e6))
      go_ret
      exact ⟨by first | rfl | simp, K5.out⟩
end Go.Proofs.YtehjbceknnopoabDoor
