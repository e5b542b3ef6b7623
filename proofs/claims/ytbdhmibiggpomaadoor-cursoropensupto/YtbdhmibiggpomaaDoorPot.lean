import Derived.Test.YtbdhmibiggpomaaDoorPos
import Derived.Test.YtbdhmibiggpomaaDoorPoj
import Derived.Test.YtbdhmibiggpomaaDoorErrs
import Derived.LaidEql
namespace Go.Proofs.YtbdhmibiggpomaaDoor
open Go.ChangeShapes Go.WideShapes Go.ChangeAt Go.RowKit

theorem Sent.kept {w w' : World} {tp : TypeId} {g : Nat} {text : List UInt8} {a : Addr} (h : Sent w tp g text a) (k : Kept (fun _ => False) w w') : Sent w' tp g text a := by
  obtain ⟨c, t, hb⟩ := h.blk
  exact ⟨k.cell h.var (fun f => f), k.cell h.cell (fun f => f), c, t, k.heap hb (fun f => f)⟩
theorem Sent.ne {w : World} {tp : TypeId} {g g' : Nat} {x y : List UInt8} {a b : Addr} (h : Sent w tp g x a) (h' : Sent w tp g' y b) (hne : x ≠ y) : a ≠ b := by
  intro e
  have h1 := h.cell
  rw [e, h'.cell] at h1
  simp at h1
  exact hne h1.symm
theorem Tryd.compErrF : (Tryd.prog.info? 176).map (·.comparable) = some true := by kernel_rfl
theorem Tryd.sizeErrF : (Tryd.prog.info? 192).map (·.size) = some 1 := by kernel_rfl
theorem errEq (W : World) (a : Addr) : (binOp .eql 26 (.iface 176 (.pointer (some a))) (.iface 176 (.pointer (some a)))).run Tryd.prog W = .ok (.bool true) W := by
  obtain ⟨i, hi, hci⟩ := Option.map_eq_some_iff.1 (show (Tryd.prog.info? 176).map (·.comparable) = some true by kernel_rfl)
  obtain ⟨j, hj, _⟩ := Option.map_eq_some_iff.1 (show (Tryd.prog.info? 192).map (·.comparable) = some true by kernel_rfl)
  exact run_eql_iface_ptr_same W a Tryd.underlying26 Tryd.underlying176 hi hci hj
theorem err_neqF {w : World} {tp : TypeId} {g g' : Nat} {x y : List UInt8} {a b : Addr} (h : Sent w tp g x a) (h' : Sent w tp g' y b) (hne : x ≠ y) :
    (binOp .eql 26 (.iface 176 (.pointer (some a))) (.iface 176 (.pointer (some b)))).run Tryd.prog w = .ok (.bool false) w := by
  obtain ⟨i, hi, hci⟩ := Option.map_eq_some_iff.1 Tryd.compErrF
  obtain ⟨j, hj, hcj⟩ := Option.map_eq_some_iff.1 Tryd.sizeErrF
  obtain ⟨c, t, ha⟩ := h.blk
  obtain ⟨c', t', hb⟩ := h'.blk
  exact run_eql_iface_ptr_other w Tryd.underlying26 Tryd.underlying176 hi hci hj (by rw [hcj]; decide) (h.ne h' hne) ha hb
def te0 : List UInt8 := [99, 111, 110, 99, 111, 114, 100, 58, 32, 116, 111, 111, 32, 115, 104, 111, 114, 116]
def te1 : List UInt8 := [99, 111, 110, 99, 111, 114, 100, 58, 32, 118, 97, 114, 105, 110, 116]
def te2 : List UInt8 := [99, 111, 110, 99, 111, 114, 100, 58, 32, 108, 105, 109, 105, 116]
def te3 : List UInt8 := [99, 111, 110, 99, 111, 114, 100, 58, 32, 111, 114, 100, 101, 114]
def te4 : List UInt8 := [99, 111, 110, 99, 111, 114, 100, 58, 32, 116, 97, 105, 108]
def te5 : List UInt8 := [99, 111, 110, 99, 111, 114, 100, 58, 32, 116, 97, 103]
def te6 : List UInt8 := [99, 111, 110, 99, 111, 114, 100, 58, 32, 115, 117, 109]
def te7 : List UInt8 := [99, 111, 110, 99, 111, 114, 100, 58, 32, 114, 97, 110, 103, 101]
def te8 : List UInt8 := [99, 111, 110, 99, 111, 114, 100, 58, 32, 115, 105, 122, 101]
def te9 : List UInt8 := [99, 111, 110, 99, 111, 114, 100, 58, 32, 99, 111, 114, 114, 117, 112, 116]
def te10 : List UInt8 := [99, 111, 110, 99, 111, 114, 100, 58, 32, 115, 99, 104, 101, 109, 97]
def te11 : List UInt8 := [99, 111, 110, 99, 111, 114, 100, 58, 32, 102, 105, 101, 108, 100]
def te12 : List UInt8 := [99, 111, 110, 99, 111, 114, 100, 58, 32, 118, 97, 108, 117, 101]
/-- The errors, as they lie. -/
structure Errs13 (w : World) (ad : Nat → Addr) : Prop where
  s0 : Sent w 176 1 te0 (ad 0)
  s1 : Sent w 176 2 te1 (ad 1)
  s2 : Sent w 176 3 te2 (ad 2)
  s3 : Sent w 176 4 te3 (ad 3)
  s4 : Sent w 176 5 te4 (ad 4)
  s5 : Sent w 176 6 te5 (ad 5)
  s6 : Sent w 176 7 te6 (ad 6)
  s7 : Sent w 176 8 te7 (ad 7)
  s8 : Sent w 176 9 te8 (ad 8)
  s9 : Sent w 176 0 te9 (ad 9)
  s10 : Sent w 176 10 te10 (ad 10)
  s11 : Sent w 176 11 te11 (ad 11)
  s12 : Sent w 176 12 te12 (ad 12)
theorem Errs13.kept {w w' : World} {ad : Nat → Addr} (h : Errs13 w ad) (k : Kept (fun _ => False) w w') : Errs13 w' ad :=
  ⟨h.s0.kept k, h.s1.kept k, h.s2.kept k, h.s3.kept k, h.s4.kept k, h.s5.kept k, h.s6.kept k, h.s7.kept k, h.s8.kept k, h.s9.kept k, h.s10.kept k, h.s11.kept k, h.s12.kept k⟩
theorem num_nil (w : World) : Calls Tryd.prog 9 #[.nilIface] w fun e w' => e = .returned (.int .i64 0) ∧ w' = w := by
  go_enter Tryd.func9, Tryd.ntmps9
  go_wp2
  go_ret
  exact ⟨rfl, rfl⟩
set_option maxRecDepth 20000 in
set_option maxHeartbeats 1000000 in
theorem num_limit {w : World} {ad : Nat → Addr} (h : Errs13 w ad) : Calls Tryd.prog 9 #[.iface 176 (.pointer (some (ad 2)))] w fun e w' => e = .returned (.int .i64 3) ∧ w' = w := by
  have v0 := h.s0.var
  have v1 := h.s1.var
  have v2 := h.s2.var
  have e0 := err_neqF h.s2 h.s0 (by decide)
  have e1 := err_neqF h.s2 h.s1 (by decide)
  have e2 := errEq w (ad 2)
  clear h
  go_enter Tryd.func9, Tryd.ntmps9
  go_wp2
  go_ret
  exact ⟨rfl, rfl⟩
set_option maxRecDepth 20000 in
set_option maxHeartbeats 1000000 in
theorem num_order {w : World} {ad : Nat → Addr} (h : Errs13 w ad) : Calls Tryd.prog 9 #[.iface 176 (.pointer (some (ad 3)))] w fun e w' => e = .returned (.int .i64 4) ∧ w' = w := by
  have v0 := h.s0.var
  have v1 := h.s1.var
  have v2 := h.s2.var
  have v3 := h.s3.var
  have e0 := err_neqF h.s3 h.s0 (by decide)
  have e1 := err_neqF h.s3 h.s1 (by decide)
  have e2 := err_neqF h.s3 h.s2 (by decide)
  have e3 := errEq w (ad 3)
  clear h
  go_enter Tryd.func9, Tryd.ntmps9
  go_wp2
  go_ret
  exact ⟨rfl, rfl⟩
set_option maxRecDepth 20000 in
set_option maxHeartbeats 1000000 in
theorem num_corrupt {w : World} {ad : Nat → Addr} (h : Errs13 w ad) : Calls Tryd.prog 9 #[.iface 176 (.pointer (some (ad 9)))] w fun e w' => e = .returned (.int .i64 10) ∧ w' = w := by
  have v0 := h.s0.var
  have v1 := h.s1.var
  have v2 := h.s2.var
  have v3 := h.s3.var
  have v4 := h.s4.var
  have v5 := h.s5.var
  have v6 := h.s6.var
  have v7 := h.s7.var
  have v8 := h.s8.var
  have v9 := h.s9.var
  have e0 := err_neqF h.s9 h.s0 (by decide)
  have e1 := err_neqF h.s9 h.s1 (by decide)
  have e2 := err_neqF h.s9 h.s2 (by decide)
  have e3 := err_neqF h.s9 h.s3 (by decide)
  have e4 := err_neqF h.s9 h.s4 (by decide)
  have e5 := err_neqF h.s9 h.s5 (by decide)
  have e6 := err_neqF h.s9 h.s6 (by decide)
  have e7 := err_neqF h.s9 h.s7 (by decide)
  have e8 := err_neqF h.s9 h.s8 (by decide)
  have e9 := errEq w (ad 9)
  clear h
  go_enter Tryd.func9, Tryd.ntmps9
  go_wp2
  go_ret
  exact ⟨rfl, rfl⟩
theorem Errs13.toP {w : World} {ad : Nat → Addr} (h : Errs13 w ad) : ErP w ad := ⟨h.s0.var, h.s1.var, h.s2.var, h.s3.var, h.s4.var⟩
set_option maxRecDepth 20000 in
set_option maxHeartbeats 1000000 in
theorem sameInts_true (l : List Int) (a b : Option Addr) (c d : Nat) (w : World) (hA : IntsAt w a l) (hB : IntsAt w b l) (hl : l.length ≤ 1099511627776) :
    Calls Tryd.prog 15 #[.slice a l.length c, .slice b l.length d] w fun e w' => e = .returned (.bool true) ∧ ∃ m, w' = w.drewN m := by
  have HA := hideP hA
  have HB := hideP hB
  obtain ⟨n, hn⟩ : ∃ n, n = l.length := ⟨_, rfl⟩
  rw [← hn] at hl ⊢
  have HN := hideP hn
  clear hA hB hn
  go_enter Tryd.func15, Tryd.ntmps15
  go_wp2
  go_loopw [13] (fun v wr => ∃ k m : Nat, v = .int .i64 k ∧ k ≤ n ∧ wr = w.drewN m) (fun v _ => n - (intOf v).toNat)
  case atStart => exact ⟨0, 0, rfl, by omega, rfl⟩
  case round =>
    obtain ⟨k, m, rfl, hk, rfl⟩ := hrel
    by_cases hlt : k < n
    · have hkk : (k : Int) < (n : Int) := by omega
      obtain ⟨ab, ao, rfl, hca⟩ := HA.out.get (k := k) (by rw [← HN.out]; exact hlt)
      obtain ⟨bb, bo, rfl, hcb⟩ := HB.out.get (k := k) (by rw [← HN.out]; exact hlt)
      generalize l[k]?.getD 0 = x at hca hcb
      go_wp2_with fail
      go_quiet (fail)
      go_wp2
      go_roundw
      case rel => exact ⟨k + 1, m + nq, by go_num, by omega, rfl⟩
      case measure => simp [intOf]; omega
    · have hkk : ¬ (k : Int) < (n : Int) := by omega
      go_wp2
      go_ret
      exact ⟨rfl, m, rfl⟩
set_option maxRecDepth 20000 in
set_option maxHeartbeats 4000000 in
theorem psame_true (A B : List Pg) (a b : Option Addr) (c d : Nat) (w : World) (hA : PsAt w a A) (hB : PsAt w b B) (hp : pol A = pol B) (hl : A.length ≤ 1099511627776) (ht : tot (pol A) ≤ 1099511627776) :
    Calls Tryd.prog 8 #[.slice a A.length c, .slice b B.length d] w fun e w' => e = .returned (.bool true) ∧ Kept (fun _ => False) w w' := by
  have HA := hideP hA
  have HB := hideP hB
  have HP := hideP hp
  have HT := hideP ht
  have hlen : B.length = A.length := by rw [← pol_len, ← hp, pol_len]
  rw [hlen]
  have HLB := hideP hlen
  obtain ⟨n, hn⟩ : ∃ n, n = A.length := ⟨_, rfl⟩
  rw [← hn] at hl ⊢
  have HN := hideP hn
  clear hA hB hn hp ht hlen
  go_enter Tryd.func8, Tryd.ntmps8
  go_wp2
  go_loopw [13] (fun v wr => ∃ k : Nat, v = .int .i64 k ∧ k ≤ n ∧ Hid (Kept (fun _ => False) w wr)) (fun v _ => n - (intOf v).toNat)
  case atStart => exact ⟨0, rfl, by omega, hideP (Kept.refl _ _)⟩
  case round =>
    obtain ⟨k, rfl, hk, HK⟩ := hrel
    by_cases hlt : k < n
    · have hkk : (k : Int) < (n : Int) := by omega
      have hkA : k < A.length := by rw [← HN.out]; exact hlt
      have hkB : k < B.length := by rw [HLB.out]; exact hkA
      obtain ⟨ab, ao, rfl, hca⟩ := (HA.out.kept HK.out) (by intro e; rw [e] at hkA; simp at hkA)
      obtain ⟨bb, bo, rfl, hcb⟩ := (HB.out.kept HK.out) (by intro e; rw [e] at hkB; simp at hkB)
      obtain ⟨x0, x1, x2⟩ := hca k hkA
      obtain ⟨y0, y1, y2⟩ := hcb k hkB
      have he : A[k].po = B[k].po := by
        have h1 : (pol A)[k]? = (pol B)[k]? := by rw [HP.out]
        unfold pol at h1
        rw [List.getElem?_map, List.getElem?_map, List.getElem?_eq_getElem hkA, List.getElem?_eq_getElem hkB] at h1
        simpa using h1
      have q5 : A[k].ps.length ≤ 1099511627776 := Nat.le_trans (tot_mem (pol_at hkA)) HT.out
      generalize A[k] = ea at *
      generalize B[k] = eb at *
      obtain ⟨d1, a1, c1, p1⟩ := ea
      obtain ⟨d2, a2, c2, p2⟩ := eb
      simp only [Pg.po, Po.mk.injEq] at he
      obtain ⟨rfl, rfl⟩ := he
      simp only at x0 x1 x2 y0 y1 y2 q5
      have CS : Hid (∀ n', Calls Tryd.prog 15 #[.slice a1 p1.length c1, .slice a2 p1.length c2] (wr.drewN n') fun e w' => e = .returned (.bool true) ∧ ∃ m, w' = wr.drewN m) := hideP (fun n' => by
        refine (sameInts_true p1 a1 a2 c1 c2 (wr.drewN n') (x2.kept (Kept.drewN wr n')) (y2.kept (Kept.drewN wr n')) q5).mono ?_
        rintro e w' ⟨rfl, m, rfl⟩
        exact ⟨rfl, n' + m, by rw [World.drewN_drewN]⟩)
      have hd : (d1 != d1) = false := by simp
      clear hca hcb x2 y2 hkA hkB
      generalize p1.length = pn at *
      go_wp2_with fail
      go_quiet ((exact CS.out _))
      go_wp2
      go_roundw
      case rel => exact ⟨k + 1, by go_num, by omega, hideP (HK.out.trans (Kept.drewN wr nq) (fun _ f => f.elim))⟩
      case measure => simp [intOf]; omega
    · have hkk : ¬ (k : Int) < (n : Int) := by omega
      go_wp2
      go_ret
      exact ⟨rfl, HK.out⟩
def L0 (a b : Option Addr) : List Pg := [⟨2, a, 2, [1, 4]⟩, ⟨5, b, 1, [0]⟩]
def P0 : List Po := [⟨2, [1, 4]⟩, ⟨5, [0]⟩]
theorem pol_L0 (a b : Option Addr) : pol (L0 a b) = P0 := rfl
def B0 : List Int := [2, 3, 5, 9, 2, 2, 10, 2, 1, 1, 1, 2, 0]
theorem gdl_P0 : gdl (-1) P0 := by
  refine ⟨⟨by decide, by decide, by decide, by decide, ?_⟩, ⟨by decide, by decide, by decide, by decide, ?_⟩, trivial⟩
  · exact ⟨by decide, by decide, ⟨by decide, by decide, trivial⟩⟩
  · exact ⟨by decide, by decide, trivial⟩
theorem pk22 : packed [2, 2] = [2, 2, 10] := by
  rw [packed_eq, pbody, if_neg (by decide), uvb_small (by decide)]
  decide +kernel
theorem pk10 : packed [1, 0] = [2, 1, 1] := by
  rw [packed_eq, pbody, if_neg (by decide), uvb_small (by decide)]
  decide +kernel
theorem psb0 : psb P0 = [1, 2, 0] := by
  simp only [psb, P0, List.map_cons, List.map_nil, List.flatten_cons, List.flatten_nil, risb]
  rw [uvb_small (by decide), uvb_small (by decide), uvb_small (by decide)]
  decide
theorem blk0 : blk (-1) P0 = [2, 2, 10, 2, 1, 1, 1, 2, 0] := by
  rw [blk, psb0, show gps (-1) P0 = [2, 2] by decide, show mos P0 = [1, 0] by decide, pk22, pk10]
  rfl
theorem img_P0 : img P0 = B0 := by
  have e1 : chp (nbp P0.length) P0 = [P0] := rfl
  unfold img
  rw [e1]
  simp only [skb, bkb]
  rw [blk0, show lastd (-1) P0 = 5 by decide, show tot P0 = 3 by decide, uvb_small (by decide), uvb_small (by decide), uvb_small (by decide), uvb_small (by decide)]
  decide
end Go.Proofs.YtbdhmibiggpomaaDoor
