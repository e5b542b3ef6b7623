import Derived.Test.YtoglgicmnhklbaaDoorSca
import Derived.Shelf.Abstract
import Derived.Shelf.RegionOpen
import Derived.WalkKit
import Derived.OwnWalkIn
import Derived.TacticsInMore
import Derived.LoopNIn
import Derived.LoopIn
namespace Go.Proofs.YtoglgicmnhklbaaDoor
open Go.ChangeShapes Go.WideShapes Go.ChangeAt Go.RowKit Go.Shelf
attribute [local go_sem] Oper.semAt_some

theorem scan_stop {L : List Int} {pre : List Sx} {p e : Nat} (hS : scan L = pre.map Sx.dat ++ scn (L.length + 1 - pre.length) p (L.drop p)) (hp : p ≤ L.length) (h6 : 6 * pre.length ≤ p) (hd : decR (L.drop p) = .error e) : pre.map Sx.dat = scan L := by
  obtain ⟨f, hf⟩ : ∃ f, L.length + 1 - pre.length = f + 1 := ⟨L.length - pre.length, by omega⟩
  rw [hS, hf, scn_err hd, List.append_nil]
theorem scan_step {L : List Int} {pre : List Sx} {x : Sx} {p n1 : Nat} (hS : scan L = pre.map Sx.dat ++ scn (L.length + 1 - pre.length) p (L.drop p)) (hp : p ≤ L.length) (h6 : 6 * pre.length ≤ p) (hd : decR (L.drop p) = .ok ((x.D.t : Int), x.D.B, n1)) (hx : x.p = p) :
    scan L = (pre ++ [x]).map Sx.dat ++ scn (L.length + 1 - (pre ++ [x]).length) (p + n1) (L.drop (p + n1)) := by
  obtain ⟨f, hf⟩ : ∃ f, L.length + 1 - pre.length = f + 1 := ⟨L.length - pre.length, by omega⟩
  rw [hS, hf, scn_ok hd, List.map_append, List.append_assoc, List.drop_drop, show L.length + 1 - (pre ++ [x]).length = f by rw [List.length_append]; simp; omega]
  rw [show List.map Sx.dat [x] = [(p, (x.D.t : Int), x.D.B)] by simp [Sx.dat, hx]]
  rfl
set_option maxRecDepth 100000 in
set_option maxHeartbeats 8000000 in
/-- Scan's function: whatever loop goes over it. -/
theorem scan_seq (m : Nat) (hm : 1 ≤ m) (L : List Int) (a : Option Addr) (bk n c : Nat) (a0 a1 a5 a6 : Addr) (hb : IsBytes L) (hn : n = L.length) (ha : 0 < c → ∃ b, a = some ⟨b, 0, none⟩) (hc : n ≤ c) (hl : n ≤ 140737488355000) :
    SeqM Fence.wide m Tryd.prog 21 #[.pointer (some ⟨bk, 0, none⟩)] Sx.encs (ScK L bk a c a0 a1 a5 a6) (ScM L) (fun xs => xs.map Sx.dat = scan L) := by
  intro l J Jx W hK hY h0
  have DC : Hid (∀ p c' A wr ad, p ≤ n → ScK L bk a c a0 a1 a5 a6 A → Kept (fun _ => False) A wr → (p < n → ∃ b, a = some ⟨b, 0, none⟩ ∧ ad = some ⟨b, p, none⟩) → n - p ≤ c' → Calls Tryd.prog 22 #[.slice ad (n - p) c'] wr fun e W' => DecPost wr a0 a1 a5 a6 e W' (decR (L.drop p))) := by
    intro p c' A wr ad hp kk q had hc'
    have hdl : (L.drop p).length = n - p := by rw [List.length_drop]; omega
    have k2 := kk.kept q
    have hB : BytesAt wr ad (L.drop p) := by
      rcases Nat.lt_or_ge p n with h | h
      · obtain ⟨b, e1, e2⟩ := had h
        have h2 := k2.at_
        rw [e1] at h2
        have := bytes_dropN h2 p
        rw [Nat.zero_add] at this
        rw [e2]
        exact this
      · intro hne
        exact (hne (List.length_eq_zero_iff.1 (by omega))).elim
    exact decode_any4 (L.drop p) ad (n - p) c' wr hdl.symm hB (fun y hy => hb y (List.mem_of_mem_drop hy)) (by omega) (by omega) k2.tab k2.err
  have HB := hideC hb
  have HK : Hid (∀ pre A wr, J pre A → Kept (fun _ => False) A wr → wr.cell? ⟨bk, 0, none⟩ = some (.slice a n c)) := by
    intro pre A wr hj k
    have := ((hK pre A hj).kept k).box
    rw [← hn] at this
    exact this
  have HY := hideC hY
  have HK0 := hideC hK
  have HN := hideC hn
  have H0 := hideC h0
  clear hb hn hY hK h0
  refine callsIn_of_wp Tryd.func21 rfl trivial ?_ rfl
  simp only [Tryd.ntmps21, List.size_toArray, List.length_cons, List.length_nil, Nat.reduceAdd, Nat.reduceSub, Array.replicate_succ, Array.replicate_zero, List.push_toArray, List.append_toArray, List.nil_append, List.cons_append]
  gi_wp2
  gi_loopw [3] (fun at_ wr => ∃ (p : Nat) (pre : List Sx) (A : World), p ≤ n ∧ at_ = .int .i64 p ∧ Hid (6 * pre.length ≤ p) ∧ Hid (scan L = pre.map Sx.dat ++ scn (L.length + 1 - pre.length) p (L.drop p)) ∧ Hid (J pre A) ∧ Hid (Kept (fun _ => False) A wr)) (fun at_ _ => n - (intOf at_).toNat)
  case atStart =>
    exact ⟨0, [], W, Nat.zero_le _, rfl, Nat.le_refl _, rfl, H0.out, Kept.refl _ _⟩
  case round =>
    obtain ⟨p, pre, A, hpn, rfl, H6, HS, HJ, HA⟩ := hrel
    have hcell := HK.out pre A wr HJ.out HA.out
    have hpL : p ≤ L.length := by rw [← HN.out]; exact hpn
    clear H0 HK
    cases hd : decR (L.drop p) with
    | error er =>
      obtain ⟨ad, had⟩ := erD_is a0 a1 a5 a6 er
      have hfin := hideC (scan_stop HS.out hpL H6.out hd)
      have D3 : ∀ addr c', (p < n → ∃ b, a = some ⟨b, 0, none⟩ ∧ addr = some ⟨b, p, none⟩) → n - p ≤ c' → Calls Tryd.prog 22 #[.slice addr (n - p) c'] wr fun e W' => e = .returned (.tuple #[.agg #[.int .u8 0, .slice none 0 0], .int .i64 0, .iface 98 (.pointer (some ad))]) ∧ Hid (Kept (fun _ => False) A W') := by
        intro addr c' h1 h2
        have r := DC.out p c' A wr addr hpn (HK0.out pre A HJ.out) HA.out h1 h2
        rw [hd] at r
        refine Calls.mono r ?_
        rintro e W' ⟨rfl, kk⟩
        rw [had]
        exact ⟨rfl, HA.out.trans kk (fun _ f => f.elim)⟩
      clear had hd HS H6 HY HK0 DC
      rcases Nat.lt_or_ge p c with hpc | hpc
      · obtain ⟨b, rfl⟩ := ha (by omega)
        have D4 := hideC (D3 (some ⟨b, p, none⟩) (c - p) (fun _ => ⟨b, rfl, rfl⟩) (by omega))
        have i2 : (p : Int) ≤ (n : Int) := by omega
        have i3 : ¬ c = p := by omega
        have i4 : p ≤ c := by omega
        clear D3
        gi_wp2_with (refine ⟨trivial, ?_⟩; gi_at_call 22; refine (callsIn_wide.2 D4.out).mono ?_; clear D4; rintro e W4 ⟨rfl, K4⟩)
        refine ⟨fun _ h => (by cases h), ?_⟩
        gi_wp2
        refine bodyPost_ret (results_none rfl _ _ _) rfl ?_
        exact ⟨⟨_, rfl⟩, .inl ⟨pre, A, hfin.out, HJ.out, K4.out.trans (Kept.alloc _ _) (fun _ f => f.elim)⟩⟩
      · obtain rfl : p = n := by omega
        obtain rfl : p = c := by omega
        have D4 := hideC (D3 a 0 (fun h => by omega) (by omega))
        rw [Nat.sub_self] at D4
        clear D3
        gi_wp2_with (refine ⟨trivial, ?_⟩; gi_at_call 22; refine (callsIn_wide.2 D4.out).mono ?_; clear D4; rintro e W4 ⟨rfl, K4⟩)
        refine ⟨fun _ h => (by cases h), ?_⟩
        gi_wp2
        refine bodyPost_ret (results_none rfl _ _ _) rfl ?_
        exact ⟨⟨_, rfl⟩, .inl ⟨pre, A, hfin.out, HJ.out, K4.out.trans (Kept.alloc _ _) (fun _ f => f.elim)⟩⟩
    | ok tbn =>
      obtain ⟨t, body, n1⟩ := tbn
      obtain ⟨⟨T, rfl, hT0, hT2⟩, hbb, hn6, hnl, hbl6⟩ := decR_ok (fun y hy => HB.out y (List.mem_of_mem_drop hy)) hd
      have hnl2 : n1 ≤ n - p := by rw [List.length_drop, ← HN.out] at hnl; exact hnl
      obtain ⟨b, rfl⟩ := ha (by omega)
      obtain ⟨nb, hnb⟩ : ∃ n, n = body.length := ⟨_, rfl⟩
      have D4 : Hid (Calls Tryd.prog 22 #[.slice (some ⟨b, p, none⟩) (n - p) (c - p)] wr fun e W' => ∃ a' c', e = .returned (.tuple #[.agg #[.int .u8 T, .slice a' nb c'], .int .i64 n1, .nilIface]) ∧ Hid (OwnB wr W' (.slice a' nb c') body)) := by
        have r := DC.out p (c - p) A wr (some ⟨b, p, none⟩) hpn (HK0.out pre A HJ.out) HA.out (fun _ => ⟨b, rfl, rfl⟩) (by omega)
        rw [hd] at r
        refine Calls.mono r ?_
        rintro e W' ⟨a', c', rfl, ho⟩
        rw [hnb]
        exact ⟨a', c', rfl, ho⟩
      have hstep : Hid (∀ a' c', scan L = (pre ++ [Sx.mk p ⟨T, a', c', body⟩]).map Sx.dat ++ scn (L.length + 1 - (pre ++ [Sx.mk p ⟨T, a', c', body⟩]).length) (p + n1) (L.drop (p + n1))) := fun a' c' => scan_step (x := ⟨p, ⟨T, a', c', body⟩⟩) HS.out hpL H6.out hd rfl
      have YY : Hid (∀ W4 a' c', OwnB wr W4 (.slice a' nb c') body → ∀ o : Obj, YieldAt Fence.wide (m - 1) Tryd.prog l #[.int .i64 p, .agg #[.int .u8 T, .slice a' nb c']] (W4.alloc o) fun e C => (e = .returned (.bool true) ∧ Hid (J (pre ++ [Sx.mk p ⟨T, a', c', body⟩]) C)) ∨ (e = .returned (.bool false) ∧ Hid (Jx (pre ++ [Sx.mk p ⟨T, a', c', body⟩]) C))) := by
        intro W4 a' c' ho o
        have k1 : Kept (fun _ => False) A (W4.alloc o) := (HA.out.trans ho.kept (fun _ f => f.elim)).trans (Kept.alloc _ _) (fun _ f => f.elim)
        have hM : ScM L pre (Sx.mk p ⟨T, a', c', body⟩) A.heap.size (W4.alloc o) := by
          have hr := ho.row
          refine ⟨?_, hT0, hT2, hbb, _, hstep.out a' c'⟩
          have h2 := (OwnB.from ⟨hr, ho.kept⟩ HA.out).row
          rw [hnb] at h2
          exact (Kept.alloc W4 o).row h2 (fun _ _ f => f)
        have r := HY.out pre _ A (W4.alloc o) HJ.out k1 hM
        rw [hnb]
        exact r
      have h6 : Hid (∀ a' c', 6 * (pre ++ [Sx.mk p ⟨T, a', c', body⟩]).length ≤ p + n1) := fun a' c' => by have := H6.out; rw [List.length_append]; simp only [List.length_cons, List.length_nil]; omega
      have i2 : (p : Int) ≤ (n : Int) := by omega
      have i3 : ¬ c = p := by omega
      have i4 : p ≤ c := by omega
      clear hd HS H6 HY HK0 DC HB hbb hnb ha HJ HA
      gi_wp2_with (refine ⟨trivial, ?_⟩; gi_at_call 22; refine (callsIn_wide.2 D4.out).mono ?_; clear D4; rintro e W4 ⟨a4, c4, rfl, K4⟩; obtain ⟨fn, tmps, assign, body', hy, hR⟩ := YY.out W4 a4 c4 K4.out (.cells #[.int .u8 T, .slice a4 nb c4] 35); clear YY K4)
      refine hR.mono ?_
      rintro e W5 (⟨rfl, HJ5⟩ | ⟨rfl, HX5⟩)
      · gi_wp2
        go_roundw
        case rel => exact ⟨p + n1, pre ++ [Sx.mk p ⟨T, a4, c4, body⟩], W5, by omega, by go_num, h6.out a4 c4, hstep.out a4 c4, HJ5, Kept.refl _ _⟩
        case measure => simp [intOf]; omega
      · gi_wp2
        refine bodyPost_ret (results_none rfl _ _ _) rfl ?_
        exact ⟨⟨_, rfl⟩, .inr ⟨_, W5, HX5.out, Kept.refl _ _⟩⟩
set_option maxHeartbeats 1000000 in
theorem scan_any (L : List Int) (a : Option Addr) (n c : Nat) (w : World) (hn : n = L.length) (hB : BytesAt w a L) (ha : a = none → c = 0) (hl : n ≤ 140737488355000) :
    Calls Tryd.prog 11 #[.slice a n c] w fun e W => ∃ bk a' c', e = .returned (.func (.func 21) #[] #[.pointer (some ⟨bk, 0, none⟩)]) ∧ w.heap.size ≤ bk ∧ W.cell? ⟨bk, 0, none⟩ = some (.slice a' n c') ∧ OwnB w W (.slice a' n c') L := by
  have CL : Hid (Calls Tryd.prog 20 #[.slice a n c] w fun e W => ∃ a' c', e = .returned (.slice a' n c') ∧ Hid (OwnB w W (.slice a' n c') L)) := clone_any L a n c w hn hB ha (by omega)
  clear hB ha hn
  go_enter Tryd.func11, Tryd.ntmps11
  go_wp2_with (go_at_call 20; refine CL.out.mono ?_; rintro e W2 ⟨a2, c2, rfl, K2⟩)
  go_ret
  refine ⟨_, a2, c2, rfl, K2.out.kept.size, ?_, K2.out.alloc _⟩
  exact cell_of_row _ _ 0 _ _ _ (heap_alloc_new W2 _)
theorem own_scan {w W : World} {a : Option Addr} {n c : Nat} {L : List Int} (h : OwnB w W (.slice a n c) L) : (0 < c → ∃ b, a = some ⟨b, 0, none⟩) ∧ n ≤ c ∧ (∀ ad, a = some ad → w.heap.size ≤ ad.block) := by
  rcases h.row.2 with ⟨e, h0⟩ | ⟨g, cap, cur, e, hb, hg, hle, _⟩
  · simp only [Value.slice.injEq] at e
    obtain ⟨rfl, rfl, rfl⟩ := e
    exact ⟨fun h => by omega, by omega, fun ad h => by cases h⟩
  · simp only [Value.slice.injEq] at e
    obtain ⟨rfl, rfl, rfl⟩ := e
    exact ⟨fun _ => ⟨g, rfl⟩, hle, fun ad h => by cases h; exact hb⟩
end Go.Proofs.YtoglgicmnhklbaaDoor
