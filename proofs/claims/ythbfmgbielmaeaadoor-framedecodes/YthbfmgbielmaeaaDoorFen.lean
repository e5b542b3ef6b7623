import Derived.Test.YthbfmgbielmaeaaDoorEnr
import Derived.LaidEql
namespace Go.Proofs.YthbfmgbielmaeaaDoor
open Go.ChangeShapes Go.WideShapes Go.ChangeAt Go.RowKit

theorem Sent.kept {w w' : World} {tp : TypeId} {g : Nat} {text : List UInt8} {a : Addr} (h : Sent w tp g text a) (k : Kept (fun _ => False) w w') : Sent w' tp g text a := by
  obtain ⟨c, t, hb⟩ := h.blk
  exact ⟨k.cell h.var (fun f => f), k.cell h.cell (fun f => f), c, t, k.heap hb (fun f => f)⟩
theorem Sent.ne {w : World} {tp : TypeId} {g g' : Nat} {x y : List UInt8} {a b : Addr} (h : Sent w tp g x a) (h' : Sent w tp g' y b) (hne : x ≠ y) : a ≠ b := by
  intro e
  have h1 := h.cell
  rw [e, h'.cell] at h1
  simp at h1
  exact hne h1.symm
theorem Tryd.compErrF : (Tryd.prog.info? 98).map (·.comparable) = some true := by kernel_rfl
theorem Tryd.sizeErrF : (Tryd.prog.info? 114).map (·.size) = some 1 := by kernel_rfl
theorem err_neqF {w : World} {tp : TypeId} {g g' : Nat} {x y : List UInt8} {a b : Addr} (h : Sent w tp g x a) (h' : Sent w tp g' y b) (hne : x ≠ y) :
    (binOp .eql 25 (.iface 98 (.pointer (some a))) (.iface 98 (.pointer (some b)))).run Tryd.prog w = .ok (.bool false) w := by
  obtain ⟨i, hi, hci⟩ := Option.map_eq_some_iff.1 Tryd.compErrF
  obtain ⟨j, hj, hcj⟩ := Option.map_eq_some_iff.1 Tryd.sizeErrF
  obtain ⟨c, t, ha⟩ := h.blk
  obtain ⟨c', t', hb⟩ := h'.blk
  exact run_eql_iface_ptr_other w Tryd.underlying25 Tryd.underlying98 hi hci hj (by rw [hcj]; decide) (h.ne h' hne) ha hb
theorem err_eqF (a : Addr) (W : World) :
    (binOp .eql 25 (.iface 98 (.pointer (some a))) (.iface 98 (.pointer (some a)))).run Tryd.prog W = .ok (.bool true) W := by
  obtain ⟨i, hi, hci⟩ := Option.map_eq_some_iff.1 Tryd.compErrF
  obtain ⟨j, hj, hcj⟩ := Option.map_eq_some_iff.1 Tryd.sizeErrF
  exact run_eql_iface_ptr_same W a Tryd.underlying25 Tryd.underlying98 hi hci hj
/-- The errors of blocks, as they lie. -/
def tx0 : List UInt8 := [99, 111, 110, 99, 111, 114, 100, 58, 32, 116, 111, 111, 32, 115, 104, 111, 114, 116]
def tx1 : List UInt8 := [99, 111, 110, 99, 111, 114, 100, 58, 32, 118, 97, 114, 105, 110, 116]
def tx2 : List UInt8 := [99, 111, 110, 99, 111, 114, 100, 58, 32, 108, 105, 109, 105, 116]
def tx3 : List UInt8 := [99, 111, 110, 99, 111, 114, 100, 58, 32, 111, 114, 100, 101, 114]
def tx4 : List UInt8 := [99, 111, 110, 99, 111, 114, 100, 58, 32, 116, 97, 105, 108]
def tx5 : List UInt8 := [99, 111, 110, 99, 111, 114, 100, 58, 32, 116, 97, 103]
def tx6 : List UInt8 := [99, 111, 110, 99, 111, 114, 100, 58, 32, 115, 117, 109]
structure Errs7 (w : World) (a0 a1 a2 a3 a4 a5 a6 : Addr) : Prop where
  s0 : Sent w 98 1 tx0 a0
  s1 : Sent w 98 2 tx1 a1
  s2 : Sent w 98 3 tx2 a2
  s3 : Sent w 98 4 tx3 a3
  s4 : Sent w 98 5 tx4 a4
  s5 : Sent w 98 0 tx5 a5
  s6 : Sent w 98 6 tx6 a6
theorem Errs7.kept {w w' : World} {a0 a1 a2 a3 a4 a5 a6 : Addr} (h : Errs7 w a0 a1 a2 a3 a4 a5 a6) (k : Kept (fun _ => False) w w') : Errs7 w' a0 a1 a2 a3 a4 a5 a6 :=
  ⟨h.s0.kept k, h.s1.kept k, h.s2.kept k, h.s3.kept k, h.s4.kept k, h.s5.kept k, h.s6.kept k⟩
theorem num_tag {w : World} {a0 a1 a2 a3 a4 a5 a6 : Addr} (h : Errs7 w a0 a1 a2 a3 a4 a5 a6) : Calls Tryd.prog 12 #[.iface 98 (.pointer (some a5))] w fun e w' => e = .returned (.int .i64 6) ∧ w' = w := by
  have v0 := h.s0.var
  have v1 := h.s1.var
  have v2 := h.s2.var
  have v3 := h.s3.var
  have v4 := h.s4.var
  have v5 := h.s5.var
  have e0 := err_neqF h.s5 h.s0 (by decide)
  have e1 := err_neqF h.s5 h.s1 (by decide)
  have e2 := err_neqF h.s5 h.s2 (by decide)
  have e3 := err_neqF h.s5 h.s3 (by decide)
  have e4 := err_neqF h.s5 h.s4 (by decide)
  have e5 := err_eqF a5
  clear h
  go_enter Tryd.func12, Tryd.ntmps12
  go_wp2
  go_ret
  exact ⟨rfl, rfl⟩
set_option maxHeartbeats 2000000 in
theorem encodes_walk (tag : Nat) (l : List Int) (a : Option Addr) (c : Nat) (w : World) (ht2 : tag < 256) (hB : BytesAt w a l) (hb : IsBytes l) (ha : a = none → c = 0) (hl : l.length ≤ 140737488351232) (hT : TabAt w) {a0 a1 a2 a3 a4 a5 a6 : Addr} (hE : Errs7 w a0 a1 a2 a3 a4 a5 a6) :
    Calls Tryd.prog 3 #[.int .u8 tag, .slice a l.length c] w fun e w' => e = .returned (.bool true) ∧ Kept (fun _ => False) w w' := by
  have LV : Hid (Calls Tryd.prog 9 #[] w fun e W => e = .returned (.bool true) ∧ Hid (Kept (fun _ => False) w W)) := (lives2_any w hT).mono fun e W q => ⟨q.1, q.2⟩
  by_cases ht : tag = 0
  · subst ht
    have z0 : ((0 : Nat) : Int) = 0 := rfl
    rw [z0]
    have EZ : Hid (∀ W, Hid (Kept (fun _ => False) w W) → Calls Tryd.prog 10 #[.int .u8 0, .slice a l.length c] W fun e W' => e = .returned (.tuple #[.slice none 0 0, .iface 98 (.pointer (some a5))]) ∧ Hid (Kept (fun _ => False) w W')) := by
      intro W q
      refine (encode_zero _ a5 W (hE.kept q.out).s5.var).mono ?_
      rintro e W' ⟨rfl, n, rfl⟩
      exact ⟨rfl, q.out.trans (Kept.drewN W n) (fun _ f => f.elim)⟩
    have RZ := hideC (rencode_zero (.slice a l.length c))
    have NT : Hid (∀ W, Hid (Kept (fun _ => False) w W) → Calls Tryd.prog 12 #[.iface 98 (.pointer (some a5))] W fun e W' => e = .returned (.int .i64 6) ∧ W' = W) := fun W q => num_tag (hE.kept q.out)
    have kn := fun W => run_convert_bytes_nil (P := Tryd.prog) W 22 5 Tryd.underlying22 Tryd.underlying5 0 0 9 Tryd.underlying9
    clear hB hb hT hE ha
    go_enter Tryd.func3, Tryd.ntmps3
    go_wp2_with (first | (go_at_call 9; refine LV.out.mono ?_; rintro e W2 ⟨rfl, K2⟩) | (go_at_call 10; refine (EZ.out W2 K2).mono ?_; rintro e W3 ⟨rfl, K3⟩) | (go_at_call 11; refine (RZ.out _).mono ?_; rintro e W3 ⟨rfl, e2⟩; subst e2) | (go_at_call 12; refine (NT.out W3 K3).mono ?_; rintro e W3 ⟨rfl, e2⟩; subst e2))
    go_ret
    exact ⟨rfl, K3.out⟩
  · have hlen : Hid ((benc tag l).length = (benc tag l).length) := rfl
    have EN : Hid (∀ W, Hid (Kept (fun _ => False) w W) → Calls Tryd.prog 10 #[.int .u8 tag, .slice a l.length c] W fun e W' => ∃ g, e = .returned (.tuple #[.slice (some ⟨g, 0, none⟩) (benc tag l).length (benc tag l).length, .nilIface]) ∧ Hid (BytesAt W' (some ⟨g, 0, none⟩) (benc tag l) ∧ Kept (fun _ => False) w W')) := by
      intro W q
      refine (encode_any tag l a c W (by omega) ht2 (bytes_keptF hB q.out) hb ha hl (hT.kept q.out)).mono ?_
      rintro e W' ⟨g, rfl, _, h2, h3⟩
      exact ⟨g, rfl, (own_bytesF h2).1, q.out.trans h3 (fun _ f => f.elim)⟩
    have RE : Hid (∀ W g, Hid (BytesAt W (some ⟨g, 0, none⟩) (benc tag l) ∧ Kept (fun _ => False) w W) → Calls Tryd.prog 11 #[.int .u8 tag, .slice a l.length c] W fun e W' => ∃ a' c', e = .returned (.tuple #[.slice a' (benc tag l).length c', .int .i64 0]) ∧ ((convert 22 9 (.slice (some ⟨g, 0, none⟩) (benc tag l).length (benc tag l).length)).run Tryd.prog W' = .ok (.string (strOfNums (benc tag l))) W' ∧ (convert 22 9 (.slice a' (benc tag l).length c')).run Tryd.prog W' = .ok (.string (strOfNums (benc tag l))) W') ∧ Hid (Kept (fun _ => False) w W')) := by
      intro W g q
      refine (rencode_any tag l a c W (by omega) ht2 (bytes_keptF hB q.out.2) hb ha hl).mono ?_
      rintro e W' ⟨a', c', rfl, ho⟩
      obtain ⟨a2, c2, e2, hb2, _⟩ := ho.at
      simp only [Value.slice.injEq] at e2
      obtain ⟨rfl, _, rfl⟩ := e2
      exact ⟨a', c', rfl, ⟨conv_atF (bytes_keptF q.out.1 ho.kept), conv_atF hb2⟩, q.out.2.trans ho.kept (fun _ f => f.elim)⟩
    have NN := hideC num_nil
    obtain ⟨n, hn⟩ : ∃ n, n = (benc tag l).length := ⟨_, rfl⟩
    obtain ⟨st, hst⟩ : ∃ st, st = strOfNums (benc tag l) := ⟨_, rfl⟩
    rw [← hn] at EN RE
    rw [← hst] at RE
    have hnb : n ≤ 140737488355328 := by
      rw [hn, benc_length]
      have := (ulen_le l.length (by omega)).2
      omega
    clear hB hb hT hE ha hn hst hlen
    go_enter Tryd.func3, Tryd.ntmps3
    go_wp2_with (first | (go_at_call 9; refine LV.out.mono ?_; rintro e W2 ⟨rfl, K2⟩) | (go_at_call 10; refine (EN.out W2 K2).mono ?_; rintro e W3 ⟨g, rfl, K3⟩) | (go_at_call 11; refine (RE.out W3 g K3).mono ?_; rintro e W4 ⟨a', c', rfl, ⟨x1, x2⟩, K4⟩) | (go_at_call 12; refine (NN.out _).mono ?_; rintro e W5 ⟨rfl, e2⟩; subst e2))
    go_ret
    exact ⟨by first | rfl | simp, K4.out⟩
end Go.Proofs.YthbfmgbielmaeaaDoor
