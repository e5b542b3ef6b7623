import Derived.Test.YtcanbhbhdgogoaaDoorRows
import Derived.WalkKit
import Derived.ProofKit
import Derived.OpenShut
import Derived.WalkLawsBesides
import Derived.LaidLaws
import Derived.LaidEql
import Derived.Stop.LaidErr
import Derived.Test.YtcanbhbhdgogoaaDoorDrf
import Derived.Test.YtcanbhbhdgogoaaDoorMrg4
import Derived.Test.YtcanbhbhdgogoaaDoorDbg
import Derived.Test.YtcanbhbhdgogoaaDoorEqd
namespace Go.Proofs.YtcanbhbhdgogoaaDoor
open Go.ChangeShapes Go.WideShapes Go.ChangeAt Go.RowKit

/-- What a listed error gives: the variable's cell, the text behind its pointer, and that the block is plain. -/
structure Sent (W : World) (tp : TypeId) (g : Nat) (text : List UInt8) (a : Addr) : Prop where
  var : W.cell? ⟨g, 0, none⟩ = some (.iface tp (.pointer (some a)))
  cell : W.cell? a = some (.string ⟨⟨text⟩⟩)
  blk : ∃ c t, W.heap[a.block]? = some (.cells c t (0, 0))

theorem sent_head {P : Program} {n nm : String} {text : List UInt8} {r : List (String × DataW Unit)} {W : World} {g : Nat} {ti tp te ts : TypeId} {ms : Array (String × TypeId)} {f : Field}
    (h : laidMet P ((n, .iface nm (.ptr (.agg [.lit (.string text)]))) :: r) W)
    (hg : P.globalNamed n = some g) (ht : (P.globals[g]?).map (·.type) = some ti) (hi : P.underlying ti = some (.interface ms)) (hrow : ∀ u, P.typeName? 3 u = some nm → u = tp)
    (hp : P.underlying tp = some (.pointer te)) (he : P.underlying te = some (.struct #[f])) (hft : f.type = ts) (hfo : f.offset = 0) (hs : P.underlying ts = some .string) (hc : P.cellsOf te = 1) (hcs : P.cellsOf ts = 1) :
    ∃ a, Sent W tp g text a := by
  obtain ⟨ps, ⟨g0, t0, cs0, f0, p0, q0, hg0, ht0, hv0, hd0, _, e0⟩, _, hrows⟩ := h
  obtain rfl := Option.some.inj (hg.symm.trans hg0)
  obtain rfl := Option.some.inj (ht.symm.trans ht0)
  subst e0
  obtain ⟨l0⟩ := cs0
  have ok0 : ∀ u v, l0 = [.iface u v] → Value.okWide P W .any 0 u v := fun u v e => by
    subst e
    exact (hrows g 0 (by simp [MemPlace.row])).2 u v (by simpa using World.var?_cell hg0 hv0 0)
  obtain ⟨a0, s0, rfl, hc0, hs0, hz0, hp0⟩ := errorString_of_trod hi hrow hp he hft hfo hs hc hcs hd0 ok0
  have hs1 : s0 = ⟨⟨text⟩⟩ := by
    obtain ⟨⟨l⟩⟩ := s0
    simp at hs0
    rw [hs0]
  subst hs1
  refine ⟨a0, by simpa using World.var?_cell hg0 hv0 0, hc0, ?_⟩
  subst hp0
  exact (hrows a0.block a0.off (by simp [MemPlace.row])).1

theorem laidMet_mem {P : Program} {L : List (String × DataW Unit)} {W : World} (h : laidMet P L W) : ∀ x ∈ L, ∃ r, laidMet P (x :: r) W := by
  induction L with
  | nil => intro x hx; cases hx
  | cons y r ih =>
    intro x hx
    rcases List.mem_cons.1 hx with rfl | hx
    · exact ⟨r, h⟩
    · exact ih h.tail x hx

theorem Tryd.cellsStr : Tryd.prog.cellsOf 9 = 1 := by kernel_rfl
theorem Tryd.star : "*" ++ "errors.errorString" = "*errors.errorString" := by decide
theorem Tryd.rowErr (u : TypeId) (h : Tryd.prog.typeName? 3 u = some "*errors.errorString") : u = 121 :=
  typeName_ptr_named (nm := "errors.errorString") (by rw [Tryd.star]; kernel_rfl) (by kernel_rfl) (by decide) u (by rw [Tryd.star]; exact h)
theorem Tryd.cellsErr : Tryd.prog.cellsOf 137 = 1 := by kernel_rfl
theorem Tryd.g_ErrShort : Tryd.prog.globalNamed "concord/api.ErrShort" = some 2 := by kernel_rfl
theorem Tryd.gt_ErrShort : (Tryd.prog.globals[2]?).map (·.type) = some 27 := by kernel_rfl
theorem sent0 {W : World} {L : List (String × DataW Unit)} (h : laidMet Tryd.prog L W) (hm : ("concord/api.ErrShort", Rows.laid_concord_api_ErrShort) ∈ L) : ∃ a, Sent W 121 2 ([99, 111, 110, 99, 111, 114, 100, 58, 32, 116, 111, 111, 32, 115, 104, 111, 114, 116]) a := by
  obtain ⟨r, h⟩ := laidMet_mem h _ hm
  exact sent_head h Tryd.g_ErrShort Tryd.gt_ErrShort Tryd.underlying27 Tryd.rowErr Tryd.underlying121 Tryd.underlying137 rfl rfl Tryd.underlying9 Tryd.cellsErr Tryd.cellsStr
theorem Tryd.g_ErrVarint : Tryd.prog.globalNamed "concord/api.ErrVarint" = some 3 := by kernel_rfl
theorem Tryd.gt_ErrVarint : (Tryd.prog.globals[3]?).map (·.type) = some 27 := by kernel_rfl
theorem sent1 {W : World} {L : List (String × DataW Unit)} (h : laidMet Tryd.prog L W) (hm : ("concord/api.ErrVarint", Rows.laid_concord_api_ErrVarint) ∈ L) : ∃ a, Sent W 121 3 ([99, 111, 110, 99, 111, 114, 100, 58, 32, 118, 97, 114, 105, 110, 116]) a := by
  obtain ⟨r, h⟩ := laidMet_mem h _ hm
  exact sent_head h Tryd.g_ErrVarint Tryd.gt_ErrVarint Tryd.underlying27 Tryd.rowErr Tryd.underlying121 Tryd.underlying137 rfl rfl Tryd.underlying9 Tryd.cellsErr Tryd.cellsStr
theorem Tryd.g_ErrLimit : Tryd.prog.globalNamed "concord/api.ErrLimit" = some 0 := by kernel_rfl
theorem Tryd.gt_ErrLimit : (Tryd.prog.globals[0]?).map (·.type) = some 27 := by kernel_rfl
theorem sent2 {W : World} {L : List (String × DataW Unit)} (h : laidMet Tryd.prog L W) (hm : ("concord/api.ErrLimit", Rows.laid_concord_api_ErrLimit) ∈ L) : ∃ a, Sent W 121 0 ([99, 111, 110, 99, 111, 114, 100, 58, 32, 108, 105, 109, 105, 116]) a := by
  obtain ⟨r, h⟩ := laidMet_mem h _ hm
  exact sent_head h Tryd.g_ErrLimit Tryd.gt_ErrLimit Tryd.underlying27 Tryd.rowErr Tryd.underlying121 Tryd.underlying137 rfl rfl Tryd.underlying9 Tryd.cellsErr Tryd.cellsStr
theorem Tryd.g_ErrOrder : Tryd.prog.globalNamed "concord/api.ErrOrder" = some 1 := by kernel_rfl
theorem Tryd.gt_ErrOrder : (Tryd.prog.globals[1]?).map (·.type) = some 27 := by kernel_rfl
theorem sent3 {W : World} {L : List (String × DataW Unit)} (h : laidMet Tryd.prog L W) (hm : ("concord/api.ErrOrder", Rows.laid_concord_api_ErrOrder) ∈ L) : ∃ a, Sent W 121 1 ([99, 111, 110, 99, 111, 114, 100, 58, 32, 111, 114, 100, 101, 114]) a := by
  obtain ⟨r, h⟩ := laidMet_mem h _ hm
  exact sent_head h Tryd.g_ErrOrder Tryd.gt_ErrOrder Tryd.underlying27 Tryd.rowErr Tryd.underlying121 Tryd.underlying137 rfl rfl Tryd.underlying9 Tryd.cellsErr Tryd.cellsStr
theorem Tryd.g_ErrTail : Tryd.prog.globalNamed "concord/api.ErrTail" = some 4 := by kernel_rfl
theorem Tryd.gt_ErrTail : (Tryd.prog.globals[4]?).map (·.type) = some 27 := by kernel_rfl
theorem sent4 {W : World} {L : List (String × DataW Unit)} (h : laidMet Tryd.prog L W) (hm : ("concord/api.ErrTail", Rows.laid_concord_api_ErrTail) ∈ L) : ∃ a, Sent W 121 4 ([99, 111, 110, 99, 111, 114, 100, 58, 32, 116, 97, 105, 108]) a := by
  obtain ⟨r, h⟩ := laidMet_mem h _ hm
  exact sent_head h Tryd.g_ErrTail Tryd.gt_ErrTail Tryd.underlying27 Tryd.rowErr Tryd.underlying121 Tryd.underlying137 rfl rfl Tryd.underlying9 Tryd.cellsErr Tryd.cellsStr
theorem Tryd.g_ErrTag : Tryd.prog.globalNamed "concord/api.ErrTag" = some 5 := by kernel_rfl
theorem Tryd.gt_ErrTag : (Tryd.prog.globals[5]?).map (·.type) = some 27 := by kernel_rfl
theorem sent5 {W : World} {L : List (String × DataW Unit)} (h : laidMet Tryd.prog L W) (hm : ("concord/api.ErrTag", Rows.laid_concord_api_ErrTag) ∈ L) : ∃ a, Sent W 121 5 ([99, 111, 110, 99, 111, 114, 100, 58, 32, 116, 97, 103]) a := by
  obtain ⟨r, h⟩ := laidMet_mem h _ hm
  exact sent_head h Tryd.g_ErrTag Tryd.gt_ErrTag Tryd.underlying27 Tryd.rowErr Tryd.underlying121 Tryd.underlying137 rfl rfl Tryd.underlying9 Tryd.cellsErr Tryd.cellsStr
theorem Tryd.g_ErrSum : Tryd.prog.globalNamed "concord/api.ErrSum" = some 6 := by kernel_rfl
theorem Tryd.gt_ErrSum : (Tryd.prog.globals[6]?).map (·.type) = some 27 := by kernel_rfl
theorem sent6 {W : World} {L : List (String × DataW Unit)} (h : laidMet Tryd.prog L W) (hm : ("concord/api.ErrSum", Rows.laid_concord_api_ErrSum) ∈ L) : ∃ a, Sent W 121 6 ([99, 111, 110, 99, 111, 114, 100, 58, 32, 115, 117, 109]) a := by
  obtain ⟨r, h⟩ := laidMet_mem h _ hm
  exact sent_head h Tryd.g_ErrSum Tryd.gt_ErrSum Tryd.underlying27 Tryd.rowErr Tryd.underlying121 Tryd.underlying137 rfl rfl Tryd.underlying9 Tryd.cellsErr Tryd.cellsStr
theorem Tryd.g_ErrRange : Tryd.prog.globalNamed "concord/api.ErrRange" = some 7 := by kernel_rfl
theorem Tryd.gt_ErrRange : (Tryd.prog.globals[7]?).map (·.type) = some 27 := by kernel_rfl
theorem sent7 {W : World} {L : List (String × DataW Unit)} (h : laidMet Tryd.prog L W) (hm : ("concord/api.ErrRange", Rows.laid_concord_api_ErrRange) ∈ L) : ∃ a, Sent W 121 7 ([99, 111, 110, 99, 111, 114, 100, 58, 32, 114, 97, 110, 103, 101]) a := by
  obtain ⟨r, h⟩ := laidMet_mem h _ hm
  exact sent_head h Tryd.g_ErrRange Tryd.gt_ErrRange Tryd.underlying27 Tryd.rowErr Tryd.underlying121 Tryd.underlying137 rfl rfl Tryd.underlying9 Tryd.cellsErr Tryd.cellsStr
theorem Tryd.g_ErrSize : Tryd.prog.globalNamed "concord/api.ErrSize" = some 8 := by kernel_rfl
theorem Tryd.gt_ErrSize : (Tryd.prog.globals[8]?).map (·.type) = some 27 := by kernel_rfl
theorem sent8 {W : World} {L : List (String × DataW Unit)} (h : laidMet Tryd.prog L W) (hm : ("concord/api.ErrSize", Rows.laid_concord_api_ErrSize) ∈ L) : ∃ a, Sent W 121 8 ([99, 111, 110, 99, 111, 114, 100, 58, 32, 115, 105, 122, 101]) a := by
  obtain ⟨r, h⟩ := laidMet_mem h _ hm
  exact sent_head h Tryd.g_ErrSize Tryd.gt_ErrSize Tryd.underlying27 Tryd.rowErr Tryd.underlying121 Tryd.underlying137 rfl rfl Tryd.underlying9 Tryd.cellsErr Tryd.cellsStr
theorem Tryd.g_ErrCorrupt : Tryd.prog.globalNamed "concord/api.ErrCorrupt" = some 9 := by kernel_rfl
theorem Tryd.gt_ErrCorrupt : (Tryd.prog.globals[9]?).map (·.type) = some 27 := by kernel_rfl
theorem sent9 {W : World} {L : List (String × DataW Unit)} (h : laidMet Tryd.prog L W) (hm : ("concord/api.ErrCorrupt", Rows.laid_concord_api_ErrCorrupt) ∈ L) : ∃ a, Sent W 121 9 ([99, 111, 110, 99, 111, 114, 100, 58, 32, 99, 111, 114, 114, 117, 112, 116]) a := by
  obtain ⟨r, h⟩ := laidMet_mem h _ hm
  exact sent_head h Tryd.g_ErrCorrupt Tryd.gt_ErrCorrupt Tryd.underlying27 Tryd.rowErr Tryd.underlying121 Tryd.underlying137 rfl rfl Tryd.underlying9 Tryd.cellsErr Tryd.cellsStr
end Go.Proofs.YtcanbhbhdgogoaaDoor
namespace Go.Proofs.YtcanbhbhdgogoaaDoor
open Go.ChangeShapes Go.WideShapes Go.ChangeAt Go.RowKit

theorem Sent.kept {w w' : World} {tp : TypeId} {g : Nat} {text : List UInt8} {a : Addr} (h : Sent w tp g text a) (k : Kept (fun _ => False) w w') : Sent w' tp g text a := by
  obtain ⟨c, t, hb⟩ := h.blk
  exact ⟨k.cell h.var (fun f => f), k.cell h.cell (fun f => f), c, t, k.heap hb (fun f => f)⟩
theorem Sent.ne {w : World} {tp : TypeId} {g g' : Nat} {x y : List UInt8} {a b : Addr} (h : Sent w tp g x a) (h' : Sent w tp g' y b) (hne : x ≠ y) : a ≠ b := by
  intro e
  have h1 := h.cell
  rw [e, h'.cell] at h1
  simp at h1
  exact hne h1.symm
theorem Tryd.compErrF : (Tryd.prog.info? 121).map (·.comparable) = some true := by kernel_rfl
theorem Tryd.sizeErrF : (Tryd.prog.info? 137).map (·.size) = some 1 := by kernel_rfl
theorem errEq (W : World) (a : Addr) : (binOp .eql 27 (.iface 121 (.pointer (some a))) (.iface 121 (.pointer (some a)))).run Tryd.prog W = .ok (.bool true) W := by
  obtain ⟨i, hi, hci⟩ := Option.map_eq_some_iff.1 (show (Tryd.prog.info? 121).map (·.comparable) = some true by kernel_rfl)
  obtain ⟨j, hj, _⟩ := Option.map_eq_some_iff.1 (show (Tryd.prog.info? 137).map (·.comparable) = some true by kernel_rfl)
  exact run_eql_iface_ptr_same W a Tryd.underlying27 Tryd.underlying121 hi hci hj
theorem err_neqF {w : World} {tp : TypeId} {g g' : Nat} {x y : List UInt8} {a b : Addr} (h : Sent w tp g x a) (h' : Sent w tp g' y b) (hne : x ≠ y) :
    (binOp .eql 27 (.iface 121 (.pointer (some a))) (.iface 121 (.pointer (some b)))).run Tryd.prog w = .ok (.bool false) w := by
  obtain ⟨i, hi, hci⟩ := Option.map_eq_some_iff.1 Tryd.compErrF
  obtain ⟨j, hj, hcj⟩ := Option.map_eq_some_iff.1 Tryd.sizeErrF
  obtain ⟨c, t, ha⟩ := h.blk
  obtain ⟨c', t', hb⟩ := h'.blk
  exact run_eql_iface_ptr_other w Tryd.underlying27 Tryd.underlying121 hi hci hj (by rw [hcj]; decide) (h.ne h' hne) ha hb
def te0 : List UInt8 := [99, 111, 110, 99, 111, 114, 100, 58, 32, 116, 111, 111, 32, 115, 104, 111, 114, 116]
def te1 : List UInt8 := [99, 111, 110, 99, 111, 114, 100, 58, 32, 118, 97, 114, 105, 110, 116]
def te2 : List UInt8 := [99, 111, 110, 99, 111, 114, 100, 58, 32, 108, 105, 109, 105, 116]
def te3 : List UInt8 := [99, 111, 110, 99, 111, 114, 100, 58, 32, 111, 114, 100, 101, 114]
def te4 : List UInt8 := [99, 111, 110, 99, 111, 114, 100, 58, 32, 116, 97, 105, 108]
def te5 : List UInt8 := [99, 111, 110, 99, 111, 114, 100, 58, 32, 116, 97, 103]
def te6 : List UInt8 := [99, 111, 110, 99, 111, 114, 100, 58, 32, 115, 117, 109]
def te7 : List UInt8 := [99, 111, 110, 99, 111, 114, 100, 58, 32, 114, 97, 110, 103, 101]
def te8 : List UInt8 := [99, 111, 110, 99, 111, 114, 100, 58, 32, 115, 105, 122, 101]
def te9 : List UInt8 := [99, 111, 110, 99, 111, 114, 100, 58, 32, 99, 111, 114, 114, 117, 112, 116]
def te10 : List UInt8 := [99, 111, 110, 99, 111, 114, 100, 58, 32, 115, 99, 104, 101, 109, 97]
def te11 : List UInt8 := [99, 111, 110, 99, 111, 114, 100, 58, 32, 102, 105, 101, 108, 100]
def te12 : List UInt8 := [99, 111, 110, 99, 111, 114, 100, 58, 32, 118, 97, 108, 117, 101]
/-- The errors, as they lie. -/
structure Errs13 (w : World) (ad : Nat → Addr) : Prop where
  s0 : Sent w 121 2 te0 (ad 0)
  s1 : Sent w 121 3 te1 (ad 1)
  s2 : Sent w 121 0 te2 (ad 2)
  s3 : Sent w 121 1 te3 (ad 3)
  s4 : Sent w 121 4 te4 (ad 4)
  s5 : Sent w 121 5 te5 (ad 5)
  s6 : Sent w 121 6 te6 (ad 6)
  s7 : Sent w 121 7 te7 (ad 7)
  s8 : Sent w 121 8 te8 (ad 8)
  s9 : Sent w 121 9 te9 (ad 9)
  s10 : Sent w 121 10 te10 (ad 10)
  s11 : Sent w 121 11 te11 (ad 11)
  s12 : Sent w 121 12 te12 (ad 12)
theorem Errs13.kept {w w' : World} {ad : Nat → Addr} (h : Errs13 w ad) (k : Kept (fun _ => False) w w') : Errs13 w' ad :=
  ⟨h.s0.kept k, h.s1.kept k, h.s2.kept k, h.s3.kept k, h.s4.kept k, h.s5.kept k, h.s6.kept k, h.s7.kept k, h.s8.kept k, h.s9.kept k, h.s10.kept k, h.s11.kept k, h.s12.kept k⟩
theorem num_nil (w : World) : Calls Tryd.prog 8 #[.nilIface] w fun e w' => e = .returned (.int .i64 0) ∧ w' = w := by
  go_enter Tryd.func8, Tryd.ntmps8
  go_wp2
  go_ret
  exact ⟨rfl, rfl⟩
set_option maxRecDepth 20000 in
set_option maxHeartbeats 1000000 in
theorem num_limit {w : World} {ad : Nat → Addr} (h : Errs13 w ad) : Calls Tryd.prog 8 #[.iface 121 (.pointer (some (ad 2)))] w fun e w' => e = .returned (.int .i64 3) ∧ w' = w := by
  have v0 := h.s0.var
  have v1 := h.s1.var
  have v2 := h.s2.var
  have e0 := err_neqF h.s2 h.s0 (by decide)
  have e1 := err_neqF h.s2 h.s1 (by decide)
  have e2 := errEq w (ad 2)
  clear h
  go_enter Tryd.func8, Tryd.ntmps8
  go_wp2
  go_ret
  exact ⟨rfl, rfl⟩
set_option maxRecDepth 20000 in
set_option maxHeartbeats 1000000 in
theorem num_order {w : World} {ad : Nat → Addr} (h : Errs13 w ad) : Calls Tryd.prog 8 #[.iface 121 (.pointer (some (ad 3)))] w fun e w' => e = .returned (.int .i64 4) ∧ w' = w := by
  have v0 := h.s0.var
  have v1 := h.s1.var
  have v2 := h.s2.var
  have v3 := h.s3.var
  have e0 := err_neqF h.s3 h.s0 (by decide)
  have e1 := err_neqF h.s3 h.s1 (by decide)
  have e2 := err_neqF h.s3 h.s2 (by decide)
  have e3 := errEq w (ad 3)
  clear h
  go_enter Tryd.func8, Tryd.ntmps8
  go_wp2
  go_ret
  exact ⟨rfl, rfl⟩
set_option maxRecDepth 20000 in
set_option maxHeartbeats 1000000 in
theorem num_corrupt {w : World} {ad : Nat → Addr} (h : Errs13 w ad) : Calls Tryd.prog 8 #[.iface 121 (.pointer (some (ad 9)))] w fun e w' => e = .returned (.int .i64 10) ∧ w' = w := by
  have v0 := h.s0.var
  have v1 := h.s1.var
  have v2 := h.s2.var
  have v3 := h.s3.var
  have v4 := h.s4.var
  have v5 := h.s5.var
  have v6 := h.s6.var
  have v7 := h.s7.var
  have v8 := h.s8.var
  have v9 := h.s9.var
  have e0 := err_neqF h.s9 h.s0 (by decide)
  have e1 := err_neqF h.s9 h.s1 (by decide)
  have e2 := err_neqF h.s9 h.s2 (by decide)
  have e3 := err_neqF h.s9 h.s3 (by decide)
  have e4 := err_neqF h.s9 h.s4 (by decide)
  have e5 := err_neqF h.s9 h.s5 (by decide)
  have e6 := err_neqF h.s9 h.s6 (by decide)
  have e7 := err_neqF h.s9 h.s7 (by decide)
  have e8 := err_neqF h.s9 h.s8 (by decide)
  have e9 := errEq w (ad 9)
  clear h
  go_enter Tryd.func8, Tryd.ntmps8
  go_wp2
  go_ret
  exact ⟨rfl, rfl⟩
theorem Errs13.toO {w : World} {ad : Nat → Addr} (h : Errs13 w ad) : ErO w ad := ⟨h.s0.var, h.s1.var, h.s2.var, h.s4.var, h.s9.var⟩
end Go.Proofs.YtcanbhbhdgogoaaDoor
namespace Go.Proofs.YtcanbhbhdgogoaaDoor
open Go.ChangeShapes Go.WideShapes Go.ChangeAt Go.RowKit

def twoE : List En := [⟨⟨#[97, 98]⟩, 1, 2, 0, 5⟩, ⟨⟨#[97, 98, 100]⟩, 1, 1, 5, 130⟩]
def twoB : List Int := [2, 16, 0, 2, 97, 98, 1, 2, 0, 5, 2, 1, 100, 1, 1, 5, 130, 1]
theorem uvb130 : uvb 130 = [130, 1] := by rw [uvb_big (by decide), uvb_small (by decide)]; rfl
theorem twoE_gen : ∀ e ∈ twoE, Gen e := all_gen.1 (by decide)
theorem klt_eq (a b : ByteArray) : klt a b = Op.bytesLess a.data.toList b.data.toList := by unfold klt; rw [ByteArray.toList_eq, ByteArray.toList_eq]
theorem twoE_good : Good twoE := ⟨twoE_gen, by rw [klt_eq]; decide, by rw [klt_eq]; decide, trivial⟩
theorem two_een1 : een ByteArray.empty ⟨⟨#[97, 98]⟩, 1, 2, 0, 5⟩ = [0, 2, 97, 98, 1, 2, 0, 5] := by
  have h : shr (ByteArray.empty).data.toList (⟨#[97, 98]⟩ : ByteArray).data.toList = 0 := by decide
  unfold een
  simp only
  rw [h, uvb_small (by decide), uvb_small (by decide), uvb_small (by decide), uvb_small (by decide), uvb_small (by decide), uvb_small (by decide)]
  rfl
theorem two_een2 : een ⟨#[97, 98]⟩ ⟨⟨#[97, 98, 100]⟩, 1, 1, 5, 130⟩ = [2, 1, 100, 1, 1, 5, 130, 1] := by
  have h : shr (⟨#[97, 98]⟩ : ByteArray).data.toList (⟨#[97, 98, 100]⟩ : ByteArray).data.toList = 2 := by decide
  have h130 : uvb (130 : Int).toNat = [130, 1] := uvb130
  unfold een
  simp only
  rw [h, h130, uvb_small (by decide), uvb_small (by decide), uvb_small (by decide), uvb_small (by decide)]
  rfl
theorem two_img : img twoE = twoB := by
  have h1 : chs (nbk twoE.length) twoE = [twoE] := rfl
  have h2 : ebl ByteArray.empty twoE = [0, 2, 97, 98, 1, 2, 0, 5] ++ [2, 1, 100, 1, 1, 5, 130, 1] := by
    show een ByteArray.empty _ ++ (een _ _ ++ []) = _
    rw [two_een1, two_een2]
    rfl
  have h3 : hdL [twoE] = [16] := by
    show uvb (ebl ByteArray.empty twoE).length ++ [] = _
    rw [h2, uvb_small (by decide)]
    rfl
  have h4 : bdL [twoE] = [0, 2, 97, 98, 1, 2, 0, 5] ++ [2, 1, 100, 1, 1, 5, 130, 1] := by
    show ebl ByteArray.empty twoE ++ [] = _
    rw [h2]
    rfl
  rw [img, h1, h3, h4, uvb_small (by decide)]
  rfl
theorem two_opn : opn twoB = some twoE := by
  have := opn_put twoE_good (by rw [two_img]; decide)
  rwa [two_img] at this
theorem nil_opn : opn [] = none := by decide
theorem two_find {i : Nat} {b : Bool} (h : Fnd twoE ⟨#[97, 98, 100]⟩ i b) : i = 1 ∧ b = true := by
  obtain ⟨r, ⟨h1, h2, h3⟩, h4⟩ := h
  have h1' : r ≤ 2 := h1
  obtain rfl | rfl | rfl : r = 0 ∨ r = 1 ∨ r = 2 := by omega
  · exfalso
    rcases h3 with h3 | h3
    · exact absurd h3 (by decide)
    · exact absurd h3 (by rw [klt_eq]; decide)
  · rcases h4 with ⟨hb, -, -, hi⟩ | ⟨-, -, hk⟩
    · exact ⟨hi, hb⟩
    · exfalso
      rcases hk with hk | hk
      · exact absurd hk (by decide)
      · exact hk rfl
  · exfalso
    rcases h2 with h2 | h2
    · exact absurd h2 (by decide)
    · exact absurd h2 (by rw [klt_eq]; decide)
theorem twoB_isb : IsBytes twoB := by
  intro x hx
  simp only [twoB, List.mem_cons, List.not_mem_nil, or_false] at hx
  omega
set_option maxRecDepth 20000 in
set_option maxHeartbeats 4000000 in
theorem two_any (w : World) : Calls Tryd.prog 5 #[] w fun e w' => e = .returned (.slice (some ⟨w.heap.size, 0, none⟩) 2 2) ∧ EsAt w' (some ⟨w.heap.size, 0, none⟩) twoE ∧ Kept (fun _ => False) w w' := by
  go_enter Tryd.func5, Tryd.ntmps5
  go_wp2
  go_ret
  refine ⟨rfl, fun _ => ⟨w.heap.size, 0, rfl, fun k hk => ?_⟩, Kept.alloc _ _⟩
  have hk2 : k < 2 := hk
  obtain rfl | rfl : k = 0 ∨ k = 1 := by omega
  · simp [twoE]
  · simp [twoE]
set_option maxRecDepth 20000 in
set_option maxHeartbeats 8000000 in
theorem fixed_any (ad : Nat → Addr) (w : World) (hE : Errs13 w ad) : Calls Tryd.prog 4 #[] w fun e w' => e = .returned (.bool true) ∧ Kept (fun _ => False) w w' := by
  have HE := hideQ hE
  clear hE
  go_enter Tryd.func4, Tryd.ntmps4
  go_wp2_with fail
  go_at_call 5
  refine (two_any _).mono ?_
  rintro e W1 ⟨rfl, hT, K1⟩
  have CB := hideQ (build_good twoE _ 2 W1 hT (by decide) (by decide) twoE_good)
  rw [two_img] at CB
  have HK1 := hideQ K1
  clear hT K1
  go_wp2_with fail
  go_at_call 6
  refine CB.out.mono ?_
  rintro e W2 ⟨⟨g, hg, rfl, ho⟩, K2⟩
  clear CB
  have hB2 : BytesAt W2 (some ⟨g, 0, none⟩) twoB := by
    obtain ⟨a', c', e', h', -⟩ := bytes_of_own ho
    simp only [Value.slice.injEq, true_and] at e'
    exact e'.1 ▸ h'
  have HK2 := hideQ (HK1.out.trans K2 (fun _ f => f.elim))
  have KA := Kept.alloc W2 (.cells (bs twoB).toArray 5)
  have hL : BytesAt (W2.alloc (.cells (bs twoB).toArray 5)) (some ⟨W2.heap.size, 0, none⟩) twoB := fun _ => ⟨W2.heap.size, 0, rfl, fun k hk => by
    rw [Nat.zero_add]
    have h9 : (bs twoB)[k]? = some (.int .u8 (twoB[k]?.getD 0)) := by
      rw [bs, List.getElem?_map, List.getElem?_eq_getElem hk]
      rfl
    simpa using h9⟩
  have CQ := hideQ (equalD_any twoB twoB _ _ 18 18 _ (hB2.keptO KA) hL)
  rw [eqD_dec twoB_isb twoB_isb, decide_eq_true rfl] at CQ
  have HB3 := hideQ (hB2.keptO KA)
  have HK3 := hideQ (HK2.out.trans KA (fun _ f => f.elim))
  clear hB2 hL KA K2 ho HK1 HK2
  go_wp2_with (go_at_call 9; refine Stp.go ?_)
  refine ⟨?_⟩
  refine CQ.out.mono ?_
  rintro e W3 ⟨rfl, hW3⟩
  rw [← hW3] at HB3 HK3
  clear hW3 CQ
  have CO := hideQ (open_any twoB (some ⟨g, 0, none⟩) twoB.length ad W3 HB3.out twoB_isb (by decide) (HE.out.kept HK3.out).toO)
  rw [two_opn] at CO
  go_wp2_with (go_at_call 11; refine Stp.go ?_)
  refine ⟨?_⟩
  refine CO.out.mono ?_
  rintro e W4 ⟨⟨bd, va, rfl, hD⟩, K4⟩
  have HD4 := hideQ hD
  have HK4 := hideQ (HK3.out.trans K4 (fun _ f => f.elim))
  clear hD K4 CO HK3 HB3
  have CF := hideQ (find_any ⟨#[97, 98, 100]⟩ W4 _ bd va twoE HD4.out (by decide))
  go_wp2_with (go_at_call 17; refine Stp.go ?_)
  refine ⟨?_⟩
  refine CF.out.mono ?_
  rintro e W5 ⟨⟨i, b, rfl, hF⟩, K5⟩
  obtain ⟨rfl, rfl⟩ := two_find hF
  have HD5 := hideQ (HD4.out.kept K5)
  have HK5 := hideQ (HK4.out.trans K5 (fun _ f => f.elim))
  clear hF K5 CF HD4 HK4
  have CO := hideQ (open_any [] none 0 ad W5 (fun h => absurd rfl h) (fun x hx => by cases hx) (by decide) (HE.out.kept HK5.out).toO)
  rw [nil_opn] at CO
  go_wp2_with (go_at_call 11; refine Stp.go ?_)
  refine ⟨?_⟩
  refine CO.out.mono ?_
  rintro e W6 ⟨he, K6⟩
  obtain rfl : e = .returned (.tuple #[.pointer none, errV (ad 9)]) := he
  have HD6 := hideQ (HD5.out.kept K6)
  have HK6 := hideQ (HK5.out.trans K6 (fun _ f => f.elim))
  have CN := hideQ (num_corrupt (HE.out.kept HK6.out))
  have CL := hideQ (len_any W6 _ bd va twoE HD6.out)
  clear K6 CO HD5 HK5
  go_wp2_with (first
    | (go_at_call 18; refine CL.out.mono ?_; rintro e W7 ⟨rfl, e7⟩; subst e7)
    | (go_at_call 8; refine CN.out.mono ?_; rintro e W8 ⟨rfl, e8⟩; subst e8))
  go_ret
  exact ⟨rfl, HK6.out⟩
end Go.Proofs.YtcanbhbhdgogoaaDoor
