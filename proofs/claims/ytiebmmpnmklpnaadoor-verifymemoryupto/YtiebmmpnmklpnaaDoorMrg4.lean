import Derived.Test.YtiebmmpnmklpnaaDoorRows
import Derived.WalkKit
import Derived.ProofKit
import Derived.OpenShut
import Derived.WalkLawsBesides
import Derived.LaidLaws
import Derived.LaidEql
import Derived.Stop.LaidErr
import Derived.Test.YtiebmmpnmklpnaaDoorBase
import Derived.Test.YtiebmmpnmklpnaaDoorIzc
import Derived.Test.YtiebmmpnmklpnaaDoorFrm
import Derived.Lib.LaidTab
import Derived.Test.YtiebmmpnmklpnaaDoorIzf
namespace Go.Proofs.YtiebmmpnmklpnaaDoor
open Go.ChangeShapes Go.WideShapes Go.ChangeAt Go.RowKit

/-- What a listed error gives: the variable's cell, the text behind its pointer, and that the block is plain. -/
structure Sent (W : World) (tp : TypeId) (g : Nat) (text : List UInt8) (a : Addr) : Prop where
  var : W.cell? ⟨g, 0, none⟩ = some (.iface tp (.pointer (some a)))
  cell : W.cell? a = some (.string ⟨⟨text⟩⟩)
  blk : ∃ c t, W.heap[a.block]? = some (.cells c t (0, 0))

theorem sent_head {P : Program} {n nm : String} {text : List UInt8} {r : List (String × DataW Unit)} {W : World} {g : Nat} {ti tp te ts : TypeId} {ms : Array (String × TypeId)} {f : Field}
    (h : laidMet P ((n, .iface nm (.ptr (.agg [.lit (.string text)]))) :: r) W)
    (hg : P.globalNamed n = some g) (ht : (P.globals[g]?).map (·.type) = some ti) (hi : P.underlying ti = some (.interface ms)) (hrow : ∀ u, P.typeName? 3 u = some nm → u = tp)
    (hp : P.underlying tp = some (.pointer te)) (he : P.underlying te = some (.struct #[f])) (hft : f.type = ts) (hfo : f.offset = 0) (hs : P.underlying ts = some .string) (hc : P.cellsOf te = 1) (hcs : P.cellsOf ts = 1) :
    ∃ a, Sent W tp g text a := by
  obtain ⟨ps, ⟨g0, t0, cs0, f0, p0, q0, hg0, ht0, hv0, hd0, _, e0⟩, _, hrows⟩ := h
  obtain rfl := Option.some.inj (hg.symm.trans hg0)
  obtain rfl := Option.some.inj (ht.symm.trans ht0)
  subst e0
  obtain ⟨l0⟩ := cs0
  have ok0 : ∀ u v, l0 = [.iface u v] → Value.okWide P W .any 0 u v := fun u v e => by
    subst e
    exact (hrows g 0 (by simp [MemPlace.row])).2 u v (by simpa using World.var?_cell hg0 hv0 0)
  obtain ⟨a0, s0, rfl, hc0, hs0, hz0, hp0⟩ := errorString_of_trod hi hrow hp he hft hfo hs hc hcs hd0 ok0
  have hs1 : s0 = ⟨⟨text⟩⟩ := by
    obtain ⟨⟨l⟩⟩ := s0
    simp at hs0
    rw [hs0]
  subst hs1
  refine ⟨a0, by simpa using World.var?_cell hg0 hv0 0, hc0, ?_⟩
  subst hp0
  exact (hrows a0.block a0.off (by simp [MemPlace.row])).1

theorem laidMet_mem {P : Program} {L : List (String × DataW Unit)} {W : World} (h : laidMet P L W) : ∀ x ∈ L, ∃ r, laidMet P (x :: r) W := by
  induction L with
  | nil => intro x hx; cases hx
  | cons y r ih =>
    intro x hx
    rcases List.mem_cons.1 hx with rfl | hx
    · exact ⟨r, h⟩
    · exact ih h.tail x hx

theorem Tryd.cellsStr : Tryd.prog.cellsOf 9 = 1 := by kernel_rfl
theorem Tryd.star : "*" ++ "errors.errorString" = "*errors.errorString" := by decide
theorem Tryd.rowErr (u : TypeId) (h : Tryd.prog.typeName? 3 u = some "*errors.errorString") : u = 120 :=
  typeName_ptr_named (nm := "errors.errorString") (by rw [Tryd.star]; kernel_rfl) (by kernel_rfl) (by decide) u (by rw [Tryd.star]; exact h)
theorem Tryd.cellsErr : Tryd.prog.cellsOf 137 = 1 := by kernel_rfl
theorem Tryd.g_ErrShort : Tryd.prog.globalNamed "concord/api.ErrShort" = some 1 := by kernel_rfl
theorem Tryd.gt_ErrShort : (Tryd.prog.globals[1]?).map (·.type) = some 33 := by kernel_rfl
theorem sent0 {W : World} {L : List (String × DataW Unit)} (h : laidMet Tryd.prog L W) (hm : ("concord/api.ErrShort", Rows.laid_concord_api_ErrShort) ∈ L) : ∃ a, Sent W 120 1 ([99, 111, 110, 99, 111, 114, 100, 58, 32, 116, 111, 111, 32, 115, 104, 111, 114, 116]) a := by
  obtain ⟨r, h⟩ := laidMet_mem h _ hm
  exact sent_head h Tryd.g_ErrShort Tryd.gt_ErrShort Tryd.underlying33 Tryd.rowErr Tryd.underlying120 Tryd.underlying137 rfl rfl Tryd.underlying9 Tryd.cellsErr Tryd.cellsStr
theorem Tryd.g_ErrVarint : Tryd.prog.globalNamed "concord/api.ErrVarint" = some 2 := by kernel_rfl
theorem Tryd.gt_ErrVarint : (Tryd.prog.globals[2]?).map (·.type) = some 33 := by kernel_rfl
theorem sent1 {W : World} {L : List (String × DataW Unit)} (h : laidMet Tryd.prog L W) (hm : ("concord/api.ErrVarint", Rows.laid_concord_api_ErrVarint) ∈ L) : ∃ a, Sent W 120 2 ([99, 111, 110, 99, 111, 114, 100, 58, 32, 118, 97, 114, 105, 110, 116]) a := by
  obtain ⟨r, h⟩ := laidMet_mem h _ hm
  exact sent_head h Tryd.g_ErrVarint Tryd.gt_ErrVarint Tryd.underlying33 Tryd.rowErr Tryd.underlying120 Tryd.underlying137 rfl rfl Tryd.underlying9 Tryd.cellsErr Tryd.cellsStr
theorem Tryd.g_ErrLimit : Tryd.prog.globalNamed "concord/api.ErrLimit" = some 3 := by kernel_rfl
theorem Tryd.gt_ErrLimit : (Tryd.prog.globals[3]?).map (·.type) = some 33 := by kernel_rfl
theorem sent2 {W : World} {L : List (String × DataW Unit)} (h : laidMet Tryd.prog L W) (hm : ("concord/api.ErrLimit", Rows.laid_concord_api_ErrLimit) ∈ L) : ∃ a, Sent W 120 3 ([99, 111, 110, 99, 111, 114, 100, 58, 32, 108, 105, 109, 105, 116]) a := by
  obtain ⟨r, h⟩ := laidMet_mem h _ hm
  exact sent_head h Tryd.g_ErrLimit Tryd.gt_ErrLimit Tryd.underlying33 Tryd.rowErr Tryd.underlying120 Tryd.underlying137 rfl rfl Tryd.underlying9 Tryd.cellsErr Tryd.cellsStr
theorem Tryd.g_ErrOrder : Tryd.prog.globalNamed "concord/api.ErrOrder" = some 4 := by kernel_rfl
theorem Tryd.gt_ErrOrder : (Tryd.prog.globals[4]?).map (·.type) = some 33 := by kernel_rfl
theorem sent3 {W : World} {L : List (String × DataW Unit)} (h : laidMet Tryd.prog L W) (hm : ("concord/api.ErrOrder", Rows.laid_concord_api_ErrOrder) ∈ L) : ∃ a, Sent W 120 4 ([99, 111, 110, 99, 111, 114, 100, 58, 32, 111, 114, 100, 101, 114]) a := by
  obtain ⟨r, h⟩ := laidMet_mem h _ hm
  exact sent_head h Tryd.g_ErrOrder Tryd.gt_ErrOrder Tryd.underlying33 Tryd.rowErr Tryd.underlying120 Tryd.underlying137 rfl rfl Tryd.underlying9 Tryd.cellsErr Tryd.cellsStr
theorem Tryd.g_ErrTail : Tryd.prog.globalNamed "concord/api.ErrTail" = some 5 := by kernel_rfl
theorem Tryd.gt_ErrTail : (Tryd.prog.globals[5]?).map (·.type) = some 33 := by kernel_rfl
theorem sent4 {W : World} {L : List (String × DataW Unit)} (h : laidMet Tryd.prog L W) (hm : ("concord/api.ErrTail", Rows.laid_concord_api_ErrTail) ∈ L) : ∃ a, Sent W 120 5 ([99, 111, 110, 99, 111, 114, 100, 58, 32, 116, 97, 105, 108]) a := by
  obtain ⟨r, h⟩ := laidMet_mem h _ hm
  exact sent_head h Tryd.g_ErrTail Tryd.gt_ErrTail Tryd.underlying33 Tryd.rowErr Tryd.underlying120 Tryd.underlying137 rfl rfl Tryd.underlying9 Tryd.cellsErr Tryd.cellsStr
theorem Tryd.g_ErrTag : Tryd.prog.globalNamed "concord/api.ErrTag" = some 6 := by kernel_rfl
theorem Tryd.gt_ErrTag : (Tryd.prog.globals[6]?).map (·.type) = some 33 := by kernel_rfl
theorem sent5 {W : World} {L : List (String × DataW Unit)} (h : laidMet Tryd.prog L W) (hm : ("concord/api.ErrTag", Rows.laid_concord_api_ErrTag) ∈ L) : ∃ a, Sent W 120 6 ([99, 111, 110, 99, 111, 114, 100, 58, 32, 116, 97, 103]) a := by
  obtain ⟨r, h⟩ := laidMet_mem h _ hm
  exact sent_head h Tryd.g_ErrTag Tryd.gt_ErrTag Tryd.underlying33 Tryd.rowErr Tryd.underlying120 Tryd.underlying137 rfl rfl Tryd.underlying9 Tryd.cellsErr Tryd.cellsStr
theorem Tryd.g_ErrSum : Tryd.prog.globalNamed "concord/api.ErrSum" = some 7 := by kernel_rfl
theorem Tryd.gt_ErrSum : (Tryd.prog.globals[7]?).map (·.type) = some 33 := by kernel_rfl
theorem sent6 {W : World} {L : List (String × DataW Unit)} (h : laidMet Tryd.prog L W) (hm : ("concord/api.ErrSum", Rows.laid_concord_api_ErrSum) ∈ L) : ∃ a, Sent W 120 7 ([99, 111, 110, 99, 111, 114, 100, 58, 32, 115, 117, 109]) a := by
  obtain ⟨r, h⟩ := laidMet_mem h _ hm
  exact sent_head h Tryd.g_ErrSum Tryd.gt_ErrSum Tryd.underlying33 Tryd.rowErr Tryd.underlying120 Tryd.underlying137 rfl rfl Tryd.underlying9 Tryd.cellsErr Tryd.cellsStr
theorem Tryd.g_ErrRange : Tryd.prog.globalNamed "concord/api.ErrRange" = some 8 := by kernel_rfl
theorem Tryd.gt_ErrRange : (Tryd.prog.globals[8]?).map (·.type) = some 33 := by kernel_rfl
theorem sent7 {W : World} {L : List (String × DataW Unit)} (h : laidMet Tryd.prog L W) (hm : ("concord/api.ErrRange", Rows.laid_concord_api_ErrRange) ∈ L) : ∃ a, Sent W 120 8 ([99, 111, 110, 99, 111, 114, 100, 58, 32, 114, 97, 110, 103, 101]) a := by
  obtain ⟨r, h⟩ := laidMet_mem h _ hm
  exact sent_head h Tryd.g_ErrRange Tryd.gt_ErrRange Tryd.underlying33 Tryd.rowErr Tryd.underlying120 Tryd.underlying137 rfl rfl Tryd.underlying9 Tryd.cellsErr Tryd.cellsStr
theorem Tryd.g_ErrSize : Tryd.prog.globalNamed "concord/api.ErrSize" = some 9 := by kernel_rfl
theorem Tryd.gt_ErrSize : (Tryd.prog.globals[9]?).map (·.type) = some 33 := by kernel_rfl
theorem sent8 {W : World} {L : List (String × DataW Unit)} (h : laidMet Tryd.prog L W) (hm : ("concord/api.ErrSize", Rows.laid_concord_api_ErrSize) ∈ L) : ∃ a, Sent W 120 9 ([99, 111, 110, 99, 111, 114, 100, 58, 32, 115, 105, 122, 101]) a := by
  obtain ⟨r, h⟩ := laidMet_mem h _ hm
  exact sent_head h Tryd.g_ErrSize Tryd.gt_ErrSize Tryd.underlying33 Tryd.rowErr Tryd.underlying120 Tryd.underlying137 rfl rfl Tryd.underlying9 Tryd.cellsErr Tryd.cellsStr
theorem Tryd.g_ErrCorrupt : Tryd.prog.globalNamed "concord/api.ErrCorrupt" = some 10 := by kernel_rfl
theorem Tryd.gt_ErrCorrupt : (Tryd.prog.globals[10]?).map (·.type) = some 33 := by kernel_rfl
theorem sent9 {W : World} {L : List (String × DataW Unit)} (h : laidMet Tryd.prog L W) (hm : ("concord/api.ErrCorrupt", Rows.laid_concord_api_ErrCorrupt) ∈ L) : ∃ a, Sent W 120 10 ([99, 111, 110, 99, 111, 114, 100, 58, 32, 99, 111, 114, 114, 117, 112, 116]) a := by
  obtain ⟨r, h⟩ := laidMet_mem h _ hm
  exact sent_head h Tryd.g_ErrCorrupt Tryd.gt_ErrCorrupt Tryd.underlying33 Tryd.rowErr Tryd.underlying120 Tryd.underlying137 rfl rfl Tryd.underlying9 Tryd.cellsErr Tryd.cellsStr
end Go.Proofs.YtiebmmpnmklpnaaDoor
namespace Go.Proofs.YtiebmmpnmklpnaaDoor
open Go.ChangeShapes Go.WideShapes Go.ChangeAt Go.RowKit

theorem Tryd.g_ErrSchema : Tryd.prog.globalNamed "concord/api.ErrSchema" = some 11 := by kernel_rfl
theorem Tryd.gt_ErrSchema : (Tryd.prog.globals[11]?).map (·.type) = some 33 := by kernel_rfl
theorem sent10 {W : World} {L : List (String × DataW Unit)} (h : laidMet Tryd.prog L W) (hm : ("concord/api.ErrSchema", Rows.laid_concord_api_ErrSchema) ∈ L) : ∃ a, Sent W 120 11 [99, 111, 110, 99, 111, 114, 100, 58, 32, 115, 99, 104, 101, 109, 97] a := by
  obtain ⟨r, h⟩ := laidMet_mem h _ hm
  exact sent_head h Tryd.g_ErrSchema Tryd.gt_ErrSchema Tryd.underlying33 Tryd.rowErr Tryd.underlying120 Tryd.underlying137 rfl rfl Tryd.underlying9 Tryd.cellsErr Tryd.cellsStr
theorem Tryd.g_ErrField : Tryd.prog.globalNamed "concord/api.ErrField" = some 12 := by kernel_rfl
theorem Tryd.gt_ErrField : (Tryd.prog.globals[12]?).map (·.type) = some 33 := by kernel_rfl
theorem sent11 {W : World} {L : List (String × DataW Unit)} (h : laidMet Tryd.prog L W) (hm : ("concord/api.ErrField", Rows.laid_concord_api_ErrField) ∈ L) : ∃ a, Sent W 120 12 [99, 111, 110, 99, 111, 114, 100, 58, 32, 102, 105, 101, 108, 100] a := by
  obtain ⟨r, h⟩ := laidMet_mem h _ hm
  exact sent_head h Tryd.g_ErrField Tryd.gt_ErrField Tryd.underlying33 Tryd.rowErr Tryd.underlying120 Tryd.underlying137 rfl rfl Tryd.underlying9 Tryd.cellsErr Tryd.cellsStr
theorem Tryd.g_ErrValue : Tryd.prog.globalNamed "concord/api.ErrValue" = some 13 := by kernel_rfl
theorem Tryd.gt_ErrValue : (Tryd.prog.globals[13]?).map (·.type) = some 33 := by kernel_rfl
theorem sent12 {W : World} {L : List (String × DataW Unit)} (h : laidMet Tryd.prog L W) (hm : ("concord/api.ErrValue", Rows.laid_concord_api_ErrValue) ∈ L) : ∃ a, Sent W 120 13 [99, 111, 110, 99, 111, 114, 100, 58, 32, 118, 97, 108, 117, 101] a := by
  obtain ⟨r, h⟩ := laidMet_mem h _ hm
  exact sent_head h Tryd.g_ErrValue Tryd.gt_ErrValue Tryd.underlying33 Tryd.rowErr Tryd.underlying120 Tryd.underlying137 rfl rfl Tryd.underlying9 Tryd.cellsErr Tryd.cellsStr
end Go.Proofs.YtiebmmpnmklpnaaDoor
namespace Go.Proofs.YtiebmmpnmklpnaaDoor
open Go.ChangeShapes Go.WideShapes Go.ChangeAt Go.RowKit

theorem Tryd.g_ErrPattern : Tryd.prog.globalNamed "concord/api.ErrPattern" = some 14 := by kernel_rfl
theorem Tryd.gt_ErrPattern : (Tryd.prog.globals[14]?).map (·.type) = some 33 := by kernel_rfl
theorem sent13 {W : World} {L : List (String × DataW Unit)} (h : laidMet Tryd.prog L W) (hm : ("concord/api.ErrPattern", Rows.laid_concord_api_ErrPattern) ∈ L) : ∃ a, Sent W 120 14 [99, 111, 110, 99, 111, 114, 100, 58, 32, 112, 97, 116, 116, 101, 114, 110] a := by
  obtain ⟨r, h⟩ := laidMet_mem h _ hm
  exact sent_head h Tryd.g_ErrPattern Tryd.gt_ErrPattern Tryd.underlying33 Tryd.rowErr Tryd.underlying120 Tryd.underlying137 rfl rfl Tryd.underlying9 Tryd.cellsErr Tryd.cellsStr
theorem Sent.kept {w w' : World} {tp : TypeId} {g : Nat} {text : List UInt8} {a : Addr} (h : Sent w tp g text a) (k : Kept (fun _ => False) w w') : Sent w' tp g text a := by
  obtain ⟨c, t, hb⟩ := h.blk
  exact ⟨k.cell h.var (fun f => f), k.cell h.cell (fun f => f), c, t, k.heap hb (fun f => f)⟩
theorem Sent.ne {w : World} {tp : TypeId} {g g' : Nat} {x y : List UInt8} {a b : Addr} (h : Sent w tp g x a) (h' : Sent w tp g' y b) (hne : x ≠ y) : a ≠ b := by
  intro e
  have h1 := h.cell
  rw [e, h'.cell] at h1
  simp at h1
  exact hne h1.symm
theorem Tryd.compErrF : (Tryd.prog.info? 120).map (·.comparable) = some true := by kernel_rfl
theorem Tryd.sizeErrF : (Tryd.prog.info? 137).map (·.size) = some 1 := by kernel_rfl
theorem errEq (W : World) (a : Addr) : (binOp .eql 33 (.iface 120 (.pointer (some a))) (.iface 120 (.pointer (some a)))).run Tryd.prog W = .ok (.bool true) W := by
  obtain ⟨i, hi, hci⟩ := Option.map_eq_some_iff.1 (show (Tryd.prog.info? 120).map (·.comparable) = some true by kernel_rfl)
  obtain ⟨j, hj, _⟩ := Option.map_eq_some_iff.1 (show (Tryd.prog.info? 137).map (·.comparable) = some true by kernel_rfl)
  exact run_eql_iface_ptr_same W a Tryd.underlying33 Tryd.underlying120 hi hci hj
theorem err_neqF {w : World} {tp : TypeId} {g g' : Nat} {x y : List UInt8} {a b : Addr} (h : Sent w tp g x a) (h' : Sent w tp g' y b) (hne : x ≠ y) :
    (binOp .eql 33 (.iface 120 (.pointer (some a))) (.iface 120 (.pointer (some b)))).run Tryd.prog w = .ok (.bool false) w := by
  obtain ⟨i, hi, hci⟩ := Option.map_eq_some_iff.1 Tryd.compErrF
  obtain ⟨j, hj, hcj⟩ := Option.map_eq_some_iff.1 Tryd.sizeErrF
  obtain ⟨c, t, ha⟩ := h.blk
  obtain ⟨c', t', hb⟩ := h'.blk
  exact run_eql_iface_ptr_other w Tryd.underlying33 Tryd.underlying120 hi hci hj (by rw [hcj]; decide) (h.ne h' hne) ha hb
def te0 : List UInt8 := [99, 111, 110, 99, 111, 114, 100, 58, 32, 116, 111, 111, 32, 115, 104, 111, 114, 116]
def te1 : List UInt8 := [99, 111, 110, 99, 111, 114, 100, 58, 32, 118, 97, 114, 105, 110, 116]
def te2 : List UInt8 := [99, 111, 110, 99, 111, 114, 100, 58, 32, 108, 105, 109, 105, 116]
def te3 : List UInt8 := [99, 111, 110, 99, 111, 114, 100, 58, 32, 111, 114, 100, 101, 114]
def te4 : List UInt8 := [99, 111, 110, 99, 111, 114, 100, 58, 32, 116, 97, 105, 108]
def te5 : List UInt8 := [99, 111, 110, 99, 111, 114, 100, 58, 32, 116, 97, 103]
def te6 : List UInt8 := [99, 111, 110, 99, 111, 114, 100, 58, 32, 115, 117, 109]
def te7 : List UInt8 := [99, 111, 110, 99, 111, 114, 100, 58, 32, 114, 97, 110, 103, 101]
def te8 : List UInt8 := [99, 111, 110, 99, 111, 114, 100, 58, 32, 115, 105, 122, 101]
def te9 : List UInt8 := [99, 111, 110, 99, 111, 114, 100, 58, 32, 99, 111, 114, 114, 117, 112, 116]
def te10 : List UInt8 := [99, 111, 110, 99, 111, 114, 100, 58, 32, 115, 99, 104, 101, 109, 97]
def te11 : List UInt8 := [99, 111, 110, 99, 111, 114, 100, 58, 32, 102, 105, 101, 108, 100]
def te12 : List UInt8 := [99, 111, 110, 99, 111, 114, 100, 58, 32, 118, 97, 108, 117, 101]
def te13 : List UInt8 := [99, 111, 110, 99, 111, 114, 100, 58, 32, 112, 97, 116, 116, 101, 114, 110]
/-- The errors, as they lie. -/
structure Errs14 (w : World) (ad : Nat → Addr) : Prop where
  s0 : Sent w 120 1 te0 (ad 0)
  s1 : Sent w 120 2 te1 (ad 1)
  s2 : Sent w 120 3 te2 (ad 2)
  s3 : Sent w 120 4 te3 (ad 3)
  s4 : Sent w 120 5 te4 (ad 4)
  s5 : Sent w 120 6 te5 (ad 5)
  s6 : Sent w 120 7 te6 (ad 6)
  s7 : Sent w 120 8 te7 (ad 7)
  s8 : Sent w 120 9 te8 (ad 8)
  s9 : Sent w 120 10 te9 (ad 9)
  s10 : Sent w 120 11 te10 (ad 10)
  s11 : Sent w 120 12 te11 (ad 11)
  s12 : Sent w 120 13 te12 (ad 12)
  s13 : Sent w 120 14 te13 (ad 13)
theorem Errs14.kept {w w' : World} {ad : Nat → Addr} (h : Errs14 w ad) (k : Kept (fun _ => False) w w') : Errs14 w' ad :=
  ⟨h.s0.kept k, h.s1.kept k, h.s2.kept k, h.s3.kept k, h.s4.kept k, h.s5.kept k, h.s6.kept k, h.s7.kept k, h.s8.kept k, h.s9.kept k, h.s10.kept k, h.s11.kept k, h.s12.kept k, h.s13.kept k⟩
theorem num_nil (w : World) : Calls Tryd.prog 12 #[.nilIface] w fun e w' => e = .returned (.int .i64 0) ∧ w' = w := by
  go_enter Tryd.func12, Tryd.ntmps12
  go_wp2
  go_ret
  exact ⟨rfl, rfl⟩
set_option maxRecDepth 20000 in
set_option maxHeartbeats 1000000 in
theorem num_range {w : World} {ad : Nat → Addr} (h : Errs14 w ad) : Calls Tryd.prog 12 #[.iface 120 (.pointer (some (ad 7)))] w fun e w' => e = .returned (.int .i64 8) ∧ w' = w := by
  have v0 := h.s0.var
  have v1 := h.s1.var
  have v2 := h.s2.var
  have v3 := h.s3.var
  have v4 := h.s4.var
  have v5 := h.s5.var
  have v6 := h.s6.var
  have v7 := h.s7.var
  have e0 := err_neqF h.s7 h.s0 (by decide)
  have e1 := err_neqF h.s7 h.s1 (by decide)
  have e2 := err_neqF h.s7 h.s2 (by decide)
  have e3 := err_neqF h.s7 h.s3 (by decide)
  have e4 := err_neqF h.s7 h.s4 (by decide)
  have e5 := err_neqF h.s7 h.s5 (by decide)
  have e6 := err_neqF h.s7 h.s6 (by decide)
  have e7 := errEq w (ad 7)
  clear h
  go_enter Tryd.func12, Tryd.ntmps12
  go_wp2
  go_ret
  exact ⟨rfl, rfl⟩
set_option maxRecDepth 20000 in
set_option maxHeartbeats 1000000 in
theorem num_pattern {w : World} {ad : Nat → Addr} (h : Errs14 w ad) : Calls Tryd.prog 12 #[.iface 120 (.pointer (some (ad 13)))] w fun e w' => e = .returned (.int .i64 14) ∧ w' = w := by
  have v0 := h.s0.var
  have v1 := h.s1.var
  have v2 := h.s2.var
  have v3 := h.s3.var
  have v4 := h.s4.var
  have v5 := h.s5.var
  have v6 := h.s6.var
  have v7 := h.s7.var
  have v8 := h.s8.var
  have v9 := h.s9.var
  have v10 := h.s10.var
  have v11 := h.s11.var
  have v12 := h.s12.var
  have v13 := h.s13.var
  have e0 := err_neqF h.s13 h.s0 (by decide)
  have e1 := err_neqF h.s13 h.s1 (by decide)
  have e2 := err_neqF h.s13 h.s2 (by decide)
  have e3 := err_neqF h.s13 h.s3 (by decide)
  have e4 := err_neqF h.s13 h.s4 (by decide)
  have e5 := err_neqF h.s13 h.s5 (by decide)
  have e6 := err_neqF h.s13 h.s6 (by decide)
  have e7 := err_neqF h.s13 h.s7 (by decide)
  have e8 := err_neqF h.s13 h.s8 (by decide)
  have e9 := err_neqF h.s13 h.s9 (by decide)
  have e10 := err_neqF h.s13 h.s10 (by decide)
  have e11 := err_neqF h.s13 h.s11 (by decide)
  have e12 := err_neqF h.s13 h.s12 (by decide)
  have e13 := errEq w (ad 13)
  clear h
  go_enter Tryd.func12, Tryd.ntmps12
  go_wp2
  go_ret
  exact ⟨rfl, rfl⟩
end Go.Proofs.YtiebmmpnmklpnaaDoor
namespace Go.Proofs.YtiebmmpnmklpnaaDoor
open Go.ChangeShapes Go.WideShapes Go.ChangeAt Go.RowKit

theorem Tryd.g_ErrStates : Tryd.prog.globalNamed "concord/api.ErrStates" = some 15 := by kernel_rfl
theorem Tryd.gt_ErrStates : (Tryd.prog.globals[15]?).map (·.type) = some 33 := by kernel_rfl
theorem sent14 {W : World} {L : List (String × DataW Unit)} (h : laidMet Tryd.prog L W) (hm : ("concord/api.ErrStates", Rows.laid_concord_api_ErrStates) ∈ L) : ∃ a, Sent W 120 15 [99, 111, 110, 99, 111, 114, 100, 58, 32, 115, 116, 97, 116, 101, 115] a := by
  obtain ⟨r, h⟩ := laidMet_mem h _ hm
  exact sent_head h Tryd.g_ErrStates Tryd.gt_ErrStates Tryd.underlying33 Tryd.rowErr Tryd.underlying120 Tryd.underlying137 rfl rfl Tryd.underlying9 Tryd.cellsErr Tryd.cellsStr
theorem Tryd.gn_ErrSyntax : Tryd.prog.globalNamed "concord/api.ErrSyntax" = some 16 := by kernel_rfl
theorem Tryd.gnt_ErrSyntax : (Tryd.prog.globals[16]?).map (·.type) = some 33 := by kernel_rfl
theorem sent15 {W : World} {L : List (String × DataW Unit)} (h : laidMet Tryd.prog L W) (hm : ("concord/api.ErrSyntax", Rows.laid_concord_api_ErrSyntax) ∈ L) : ∃ a, Sent W 120 16 [99, 111, 110, 99, 111, 114, 100, 58, 32, 115, 121, 110, 116, 97, 120] a := by
  obtain ⟨r, h⟩ := laidMet_mem h _ hm
  exact sent_head h Tryd.gn_ErrSyntax Tryd.gnt_ErrSyntax Tryd.underlying33 Tryd.rowErr Tryd.underlying120 Tryd.underlying137 rfl rfl Tryd.underlying9 Tryd.cellsErr Tryd.cellsStr
def te14 : List UInt8 := [99, 111, 110, 99, 111, 114, 100, 58, 32, 115, 116, 97, 116, 101, 115]
def te15 : List UInt8 := [99, 111, 110, 99, 111, 114, 100, 58, 32, 115, 121, 110, 116, 97, 120]
theorem hideMore {p : Prop} (h : p) : Hid p := h
structure Errs16 (w : World) (ad : Nat → Addr) : Prop where
  e : Errs14 w ad
  s14 : Sent w 120 15 te14 (ad 14)
  s15 : Sent w 120 16 te15 (ad 15)
theorem Errs16.kept {w w' : World} {ad : Nat → Addr} (h : Errs16 w ad) (k : Kept (fun _ => False) w w') : Errs16 w' ad := ⟨h.e.kept k, h.s14.kept k, h.s15.kept k⟩
set_option maxRecDepth 20000 in
set_option maxHeartbeats 1000000 in
theorem more_syntax {w : World} {ad : Nat → Addr} (h : Errs16 w ad) : Calls Tryd.prog 27 #[.iface 120 (.pointer (some (ad 15)))] w fun e w' => e = .returned (.int .i64 16) ∧ w' = w := by
  have v15 := h.s15.var
  have e15 := errEq w (ad 15)
  clear h
  go_enter Tryd.func27, Tryd.ntmps27
  go_wp2
  go_ret
  exact ⟨rfl, rfl⟩
set_option maxRecDepth 20000 in
set_option maxHeartbeats 1000000 in
theorem num_syntax {w : World} {ad : Nat → Addr} (h : Errs16 w ad) : Calls Tryd.prog 12 #[.iface 120 (.pointer (some (ad 15)))] w fun e w' => e = .returned (.int .i64 16) ∧ w' = w := by
  have CM := hideMore (more_syntax h)
  have v0 := h.e.s0.var
  have v1 := h.e.s1.var
  have v2 := h.e.s2.var
  have v3 := h.e.s3.var
  have v4 := h.e.s4.var
  have v5 := h.e.s5.var
  have v6 := h.e.s6.var
  have v7 := h.e.s7.var
  have v8 := h.e.s8.var
  have v9 := h.e.s9.var
  have v10 := h.e.s10.var
  have v11 := h.e.s11.var
  have v12 := h.e.s12.var
  have v13 := h.e.s13.var
  have v14 := h.s14.var
  have e0 := err_neqF h.s15 h.e.s0 (by decide)
  have e1 := err_neqF h.s15 h.e.s1 (by decide)
  have e2 := err_neqF h.s15 h.e.s2 (by decide)
  have e3 := err_neqF h.s15 h.e.s3 (by decide)
  have e4 := err_neqF h.s15 h.e.s4 (by decide)
  have e5 := err_neqF h.s15 h.e.s5 (by decide)
  have e6 := err_neqF h.s15 h.e.s6 (by decide)
  have e7 := err_neqF h.s15 h.e.s7 (by decide)
  have e8 := err_neqF h.s15 h.e.s8 (by decide)
  have e9 := err_neqF h.s15 h.e.s9 (by decide)
  have e10 := err_neqF h.s15 h.e.s10 (by decide)
  have e11 := err_neqF h.s15 h.e.s11 (by decide)
  have e12 := err_neqF h.s15 h.e.s12 (by decide)
  have e13 := err_neqF h.s15 h.e.s13 (by decide)
  have e14 := err_neqF h.s15 h.s14 (by decide)
  clear h
  go_enter Tryd.func12, Tryd.ntmps12
  go_wp2_with (go_at_call 27; refine CM.out.mono ?_; clear CM; rintro e w6 ⟨rfl, e6⟩; subst e6)
  go_ret
  exact ⟨rfl, rfl⟩
end Go.Proofs.YtiebmmpnmklpnaaDoor
namespace Go.Proofs.YtiebmmpnmklpnaaDoor
open Go.ChangeShapes Go.WideShapes Go.ChangeAt Go.RowKit

theorem Tryd.gOps : Tryd.prog.globalNamed "concord/isa.operations" = some 25 := by kernel_rfl
theorem Tryd.gtOps : (Tryd.prog.globals[25]?).map (·.type) = some 117 := by kernel_rfl
theorem Tryd.cOp1 : Tryd.prog.cellsOf 9 = 1 ∧ Tryd.prog.cellsOf 3 = 1 ∧ Tryd.prog.cellsOf 116 = 2 := by refine ⟨?_, ?_, ?_⟩ <;> kernel_rfl
set_option maxRecDepth 20000 in
theorem ops_data {H : Type} : (Rows.laid_concord_isa_operations : DataW H) = .agg ((List.range 17).map (fun k : Nat => .agg [.lit (.string (nmN (k : Int))), .lit (.int .i64 (arN (k : Int) : Nat))])) := rfl
theorem list2 {α : Type} {l : List α} (h : l.length = 2) : ∃ a b, l = [a, b] := by
  match l, h with
  | [a, b], _ => exact ⟨a, b, rfl⟩
set_option maxRecDepth 20000 in
/-- What the listed table of operations gives. -/
theorem ops_at {W : World} {L : List (String × DataW Unit)} (h : laidMet Tryd.prog L W) (hm : ("concord/isa.operations", Rows.laid_concord_isa_operations) ∈ L) : OpT W := by
  obtain ⟨r, h⟩ := laidMet_mem h _ hm
  obtain ⟨ps, ⟨g', t', cs, fuel, p, q, hg', ht', hvar, hd, _, _⟩, _⟩ := h
  obtain rfl := Option.some.inj (Tryd.gOps.symm.trans hg')
  obtain rfl := Option.some.inj (Tryd.gtOps.symm.trans ht')
  obtain ⟨xs, n, -, ex, hl, hxl, hel⟩ := DataW.trod_array Tryd.underlying117 hd
  rw [ops_data] at ex
  simp only [Prod.mk.injEq, DataW.agg.injEq] at ex
  obtain ⟨ex, -⟩ := ex
  obtain ⟨c1, c2, c3⟩ := Tryd.cOp1
  have hv : ∀ i, W.cell? ⟨25, i, none⟩ = cs.toList[i]? := fun i => by simpa using World.var?_cell Tryd.gOps hvar i
  have key : ∀ j, j < 17 → cs.toList[j * 2]? = some (.string ⟨(nmN j).toArray⟩) ∧ cs.toList[j * 2 + 1]? = some (.int .i64 (arN j : Nat)) := by
    intro j hj
    have h1 := hel j hj
    rw [c3, List.getElem?_eq_getElem (by rw [hxl]; exact hj)] at h1
    obtain ⟨ys, m, e0, hx, hl2, hxl2, hfs⟩ := DataW.trod_struct Tryd.underlying116 h1
    have e3 : (xs.map (·.1))[j]? = some (xs[j]'(by rw [hxl]; exact hj)).1 := by rw [List.getElem?_map, List.getElem?_eq_getElem (by rw [hxl]; exact hj)]; rfl
    rw [← ex, List.getElem?_map, List.getElem?_range hj, hx] at e3
    simp only [Option.map_some, Option.some.injEq, DataW.agg.injEq] at e3
    obtain ⟨y0, y1, rfl⟩ := list2 hxl2
    have d0 : DataW.trod (fun _ => ()) Tryd.prog W 0 (fun _ => true) false m 9 ((((cs.toList.drop (j * 2)).take 2).drop 0).take (Tryd.prog.cellsOf 9)) = some y0 := hfs 0 _ rfl
    have d1 : DataW.trod (fun _ => ()) Tryd.prog W 0 (fun _ => true) false m 3 ((((cs.toList.drop (j * 2)).take 2).drop 1).take (Tryd.prog.cellsOf 3)) = some y1 := hfs 1 _ rfl
    simp only [List.map_cons, List.map_nil, List.cons.injEq, and_true] at e3
    rw [c1, List.drop_zero] at d0
    rw [c2] at d1
    obtain ⟨s, z1, z2, -⟩ := DataW.trod_string Tryd.underlying9 d0
    obtain ⟨v, u1, u2, -⟩ := DataW.trod_int Tryd.underlying3 d1
    rw [z2, u2] at e3
    simp only [DataW.lit.injEq, Lit.string.injEq, Lit.int.injEq, true_and] at e3
    obtain ⟨g1, g2⟩ := e3
    have w0 := congrArg (fun l => l[0]?) z1
    have w1 := congrArg (fun l => l[0]?) u1
    simp only [List.getElem?_take, List.getElem?_drop] at w0 w1
    refine ⟨?_, ?_⟩
    · rw [g1]; simpa using w0
    · rw [g2]; simpa using w1
  exact ⟨fun k hk => by rw [hv]; exact (key k hk).1, fun k hk => by rw [hv]; exact (key k hk).2⟩
theorem Tryd.g_ErrCode : Tryd.prog.globalNamed "concord/api.ErrCode" = some 0 := by kernel_rfl
theorem Tryd.gt_ErrCode : (Tryd.prog.globals[0]?).map (·.type) = some 33 := by kernel_rfl
theorem sent35 {W : World} {L : List (String × DataW Unit)} (h : laidMet Tryd.prog L W) (hm : ("concord/api.ErrCode", Rows.laid_concord_api_ErrCode) ∈ L) : ∃ a, Sent W 120 0 [99, 111, 110, 99, 111, 114, 100, 58, 32, 99, 111, 100, 101] a := by
  obtain ⟨r, h⟩ := laidMet_mem h _ hm
  exact sent_head h Tryd.g_ErrCode Tryd.gt_ErrCode Tryd.underlying33 Tryd.rowErr Tryd.underlying120 Tryd.underlying137 rfl rfl Tryd.underlying9 Tryd.cellsErr Tryd.cellsStr
end Go.Proofs.YtiebmmpnmklpnaaDoor
namespace Go.Proofs.YtiebmmpnmklpnaaDoor
open Go.ChangeShapes Go.WideShapes Go.ChangeAt Go.RowKit

theorem Tryd.gi_ErrDeep : Tryd.prog.globalNamed "concord/api.ErrDeep" = some 17 := by kernel_rfl
theorem Tryd.git_ErrDeep : (Tryd.prog.globals[17]?).map (·.type) = some 33 := by kernel_rfl
theorem sent16 {W : World} {L : List (String × DataW Unit)} (h : laidMet Tryd.prog L W) (hm : ("concord/api.ErrDeep", Rows.laid_concord_api_ErrDeep) ∈ L) : ∃ a, Sent W 120 17 [99, 111, 110, 99, 111, 114, 100, 58, 32, 116, 111, 111, 32, 100, 101, 101, 112] a := by
  obtain ⟨r, h⟩ := laidMet_mem h _ hm
  exact sent_head h Tryd.gi_ErrDeep Tryd.git_ErrDeep Tryd.underlying33 Tryd.rowErr Tryd.underlying120 Tryd.underlying137 rfl rfl Tryd.underlying9 Tryd.cellsErr Tryd.cellsStr
def te16 : List UInt8 := [99, 111, 110, 99, 111, 114, 100, 58, 32, 116, 111, 111, 32, 100, 101, 101, 112]
theorem Tryd.gi_ErrNode : Tryd.prog.globalNamed "concord/api.ErrNode" = some 18 := by kernel_rfl
theorem Tryd.git_ErrNode : (Tryd.prog.globals[18]?).map (·.type) = some 33 := by kernel_rfl
theorem sent17 {W : World} {L : List (String × DataW Unit)} (h : laidMet Tryd.prog L W) (hm : ("concord/api.ErrNode", Rows.laid_concord_api_ErrNode) ∈ L) : ∃ a, Sent W 120 18 [99, 111, 110, 99, 111, 114, 100, 58, 32, 110, 111, 100, 101] a := by
  obtain ⟨r, h⟩ := laidMet_mem h _ hm
  exact sent_head h Tryd.gi_ErrNode Tryd.git_ErrNode Tryd.underlying33 Tryd.rowErr Tryd.underlying120 Tryd.underlying137 rfl rfl Tryd.underlying9 Tryd.cellsErr Tryd.cellsStr
def te17 : List UInt8 := [99, 111, 110, 99, 111, 114, 100, 58, 32, 110, 111, 100, 101]
theorem Tryd.gi_ErrTerms : Tryd.prog.globalNamed "concord/api.ErrTerms" = some 19 := by kernel_rfl
theorem Tryd.git_ErrTerms : (Tryd.prog.globals[19]?).map (·.type) = some 33 := by kernel_rfl
theorem sent18 {W : World} {L : List (String × DataW Unit)} (h : laidMet Tryd.prog L W) (hm : ("concord/api.ErrTerms", Rows.laid_concord_api_ErrTerms) ∈ L) : ∃ a, Sent W 120 19 [99, 111, 110, 99, 111, 114, 100, 58, 32, 116, 111, 111, 32, 109, 97, 110, 121, 32, 116, 101, 114, 109, 115] a := by
  obtain ⟨r, h⟩ := laidMet_mem h _ hm
  exact sent_head h Tryd.gi_ErrTerms Tryd.git_ErrTerms Tryd.underlying33 Tryd.rowErr Tryd.underlying120 Tryd.underlying137 rfl rfl Tryd.underlying9 Tryd.cellsErr Tryd.cellsStr
def te18 : List UInt8 := [99, 111, 110, 99, 111, 114, 100, 58, 32, 116, 111, 111, 32, 109, 97, 110, 121, 32, 116, 101, 114, 109, 115]
theorem Tryd.gi_ErrScore : Tryd.prog.globalNamed "concord/api.ErrScore" = some 20 := by kernel_rfl
theorem Tryd.git_ErrScore : (Tryd.prog.globals[20]?).map (·.type) = some 33 := by kernel_rfl
theorem sent19 {W : World} {L : List (String × DataW Unit)} (h : laidMet Tryd.prog L W) (hm : ("concord/api.ErrScore", Rows.laid_concord_api_ErrScore) ∈ L) : ∃ a, Sent W 120 20 [99, 111, 110, 99, 111, 114, 100, 58, 32, 115, 99, 111, 114, 101, 32, 111, 118, 101, 114, 102, 108, 111, 119] a := by
  obtain ⟨r, h⟩ := laidMet_mem h _ hm
  exact sent_head h Tryd.gi_ErrScore Tryd.git_ErrScore Tryd.underlying33 Tryd.rowErr Tryd.underlying120 Tryd.underlying137 rfl rfl Tryd.underlying9 Tryd.cellsErr Tryd.cellsStr
def te19 : List UInt8 := [99, 111, 110, 99, 111, 114, 100, 58, 32, 115, 99, 111, 114, 101, 32, 111, 118, 101, 114, 102, 108, 111, 119]
def te20 : List UInt8 := [99, 111, 110, 99, 111, 114, 100, 58, 32, 99, 111, 100, 101]
structure Errs21 (w : World) (ad : Nat → Addr) : Prop where
  e : Errs16 w ad
  s16 : Sent w 120 17 te16 (ad 16)
  s17 : Sent w 120 18 te17 (ad 17)
  s18 : Sent w 120 19 te18 (ad 18)
  s19 : Sent w 120 20 te19 (ad 19)
  s20 : Sent w 120 0 te20 (ad 20)
theorem Errs21.kept {w w' : World} {ad : Nat → Addr} (h : Errs21 w ad) (k : Kept (fun _ => False) w w') : Errs21 w' ad := ⟨h.e.kept k, h.s16.kept k, h.s17.kept k, h.s18.kept k, h.s19.kept k, h.s20.kept k⟩
theorem Errs21.ew {w : World} {ad : Nat → Addr} (h : Errs21 w ad) : Ew w (ad 0) (ad 1) (ad 20) := ⟨h.e.e.s0.var, h.e.e.s1.var, h.s20.var⟩
set_option maxRecDepth 20000 in
set_option maxHeartbeats 1000000 in
theorem more_code {w : World} {ad : Nat → Addr} (h : Errs21 w ad) : Calls Tryd.prog 27 #[.iface 120 (.pointer (some (ad 20)))] w fun e w' => e = .returned (.int .i64 21) ∧ w' = w := by
  have v15 := h.e.s15.var
  have v16 := h.s16.var
  have v17 := h.s17.var
  have v18 := h.s18.var
  have v19 := h.s19.var
  have v20 := h.s20.var
  have e15 := err_neqF h.s20 h.e.s15 (by decide)
  have e16 := err_neqF h.s20 h.s16 (by decide)
  have e17 := err_neqF h.s20 h.s17 (by decide)
  have e18 := err_neqF h.s20 h.s18 (by decide)
  have e19 := err_neqF h.s20 h.s19 (by decide)
  have e20 := errEq w (ad 20)
  clear h
  go_enter Tryd.func27, Tryd.ntmps27
  go_wp2
  go_ret
  exact ⟨rfl, rfl⟩
set_option maxRecDepth 20000 in
set_option maxHeartbeats 1000000 in
theorem num_code {w : World} {ad : Nat → Addr} (h : Errs21 w ad) : Calls Tryd.prog 12 #[.iface 120 (.pointer (some (ad 20)))] w fun e w' => e = .returned (.int .i64 21) ∧ w' = w := by
  have CM := hideMore (more_code h)
  have v0 := h.e.e.s0.var
  have v1 := h.e.e.s1.var
  have v2 := h.e.e.s2.var
  have v3 := h.e.e.s3.var
  have v4 := h.e.e.s4.var
  have v5 := h.e.e.s5.var
  have v6 := h.e.e.s6.var
  have v7 := h.e.e.s7.var
  have v8 := h.e.e.s8.var
  have v9 := h.e.e.s9.var
  have v10 := h.e.e.s10.var
  have v11 := h.e.e.s11.var
  have v12 := h.e.e.s12.var
  have v13 := h.e.e.s13.var
  have v14 := h.e.s14.var
  have e0 := err_neqF h.s20 h.e.e.s0 (by decide)
  have e1 := err_neqF h.s20 h.e.e.s1 (by decide)
  have e2 := err_neqF h.s20 h.e.e.s2 (by decide)
  have e3 := err_neqF h.s20 h.e.e.s3 (by decide)
  have e4 := err_neqF h.s20 h.e.e.s4 (by decide)
  have e5 := err_neqF h.s20 h.e.e.s5 (by decide)
  have e6 := err_neqF h.s20 h.e.e.s6 (by decide)
  have e7 := err_neqF h.s20 h.e.e.s7 (by decide)
  have e8 := err_neqF h.s20 h.e.e.s8 (by decide)
  have e9 := err_neqF h.s20 h.e.e.s9 (by decide)
  have e10 := err_neqF h.s20 h.e.e.s10 (by decide)
  have e11 := err_neqF h.s20 h.e.e.s11 (by decide)
  have e12 := err_neqF h.s20 h.e.e.s12 (by decide)
  have e13 := err_neqF h.s20 h.e.e.s13 (by decide)
  have e14 := err_neqF h.s20 h.e.s14 (by decide)
  clear h
  go_enter Tryd.func12, Tryd.ntmps12
  go_wp2_with (go_at_call 27; refine CM.out.mono ?_; clear CM; rintro e w6 ⟨rfl, e6⟩; subst e6)
  go_ret
  exact ⟨rfl, rfl⟩
end Go.Proofs.YtiebmmpnmklpnaaDoor
