import Derived.Test.YtjkbongfampgjaaGreatDoorRows
import Derived.WalkKit
import Derived.ProofKit
import Derived.OpenShut
import Derived.WalkLawsBesides
import Derived.LaidLaws
import Derived.LaidEql
import Derived.Stop.LaidErr
namespace Go.Proofs.YtjkbongfampgjaaGreatDoor
open Go.ChangeShapes Go.WideShapes Go.ChangeAt Go.RowKit

/-- What a listed error gives: the variable's cell, the text behind its pointer, and that the block is plain. -/
structure Sent (W : World) (tp : TypeId) (g : Nat) (text : List UInt8) (a : Addr) : Prop where
  var : W.cell? ⟨g, 0, none⟩ = some (.iface tp (.pointer (some a)))
  cell : W.cell? a = some (.string ⟨⟨text⟩⟩)
  blk : ∃ c t, W.heap[a.block]? = some (.cells c t (0, 0))

theorem sent_head {P : Program} {n nm : String} {text : List UInt8} {r : List (String × DataW Unit)} {W : World} {g : Nat} {ti tp te ts : TypeId} {ms : Array (String × TypeId)} {f : Field}
    (h : laidMet P ((n, .iface nm (.ptr (.agg [.lit (.string text)]))) :: r) W)
    (hg : P.globalNamed n = some g) (ht : (P.globals[g]?).map (·.type) = some ti) (hi : P.underlying ti = some (.interface ms)) (hrow : ∀ u, P.typeName? 3 u = some nm → u = tp)
    (hp : P.underlying tp = some (.pointer te)) (he : P.underlying te = some (.struct #[f])) (hft : f.type = ts) (hfo : f.offset = 0) (hs : P.underlying ts = some .string) (hc : P.cellsOf te = 1) (hcs : P.cellsOf ts = 1) :
    ∃ a, Sent W tp g text a := by
  obtain ⟨ps, ⟨g0, t0, cs0, f0, p0, q0, hg0, ht0, hv0, hd0, _, e0⟩, _, hrows⟩ := h
  obtain rfl := Option.some.inj (hg.symm.trans hg0)
  obtain rfl := Option.some.inj (ht.symm.trans ht0)
  subst e0
  obtain ⟨l0⟩ := cs0
  have ok0 : ∀ u v, l0 = [.iface u v] → Value.okWide P W .any 0 u v := fun u v e => by
    subst e
    exact (hrows g 0 (by simp [MemPlace.row])).2 u v (by simpa using World.var?_cell hg0 hv0 0)
  obtain ⟨a0, s0, rfl, hc0, hs0, hz0, hp0⟩ := errorString_of_trod hi hrow hp he hft hfo hs hc hcs hd0 ok0
  have hs1 : s0 = ⟨⟨text⟩⟩ := by
    obtain ⟨⟨l⟩⟩ := s0
    simp at hs0
    rw [hs0]
  subst hs1
  refine ⟨a0, by simpa using World.var?_cell hg0 hv0 0, hc0, ?_⟩
  subst hp0
  exact (hrows a0.block a0.off (by simp [MemPlace.row])).1

theorem laidMet_mem {P : Program} {L : List (String × DataW Unit)} {W : World} (h : laidMet P L W) : ∀ x ∈ L, ∃ r, laidMet P (x :: r) W := by
  induction L with
  | nil => intro x hx; cases hx
  | cons y r ih =>
    intro x hx
    rcases List.mem_cons.1 hx with rfl | hx
    · exact ⟨r, h⟩
    · exact ih h.tail x hx

theorem Tryz.cellsStr : Tryz.prog.cellsOf 9 = 1 := by kernel_rfl
theorem Tryz.star : "*" ++ "errors.errorString" = "*errors.errorString" := by decide
theorem Tryz.rowErr (u : TypeId) (h : Tryz.prog.typeName? 3 u = some "*errors.errorString") : u = 173 :=
  typeName_ptr_named (nm := "errors.errorString") (by rw [Tryz.star]; kernel_rfl) (by kernel_rfl) (by decide) u (by rw [Tryz.star]; exact h)
theorem Tryz.cellsErr : Tryz.prog.cellsOf 189 = 1 := by kernel_rfl
theorem Tryz.g_ErrShort : Tryz.prog.globalNamed "concord/api.ErrShort" = some 4 := by kernel_rfl
theorem Tryz.gt_ErrShort : (Tryz.prog.globals[4]?).map (·.type) = some 30 := by kernel_rfl
theorem sent0 {W : World} {L : List (String × DataW Unit)} (h : laidMet Tryz.prog L W) (hm : ("concord/api.ErrShort", Rows.laid_concord_api_ErrShort) ∈ L) : ∃ a, Sent W 173 4 ([99, 111, 110, 99, 111, 114, 100, 58, 32, 116, 111, 111, 32, 115, 104, 111, 114, 116]) a := by
  obtain ⟨r, h⟩ := laidMet_mem h _ hm
  exact sent_head h Tryz.g_ErrShort Tryz.gt_ErrShort Tryz.underlying30 Tryz.rowErr Tryz.underlying173 Tryz.underlying189 rfl rfl Tryz.underlying9 Tryz.cellsErr Tryz.cellsStr
theorem Tryz.g_ErrVarint : Tryz.prog.globalNamed "concord/api.ErrVarint" = some 6 := by kernel_rfl
theorem Tryz.gt_ErrVarint : (Tryz.prog.globals[6]?).map (·.type) = some 30 := by kernel_rfl
theorem sent1 {W : World} {L : List (String × DataW Unit)} (h : laidMet Tryz.prog L W) (hm : ("concord/api.ErrVarint", Rows.laid_concord_api_ErrVarint) ∈ L) : ∃ a, Sent W 173 6 ([99, 111, 110, 99, 111, 114, 100, 58, 32, 118, 97, 114, 105, 110, 116]) a := by
  obtain ⟨r, h⟩ := laidMet_mem h _ hm
  exact sent_head h Tryz.g_ErrVarint Tryz.gt_ErrVarint Tryz.underlying30 Tryz.rowErr Tryz.underlying173 Tryz.underlying189 rfl rfl Tryz.underlying9 Tryz.cellsErr Tryz.cellsStr
theorem Tryz.g_ErrLimit : Tryz.prog.globalNamed "concord/api.ErrLimit" = some 3 := by kernel_rfl
theorem Tryz.gt_ErrLimit : (Tryz.prog.globals[3]?).map (·.type) = some 30 := by kernel_rfl
theorem sent2 {W : World} {L : List (String × DataW Unit)} (h : laidMet Tryz.prog L W) (hm : ("concord/api.ErrLimit", Rows.laid_concord_api_ErrLimit) ∈ L) : ∃ a, Sent W 173 3 ([99, 111, 110, 99, 111, 114, 100, 58, 32, 108, 105, 109, 105, 116]) a := by
  obtain ⟨r, h⟩ := laidMet_mem h _ hm
  exact sent_head h Tryz.g_ErrLimit Tryz.gt_ErrLimit Tryz.underlying30 Tryz.rowErr Tryz.underlying173 Tryz.underlying189 rfl rfl Tryz.underlying9 Tryz.cellsErr Tryz.cellsStr
theorem Tryz.g_ErrOrder : Tryz.prog.globalNamed "concord/api.ErrOrder" = some 2 := by kernel_rfl
theorem Tryz.gt_ErrOrder : (Tryz.prog.globals[2]?).map (·.type) = some 30 := by kernel_rfl
theorem sent3 {W : World} {L : List (String × DataW Unit)} (h : laidMet Tryz.prog L W) (hm : ("concord/api.ErrOrder", Rows.laid_concord_api_ErrOrder) ∈ L) : ∃ a, Sent W 173 2 ([99, 111, 110, 99, 111, 114, 100, 58, 32, 111, 114, 100, 101, 114]) a := by
  obtain ⟨r, h⟩ := laidMet_mem h _ hm
  exact sent_head h Tryz.g_ErrOrder Tryz.gt_ErrOrder Tryz.underlying30 Tryz.rowErr Tryz.underlying173 Tryz.underlying189 rfl rfl Tryz.underlying9 Tryz.cellsErr Tryz.cellsStr
theorem Tryz.g_ErrTail : Tryz.prog.globalNamed "concord/api.ErrTail" = some 5 := by kernel_rfl
theorem Tryz.gt_ErrTail : (Tryz.prog.globals[5]?).map (·.type) = some 30 := by kernel_rfl
theorem sent4 {W : World} {L : List (String × DataW Unit)} (h : laidMet Tryz.prog L W) (hm : ("concord/api.ErrTail", Rows.laid_concord_api_ErrTail) ∈ L) : ∃ a, Sent W 173 5 ([99, 111, 110, 99, 111, 114, 100, 58, 32, 116, 97, 105, 108]) a := by
  obtain ⟨r, h⟩ := laidMet_mem h _ hm
  exact sent_head h Tryz.g_ErrTail Tryz.gt_ErrTail Tryz.underlying30 Tryz.rowErr Tryz.underlying173 Tryz.underlying189 rfl rfl Tryz.underlying9 Tryz.cellsErr Tryz.cellsStr
theorem Tryz.g_ErrRange : Tryz.prog.globalNamed "concord/api.ErrRange" = some 1 := by kernel_rfl
theorem Tryz.gt_ErrRange : (Tryz.prog.globals[1]?).map (·.type) = some 30 := by kernel_rfl
theorem sent7 {W : World} {L : List (String × DataW Unit)} (h : laidMet Tryz.prog L W) (hm : ("concord/api.ErrRange", Rows.laid_concord_api_ErrRange) ∈ L) : ∃ a, Sent W 173 1 ([99, 111, 110, 99, 111, 114, 100, 58, 32, 114, 97, 110, 103, 101]) a := by
  obtain ⟨r, h⟩ := laidMet_mem h _ hm
  exact sent_head h Tryz.g_ErrRange Tryz.gt_ErrRange Tryz.underlying30 Tryz.rowErr Tryz.underlying173 Tryz.underlying189 rfl rfl Tryz.underlying9 Tryz.cellsErr Tryz.cellsStr
theorem Tryz.g_ErrCorrupt : Tryz.prog.globalNamed "concord/api.ErrCorrupt" = some 0 := by kernel_rfl
theorem Tryz.gt_ErrCorrupt : (Tryz.prog.globals[0]?).map (·.type) = some 30 := by kernel_rfl
theorem sent9 {W : World} {L : List (String × DataW Unit)} (h : laidMet Tryz.prog L W) (hm : ("concord/api.ErrCorrupt", Rows.laid_concord_api_ErrCorrupt) ∈ L) : ∃ a, Sent W 173 0 ([99, 111, 110, 99, 111, 114, 100, 58, 32, 99, 111, 114, 114, 117, 112, 116]) a := by
  obtain ⟨r, h⟩ := laidMet_mem h _ hm
  exact sent_head h Tryz.g_ErrCorrupt Tryz.gt_ErrCorrupt Tryz.underlying30 Tryz.rowErr Tryz.underlying173 Tryz.underlying189 rfl rfl Tryz.underlying9 Tryz.cellsErr Tryz.cellsStr
end Go.Proofs.YtjkbongfampgjaaGreatDoor
