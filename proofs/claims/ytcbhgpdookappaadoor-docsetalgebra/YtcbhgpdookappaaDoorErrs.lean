import Derived.Test.YtcbhgpdookappaaDoorRows
import Derived.WalkKit
import Derived.ProofKit
import Derived.OpenShut
import Derived.WalkLawsBesides
import Derived.LaidLaws
import Derived.LaidEql
import Derived.Stop.LaidErr
namespace Go.Proofs.YtcbhgpdookappaaDoor
open Go.ChangeShapes Go.WideShapes Go.ChangeAt Go.RowKit

/-- What a listed error gives: the variable's cell, the text behind its pointer, and that the block is plain. -/
structure Sent (W : World) (tp : TypeId) (g : Nat) (text : List UInt8) (a : Addr) : Prop where
  var : W.cell? ⟨g, 0, none⟩ = some (.iface tp (.pointer (some a)))
  cell : W.cell? a = some (.string ⟨⟨text⟩⟩)
  blk : ∃ c t, W.heap[a.block]? = some (.cells c t (0, 0))

theorem sent_head {P : Program} {n nm : String} {text : List UInt8} {r : List (String × DataW Unit)} {W : World} {g : Nat} {ti tp te ts : TypeId} {ms : Array (String × TypeId)} {f : Field}
    (h : laidMet P ((n, .iface nm (.ptr (.agg [.lit (.string text)]))) :: r) W)
    (hg : P.globalNamed n = some g) (ht : (P.globals[g]?).map (·.type) = some ti) (hi : P.underlying ti = some (.interface ms)) (hrow : ∀ u, P.typeName? 3 u = some nm → u = tp)
    (hp : P.underlying tp = some (.pointer te)) (he : P.underlying te = some (.struct #[f])) (hft : f.type = ts) (hfo : f.offset = 0) (hs : P.underlying ts = some .string) (hc : P.cellsOf te = 1) (hcs : P.cellsOf ts = 1) :
    ∃ a, Sent W tp g text a := by
  obtain ⟨ps, ⟨g0, t0, cs0, f0, p0, q0, hg0, ht0, hv0, hd0, _, e0⟩, _, hrows⟩ := h
  obtain rfl := Option.some.inj (hg.symm.trans hg0)
  obtain rfl := Option.some.inj (ht.symm.trans ht0)
  subst e0
  obtain ⟨l0⟩ := cs0
  have ok0 : ∀ u v, l0 = [.iface u v] → Value.okWide P W .any 0 u v := fun u v e => by
    subst e
    exact (hrows g 0 (by simp [MemPlace.row])).2 u v (by simpa using World.var?_cell hg0 hv0 0)
  obtain ⟨a0, s0, rfl, hc0, hs0, hz0, hp0⟩ := errorString_of_trod hi hrow hp he hft hfo hs hc hcs hd0 ok0
  have hs1 : s0 = ⟨⟨text⟩⟩ := by
    obtain ⟨⟨l⟩⟩ := s0
    simp at hs0
    rw [hs0]
  subst hs1
  refine ⟨a0, by simpa using World.var?_cell hg0 hv0 0, hc0, ?_⟩
  subst hp0
  exact (hrows a0.block a0.off (by simp [MemPlace.row])).1

theorem laidMet_mem {P : Program} {L : List (String × DataW Unit)} {W : World} (h : laidMet P L W) : ∀ x ∈ L, ∃ r, laidMet P (x :: r) W := by
  induction L with
  | nil => intro x hx; cases hx
  | cons y r ih =>
    intro x hx
    rcases List.mem_cons.1 hx with rfl | hx
    · exact ⟨r, h⟩
    · exact ih h.tail x hx

theorem Tryd.cellsStr : Tryd.prog.cellsOf 9 = 1 := by kernel_rfl
theorem Tryd.star : "*" ++ "errors.errorString" = "*errors.errorString" := by decide
theorem Tryd.rowErr (u : TypeId) (h : Tryd.prog.typeName? 3 u = some "*errors.errorString") : u = 112 :=
  typeName_ptr_named (nm := "errors.errorString") (by rw [Tryd.star]; kernel_rfl) (by kernel_rfl) (by decide) u (by rw [Tryd.star]; exact h)
theorem Tryd.cellsErr : Tryd.prog.cellsOf 129 = 1 := by kernel_rfl
theorem Tryd.g_ErrShort : Tryd.prog.globalNamed "concord/api.ErrShort" = some 2 := by kernel_rfl
theorem Tryd.gt_ErrShort : (Tryd.prog.globals[2]?).map (·.type) = some 26 := by kernel_rfl
theorem sent0 {W : World} {L : List (String × DataW Unit)} (h : laidMet Tryd.prog L W) (hm : ("concord/api.ErrShort", Rows.laid_concord_api_ErrShort) ∈ L) : ∃ a, Sent W 112 2 ([99, 111, 110, 99, 111, 114, 100, 58, 32, 116, 111, 111, 32, 115, 104, 111, 114, 116]) a := by
  obtain ⟨r, h⟩ := laidMet_mem h _ hm
  exact sent_head h Tryd.g_ErrShort Tryd.gt_ErrShort Tryd.underlying26 Tryd.rowErr Tryd.underlying112 Tryd.underlying129 rfl rfl Tryd.underlying9 Tryd.cellsErr Tryd.cellsStr
theorem Tryd.g_ErrVarint : Tryd.prog.globalNamed "concord/api.ErrVarint" = some 3 := by kernel_rfl
theorem Tryd.gt_ErrVarint : (Tryd.prog.globals[3]?).map (·.type) = some 26 := by kernel_rfl
theorem sent1 {W : World} {L : List (String × DataW Unit)} (h : laidMet Tryd.prog L W) (hm : ("concord/api.ErrVarint", Rows.laid_concord_api_ErrVarint) ∈ L) : ∃ a, Sent W 112 3 ([99, 111, 110, 99, 111, 114, 100, 58, 32, 118, 97, 114, 105, 110, 116]) a := by
  obtain ⟨r, h⟩ := laidMet_mem h _ hm
  exact sent_head h Tryd.g_ErrVarint Tryd.gt_ErrVarint Tryd.underlying26 Tryd.rowErr Tryd.underlying112 Tryd.underlying129 rfl rfl Tryd.underlying9 Tryd.cellsErr Tryd.cellsStr
theorem Tryd.g_ErrLimit : Tryd.prog.globalNamed "concord/api.ErrLimit" = some 4 := by kernel_rfl
theorem Tryd.gt_ErrLimit : (Tryd.prog.globals[4]?).map (·.type) = some 26 := by kernel_rfl
theorem sent2 {W : World} {L : List (String × DataW Unit)} (h : laidMet Tryd.prog L W) (hm : ("concord/api.ErrLimit", Rows.laid_concord_api_ErrLimit) ∈ L) : ∃ a, Sent W 112 4 ([99, 111, 110, 99, 111, 114, 100, 58, 32, 108, 105, 109, 105, 116]) a := by
  obtain ⟨r, h⟩ := laidMet_mem h _ hm
  exact sent_head h Tryd.g_ErrLimit Tryd.gt_ErrLimit Tryd.underlying26 Tryd.rowErr Tryd.underlying112 Tryd.underlying129 rfl rfl Tryd.underlying9 Tryd.cellsErr Tryd.cellsStr
theorem Tryd.g_ErrOrder : Tryd.prog.globalNamed "concord/api.ErrOrder" = some 5 := by kernel_rfl
theorem Tryd.gt_ErrOrder : (Tryd.prog.globals[5]?).map (·.type) = some 26 := by kernel_rfl
theorem sent3 {W : World} {L : List (String × DataW Unit)} (h : laidMet Tryd.prog L W) (hm : ("concord/api.ErrOrder", Rows.laid_concord_api_ErrOrder) ∈ L) : ∃ a, Sent W 112 5 ([99, 111, 110, 99, 111, 114, 100, 58, 32, 111, 114, 100, 101, 114]) a := by
  obtain ⟨r, h⟩ := laidMet_mem h _ hm
  exact sent_head h Tryd.g_ErrOrder Tryd.gt_ErrOrder Tryd.underlying26 Tryd.rowErr Tryd.underlying112 Tryd.underlying129 rfl rfl Tryd.underlying9 Tryd.cellsErr Tryd.cellsStr
theorem Tryd.g_ErrTail : Tryd.prog.globalNamed "concord/api.ErrTail" = some 6 := by kernel_rfl
theorem Tryd.gt_ErrTail : (Tryd.prog.globals[6]?).map (·.type) = some 26 := by kernel_rfl
theorem sent4 {W : World} {L : List (String × DataW Unit)} (h : laidMet Tryd.prog L W) (hm : ("concord/api.ErrTail", Rows.laid_concord_api_ErrTail) ∈ L) : ∃ a, Sent W 112 6 ([99, 111, 110, 99, 111, 114, 100, 58, 32, 116, 97, 105, 108]) a := by
  obtain ⟨r, h⟩ := laidMet_mem h _ hm
  exact sent_head h Tryd.g_ErrTail Tryd.gt_ErrTail Tryd.underlying26 Tryd.rowErr Tryd.underlying112 Tryd.underlying129 rfl rfl Tryd.underlying9 Tryd.cellsErr Tryd.cellsStr
theorem Tryd.g_ErrTag : Tryd.prog.globalNamed "concord/api.ErrTag" = some 7 := by kernel_rfl
theorem Tryd.gt_ErrTag : (Tryd.prog.globals[7]?).map (·.type) = some 26 := by kernel_rfl
theorem sent5 {W : World} {L : List (String × DataW Unit)} (h : laidMet Tryd.prog L W) (hm : ("concord/api.ErrTag", Rows.laid_concord_api_ErrTag) ∈ L) : ∃ a, Sent W 112 7 ([99, 111, 110, 99, 111, 114, 100, 58, 32, 116, 97, 103]) a := by
  obtain ⟨r, h⟩ := laidMet_mem h _ hm
  exact sent_head h Tryd.g_ErrTag Tryd.gt_ErrTag Tryd.underlying26 Tryd.rowErr Tryd.underlying112 Tryd.underlying129 rfl rfl Tryd.underlying9 Tryd.cellsErr Tryd.cellsStr
theorem Tryd.g_ErrSum : Tryd.prog.globalNamed "concord/api.ErrSum" = some 8 := by kernel_rfl
theorem Tryd.gt_ErrSum : (Tryd.prog.globals[8]?).map (·.type) = some 26 := by kernel_rfl
theorem sent6 {W : World} {L : List (String × DataW Unit)} (h : laidMet Tryd.prog L W) (hm : ("concord/api.ErrSum", Rows.laid_concord_api_ErrSum) ∈ L) : ∃ a, Sent W 112 8 ([99, 111, 110, 99, 111, 114, 100, 58, 32, 115, 117, 109]) a := by
  obtain ⟨r, h⟩ := laidMet_mem h _ hm
  exact sent_head h Tryd.g_ErrSum Tryd.gt_ErrSum Tryd.underlying26 Tryd.rowErr Tryd.underlying112 Tryd.underlying129 rfl rfl Tryd.underlying9 Tryd.cellsErr Tryd.cellsStr
theorem Tryd.g_ErrRange : Tryd.prog.globalNamed "concord/api.ErrRange" = some 1 := by kernel_rfl
theorem Tryd.gt_ErrRange : (Tryd.prog.globals[1]?).map (·.type) = some 26 := by kernel_rfl
theorem sent7 {W : World} {L : List (String × DataW Unit)} (h : laidMet Tryd.prog L W) (hm : ("concord/api.ErrRange", Rows.laid_concord_api_ErrRange) ∈ L) : ∃ a, Sent W 112 1 ([99, 111, 110, 99, 111, 114, 100, 58, 32, 114, 97, 110, 103, 101]) a := by
  obtain ⟨r, h⟩ := laidMet_mem h _ hm
  exact sent_head h Tryd.g_ErrRange Tryd.gt_ErrRange Tryd.underlying26 Tryd.rowErr Tryd.underlying112 Tryd.underlying129 rfl rfl Tryd.underlying9 Tryd.cellsErr Tryd.cellsStr
theorem Tryd.g_ErrSize : Tryd.prog.globalNamed "concord/api.ErrSize" = some 9 := by kernel_rfl
theorem Tryd.gt_ErrSize : (Tryd.prog.globals[9]?).map (·.type) = some 26 := by kernel_rfl
theorem sent8 {W : World} {L : List (String × DataW Unit)} (h : laidMet Tryd.prog L W) (hm : ("concord/api.ErrSize", Rows.laid_concord_api_ErrSize) ∈ L) : ∃ a, Sent W 112 9 ([99, 111, 110, 99, 111, 114, 100, 58, 32, 115, 105, 122, 101]) a := by
  obtain ⟨r, h⟩ := laidMet_mem h _ hm
  exact sent_head h Tryd.g_ErrSize Tryd.gt_ErrSize Tryd.underlying26 Tryd.rowErr Tryd.underlying112 Tryd.underlying129 rfl rfl Tryd.underlying9 Tryd.cellsErr Tryd.cellsStr
theorem Tryd.g_ErrCorrupt : Tryd.prog.globalNamed "concord/api.ErrCorrupt" = some 0 := by kernel_rfl
theorem Tryd.gt_ErrCorrupt : (Tryd.prog.globals[0]?).map (·.type) = some 26 := by kernel_rfl
theorem sent9 {W : World} {L : List (String × DataW Unit)} (h : laidMet Tryd.prog L W) (hm : ("concord/api.ErrCorrupt", Rows.laid_concord_api_ErrCorrupt) ∈ L) : ∃ a, Sent W 112 0 ([99, 111, 110, 99, 111, 114, 100, 58, 32, 99, 111, 114, 114, 117, 112, 116]) a := by
  obtain ⟨r, h⟩ := laidMet_mem h _ hm
  exact sent_head h Tryd.g_ErrCorrupt Tryd.gt_ErrCorrupt Tryd.underlying26 Tryd.rowErr Tryd.underlying112 Tryd.underlying129 rfl rfl Tryd.underlying9 Tryd.cellsErr Tryd.cellsStr
end Go.Proofs.YtcbhgpdookappaaDoor
