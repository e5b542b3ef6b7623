import Derived.Test.YtikdokfkfioeeabDoorRows
import Derived.WalkKit
import Derived.ProofKit
import Derived.OpenShut
import Derived.WalkLawsBesides
import Derived.LaidLaws
import Derived.LaidEql
import Derived.Stop.LaidErr
namespace Go.Proofs.YtikdokfkfioeeabDoor
open Go.ChangeShapes Go.WideShapes Go.ChangeAt Go.RowKit

/-- What a listed error gives: the variable's cell, the text behind its pointer, and that the block is plain. -/
structure Sent (W : World) (tp : TypeId) (g : Nat) (text : List UInt8) (a : Addr) : Prop where
  var : W.cell? ⟨g, 0, none⟩ = some (.iface tp (.pointer (some a)))
  cell : W.cell? a = some (.string ⟨⟨text⟩⟩)
  blk : ∃ c t, W.heap[a.block]? = some (.cells c t (0, 0))

theorem sent_head {P : Program} {n nm : String} {text : List UInt8} {r : List (String × DataW Unit)} {W : World} {g : Nat} {ti tp te ts : TypeId} {ms : Array (String × TypeId)} {f : Field}
    (h : laidMet P ((n, .iface nm (.ptr (.agg [.lit (.string text)]))) :: r) W)
    (hg : P.globalNamed n = some g) (ht : (P.globals[g]?).map (·.type) = some ti) (hi : P.underlying ti = some (.interface ms)) (hrow : ∀ u, P.typeName? 3 u = some nm → u = tp)
    (hp : P.underlying tp = some (.pointer te)) (he : P.underlying te = some (.struct #[f])) (hft : f.type = ts) (hfo : f.offset = 0) (hs : P.underlying ts = some .string) (hc : P.cellsOf te = 1) (hcs : P.cellsOf ts = 1) :
    ∃ a, Sent W tp g text a := by
  obtain ⟨ps, ⟨g0, t0, cs0, f0, p0, q0, hg0, ht0, hv0, hd0, _, e0⟩, _, hrows⟩ := h
  obtain rfl := Option.some.inj (hg.symm.trans hg0)
  obtain rfl := Option.some.inj (ht.symm.trans ht0)
  subst e0
  obtain ⟨l0⟩ := cs0
  have ok0 : ∀ u v, l0 = [.iface u v] → Value.okWide P W .any 0 u v := fun u v e => by
    subst e
    exact (hrows g 0 (by simp [MemPlace.row])).2 u v (by simpa using World.var?_cell hg0 hv0 0)
  obtain ⟨a0, s0, rfl, hc0, hs0, hz0, hp0⟩ := errorString_of_trod hi hrow hp he hft hfo hs hc hcs hd0 ok0
  have hs1 : s0 = ⟨⟨text⟩⟩ := by
    obtain ⟨⟨l⟩⟩ := s0
    simp at hs0
    rw [hs0]
  subst hs1
  refine ⟨a0, by simpa using World.var?_cell hg0 hv0 0, hc0, ?_⟩
  subst hp0
  exact (hrows a0.block a0.off (by simp [MemPlace.row])).1

theorem laidMet_mem {P : Program} {L : List (String × DataW Unit)} {W : World} (h : laidMet P L W) : ∀ x ∈ L, ∃ r, laidMet P (x :: r) W := by
  induction L with
  | nil => intro x hx; cases hx
  | cons y r ih =>
    intro x hx
    rcases List.mem_cons.1 hx with rfl | hx
    · exact ⟨r, h⟩
    · exact ih h.tail x hx

theorem Tryd.cellsT9 : Tryd.prog.cellsOf 9 = 1 := by kernel_rfl
theorem Tryd.star : "*" ++ "errors.errorString" = "*errors.errorString" := by decide
theorem Tryd.row111 (u : TypeId) (h : Tryd.prog.typeName? 3 u = some "*errors.errorString") : u = 111 :=
  typeName_ptr_named (nm := "errors.errorString") (by rw [Tryd.star]; kernel_rfl) (by kernel_rfl) (by decide) u (by rw [Tryd.star]; exact h)
theorem Tryd.cells126 : Tryd.prog.cellsOf 126 = 1 := by kernel_rfl
/-- The texts behind "concord: ". -/
def errTail : Nat → List UInt8
  | 0 => [116, 111, 111, 32, 115, 104, 111, 114, 116]
  | 1 => [118, 97, 114, 105, 110, 116]
  | 2 => [108, 105, 109, 105, 116]
  | 3 => [111, 114, 100, 101, 114]
  | 4 => [116, 97, 105, 108]
  | 5 => [116, 97, 103]
  | 6 => [115, 117, 109]
  | 7 => [114, 97, 110, 103, 101]
  | 8 => [115, 105, 122, 101]
  | 9 => [99, 111, 114, 114, 117, 112, 116]
  | 10 => [115, 99, 104, 101, 109, 97]
  | 11 => [102, 105, 101, 108, 100]
  | 12 => [118, 97, 108, 117, 101]
  | 13 => [112, 97, 116, 116, 101, 114, 110]
  | 14 => [115, 116, 97, 116, 101, 115]
  | 15 => [115, 121, 110, 116, 97, 120]
  | 16 => [116, 111, 111, 32, 100, 101, 101, 112]
  | 17 => [110, 111, 100, 101]
  | 18 => [116, 111, 111, 32, 109, 97, 110, 121, 32, 116, 101, 114, 109, 115]
  | 19 => [115, 99, 111, 114, 101, 32, 111, 118, 101, 114, 102, 108, 111, 119]
  | 20 => [99, 111, 100, 101]
  | 21 => [102, 117, 101, 108]
  | 22 => [100, 111, 99, 117, 109, 101, 110, 116]
  | 23 => [99, 111, 109, 109, 97, 110, 100]
  | _ => []
def errText (k : Nat) : List UInt8 := [99, 111, 110, 99, 111, 114, 100, 58, 32] ++ errTail k
theorem Tryd.g0 : Tryd.prog.globalNamed "concord/api.ErrShort" = some 0 := by kernel_rfl
theorem Tryd.gt0 : (Tryd.prog.globals[0]?).map (·.type) = some 47 := by kernel_rfl
theorem sent0 {W : World} {L : List (String × DataW Unit)} (h : laidMet Tryd.prog L W) (hm : ("concord/api.ErrShort", Rows.laid_concord_api_ErrShort) ∈ L) : ∃ a, Sent W 111 0 (errText 0) a := by
  obtain ⟨r, h⟩ := laidMet_mem h _ hm
  exact sent_head h Tryd.g0 Tryd.gt0 Tryd.underlying47 Tryd.row111 Tryd.underlying111 Tryd.underlying126 rfl rfl Tryd.underlying9 Tryd.cells126 Tryd.cellsT9
theorem Tryd.g1 : Tryd.prog.globalNamed "concord/api.ErrVarint" = some 1 := by kernel_rfl
theorem Tryd.gt1 : (Tryd.prog.globals[1]?).map (·.type) = some 47 := by kernel_rfl
theorem sent1 {W : World} {L : List (String × DataW Unit)} (h : laidMet Tryd.prog L W) (hm : ("concord/api.ErrVarint", Rows.laid_concord_api_ErrVarint) ∈ L) : ∃ a, Sent W 111 1 (errText 1) a := by
  obtain ⟨r, h⟩ := laidMet_mem h _ hm
  exact sent_head h Tryd.g1 Tryd.gt1 Tryd.underlying47 Tryd.row111 Tryd.underlying111 Tryd.underlying126 rfl rfl Tryd.underlying9 Tryd.cells126 Tryd.cellsT9
theorem Tryd.g2 : Tryd.prog.globalNamed "concord/api.ErrLimit" = some 2 := by kernel_rfl
theorem Tryd.gt2 : (Tryd.prog.globals[2]?).map (·.type) = some 47 := by kernel_rfl
theorem sent2 {W : World} {L : List (String × DataW Unit)} (h : laidMet Tryd.prog L W) (hm : ("concord/api.ErrLimit", Rows.laid_concord_api_ErrLimit) ∈ L) : ∃ a, Sent W 111 2 (errText 2) a := by
  obtain ⟨r, h⟩ := laidMet_mem h _ hm
  exact sent_head h Tryd.g2 Tryd.gt2 Tryd.underlying47 Tryd.row111 Tryd.underlying111 Tryd.underlying126 rfl rfl Tryd.underlying9 Tryd.cells126 Tryd.cellsT9
theorem Tryd.g3 : Tryd.prog.globalNamed "concord/api.ErrOrder" = some 3 := by kernel_rfl
theorem Tryd.gt3 : (Tryd.prog.globals[3]?).map (·.type) = some 47 := by kernel_rfl
theorem sent3 {W : World} {L : List (String × DataW Unit)} (h : laidMet Tryd.prog L W) (hm : ("concord/api.ErrOrder", Rows.laid_concord_api_ErrOrder) ∈ L) : ∃ a, Sent W 111 3 (errText 3) a := by
  obtain ⟨r, h⟩ := laidMet_mem h _ hm
  exact sent_head h Tryd.g3 Tryd.gt3 Tryd.underlying47 Tryd.row111 Tryd.underlying111 Tryd.underlying126 rfl rfl Tryd.underlying9 Tryd.cells126 Tryd.cellsT9
theorem Tryd.g4 : Tryd.prog.globalNamed "concord/api.ErrTail" = some 4 := by kernel_rfl
theorem Tryd.gt4 : (Tryd.prog.globals[4]?).map (·.type) = some 47 := by kernel_rfl
theorem sent4 {W : World} {L : List (String × DataW Unit)} (h : laidMet Tryd.prog L W) (hm : ("concord/api.ErrTail", Rows.laid_concord_api_ErrTail) ∈ L) : ∃ a, Sent W 111 4 (errText 4) a := by
  obtain ⟨r, h⟩ := laidMet_mem h _ hm
  exact sent_head h Tryd.g4 Tryd.gt4 Tryd.underlying47 Tryd.row111 Tryd.underlying111 Tryd.underlying126 rfl rfl Tryd.underlying9 Tryd.cells126 Tryd.cellsT9
theorem Tryd.g5 : Tryd.prog.globalNamed "concord/api.ErrTag" = some 5 := by kernel_rfl
theorem Tryd.gt5 : (Tryd.prog.globals[5]?).map (·.type) = some 47 := by kernel_rfl
theorem sent5 {W : World} {L : List (String × DataW Unit)} (h : laidMet Tryd.prog L W) (hm : ("concord/api.ErrTag", Rows.laid_concord_api_ErrTag) ∈ L) : ∃ a, Sent W 111 5 (errText 5) a := by
  obtain ⟨r, h⟩ := laidMet_mem h _ hm
  exact sent_head h Tryd.g5 Tryd.gt5 Tryd.underlying47 Tryd.row111 Tryd.underlying111 Tryd.underlying126 rfl rfl Tryd.underlying9 Tryd.cells126 Tryd.cellsT9
theorem Tryd.g6 : Tryd.prog.globalNamed "concord/api.ErrSum" = some 6 := by kernel_rfl
theorem Tryd.gt6 : (Tryd.prog.globals[6]?).map (·.type) = some 47 := by kernel_rfl
theorem sent6 {W : World} {L : List (String × DataW Unit)} (h : laidMet Tryd.prog L W) (hm : ("concord/api.ErrSum", Rows.laid_concord_api_ErrSum) ∈ L) : ∃ a, Sent W 111 6 (errText 6) a := by
  obtain ⟨r, h⟩ := laidMet_mem h _ hm
  exact sent_head h Tryd.g6 Tryd.gt6 Tryd.underlying47 Tryd.row111 Tryd.underlying111 Tryd.underlying126 rfl rfl Tryd.underlying9 Tryd.cells126 Tryd.cellsT9
theorem Tryd.g7 : Tryd.prog.globalNamed "concord/api.ErrRange" = some 7 := by kernel_rfl
theorem Tryd.gt7 : (Tryd.prog.globals[7]?).map (·.type) = some 47 := by kernel_rfl
theorem sent7 {W : World} {L : List (String × DataW Unit)} (h : laidMet Tryd.prog L W) (hm : ("concord/api.ErrRange", Rows.laid_concord_api_ErrRange) ∈ L) : ∃ a, Sent W 111 7 (errText 7) a := by
  obtain ⟨r, h⟩ := laidMet_mem h _ hm
  exact sent_head h Tryd.g7 Tryd.gt7 Tryd.underlying47 Tryd.row111 Tryd.underlying111 Tryd.underlying126 rfl rfl Tryd.underlying9 Tryd.cells126 Tryd.cellsT9
theorem Tryd.g8 : Tryd.prog.globalNamed "concord/api.ErrSize" = some 8 := by kernel_rfl
theorem Tryd.gt8 : (Tryd.prog.globals[8]?).map (·.type) = some 47 := by kernel_rfl
theorem sent8 {W : World} {L : List (String × DataW Unit)} (h : laidMet Tryd.prog L W) (hm : ("concord/api.ErrSize", Rows.laid_concord_api_ErrSize) ∈ L) : ∃ a, Sent W 111 8 (errText 8) a := by
  obtain ⟨r, h⟩ := laidMet_mem h _ hm
  exact sent_head h Tryd.g8 Tryd.gt8 Tryd.underlying47 Tryd.row111 Tryd.underlying111 Tryd.underlying126 rfl rfl Tryd.underlying9 Tryd.cells126 Tryd.cellsT9
theorem Tryd.g9 : Tryd.prog.globalNamed "concord/api.ErrCorrupt" = some 9 := by kernel_rfl
theorem Tryd.gt9 : (Tryd.prog.globals[9]?).map (·.type) = some 47 := by kernel_rfl
theorem sent9 {W : World} {L : List (String × DataW Unit)} (h : laidMet Tryd.prog L W) (hm : ("concord/api.ErrCorrupt", Rows.laid_concord_api_ErrCorrupt) ∈ L) : ∃ a, Sent W 111 9 (errText 9) a := by
  obtain ⟨r, h⟩ := laidMet_mem h _ hm
  exact sent_head h Tryd.g9 Tryd.gt9 Tryd.underlying47 Tryd.row111 Tryd.underlying111 Tryd.underlying126 rfl rfl Tryd.underlying9 Tryd.cells126 Tryd.cellsT9
theorem Tryd.g10 : Tryd.prog.globalNamed "concord/api.ErrSchema" = some 10 := by kernel_rfl
theorem Tryd.gt10 : (Tryd.prog.globals[10]?).map (·.type) = some 47 := by kernel_rfl
theorem sent10 {W : World} {L : List (String × DataW Unit)} (h : laidMet Tryd.prog L W) (hm : ("concord/api.ErrSchema", Rows.laid_concord_api_ErrSchema) ∈ L) : ∃ a, Sent W 111 10 (errText 10) a := by
  obtain ⟨r, h⟩ := laidMet_mem h _ hm
  exact sent_head h Tryd.g10 Tryd.gt10 Tryd.underlying47 Tryd.row111 Tryd.underlying111 Tryd.underlying126 rfl rfl Tryd.underlying9 Tryd.cells126 Tryd.cellsT9
theorem Tryd.g11 : Tryd.prog.globalNamed "concord/api.ErrField" = some 11 := by kernel_rfl
theorem Tryd.gt11 : (Tryd.prog.globals[11]?).map (·.type) = some 47 := by kernel_rfl
theorem sent11 {W : World} {L : List (String × DataW Unit)} (h : laidMet Tryd.prog L W) (hm : ("concord/api.ErrField", Rows.laid_concord_api_ErrField) ∈ L) : ∃ a, Sent W 111 11 (errText 11) a := by
  obtain ⟨r, h⟩ := laidMet_mem h _ hm
  exact sent_head h Tryd.g11 Tryd.gt11 Tryd.underlying47 Tryd.row111 Tryd.underlying111 Tryd.underlying126 rfl rfl Tryd.underlying9 Tryd.cells126 Tryd.cellsT9
theorem Tryd.g12 : Tryd.prog.globalNamed "concord/api.ErrValue" = some 12 := by kernel_rfl
theorem Tryd.gt12 : (Tryd.prog.globals[12]?).map (·.type) = some 47 := by kernel_rfl
theorem sent12 {W : World} {L : List (String × DataW Unit)} (h : laidMet Tryd.prog L W) (hm : ("concord/api.ErrValue", Rows.laid_concord_api_ErrValue) ∈ L) : ∃ a, Sent W 111 12 (errText 12) a := by
  obtain ⟨r, h⟩ := laidMet_mem h _ hm
  exact sent_head h Tryd.g12 Tryd.gt12 Tryd.underlying47 Tryd.row111 Tryd.underlying111 Tryd.underlying126 rfl rfl Tryd.underlying9 Tryd.cells126 Tryd.cellsT9
theorem Tryd.g13 : Tryd.prog.globalNamed "concord/api.ErrPattern" = some 13 := by kernel_rfl
theorem Tryd.gt13 : (Tryd.prog.globals[13]?).map (·.type) = some 47 := by kernel_rfl
theorem sent13 {W : World} {L : List (String × DataW Unit)} (h : laidMet Tryd.prog L W) (hm : ("concord/api.ErrPattern", Rows.laid_concord_api_ErrPattern) ∈ L) : ∃ a, Sent W 111 13 (errText 13) a := by
  obtain ⟨r, h⟩ := laidMet_mem h _ hm
  exact sent_head h Tryd.g13 Tryd.gt13 Tryd.underlying47 Tryd.row111 Tryd.underlying111 Tryd.underlying126 rfl rfl Tryd.underlying9 Tryd.cells126 Tryd.cellsT9
theorem Tryd.g14 : Tryd.prog.globalNamed "concord/api.ErrStates" = some 14 := by kernel_rfl
theorem Tryd.gt14 : (Tryd.prog.globals[14]?).map (·.type) = some 47 := by kernel_rfl
theorem sent14 {W : World} {L : List (String × DataW Unit)} (h : laidMet Tryd.prog L W) (hm : ("concord/api.ErrStates", Rows.laid_concord_api_ErrStates) ∈ L) : ∃ a, Sent W 111 14 (errText 14) a := by
  obtain ⟨r, h⟩ := laidMet_mem h _ hm
  exact sent_head h Tryd.g14 Tryd.gt14 Tryd.underlying47 Tryd.row111 Tryd.underlying111 Tryd.underlying126 rfl rfl Tryd.underlying9 Tryd.cells126 Tryd.cellsT9
theorem Tryd.g15 : Tryd.prog.globalNamed "concord/api.ErrSyntax" = some 15 := by kernel_rfl
theorem Tryd.gt15 : (Tryd.prog.globals[15]?).map (·.type) = some 47 := by kernel_rfl
theorem sent15 {W : World} {L : List (String × DataW Unit)} (h : laidMet Tryd.prog L W) (hm : ("concord/api.ErrSyntax", Rows.laid_concord_api_ErrSyntax) ∈ L) : ∃ a, Sent W 111 15 (errText 15) a := by
  obtain ⟨r, h⟩ := laidMet_mem h _ hm
  exact sent_head h Tryd.g15 Tryd.gt15 Tryd.underlying47 Tryd.row111 Tryd.underlying111 Tryd.underlying126 rfl rfl Tryd.underlying9 Tryd.cells126 Tryd.cellsT9
theorem Tryd.g16 : Tryd.prog.globalNamed "concord/api.ErrDeep" = some 16 := by kernel_rfl
theorem Tryd.gt16 : (Tryd.prog.globals[16]?).map (·.type) = some 47 := by kernel_rfl
theorem sent16 {W : World} {L : List (String × DataW Unit)} (h : laidMet Tryd.prog L W) (hm : ("concord/api.ErrDeep", Rows.laid_concord_api_ErrDeep) ∈ L) : ∃ a, Sent W 111 16 (errText 16) a := by
  obtain ⟨r, h⟩ := laidMet_mem h _ hm
  exact sent_head h Tryd.g16 Tryd.gt16 Tryd.underlying47 Tryd.row111 Tryd.underlying111 Tryd.underlying126 rfl rfl Tryd.underlying9 Tryd.cells126 Tryd.cellsT9
theorem Tryd.g17 : Tryd.prog.globalNamed "concord/api.ErrNode" = some 17 := by kernel_rfl
theorem Tryd.gt17 : (Tryd.prog.globals[17]?).map (·.type) = some 47 := by kernel_rfl
theorem sent17 {W : World} {L : List (String × DataW Unit)} (h : laidMet Tryd.prog L W) (hm : ("concord/api.ErrNode", Rows.laid_concord_api_ErrNode) ∈ L) : ∃ a, Sent W 111 17 (errText 17) a := by
  obtain ⟨r, h⟩ := laidMet_mem h _ hm
  exact sent_head h Tryd.g17 Tryd.gt17 Tryd.underlying47 Tryd.row111 Tryd.underlying111 Tryd.underlying126 rfl rfl Tryd.underlying9 Tryd.cells126 Tryd.cellsT9
theorem Tryd.g18 : Tryd.prog.globalNamed "concord/api.ErrTerms" = some 18 := by kernel_rfl
theorem Tryd.gt18 : (Tryd.prog.globals[18]?).map (·.type) = some 47 := by kernel_rfl
theorem sent18 {W : World} {L : List (String × DataW Unit)} (h : laidMet Tryd.prog L W) (hm : ("concord/api.ErrTerms", Rows.laid_concord_api_ErrTerms) ∈ L) : ∃ a, Sent W 111 18 (errText 18) a := by
  obtain ⟨r, h⟩ := laidMet_mem h _ hm
  exact sent_head h Tryd.g18 Tryd.gt18 Tryd.underlying47 Tryd.row111 Tryd.underlying111 Tryd.underlying126 rfl rfl Tryd.underlying9 Tryd.cells126 Tryd.cellsT9
theorem Tryd.g19 : Tryd.prog.globalNamed "concord/api.ErrScore" = some 19 := by kernel_rfl
theorem Tryd.gt19 : (Tryd.prog.globals[19]?).map (·.type) = some 47 := by kernel_rfl
theorem sent19 {W : World} {L : List (String × DataW Unit)} (h : laidMet Tryd.prog L W) (hm : ("concord/api.ErrScore", Rows.laid_concord_api_ErrScore) ∈ L) : ∃ a, Sent W 111 19 (errText 19) a := by
  obtain ⟨r, h⟩ := laidMet_mem h _ hm
  exact sent_head h Tryd.g19 Tryd.gt19 Tryd.underlying47 Tryd.row111 Tryd.underlying111 Tryd.underlying126 rfl rfl Tryd.underlying9 Tryd.cells126 Tryd.cellsT9
theorem Tryd.g20 : Tryd.prog.globalNamed "concord/api.ErrCode" = some 20 := by kernel_rfl
theorem Tryd.gt20 : (Tryd.prog.globals[20]?).map (·.type) = some 47 := by kernel_rfl
theorem sent20 {W : World} {L : List (String × DataW Unit)} (h : laidMet Tryd.prog L W) (hm : ("concord/api.ErrCode", Rows.laid_concord_api_ErrCode) ∈ L) : ∃ a, Sent W 111 20 (errText 20) a := by
  obtain ⟨r, h⟩ := laidMet_mem h _ hm
  exact sent_head h Tryd.g20 Tryd.gt20 Tryd.underlying47 Tryd.row111 Tryd.underlying111 Tryd.underlying126 rfl rfl Tryd.underlying9 Tryd.cells126 Tryd.cellsT9
theorem Tryd.g21 : Tryd.prog.globalNamed "concord/api.ErrFuel" = some 21 := by kernel_rfl
theorem Tryd.gt21 : (Tryd.prog.globals[21]?).map (·.type) = some 47 := by kernel_rfl
theorem sent21 {W : World} {L : List (String × DataW Unit)} (h : laidMet Tryd.prog L W) (hm : ("concord/api.ErrFuel", Rows.laid_concord_api_ErrFuel) ∈ L) : ∃ a, Sent W 111 21 (errText 21) a := by
  obtain ⟨r, h⟩ := laidMet_mem h _ hm
  exact sent_head h Tryd.g21 Tryd.gt21 Tryd.underlying47 Tryd.row111 Tryd.underlying111 Tryd.underlying126 rfl rfl Tryd.underlying9 Tryd.cells126 Tryd.cellsT9
theorem Tryd.g22 : Tryd.prog.globalNamed "concord/api.ErrDoc" = some 22 := by kernel_rfl
theorem Tryd.gt22 : (Tryd.prog.globals[22]?).map (·.type) = some 47 := by kernel_rfl
theorem sent22 {W : World} {L : List (String × DataW Unit)} (h : laidMet Tryd.prog L W) (hm : ("concord/api.ErrDoc", Rows.laid_concord_api_ErrDoc) ∈ L) : ∃ a, Sent W 111 22 (errText 22) a := by
  obtain ⟨r, h⟩ := laidMet_mem h _ hm
  exact sent_head h Tryd.g22 Tryd.gt22 Tryd.underlying47 Tryd.row111 Tryd.underlying111 Tryd.underlying126 rfl rfl Tryd.underlying9 Tryd.cells126 Tryd.cellsT9
theorem Tryd.g23 : Tryd.prog.globalNamed "concord/api.ErrCommand" = some 23 := by kernel_rfl
theorem Tryd.gt23 : (Tryd.prog.globals[23]?).map (·.type) = some 47 := by kernel_rfl
theorem sent23 {W : World} {L : List (String × DataW Unit)} (h : laidMet Tryd.prog L W) (hm : ("concord/api.ErrCommand", Rows.laid_concord_api_ErrCommand) ∈ L) : ∃ a, Sent W 111 23 (errText 23) a := by
  obtain ⟨r, h⟩ := laidMet_mem h _ hm
  exact sent_head h Tryd.g23 Tryd.gt23 Tryd.underlying47 Tryd.row111 Tryd.underlying111 Tryd.underlying126 rfl rfl Tryd.underlying9 Tryd.cells126 Tryd.cellsT9
theorem laidMet_whole {W : World} (h : laidMetH Tryd.prog Rows.wholeNamesRow.laid W) : laidMet Tryd.prog Rows.wholeNamesRow.laid W := h
theorem sent_all {W : World} (h : laidMet Tryd.prog Rows.wholeNamesRow.laid W) : ∀ k, k < 24 → ∃ a, Sent W 111 k (errText k) a
  | 0, _ => sent0 h (by unfold Rows.wholeNamesRow; repeat (first | exact List.mem_cons_self | apply List.mem_cons_of_mem))
  | 1, _ => sent1 h (by unfold Rows.wholeNamesRow; repeat (first | exact List.mem_cons_self | apply List.mem_cons_of_mem))
  | 2, _ => sent2 h (by unfold Rows.wholeNamesRow; repeat (first | exact List.mem_cons_self | apply List.mem_cons_of_mem))
  | 3, _ => sent3 h (by unfold Rows.wholeNamesRow; repeat (first | exact List.mem_cons_self | apply List.mem_cons_of_mem))
  | 4, _ => sent4 h (by unfold Rows.wholeNamesRow; repeat (first | exact List.mem_cons_self | apply List.mem_cons_of_mem))
  | 5, _ => sent5 h (by unfold Rows.wholeNamesRow; repeat (first | exact List.mem_cons_self | apply List.mem_cons_of_mem))
  | 6, _ => sent6 h (by unfold Rows.wholeNamesRow; repeat (first | exact List.mem_cons_self | apply List.mem_cons_of_mem))
  | 7, _ => sent7 h (by unfold Rows.wholeNamesRow; repeat (first | exact List.mem_cons_self | apply List.mem_cons_of_mem))
  | 8, _ => sent8 h (by unfold Rows.wholeNamesRow; repeat (first | exact List.mem_cons_self | apply List.mem_cons_of_mem))
  | 9, _ => sent9 h (by unfold Rows.wholeNamesRow; repeat (first | exact List.mem_cons_self | apply List.mem_cons_of_mem))
  | 10, _ => sent10 h (by unfold Rows.wholeNamesRow; repeat (first | exact List.mem_cons_self | apply List.mem_cons_of_mem))
  | 11, _ => sent11 h (by unfold Rows.wholeNamesRow; repeat (first | exact List.mem_cons_self | apply List.mem_cons_of_mem))
  | 12, _ => sent12 h (by unfold Rows.wholeNamesRow; repeat (first | exact List.mem_cons_self | apply List.mem_cons_of_mem))
  | 13, _ => sent13 h (by unfold Rows.wholeNamesRow; repeat (first | exact List.mem_cons_self | apply List.mem_cons_of_mem))
  | 14, _ => sent14 h (by unfold Rows.wholeNamesRow; repeat (first | exact List.mem_cons_self | apply List.mem_cons_of_mem))
  | 15, _ => sent15 h (by unfold Rows.wholeNamesRow; repeat (first | exact List.mem_cons_self | apply List.mem_cons_of_mem))
  | 16, _ => sent16 h (by unfold Rows.wholeNamesRow; repeat (first | exact List.mem_cons_self | apply List.mem_cons_of_mem))
  | 17, _ => sent17 h (by unfold Rows.wholeNamesRow; repeat (first | exact List.mem_cons_self | apply List.mem_cons_of_mem))
  | 18, _ => sent18 h (by unfold Rows.wholeNamesRow; repeat (first | exact List.mem_cons_self | apply List.mem_cons_of_mem))
  | 19, _ => sent19 h (by unfold Rows.wholeNamesRow; repeat (first | exact List.mem_cons_self | apply List.mem_cons_of_mem))
  | 20, _ => sent20 h (by unfold Rows.wholeNamesRow; repeat (first | exact List.mem_cons_self | apply List.mem_cons_of_mem))
  | 21, _ => sent21 h (by unfold Rows.wholeNamesRow; repeat (first | exact List.mem_cons_self | apply List.mem_cons_of_mem))
  | 22, _ => sent22 h (by unfold Rows.wholeNamesRow; repeat (first | exact List.mem_cons_self | apply List.mem_cons_of_mem))
  | 23, _ => sent23 h (by unfold Rows.wholeNamesRow; repeat (first | exact List.mem_cons_self | apply List.mem_cons_of_mem))
  | n + 24, hn => by omega
end Go.Proofs.YtikdokfkfioeeabDoor
