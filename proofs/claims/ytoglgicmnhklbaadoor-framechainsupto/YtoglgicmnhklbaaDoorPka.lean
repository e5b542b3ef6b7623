import Derived.Test.YtoglgicmnhklbaaDoorImr
import Derived.ArgAppend
import Derived.Lib.SlBytesConst
namespace Go.Proofs.YtoglgicmnhklbaaDoor
open Go.ChangeShapes Go.WideShapes Go.ChangeAt Go.RowKit

theorem Wq.same {w W W' : World} {bw : Nat} {v : Value} {xs : List Int} (h : Wq w W bw v xs) (k : Kept (fun _ => False) W W') : Wq w W' bw v xs :=
  ⟨h.wr.kept k (fun _ _ f => f), h.new, h.own, h.kept.trans k (fun _ f => f.elim)⟩
end Go.Proofs.YtoglgicmnhklbaaDoor
