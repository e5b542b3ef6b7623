import Derived.Test.YtiebmmpnmklpnaaDoorRows
import Derived.WalkKit
import Derived.ProofKit
namespace Go.Proofs.YtiebmmpnmklpnaaDoor
end Go.Proofs.YtiebmmpnmklpnaaDoor
