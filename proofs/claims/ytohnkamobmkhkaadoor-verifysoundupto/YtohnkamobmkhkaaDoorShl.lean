import Derived.Test.YtohnkamobmkhkaaDoorRows
import Derived.WalkKit
import Derived.ProofKit
namespace Go.Proofs.YtohnkamobmkhkaaDoor
end Go.Proofs.YtohnkamobmkhkaaDoor
