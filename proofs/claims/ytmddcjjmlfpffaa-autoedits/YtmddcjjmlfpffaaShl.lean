import Derived.Test.YtmddcjjmlfpffaaRows
import Derived.WalkKit
import Derived.ProofKit
