import Derived.Test.YtmddcjjmlfpffaaAuk
namespace Go.Proofs.Ytmddcjjmlfpffaa
open Go.ChangeShapes Go.WideShapes Go.ChangeAt Go.RowKit

def Zs : ByteArray := ⟨#[]⟩
/-- What the document's automaton is made of. -/
def tld (k : Int) (s : ByteArray) (n : Int) (a1 a2 : Bool) (t1 : ByteArray) (b1 b2 : Bool) (t2 : ByteArray) : Value :=
  if k < 2 ∨ 5 < k then .agg #[.int .i64 1, .string s, .int .i64 0, .bool false, .bool false, .string ⟨#[]⟩, .bool false, .bool false, .string ⟨#[]⟩]
  else .agg #[.int .i64 k, .string s, .int .i64 n, .bool a1, .bool a2, .string t1, .bool b1, .bool b2, .string t2]
/-- The error's number. -/
def bad (k : Int) (l : List UInt8) (n : Int) : Int := if k = 3 ∧ gd l = false then 14 else if k = 4 ∧ (n < 0 ∨ 2 < n) then 8 else 0
end Go.Proofs.Ytmddcjjmlfpffaa
