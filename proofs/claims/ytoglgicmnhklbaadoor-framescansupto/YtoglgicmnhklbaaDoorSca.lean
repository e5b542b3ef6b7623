import Derived.Test.YtoglgicmnhklbaaDoorBlw
import Derived.Test.YtoglgicmnhklbaaDoorRga
namespace Go.Proofs.YtoglgicmnhklbaaDoor
open Go.ChangeShapes Go.WideShapes Go.ChangeAt Go.RowKit

/-- What Scan tells: place, tag and body of each block. -/
def scn : Nat → Nat → List Int → List (Nat × Int × List Int)
  | 0, _, _ => []
  | f + 1, p, l => match decR l with
    | .error _ => []
    | .ok (t, b, n) => (p, t, b) :: scn f (p + n) (l.drop n)
theorem scn_err {f p : Nat} {l : List Int} {e : Nat} (h : decR l = .error e) : scn (f + 1) p l = [] := by rw [scn, h]
theorem scn_ok {f p : Nat} {l b : List Int} {t : Int} {n : Nat} (h : decR l = .ok (t, b, n)) : scn (f + 1) p l = (p, t, b) :: scn f (p + n) (l.drop n) := by rw [scn, h]
def scan (L : List Int) : List (Nat × Int × List Int) := scn (L.length + 1) 0 L
/-- A block that Scan tells, as it lies. -/
structure Sx where
  p : Nat
  D : BkD
def Sx.dat (x : Sx) : Nat × Int × List Int := (x.p, (x.D.t : Int), x.D.B)
def Sx.encs (x : Sx) : Array Value := #[.int .i64 x.p, .agg #[.int .u8 x.D.t, .slice x.D.a x.D.B.length x.D.c]]
/-- What comes with it: its body is memory that is younger than s. -/
structure ScM (L : List Int) (pre : List Sx) (x : Sx) (s : Nat) (W : World) : Prop where
  row : W.ownsRow s 5 1 (.slice x.D.a x.D.B.length x.D.c) x.D.B.length (bs x.D.B)
  t0 : 0 < x.D.t
  t2 : x.D.t < 256
  isb : IsBytes x.D.B
  come : ∃ rest, scan L = (pre ++ [x]).map Sx.dat ++ rest
theorem ScM.kept {L : List Int} {pre : List Sx} {x : Sx} {s : Nat} {W W' : World} (h : ScM L pre x s W) (k : Kept (fun _ => False) W W') : ScM L pre x s W' :=
  ⟨k.row h.row (fun _ _ f => f), h.t0, h.t2, h.isb, h.come⟩
/-- What Scan reads. -/
structure ScK (L : List Int) (bk : Nat) (a : Option Addr) (c : Nat) (a0 a1 a5 a6 : Addr) (W : World) : Prop where
  tab : TabAt W
  err : Errs4 W a0 a1 a5 a6
  box : W.cell? ⟨bk, 0, none⟩ = some (.slice a L.length c)
  at_ : BytesAt W a L
theorem ScK.kept {L : List Int} {bk c : Nat} {a : Option Addr} {a0 a1 a5 a6 : Addr} {W W' : World} (h : ScK L bk a c a0 a1 a5 a6 W) (k : Kept (fun _ => False) W W') : ScK L bk a c a0 a1 a5 a6 W' :=
  ⟨h.tab.kept k, h.err.kept k, k.cell h.box (fun f => f), bytes_keptF h.at_ k⟩
end Go.Proofs.YtoglgicmnhklbaaDoor
