import Derived.Test.YtiemiphlfbaojaaDoorSyd
import Derived.Test.YtiemiphlfbaojaaDoorAnyz
namespace Go.Proofs.YtiemiphlfbaojaaDoor
open Go.ChangeShapes Go.WideShapes Go.ChangeAt Go.RowKit
variable {w0 w w' : World} {b rc : Nat} {a0 : Option Addr} {R : List Tn} {v : Value} {s : MS}

/-! The machine's levels. -/
def MS.endU (s : MS) : MS := { s with ne := 0, top := ⟨max s.top.n (s.ne + s.top.t), 0, s.top.s⟩ }
def MS.open' (s : MS) : MS := { s with top := ⟨0, 0, false⟩, ou := s.top :: s.ou }
def MS.close' (s : MS) (l : Lv) (r : List Lv) : MS := { s with ne := s.top.n + 1, top := l, ou := r }
theorem lvv_append (G H : List Lv) : lvv (G ++ H) = lvv G ++ lvv H := List.flatMap_append
theorem Tryd.infoLv : (Tryd.prog.info? 50).map (fun i => (i.zero, i.size, i.bytes)) = some (some (.agg #[.int .i64 0, .int .i64 0, .bool false]), 3, 24) := by kernel_rfl
set_option maxRecDepth 20000 in
set_option maxHeartbeats 4000000 in
theorem endU_any (h : Mc w0 w b rc a0 R v s) (h1 : s.ne + s.top.t ≤ 500000000000) (h2 : s.top.n ≤ 500000000000) :
    Calls Tryd.prog 35 #[.pointer (some ⟨b, 0, none⟩)] w fun e w' => e = .returned (.tuple #[]) ∧ Mc w0 w' b rc a0 R v s.endU := by
  obtain ⟨-, -, -, x3, x4, x5, -, -⟩ := h.cells
  have f3 := h.free 3
  have f4 := h.free 4
  have f5 := h.free 5
  have hmx : ((max s.top.n (s.ne + s.top.t) : Nat) : Int) = if (s.top.n : Int) < (s.ne : Int) + (s.top.t : Int) then (s.ne : Int) + (s.top.t : Int) else (s.top.n : Int) := by split <;> omega
  have H1 := hideL (((h.setTn (max s.top.n (s.ne + s.top.t)) _ rfl).later (Kept.drew _)).setTt 0 0 rfl |>.setNe 0 0 rfl)
  have e0 : ({ { { s with top := { s.top with n := max s.top.n (s.ne + s.top.t) } } with top := { { s.top with n := max s.top.n (s.ne + s.top.t) } with t := 0 } } with ne := 0 } : MS) = s.endU := rfl
  generalize hs' : s.endU = s' at *
  have HH : Hid (Mc w0 ((((w.setCell ⟨b, 4, none⟩ (.int .i64 ((max s.top.n (s.ne + s.top.t) : Nat) : Int))).drew).setCell ⟨b, 5, none⟩ (.int .i64 0)).setCell ⟨b, 3, none⟩ (.int .i64 0)) b rc a0 R v s') := by rw [← hs']; exact H1
  clear H1 e0 hs'
  rw [hmx] at HH
  generalize s.top.n = tn at *
  generalize s.top.t = tt at *
  generalize s.ne = ne at *
  clear h hmx
  by_cases hlt : (tn : Int) < (ne : Int) + (tt : Int)
  · rw [if_pos hlt] at HH
    go_enter Tryd.func35, Tryd.ntmps35
    go_wp2_with fail
    go_region
    go_wp2_with fail
    first | go_ret | go_end0
    exact ⟨rfl, HH.out⟩
  · rw [if_neg hlt] at HH
    go_enter Tryd.func35, Tryd.ntmps35
    go_wp2_with fail
    go_region
    go_wp2_with fail
    first | go_ret | go_end0
    exact ⟨rfl, HH.out⟩
end Go.Proofs.YtiemiphlfbaojaaDoor
