import Derived.Test.YtedohkcoeebajaaDoorPoe
import Derived.Test.YtedohkcoeebajaaDoorPof
import Derived.Shelf.Abstract
import Derived.Shelf.RegionOpen
import Derived.TacticsInMore
import Derived.LoopNIn
import Derived.LoopIn
namespace Go.Proofs.YtedohkcoeebajaaDoor
open Go.ChangeShapes Go.WideShapes Go.ChangeAt Go.RowKit Go.Shelf
attribute [local go_sem] Oper.semAt_some

set_option maxRecDepth 20000 in
set_option maxHeartbeats 2000000 in
theorem positionsIn_any (L : List Pg) (a : Option Addr) (c : Nat) (w : World) (h : PsAt w a L) (hl : L.length ≤ 1099511627776) (ht : tot (pol L) ≤ 1099511627776) :
    Calls Tryd.prog 57 #[.slice a L.length c] w fun e w' => e = .returned (.int .i64 ((tot (pol L) : Nat) : Int)) ∧ Kept (fun _ => False) w w' := by
  have HP := hideP h
  obtain ⟨nl, hnl⟩ : ∃ nl, nl = L.length := ⟨_, rfl⟩
  rw [← hnl] at hl ⊢
  have HNL := hideP hnl
  obtain ⟨T, hT⟩ : ∃ T, T = tot (pol L) := ⟨_, rfl⟩
  rw [← hT] at ht ⊢
  have HT := hideP hT
  clear h hnl hT
  go_enter Tryd.func57, Tryd.ntmps57
  go_wp2
  go_loopw [3, 8] (fun v3 v8 wr => ∃ (j s : Nat), j ≤ nl ∧ s ≤ T ∧ v8 = .int .i64 j ∧ v3 = .int .i64 s ∧ Hid (s = tot (pol (L.take j))) ∧ Hid (Kept (fun _ => False) w wr)) (fun _ v8 _ => nl - (intOf v8).toNat)
  case atStart => exact ⟨0, 0, by omega, by omega, rfl, rfl, hideP rfl, hideP (Kept.refl _ _)⟩
  case round =>
    obtain ⟨j, s, hj, hs, rfl, rfl, HS, HK⟩ := hrel
    by_cases hlt : j < nl
    · have hjj : (j : Int) < (nl : Int) := by omega
      have hjl : j < L.length := by rw [← HNL.out]; exact hlt
      obtain ⟨bl, off, rfl, hc⟩ := (HP.out.kept HK.out) (by intro e; rw [e] at hjl; simp at hjl)
      obtain ⟨x0, x1, -⟩ := hc j hjl
      have h2 : s + L[j].ps.length = tot (pol (L.take (j + 1))) := by rw [pol_step hjl, tot_append, ← HS.out]; simp [tot]
      have h3 : s + L[j].ps.length ≤ T := by
        rw [h2, pol_take, HT.out]
        exact tot_take_le _ _
      have HS2 := hideP h2
      clear h2 hc HS
      generalize L[j] = en at *
      obtain ⟨d, pa, pc, ps⟩ := en
      simp only at x0 x1 h3 HS2
      generalize ps.length = n at *
      have HK2 := hideP (HK.out.trans (Kept.alloc wr (.cells #[.int .i64 d, .slice pa n pc] 59)) (fun _ f => f.elim))
      go_wp2
      go_roundw
      case rel => exact ⟨j + 1, s + n, by omega, h3, by go_num, by go_num, HS2, HK2⟩
      case measure => simp [intOf]; omega
    · have hjj : ¬ (j : Int) < (nl : Int) := by omega
      have HE : Hid (s = T) := hideP (by rw [HS.out, HT.out, List.take_of_length_le (by have := HNL.out; omega)])
      go_wp2
      go_ret
      exact ⟨by rw [← HE.out]; rfl, HK.out⟩
/-- What Chunk's function reads. -/
structure ChK (a : Option Addr) (n c b1 b2 : Nat) (W : World) : Prop where
  s : W.cell? ⟨b1, 0, none⟩ = some (.slice a n c)
  i : W.cell? ⟨b2, 0, none⟩ = some (.int .i64 16)
theorem ChK.kept {a : Option Addr} {n c b1 b2 : Nat} {W W' : World} (h : ChK a n c b1 b2 W) (k : Kept (fun _ => False) W W') : ChK a n c b1 b2 W' := ⟨k.cell h.s (fun f => f), k.cell h.i (fun f => f)⟩
def ChM (n : Nat) (pre : List Nat) (x : Nat) (_ : Nat) (_ : World) : Prop := x = pre.length ∧ 16 * x < n
/-- A block's number of documents. -/
def chn (n x : Nat) : Nat := if n - 16 * x < 16 then n - 16 * x else 16
def encC (b off n : Nat) (x : Nat) : Array Value := #[.slice (some ⟨b, off + 16 * x * 2, none⟩) (chn n x) (chn n x)]
end Go.Proofs.YtedohkcoeebajaaDoor
