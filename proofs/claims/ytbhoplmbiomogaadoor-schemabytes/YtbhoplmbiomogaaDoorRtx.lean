import Derived.Test.YtbhoplmbiomogaaDoorTxo
import Derived.Test.YtbhoplmbiomogaaDoorRck
import Derived.Laws.Concat
namespace Go.Proofs.YtbhoplmbiomogaaDoor
open Go.ChangeShapes Go.WideShapes Go.ChangeAt Go.RowKit

def mF : ByteArray := ⟨#[44, 102, 111, 108, 100]⟩
def mS : ByteArray := ⟨#[44, 115, 116, 111, 112]⟩
def mE : ByteArray := ⟨#[44, 115, 116, 101, 109]⟩
theorem stx_snoc : ∀ (F : List Fd) (f : Fd), F ≠ [] → stx (F ++ [f]) = stx F ++ 59 :: ftx f
  | [], _, h => absurd rfl h
  | [g], f, _ => by rw [List.singleton_append, stx_more g (by simp)]; rfl
  | g :: h :: r, f, _ => by
    rw [List.cons_append, stx_more g (by simp), stx_snoc (h :: r) f (by simp), stx_more g (by simp), List.append_assoc, List.cons_append]
theorem app_list (a b : ByteArray) : (a ++ b).data.toList = a.data.toList ++ b.data.toList := by simp
theorem app_size (a b : ByteArray) : (a ++ b).size = a.size + b.size := by simp
theorem ret2_sn {s t : ByteArray} {x y : Int} (h : s = t ∧ x = y) : Ending.returned (.tuple #[.string s, .int .i64 x]) = .returned (.tuple #[.string t, .int .i64 y]) := by rw [h.1, h.2]
/-- The text behind a field, step by step. -/
theorem ftx_steps (T : ByteArray) (P : List UInt8) (hT : T.data.toList = P) (f : Fd) (X1 X2 T2 T3 T4 T5 : ByteArray) (h1 : X1 = f.n ++ ⟨#[58]⟩) (h2 : X2 = X1 ++ bstr (kW f.k)) (h2' : T2 = T ++ X2) (h3 : T3 = if f.fo = true then T2 ++ mF else T2) (h4 : T4 = if f.st = true then T3 ++ mS else T3) (h5 : T5 = if f.se = true then T4 ++ mE else T4) : T5.data.toList = P ++ ftx f := by
  have e2 : T2.data.toList = P ++ (f.n.data.toList ++ 58 :: kW f.k) := by
    rw [h2', app_list, hT, h2, app_list, h1, app_list]
    simp [bstr]
  have e3 : T3.data.toList = T2.data.toList ++ (if f.fo then mFold else []) := by
    rw [h3]; cases f.fo
    · simp
    · simp only [if_true, app_list]; rfl
  have e4 : T4.data.toList = T3.data.toList ++ (if f.st then mStop else []) := by
    rw [h4]; cases f.st
    · simp
    · simp only [if_true, app_list]; rfl
  have e5 : T5.data.toList = T4.data.toList ++ (if f.se then mStem else []) := by
    rw [h5]; cases f.se
    · simp
    · simp only [if_true, app_list]; rfl
  rw [e5, e4, e3, e2, ftx, mks]
  simp [List.append_assoc]
end Go.Proofs.YtbhoplmbiomogaaDoor
