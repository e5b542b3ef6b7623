import Derived.Test.YtacmmclamkhpcaaDoorFze
namespace Go.Proofs.YtacmmclamkhpcaaDoor
open Go.ChangeShapes Go.WideShapes Go.ChangeAt Go.RowKit

/-- What Edits answers. -/
def edF (a b : List UInt8) (most : Int) : Int := if (led2 a b : Int) ≤ (if most < 0 then 0 else most) then (led2 a b : Int) else (if most < 0 then 0 else most) + 1
theorem last_nz {x v : Nat} {row : List Nat} (h : row.getLast? = some v) (hl : row.length < (nz (x :: row)).length) : (nz (x :: row))[row.length] = (v : Int) := by
  have h2 : (nz (x :: row))[row.length]? = some (v : Int) := by
    unfold nz
    rw [List.getElem?_map]
    cases row with
    | nil => simp at h
    | cons r q =>
      rw [List.length_cons, List.getElem?_cons_succ]
      rw [List.getLast?_eq_getElem?, List.length_cons, Nat.add_sub_cancel] at h
      rw [h]; rfl
  rw [List.getElem?_eq_getElem hl] at h2
  exact Option.some.inj h2
theorem cell_of_two0 (w : World) (s : ByteArray) (ed : Nat) : (w.alloc (.cells #[.string s, .int .i64 (ed : Nat)] 68)).cell? ⟨w.heap.size, 0, none⟩ = some (.string s) := by simp
theorem cell_of_two1 (w : World) (s : ByteArray) (ed : Nat) : (w.alloc (.cells #[.string s, .int .i64 (ed : Nat)] 68)).cell? ⟨w.heap.size, 1, none⟩ = some (.int .i64 (ed : Nat)) := by simp
/-- The automaton behind the text b: the state T. -/
theorem behindF_any (a b : List UInt8) (ed : Nat) (ha : a.length ≤ 549755000000) (hb : b.length ≤ 549755000000) (hed : ed ≤ 549755000000) (ba sc : Nat) (sa : Option Addr) (w : World) (hA : AuK w ba 68 (.agg #[.string (bq a), .int .i64 (ed : Nat)]) (nz (0 :: List.range (min a.length ed + 1))) sa sc) :
    Calls Tryd.prog 21 #[.pointer (some ⟨ba, 0, none⟩), .string (bq b)] w fun e w' => (∃ a1 c t, e = .returned (.tuple #[.slice a1 (nz (trm (ed + 1) 0 (rwC (ed + 1) a b.reverse))).length c, .int .i64 t]) ∧ NsAt w' a1 (nz (trm (ed + 1) 0 (rwC (ed + 1) a b.reverse))) ∧ IvF a ed (nz (trm (ed + 1) 0 (rwC (ed + 1) a b.reverse))) ∧ (nz (trm (ed + 1) 0 (rwC (ed + 1) a b.reverse))).length ≤ c) ∧ Kept (fun _ => False) w w' := by
  have h := behindK_any (knd_fuzzy w a ed (by omega) (by omega)) _ (ivF_start a ed) sa sc ba b w (Kept.refl _ _) hA (by omega)
  rw [runF_any] at h
  exact h
theorem edF_far {a b : List UInt8} {most : Int} {ed : Nat} (hed : (ed : Int) = if ((max a.length b.length : Nat) : Int) < (if most < 0 then 0 else most) then ((max a.length b.length : Nat) : Int) else (if most < 0 then 0 else most)) (h : ed + 1 ≤ led2 a b) : edF a b most = (ed : Int) + 1 := by
  have h2 := led2_high a b
  unfold edF
  split at hed
  · omega
  · rw [if_neg (by omega)]; omega
theorem edF_near {a b : List UInt8} {most : Int} {ed : Nat} (hed : (ed : Int) = if ((max a.length b.length : Nat) : Int) < (if most < 0 then 0 else most) then ((max a.length b.length : Nat) : Int) else (if most < 0 then 0 else most)) (h : led2 a b < ed + 1) : edF a b most = (led2 a b : Int) := by
  unfold edF
  rw [if_pos]
  split at hed
  · omega
  · omega
end Go.Proofs.YtacmmclamkhpcaaDoor
