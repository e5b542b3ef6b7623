import Derived.Test.YtccmhceehciggaaDoorScy
import Derived.Test.YtccmhceehciggaaDoorRdb2
namespace Go.Proofs.YtccmhceehciggaaDoor
open Go.ChangeShapes Go.WideShapes Go.ChangeAt Go.RowKit Go.Maps Go.WideMaps

def fiN (l : List Fd) (s : ByteArray) : Int := ((fi l s).getD 0 : Nat)
def fiB (l : List Fd) (s : ByteArray) : Bool := (fi l s).isSome
theorem ret2_nb {x y : Int} {a b : Bool} (h : x = y ∧ a = b) : Ending.returned (.tuple #[.int .i64 x, .bool a]) = .returned (.tuple #[.int .i64 y, .bool b]) := by rw [h.1, h.2]
theorem look_eq {l : List Fd} {D : DataW Unit} (h : Nm l D) (s : ByteArray) {c : Int} (hat : D.atKey (.string s.data.toList) (.lit (.int .i64 0)) = .lit (.int .i64 c)) : c = fiN l s ∧ Maps.has D (.string s.data.toList) = fiB l s := by
  cases hf : fi l s with
  | none =>
    have hh : Maps.has D (.string s.data.toList) = false := by rw [h.has]; exact fi_none.1 hf
    rw [atKey_of_not_has hh] at hat
    refine ⟨?_, by rw [hh, fiB, hf]; rfl⟩
    rw [fiN, hf]
    injection hat with hat
    injection hat with _ hat
    exact hat.symm
  | some i =>
    rw [h.at_ s i hf] at hat
    refine ⟨?_, ?_⟩
    · rw [fiN, hf]
      injection hat with hat
      injection hat with _ hat
      exact hat.symm
    · rw [h.has, fiB, hf]
      cases hm : among l s with
      | true => rfl
      | false => rw [fi_none.2 hm] at hf; cases hf
set_option maxRecDepth 20000 in
set_option maxHeartbeats 1000000 in
theorem find_any (l : List Fd) (s : ByteArray) (a : Option Addr) (c : Nat) (w : World) (hF : FsAt w a l) (hO : ∀ f ∈ l, f.Ok) (hl : l.length ≤ 4398046511104) (hs : s.size ≤ maxLen) :
    Calls Tryd.prog 11 #[.agg #[.slice a l.length c], .string s] w fun e w' => e = .returned (.tuple #[.int .i64 (fiN l s), .bool (fiB l s)]) ∧ Kept (fun _ => False) w w' := by
  have KA := Kept.alloc w (.cells #[.slice a l.length c] 24)
  have HB := hideW (numbers_any l a c (w.alloc (.cells #[.slice a l.length c] 24)) (hF.kept KA) hO hl)
  clear hF hO
  go_enter Tryd.func11, Tryd.ntmps11
  go_wp2_with (first
    | (go_at_call 19; refine HB.out.mono ?_; clear HB; rintro e W1 ⟨B, D, rfl, hm, hN, hk1, hB⟩)
    | (at_lookup; refine wpList_lookup_own_ok_int _ rfl _ _ 48 rfl 9 3 .i64 lawK Tryd.underlying48 Tryd.underlying3 (zeroE _) B l.length D rfl hm _ _ rfl (keyOf_string_mk Tryd.underlying9 hs) ?_; intro cc hat hwc)
    | go_in)
  go_ret2
  exact ⟨ret2_nb (look_eq hN s hat), KA.trans hk1 (fun _ f => f.elim)⟩
theorem fi_next {l : List Fd} {k : Nat} (h : k < l.length) (s : ByteArray) (hn : fi (l.take k) s = none) : (l[k].n = s → fi l s = some k) ∧ (l[k].n ≠ s → fi (l.take (k + 1)) s = none) := by
  have e1 : l = l.take k ++ (l[k] :: l.drop (k + 1)) := by rw [List.getElem_cons_drop, List.take_append_drop]
  have hlen : (l.take k).length = k := by rw [List.length_take]; omega
  constructor
  · intro he
    rw [e1, fi_append_none hn]
    have : fi (l[k] :: l.drop (k + 1)) s = some 0 := by unfold fi; rw [List.findIdx?_cons, if_pos (decide_eq_true he)]
    rw [this, hlen]
    simp
  · intro he
    rw [names_next h, fi_append_none hn, fi_one, if_neg he]; rfl
theorem str_eqb (a b : ByteArray) : (a.toList == b.toList) = decide (a = b) := by
  rw [ByteArray.toList_eq, ByteArray.toList_eq, Bool.eq_iff_iff]
  simp only [beq_iff_eq, decide_eq_true_eq]
  exact ⟨fun h => bytes_inj h, fun h => by rw [h]⟩
set_option maxRecDepth 20000 in
set_option maxHeartbeats 1000000 in
/-- The document's Find. -/
theorem rfind_any (l : List Fd) (s : ByteArray) (a : Option Addr) (c : Nat) (w : World) (hF : FsAt w a l) (hl : l.length ≤ 4398046511104) :
    Calls Tryd.prog 12 #[.agg #[.slice a l.length c], .string s] w fun e w' => e = .returned (.tuple #[.int .i64 (fiN l s), .bool (fiB l s)]) ∧ Kept (fun _ => False) w w' := by
  have HF := hideW hF
  clear hF
  go_enter Tryd.func12, Tryd.ntmps12
  go_wp2
  go_loopw [11] (fun i wr => ∃ (k : Nat), k ≤ l.length ∧ i = .int .i64 k ∧ Hid (fi (l.take k) s = none) ∧ Hid (Kept (fun _ => False) w wr)) (fun i _ => l.length - (intOf i).toNat)
  case atStart => exact ⟨0, by omega, rfl, hideW rfl, hideW (Kept.alloc _ _)⟩
  case round =>
    obtain ⟨k, hk, rfl, hN, hK⟩ := hrel
    by_cases hlt : k < l.length
    · obtain ⟨b, off, rfl, hc⟩ := HF.out (by intro e; rw [e] at hlt; simp at hlt)
      obtain ⟨x0, x1, x2, x3, x4⟩ := hc k hlt
      have hnx := fi_next hlt s hN.out
      obtain ⟨f, hf⟩ : ∃ f, f = l[k] := ⟨_, rfl⟩
      rw [← hf] at x0 x1 x2 x3 x4 hnx
      have y0 := hK.out.cell x0 (fun f => f)
      have y1 := hK.out.cell x1 (fun f => f)
      have y2 := hK.out.cell x2 (fun f => f)
      have y3 := hK.out.cell x3 (fun f => f)
      have y4 := hK.out.cell x4 (fun f => f)
      have hi : ((k : Nat) : Int) < (l.length : Int) := by omega
      have HX := hideW hnx
      have hq := str_eqb f.n s
      clear x0 x1 x2 x3 x4 hc hf hnx
      by_cases he : f.n = s
      · rw [show decide (f.n = s) = true from decide_eq_true he] at hq
        have HY := hideW (HX.out.1 he)
        clear he
        go_wp2
        go_ret2
        exact ⟨ret2_nb ⟨by rw [fiN, HY.out]; rfl, by rw [fiB, HY.out]; rfl⟩, hK.out.trans (Kept.alloc _ _) (fun _ f => f.elim)⟩
      · rw [show decide (f.n = s) = false from decide_eq_false he] at hq
        have HY := hideW (HX.out.2 he)
        clear he
        go_wp2
        go_roundw
        case rel => exact ⟨k + 1, by omega, by go_num, HY, hideW (hK.out.trans (Kept.alloc _ _) (fun _ f => f.elim))⟩
        case measure => simp [intOf]; omega
    · obtain rfl : k = l.length := by omega
      have HY := hideW (show fi l s = none by have e := hN.out; rwa [List.take_length] at e)
      go_wp2
      go_ret2
      exact ⟨ret2_nb ⟨by rw [fiN, HY.out]; rfl, by rw [fiB, HY.out]; rfl⟩, hK.out⟩
end Go.Proofs.YtccmhceehciggaaDoor
