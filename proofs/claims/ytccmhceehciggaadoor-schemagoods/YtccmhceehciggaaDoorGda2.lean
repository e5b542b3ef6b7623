import Derived.Test.YtccmhceehciggaaDoorDcw
import Derived.Test.YtccmhceehciggaaDoorFnd2
import Derived.Test.YtccmhceehciggaaDoorAnyz
namespace Go.Proofs.YtccmhceehciggaaDoor
open Go.ChangeShapes Go.WideShapes Go.ChangeAt Go.RowKit Go.Maps Go.WideMaps

/-- A value. -/
structure Vl where
  n : ByteArray
  t : ByteArray
structure Vl.Ok (x : Vl) : Prop where
  n : x.n.size ≤ maxLen
  t : x.t.size ≤ 140737488355328
def VsAt (w : World) (a : Option Addr) (l : List Vl) : Prop :=
  l ≠ [] → ∃ b off, a = some ⟨b, off, none⟩ ∧ ∀ k (h : k < l.length), w.cell? ⟨b, off + k * 2, none⟩ = some (.string (l[k]).n) ∧ w.cell? ⟨b, off + k * 2 + 1, none⟩ = some (.string (l[k]).t)
theorem VsAt.kept {w w' : World} {a : Option Addr} {l : List Vl} (h : VsAt w a l) (k : Kept (fun _ => False) w w') : VsAt w' a l := by
  intro hne
  obtain ⟨b, off, e, hc⟩ := h hne
  exact ⟨b, off, e, fun j hj => ⟨k.cell (hc j hj).1 (fun f => f), k.cell (hc j hj).2 (fun f => f)⟩⟩
/-- Does a field of this kind take the text? -/
def tkB (k : Int) (t : ByteArray) : Bool := if k = 2 then decide (0 < t.size ∧ t.size ≤ 64) else if k = 3 then decB t.data.toList else true
/-- The errors, as they lie. -/
structure Er4 (w : World) (ad : Nat → Addr) (sy sr : Value) : Prop where
  e1 : w.cell? ⟨11, 0, none⟩ = some (.iface 91 (.pointer (some (ad 1))))
  e2 : w.cell? ⟨1, 0, none⟩ = some (.iface 91 (.pointer (some (ad 2))))
  e3 : w.cell? ⟨12, 0, none⟩ = some (.iface 91 (.pointer (some (ad 3))))
  e4 : w.cell? ⟨0, 0, none⟩ = some (.iface 91 (.pointer (some (ad 4))))
  s1 : w.cell? ⟨27, 0, none⟩ = some sy
  s2 : w.cell? ⟨28, 0, none⟩ = some sr
  i1 : ∃ te pe, sy = .iface te pe
  i2 : ∃ te pe, sr = .iface te pe
theorem Er4.kept {w w' : World} {ad : Nat → Addr} {sy sr : Value} (h : Er4 w ad sy sr) (k : Kept (fun _ => False) w w') : Er4 w' ad sy sr :=
  ⟨k.cell h.e1 (fun f => f), k.cell h.e2 (fun f => f), k.cell h.e3 (fun f => f), k.cell h.e4 (fun f => f), k.cell h.s1 (fun f => f), k.cell h.s2 (fun f => f), h.i1, h.i2⟩
set_option maxRecDepth 20000 in
theorem takes_any (k : Int) (t : ByteArray) (ad : Nat → Addr) (sy sr : Value) (w : World) (ht : t.size ≤ 140737488355328) (hE : Er4 w ad sy sr) :
    Calls Tryd.prog 21 #[.int .i64 k, .string t] w fun e w' => e = .returned (.bool (tkB k t)) ∧ Kept (fun _ => False) w w' := by
  by_cases h2 : k = 2
  · subst h2
    by_cases h0 : t.size = 0
    · have e : tkB 2 t = false := by rw [tkB, if_pos rfl]; exact decide_eq_false (by omega)
      have hE0 : t.toList.isEmpty = true := by rw [empty_of]; exact decide_eq_true h0
      rw [e]
      go_enter Tryd.func21, Tryd.ntmps21
      go_wp2
      go_ret
      exact ⟨rfl, Kept.refl _ _⟩
    · have hE0 : t.toList.isEmpty = false := by rw [empty_of]; exact decide_eq_false h0
      by_cases h64 : (t.size : Int) ≤ 64
      · have e : tkB 2 t = true := by rw [tkB, if_pos rfl]; exact decide_eq_true (by omega)
        rw [e]
        go_enter Tryd.func21, Tryd.ntmps21
        go_wp2
        go_ret
        exact ⟨rfl, Kept.refl _ _⟩
      · have e : tkB 2 t = false := by rw [tkB, if_pos rfl]; exact decide_eq_false (by omega)
        rw [e]
        go_enter Tryd.func21, Tryd.ntmps21
        go_wp2
        go_ret
        exact ⟨rfl, Kept.refl _ _⟩
  · by_cases h3 : k = 3
    · subst h3
      have e : tkB 3 t = decB t.data.toList := by rw [tkB, if_neg (by decide), if_pos rfl]
      rw [e]
      have HP := hideW (parse_any t w ht sy sr hE.s1 hE.i1 hE.s2 hE.i2)
      go_enter Tryd.func21, Tryd.ntmps21
      go_wp2_with (go_at_call 26; refine HP.out.mono ?_; clear HP; rintro e w1 ⟨rfl, hb⟩)
      go_ret
      exact ⟨rfl, Kept.of_below hb⟩
    · have e : tkB k t = true := by rw [tkB, if_neg h2, if_neg h3]
      rw [e]
      go_enter Tryd.func21, Tryd.ntmps21
      go_wp2
      go_ret
      exact ⟨rfl, Kept.refl _ _⟩
/-- What is said of a value: 0 nothing, 1 no such field, 2 too long, 3 not taken. -/
def vcode (F : List Fd) (x : Vl) : Nat := match fi F x.n with
  | none => 1
  | some i => if 4096 < x.t.size then 2 else if tkB ((F[i]?.map (·.k)).getD 0) x.t then 0 else 3
/-- The first that is said of a list. -/
def lcode (F : List Fd) : List Vl → Nat
  | [] => 0
  | x :: r => if vcode F x = 0 then lcode F r else vcode F x
def gcode (F : List Fd) (xs : List Vl) : Nat := if gschema F = false then 4 else if 64 < xs.length then 2 else lcode F xs
theorem lcode_append (F : List Fd) : ∀ (a b : List Vl), lcode F a = 0 → lcode F (a ++ b) = lcode F b
  | [], b, _ => rfl
  | x :: a, b, h => by
    rw [lcode] at h
    by_cases hx : vcode F x = 0
    · rw [if_pos hx] at h
      rw [List.cons_append, lcode, if_pos hx, lcode_append F a b h]
    · rw [if_neg hx] at h
      exact absurd h hx
theorem lcode_one (F : List Fd) (x : Vl) : lcode F [x] = vcode F x := by
  rw [lcode]
  by_cases hx : vcode F x = 0
  · rw [if_pos hx, hx]; rfl
  · rw [if_neg hx]
theorem vl_next {l : List Vl} {k : Nat} (h : k < l.length) : l.take (k + 1) = l.take k ++ [l[k]] := by rw [List.take_add_one, List.getElem?_eq_getElem h]; rfl
theorem lcode_next {F : List Fd} {l : List Vl} {k : Nat} (h : k < l.length) (h0 : lcode F (l.take k) = 0) : (vcode F l[k] = 0 → lcode F (l.take (k + 1)) = 0) ∧ (vcode F l[k] ≠ 0 → lcode F l = vcode F l[k]) := by
  constructor
  · intro hv
    rw [vl_next h, lcode_append F _ _ h0, lcode_one, hv]
  · intro hv
    have e1 : l = l.take k ++ (l[k] :: l.drop (k + 1)) := by rw [List.getElem_cons_drop, List.take_append_drop]
    have : lcode F l = lcode F (l.take k ++ (l[k] :: l.drop (k + 1))) := by rw [← e1]
    rw [this, lcode_append F _ _ h0, lcode, if_neg hv]
def evOf (ad : Nat → Addr) (c : Nat) : Value := if c = 0 then .nilIface else .iface 91 (.pointer (some (ad c)))
theorem ev_zero (ad : Nat → Addr) : evOf ad 0 = .nilIface := rfl
theorem ev_pos (ad : Nat → Addr) {c : Nat} (h : c ≠ 0) : evOf ad c = .iface 91 (.pointer (some (ad c))) := by rw [evOf, if_neg h]
theorem map_kept {H : Type} {P : Program} {k : TypeId} {R : Value → Option (DataW H × List MemPlace)} {w w' : World} {b n : Nat} {D : DataW H} (h : w.ownsMap P k R b n D) (q : Kept (fun _ => False) w w') : w'.ownsMap P k R b n D := by
  obtain ⟨es, cl, h1, h2⟩ := h
  exact ⟨es, cl, q.heap h1 (fun f => f), h2⟩
end Go.Proofs.YtccmhceehciggaaDoor
