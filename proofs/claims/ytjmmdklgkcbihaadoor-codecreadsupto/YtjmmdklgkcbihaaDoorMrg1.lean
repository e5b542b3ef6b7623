import Derived.Test.YtjmmdklgkcbihaaDoorMrg2
import Derived.BigQuiet
import Derived.LaidEql
import Derived.Test.YtjmmdklgkcbihaaDoorRdA
import Derived.Test.YtjmmdklgkcbihaaDoorRows
import Derived.Handy
import Derived.OpenShut
namespace Go.Proofs.YtjmmdklgkcbihaaDoor
open Go.ChangeShapes Go.WideShapes Go.ChangeAt Go.RowKit

/-- A call of a script, as a value. -/
def opV (kd : Int) (sec : Bool) (nn uu ii : Int) (bv : Value) (s : ByteArray) (lv : Value) : Value := .agg #[.int .i64 kd, .bool sec, .int .i64 nn, .int .u64 uu, .int .i64 ii, bv, .string s, lv]
def opCells (kd : Int) (sec : Bool) (nn uu ii : Int) (bv : Value) (s : ByteArray) (lv : Value) : Array Value := #[.int .i64 kd, .bool sec, .int .i64 nn, .int .u64 uu, .int .i64 ii, bv, .string s, lv]
def badAt (kd : Int) (l : List Int) (k : Nat) : Bool := decide (l[k]?.getD 0 < 0) || (decide (kd = 8) && decide (0 < k) && decide (l[k]?.getD 0 ≤ l[k - 1]?.getD 0))
def mayB (kd : Int) (l : List Int) : Bool := ((List.range l.length).all fun k => !badAt kd l k) && (decide (kd ≠ 9) || !(l.all fun x => decide (x = 0)) || decide (l.length ≤ 65536))
theorem mayB_bad {kd : Int} {l : List Int} {k : Nat} (hk : k < l.length) (h : badAt kd l k = true) : mayB kd l = false := by
  unfold mayB
  rw [Bool.and_eq_false_iff]
  refine .inl ?_
  rw [List.all_eq_false]
  exact ⟨k, List.mem_range.2 hk, by simp [h]⟩

theorem all_snoc {k : Nat} {l : List Int} (p : Int → Bool) (hk : k < l.length) : (l.take (k + 1)).all p = ((l.take k).all p && p (l[k]?.getD 0)) := by
  rw [List.take_add_one, List.all_append, List.getElem?_eq_getElem hk]
  simp
theorem stepJ {p : Nat → Prop} {k : Nat} (h : ∀ j, j < k → p j) (h2 : p k) : ∀ j, j < k + 1 → p j := by
  intro j hj
  by_cases e : j = k
  · exact e ▸ h2
  · exact h j (by omega)
end Go.Proofs.YtjmmdklgkcbihaaDoor
namespace Go.Proofs.YtjmmdklgkcbihaaDoor
open Go.ChangeShapes Go.WideShapes Go.ChangeAt Go.RowKit

/-- A call of a script, boxed. -/
def opB (kd : Int) (sec : Bool) (nn uu ii : Int) (bv : Value) (s : ByteArray) (lv : Value) : Obj := .cells #[.int .i64 kd, .bool sec, .int .i64 nn, .int .u64 uu, .int .i64 ii, bv, .string s, lv] 37
theorem WStep.alloc (w : World) (o : Obj) (bw : Nat) (v : Value) : WStep w (w.alloc o) bw v v := ⟨(Kept.alloc w o).mono (fun _ f => f.elim), fun _ h => .inl h⟩
theorem Wr.alloc {w : World} {bw : Nat} {v : Value} {xs : List Int} (h : Wr w bw v xs) (o : Obj) : Wr (w.alloc o) bw v xs := h.kept (Kept.alloc w o) (fun _ _ f => f)
theorem BytesAt.alloc {w : World} {a : Option Addr} {l : List Int} (h : BytesAt w a l) (o : Obj) : BytesAt (w.alloc o) a l := by
  intro hne
  obtain ⟨b, off, rfl, hc⟩ := h hne
  exact ⟨b, off, rfl, fun k hk => (Kept.alloc w o).cell (hc k hk) (fun f => f)⟩
def WPut (bw : Nat) (v : Value) (xs : List Int) (w : World) (took : Bool) (b : List Int) (e : Ending) (w' : World) : Prop :=
  e = .returned (.tuple #[.bool took, .bool true]) ∧ ∃ v', Wr w' bw v' (xs ++ b) ∧ WStep w w' bw v v'
theorem WPut.of {bw : Nat} {v v' : Value} {xs b : List Int} {w w1 w' : World} {took : Bool} (k : WStep w w1 bw v v) (hw : Wr w' bw v' (xs ++ b)) (hs : WStep w1 w' bw v v') : WPut bw v xs w took b (.returned (.tuple #[.bool took, .bool true])) w' :=
  ⟨rfl, v', hw, k.trans hs⟩

end Go.Proofs.YtjmmdklgkcbihaaDoor
namespace Go.Proofs.YtjmmdklgkcbihaaDoor
open Go.ChangeShapes Go.WideShapes Go.ChangeAt Go.RowKit

theorem mayB_all {kd : Int} {l : List Int} (h : mayB kd l = true) {k : Nat} (hk : k < l.length) : badAt kd l k = false := by
  unfold mayB at h
  rw [Bool.and_eq_true] at h
  have := List.all_eq_true.1 h.1 k (List.mem_range.2 hk)
  simpa using this
theorem mayB_nonneg {kd : Int} {l : List Int} (h : mayB kd l = true) : ∀ x ∈ l, 0 ≤ x := by
  intro x hx
  obtain ⟨k, hk, rfl⟩ := List.getElem_of_mem hx
  have := mayB_all h hk
  rw [badAt, List.getElem?_eq_getElem hk] at this
  simp at this
  omega
theorem mayB_rise {l : List Int} (h : mayB 8 l = true) : riseB l = true := by
  rw [riseB_iff]
  intro j hj
  have := mayB_all h hj
  rw [badAt] at this
  simp at this
  omega
theorem may8_of {l : List Int} (h0 : ∀ x ∈ l, 0 ≤ x) (hr : riseB l = true) : mayB 8 l = true := by
  rw [riseB_iff] at hr
  unfold mayB
  rw [Bool.and_eq_true]
  refine ⟨List.all_eq_true.2 fun k hk => ?_, by simp⟩
  have hk' := List.mem_range.1 hk
  have h1 := h0 _ (List.getElem_mem hk')
  rw [badAt]
  have e : l[k]?.getD 0 = l[k] := by rw [List.getElem?_eq_getElem hk']; rfl
  rw [e]
  simp only [Bool.not_eq_true', Bool.or_eq_false_iff, Bool.and_eq_false_iff, decide_eq_false_iff_not]
  refine ⟨by omega, ?_⟩
  by_cases hk0 : 0 < k
  · right
    have := hr (k - 1) (by omega)
    rw [show k - 1 + 1 = k by omega, e] at this
    omega
  · left; right; exact hk0
theorem may9_of {l : List Int} (h0 : ∀ x ∈ l, 0 ≤ x) (hz : ¬ (orl l = 0 ∧ 65536 < l.length)) : mayB 9 l = true := by
  unfold mayB
  rw [Bool.and_eq_true]
  refine ⟨List.all_eq_true.2 fun k hk => ?_, ?_⟩
  · have hk' := List.mem_range.1 hk
    have h1 := h0 _ (List.getElem_mem hk')
    rw [badAt, List.getElem?_eq_getElem hk']
    simp
    omega
  · by_cases hb : l.length ≤ 65536
    · simp [hb]
    · have hne : orl l ≠ 0 := fun e => hz ⟨e, by omega⟩
      have : (l.all fun x => decide (x = 0)) = false := by
        cases ha : (l.all fun x => decide (x = 0)) with
        | false => rfl
        | true =>
          rw [List.all_eq_true] at ha
          have := orl_lt 0 l (fun x hx => by have := ha x hx; simp at this; subst this; decide)
          omega
      simp [this]
theorem may9_zero {l : List Int} (h : mayB 9 l = true) : ¬ (orl l = 0 ∧ 65536 < l.length) := by
  rintro ⟨e1, e2⟩
  have h0 := mayB_nonneg h
  unfold mayB at h
  rw [Bool.and_eq_true] at h
  have h2 := h.2
  have : (l.all fun x => decide (x = 0)) = true := by
    rw [List.all_eq_true]
    intro x hx
    have := le_orl l x hx
    have := h0 x hx
    simp
    omega
  rw [this] at h2
  simp at h2
  omega
/-- What a refused list is. -/
theorem may8_not {l : List Int} (h : mayB 8 l = false) : l.any (fun x => decide (x < 0)) = true ∨ (∀ x ∈ l, 0 ≤ x) ∧ riseB l = false := by
  cases ha : l.any (fun x => decide (x < 0)) with
  | true => exact .inl rfl
  | false =>
    have h0 : ∀ x ∈ l, 0 ≤ x := by
      intro x hx
      have := List.any_eq_false.1 ha x hx
      simp at this
      omega
    refine .inr ⟨h0, ?_⟩
    cases hr : riseB l with
    | false => rfl
    | true => rw [may8_of h0 hr] at h; cases h
theorem may9_not {l : List Int} (h : mayB 9 l = false) : l.any (fun x => decide (x < 0)) = true ∨ (∀ x ∈ l, 0 ≤ x) ∧ orl l = 0 ∧ 65536 < l.length := by
  cases ha : l.any (fun x => decide (x < 0)) with
  | true => exact .inl rfl
  | false =>
    have h0 : ∀ x ∈ l, 0 ≤ x := by
      intro x hx
      have := List.any_eq_false.1 ha x hx
      simp at this
      omega
    refine .inr ⟨h0, ?_⟩
    by_cases hz : orl l = 0 ∧ 65536 < l.length
    · exact hz
    · rw [may9_of h0 hz] at h; cases h
end Go.Proofs.YtjmmdklgkcbihaaDoor
namespace Go.Proofs.YtjmmdklgkcbihaaDoor
open Go.ChangeShapes Go.WideShapes Go.ChangeAt Go.RowKit

theorem may9_form {l : List Int} (h : mayB 9 l = true) : bitLen (orl l) ≠ 0 ∨ l.length ≤ 65536 := by
  by_cases hb : l.length ≤ 65536
  · exact .inr hb
  · refine .inl fun e => may9_zero h ⟨?_, by omega⟩
    have : orl l < 2 ^ 0 := (bitLen_le_iff _ _).1 (by omega)
    omega
end Go.Proofs.YtjmmdklgkcbihaaDoor
namespace Go.Proofs.YtjmmdklgkcbihaaDoor
open Go.ChangeShapes Go.WideShapes Go.ChangeAt Go.RowKit

theorem Rd.alloc {w : World} {br : Nat} {v : Value} {l : List Int} {p : Nat} (h : Rd w br v l p) (o : Obj) : Rd (w.alloc o) br v l p := h.kept (Kept.alloc w o) (fun f => f) (fun _ _ f => f)
/-- The reader stands behind what it has read. -/
def RGot (br : Nat) (v : Value) (l : List Int) (q : Nat) (w : World) (e : Ending) (w' : World) : Prop :=
  e = .returned (.bool true) ∧ Rd w' br v l q ∧ Kept (fun i => i = br) w w'
theorem RGot.of {br : Nat} {v : Value} {l : List Int} {p q : Nat} {w w' : World} {o : Obj} (_h : Rd w br v l p) (hr : Rd w' br v l q) (hk : Kept (fun i => i = br) (w.alloc o) w') {b : Bool} (hb : b = true) : RGot br v l q w (.returned (.bool b)) w' :=
  ⟨by rw [hb], hr, ((Kept.alloc w o).mono (fun _ f => f.elim)).trans hk (fun _ e => .inl e)⟩
theorem box_kept {br : Nat} {v : Value} {l : List Int} {p : Nat} {w w2 : World} {o : Obj} (h : Rd w br v l p) (hk : Kept (fun i => i = br) (w.alloc o) w2) : w2.heap[w.heap.size]? = some o := by
  refine hk.heap (heap_alloc_new w _) ?_
  have := lt_of_block h.blk
  show ¬ w.heap.size = br
  omega
theorem drop_at {l b r : List Int} {p : Nat} (hp : p ≤ l.length) (h : l.drop p = b ++ r) : p + b.length ≤ l.length := by
  have := congrArg List.length h
  rw [List.length_drop, List.length_append] at this
  omega

end Go.Proofs.YtjmmdklgkcbihaaDoor
namespace Go.Proofs.YtjmmdklgkcbihaaDoor
open Go.ChangeShapes Go.WideShapes Go.ChangeAt Go.RowKit

theorem str_sb (s : ByteArray) : strOfNums (sb s) = s := by
  have : (strOfNums (sb s)).data.toList = s.data.toList := by
    rw [strOfNums_data, sb, List.map_map]
    conv => rhs; rw [← List.map_id s.data.toList]
    apply List.map_congr_left
    intro b _
    simp
  cases h : strOfNums (sb s)
  cases s
  rw [h] at this
  simpa using this

theorem Tryd.compErr : (Tryd.prog.info? 139).map (·.comparable) = some true := by kernel_rfl
theorem Tryd.sizeErr : (Tryd.prog.info? 155).map (·.size) = some 1 := by kernel_rfl
theorem err_same (a : Addr) (W : World) :
    (binOp .eql 50 (.iface 139 (.pointer (some a))) (.iface 139 (.pointer (some a)))).run Tryd.prog W = .ok (.bool true) W := by
  obtain ⟨i, hi, hci⟩ := Option.map_eq_some_iff.1 Tryd.compErr
  obtain ⟨j, hj, hcj⟩ := Option.map_eq_some_iff.1 Tryd.sizeErr
  exact run_eql_iface_ptr_same W a Tryd.underlying50 Tryd.underlying139 hi hci hj

end Go.Proofs.YtjmmdklgkcbihaaDoor
namespace Go.Proofs.YtjmmdklgkcbihaaDoor
open Go.ChangeShapes Go.WideShapes Go.ChangeAt Go.RowKit

set_option maxRecDepth 20000 in
set_option maxHeartbeats 1000000 in
theorem same_ok (l : List Int) (a b : Option Addr) (c d : Nat) (w : World) (hA : IntsAt w a l) (hB : IntsAt w b l) (hl : l.length ≤ 17592186044416) :
    Calls Tryd.prog 63 #[.slice a l.length c, .slice b l.length d] w fun e w' => e = .returned (.bool true) ∧ ∃ n, w' = w.drewN n := by
  have HA := hide hA
  have HB := hide hB
  clear hA hB
  go_enter Tryd.func63, Tryd.ntmps63
  go_wp2
  go_loopw [13] (fun i wr => (∃ n, wr = w.drewN n) ∧ ∃ k : Nat, k ≤ l.length ∧ i = .int .i64 k) (fun i _ => l.length - (intOf i).toNat)
  case atStart => exact ⟨⟨0, rfl⟩, 0, Nat.zero_le _, rfl⟩
  case round =>
    obtain ⟨⟨n, rfl⟩, k, hk, rfl⟩ := hrel
    by_cases hlt : k < l.length
    · obtain ⟨b1, off, rfl, hc⟩ := HA.out.get hlt
      obtain ⟨b2, off', rfl, hc'⟩ := HB.out.get hlt
      obtain ⟨x, hx⟩ : ∃ x, x = l[k]?.getD 0 := ⟨_, rfl⟩
      rw [← hx] at hc hc'
      clear hx
      go_wp2_with fail
      go_quiet (fail)
      go_wp2
      go_roundw
      case rel => exact ⟨⟨_, rfl⟩, k + 1, by omega, by go_num⟩
      case measure => simp [intOf]; omega
    · obtain rfl : k = l.length := by omega
      clear hlt hk
      go_wp2
      go_ret
      exact ⟨rfl, n, rfl⟩
theorem ints_kept {F : Nat → Prop} {w w' : World} {a : Option Addr} {l : List Int} (h : IntsAt w a l) (k : Kept F w w') (hF : l ≠ [] → ∀ ad, a = some ad → ¬ F ad.block) : IntsAt w' a l := by
  intro hne
  obtain ⟨b, off, e, hc⟩ := h hne
  exact ⟨b, off, e, fun j hj => k.cell (hc j hj) (hF hne ⟨b, off, none⟩ e)⟩
theorem ints_own {w : World} {base n : Nat} {v : Value} {l : List Int} (h : w.ownsRow base 3 1 v n (is l)) : ∃ a c, v = .slice a l.length c ∧ IntsAt w a l := by
  obtain ⟨a, c, e, hn, hc⟩ := ints_of_own h
  refine ⟨a, c, by rw [e, hn], fun hne => ?_⟩
  obtain ⟨b, off, e, _, _, hc'⟩ := hc hne
  exact ⟨b, off, e, hc'⟩

end Go.Proofs.YtjmmdklgkcbihaaDoor
namespace Go.Proofs.YtjmmdklgkcbihaaDoor
open Go.ChangeShapes Go.WideShapes Go.ChangeAt Go.RowKit

/-- string(b) of bytes that lie anywhere. -/
theorem conv_at {W : World} {a : Option Addr} {B : List Int} {c : Nat} (h : BytesAt W a B) : (convert 26 9 (.slice a B.length c)).run Tryd.prog W = .ok (.string (strOfNums B)) W := by
  by_cases hne : B = []
  · subst hne
    cases a with
    | none => exact run_convert_bytes_nil W 26 5 Tryd.underlying26 Tryd.underlying5 0 c 9 Tryd.underlying9
    | some ad =>
      have hl : (loadCells ad 0).run Tryd.prog W = .ok (([] : List Int).map (Value.int .u8)).toArray W := by
        have := run_loadCells_list (P := Tryd.prog) W ad [] (fun j v hj => by simp at hj)
        simpa using this
      show (convert 26 9 (.slice (some ad) 0 c)).run Tryd.prog W = _
      rw [run_convert_bytes_string W 26 9 5 _ 0 c Tryd.underlying26 Tryd.underlying5 Tryd.underlying9, run_bytesToString W _ 0 c [] hl]
      rfl
  · obtain ⟨b, off, rfl, hc⟩ := h hne
    refine run_convert_bytes_arg W 26 5 Tryd.underlying26 Tryd.underlying5 b off B.length c B rfl (fun i hi => ?_) 9 Tryd.underlying9
    simpa [List.getD] using hc i hi
theorem bytes_kept {F : Nat → Prop} {w w' : World} {a : Option Addr} {l : List Int} (h : BytesAt w a l) (k : Kept F w w') (hF : l ≠ [] → ∀ ad, a = some ad → ¬ F ad.block) : BytesAt w' a l := by
  intro hne
  obtain ⟨b, off, e, hc⟩ := h hne
  exact ⟨b, off, e, fun j hj => k.cell (hc j hj) (hF hne ⟨b, off, none⟩ e)⟩

end Go.Proofs.YtjmmdklgkcbihaaDoor
namespace Go.Proofs.YtjmmdklgkcbihaaDoor
open Go.ChangeShapes Go.WideShapes Go.ChangeAt Go.RowKit

set_option maxRecDepth 20000 in
set_option maxHeartbeats 1000000 in
theorem rtext_bad (br : Nat) (v : Value) (l : List Int) (p : Nat) (most : Int) (ad : Addr) (w : World) (h : Rd w br v l p)
    (hc : ∀ a c, BytesAt w a l → ∀ n, Calls Tryd.prog 80 #[.slice a l.length c, .int .i64 p, .int .i64 most] (w.drewN n) fun e w' => e = .returned (.tuple #[.int .i64 0, .int .i64 0, errV ad]) ∧ ∃ m, w' = (w.drewN n).drewN m) :
    Calls Tryd.prog 50 #[.pointer (some ⟨br, 0, none⟩), .int .i64 most] w fun e w' => e = .returned (.tuple #[.string ByteArray.empty, errV ad]) ∧ ∃ n, w' = w.drewN n := by
  have hc1 := h.cell1
  have hc0 := h.cell0
  have hs := h.sm
  obtain ⟨a, c, rfl, hb, _⟩ := bytes_of_own h.own
  have c1 : ∀ n, Calls Tryd.prog 80 #[.slice a l.length c, .int .i64 p, .int .i64 most] (w.drewN n) fun e w' => e = .returned (.tuple #[.int .i64 0, .int .i64 0, .iface 139 (.pointer (some ad))]) ∧ ∃ m, w' = w.drewN m := by
    intro n
    refine (hc a c hb n).mono ?_
    rintro e w' ⟨rfl, m, rfl⟩
    exact ⟨rfl, n + m, by rw [World.drewN_drewN]⟩
  have C1 := hide c1
  clear h hb c1 hc
  go_enter Tryd.func50, Tryd.ntmps50
  go_wp2_with fail
  go_quiet ((exact C1.out _))
  go_wp2
  go_ret2
  exact ⟨rfl, _, rfl⟩

set_option maxRecDepth 20000 in
set_option maxHeartbeats 1000000 in
theorem rris_bad (br : Nat) (v : Value) (l : List Int) (p : Nat) (most : Int) (ad : Addr) (w : World) (h : Rd w br v l p)
    (hc : ∀ a c, BytesAt w a l → ∀ n, Calls Tryd.prog 80 #[.slice a l.length c, .int .i64 p, .int .i64 most] (w.drewN n) fun e w' => e = .returned (.tuple #[.int .i64 0, .int .i64 0, errV ad]) ∧ ∃ m, w' = (w.drewN n).drewN m) :
    Calls Tryd.prog 51 #[.pointer (some ⟨br, 0, none⟩), .int .i64 most] w fun e w' => e = .returned (.tuple #[.slice none 0 0, errV ad]) ∧ ∃ n, w' = w.drewN n := by
  have hc1 := h.cell1
  have hc0 := h.cell0
  have hs := h.sm
  obtain ⟨a, c, rfl, hb, _⟩ := bytes_of_own h.own
  have c1 : ∀ n, Calls Tryd.prog 80 #[.slice a l.length c, .int .i64 p, .int .i64 most] (w.drewN n) fun e w' => e = .returned (.tuple #[.int .i64 0, .int .i64 0, .iface 139 (.pointer (some ad))]) ∧ ∃ m, w' = w.drewN m := by
    intro n
    refine (hc a c hb n).mono ?_
    rintro e w' ⟨rfl, m, rfl⟩
    exact ⟨rfl, n + m, by rw [World.drewN_drewN]⟩
  have C1 := hide c1
  clear h hb c1 hc
  go_enter Tryd.func51, Tryd.ntmps51
  go_wp2_with fail
  go_quiet ((exact C1.out _))
  go_wp2
  go_ret2
  exact ⟨rfl, _, rfl⟩

set_option maxRecDepth 20000 in
set_option maxHeartbeats 1000000 in
theorem rpak_bad (br : Nat) (v : Value) (l : List Int) (p : Nat) (most : Int) (ad : Addr) (w : World) (h : Rd w br v l p)
    (hc : ∀ a c, BytesAt w a l → ∀ n, Calls Tryd.prog 80 #[.slice a l.length c, .int .i64 p, .int .i64 most] (w.drewN n) fun e w' => e = .returned (.tuple #[.int .i64 0, .int .i64 0, errV ad]) ∧ ∃ m, w' = (w.drewN n).drewN m) :
    Calls Tryd.prog 53 #[.pointer (some ⟨br, 0, none⟩), .int .i64 most] w fun e w' => e = .returned (.tuple #[.slice none 0 0, errV ad]) ∧ ∃ n, w' = w.drewN n := by
  have hc1 := h.cell1
  have hc0 := h.cell0
  have hs := h.sm
  obtain ⟨a, c, rfl, hb, _⟩ := bytes_of_own h.own
  have c1 : ∀ n, Calls Tryd.prog 80 #[.slice a l.length c, .int .i64 p, .int .i64 most] (w.drewN n) fun e w' => e = .returned (.tuple #[.int .i64 0, .int .i64 0, .iface 139 (.pointer (some ad))]) ∧ ∃ m, w' = w.drewN m := by
    intro n
    refine (hc a c hb n).mono ?_
    rintro e w' ⟨rfl, m, rfl⟩
    exact ⟨rfl, n + m, by rw [World.drewN_drewN]⟩
  have C1 := hide c1
  clear h hb c1 hc
  go_enter Tryd.func53, Tryd.ntmps53
  go_wp2_with fail
  go_quiet ((exact C1.out _))
  go_wp2
  go_ret2
  exact ⟨rfl, _, rfl⟩

set_option maxRecDepth 20000 in
set_option maxHeartbeats 1000000 in
theorem rtext_short (br : Nat) (v : Value) (l : List Int) (p n k : Nat) (most : Int) (a0 a1 : Addr) (w : World) (h : Rd w br v l p) (hr : rdu 0 0 (l.drop p) = .ok (n, k)) (hm : (n : Int) ≤ most) (hm2 : most ≤ 9223372036854775807) (hn : l.length < p + k + n)
    (g0 : w.cell? ⟨1, 0, none⟩ = some (errV a0)) (g1 : w.cell? ⟨3, 0, none⟩ = some (errV a1)) :
    Calls Tryd.prog 50 #[.pointer (some ⟨br, 0, none⟩), .int .i64 most] w fun e w' => e = .returned (.tuple #[.string ByteArray.empty, errV a0]) ∧ ∃ n, w' = w.drewN n := by
  have hc := h.cell1
  have hc0 := h.cell0
  have hs := h.sm
  have hk := rdu_le _ _ _ _ _ hr
  rw [List.length_drop] at hk
  have hp := h.le
  obtain ⟨a, c, rfl, hb, _⟩ := bytes_of_own h.own
  have c1 : ∀ n', Calls Tryd.prog 80 #[.slice a l.length c, .int .i64 p, .int .i64 most] (w.drewN n') fun e w' => e = .returned (.tuple #[.int .i64 n, .int .i64 ((p + k : Nat) : Int), .nilIface]) ∧ ∃ m, w' = w.drewN m := by
    intro n'
    refine (upat_ok l _ c p n k most a0 a1 (w.drewN n') hb h.isb h.le (by omega) g0 g1 hr hm hm2).mono ?_
    rintro e w' ⟨rfl, m, rfl⟩
    exact ⟨by simp, n' + m, by rw [World.drewN_drewN]⟩
  obtain ⟨q, hq⟩ : ∃ q, q = p + k := ⟨_, rfl⟩
  rw [← hq] at c1 hn
  have hq1 : q ≤ l.length := by omega
  have hnI : (l.length : Int) - q < n := by omega
  have C1 := hide c1
  clear h hb g1 hr c1 hk hq hp
  go_enter Tryd.func50, Tryd.ntmps50
  go_wp2_with fail
  go_quiet ((exact C1.out _))
  go_wp2
  go_quiet (fail)
  go_wp2
  go_ret2
  first
    | exact ⟨rfl, _, rfl⟩
    | exact ⟨rfl, _, by rw [World.drewN_drewN]⟩
end Go.Proofs.YtjmmdklgkcbihaaDoor
namespace Go.Proofs.YtjmmdklgkcbihaaDoor
open Go.ChangeShapes Go.WideShapes Go.ChangeAt Go.RowKit

/-- A refused call: too short, and nothing moves. -/
def Cut (br : Nat) (v : Value) (l : List Int) (z : Value) (a0 : Addr) (w : World) (e : Ending) (w' : World) : Prop :=
  e = .returned (.tuple #[z, .iface 139 (.pointer (some a0))]) ∧ Hid (Rd w' br v l 0 ∧ Kept (fun _ => False) w w')
theorem Cut.quiet {br : Nat} {v : Value} {l : List Int} {z : Value} {a0 : Addr} {w : World} {e : Ending} {w' : World} (h : Rd w br v l 0) (hq : e = .returned (.tuple #[z, errV a0]) ∧ ∃ n, w' = w.drewN n) : Cut br v l z a0 w e w' := by
  obtain ⟨rfl, n, rfl⟩ := hq
  exact ⟨rfl, h.drewN n, Kept.drewN _ _⟩
def SGot (w : World) (e : Ending) (w' : World) : Prop := e = .returned (.bool true) ∧ Kept (fun _ => False) w w'
theorem errOf_zero (a0 a1 : Addr) : errOf a0 a1 0 = errV a0 := rfl
theorem upto_cut (l : List Int) (most : Int) (a0 a1 : Addr) (w : World) (hB : IsBytes l) (hl : l.length ≤ 140737488355328) (g0 : w.cell? ⟨1, 0, none⟩ = some (errV a0)) (g1 : w.cell? ⟨3, 0, none⟩ = some (errV a1)) (hr : rdu 0 0 l = .error 0) :
    ∀ a c, BytesAt w a l → ∀ n, Calls Tryd.prog 80 #[.slice a l.length c, .int .i64 (0 : Nat), .int .i64 most] (w.drewN n) fun e w' => e = .returned (.tuple #[.int .i64 0, .int .i64 0, errV a0]) ∧ ∃ m, w' = (w.drewN n).drewN m := by
  intro a c hb n
  exact upat_err l a c 0 0 most a0 a1 (w.drewN n) hb hB (Nat.zero_le _) (by omega) g0 g1 hr

end Go.Proofs.YtjmmdklgkcbihaaDoor
namespace Go.Proofs.YtjmmdklgkcbihaaDoor
open Go.ChangeShapes Go.WideShapes Go.ChangeAt Go.RowKit

/-- Lists of bytes: where each lies, its room and its bytes. -/
abbrev Part := Option Addr × Nat × List Int
def Part.val (p : Part) : Value := .slice p.1 p.2.2.length p.2.1
def flat (P : List Part) : List Int := (P.map (fun p => p.2.2)).flatten
def PartsAt (w : World) (a : Option Addr) (P : List Part) : Prop :=
  P ≠ [] → ∃ b off, a = some ⟨b, off, none⟩ ∧ ∀ k (h : k < P.length), w.cell? ⟨b, off + k, none⟩ = some (P[k]).val
theorem flat_take {P : List Part} {k : Nat} (h : k < P.length) : flat (P.take (k + 1)) = flat (P.take k) ++ (P[k]).2.2 := by
  rw [flat, List.take_add_one, List.getElem?_eq_getElem h, List.map_append, List.flatten_append, flat]
  simp only [Option.toList_some, List.map_cons, List.map_nil, List.flatten_cons, List.flatten_nil, List.append_nil]
theorem flat_take_le {P : List Part} {k : Nat} : (flat (P.take k)).length ≤ (flat P).length := by
  have e : flat P = flat (P.take k) ++ flat (P.drop k) := by
    rw [flat, flat, flat, ← List.flatten_append, ← List.map_append, List.take_append_drop]
  rw [e, List.length_append]
  omega
theorem flat_next_le {P : List Part} {k : Nat} (h : k < P.length) : (flat (P.take k)).length + (P[k]).2.2.length ≤ (flat P).length := by
  have := flat_take_le (P := P) (k := k + 1)
  rwa [flat_take h, List.length_append] at this
theorem kept_below {w w' : World} (h : Kept (fun _ => False) w w') : Below w.heap.size w w' := h.below (Nat.le_refl _) (fun _ _ f => f)

end Go.Proofs.YtjmmdklgkcbihaaDoor
namespace Go.Proofs.YtjmmdklgkcbihaaDoor
open Go.ChangeShapes Go.WideShapes Go.ChangeAt Go.RowKit

/-- What an Op's parts are and where they lie. -/
structure OpAt (w : World) (ii : Int) (U : Nat) (ba : Option Addr) (bc : Nat) (B : List Int) (s : ByteArray) (la : Option Addr) (L : List Int) : Prop where
  u : U < 18446744073709551616
  i0 : -9223372036854775808 ≤ ii
  i1 : ii ≤ 9223372036854775807
  b : BytesAt w ba B
  bn : ba = none → bc = 0
  bb : IsBytes B
  l : IntsAt w la L
  li : IsInts L
  nb : B.length ≤ 1073741824
  ns : s.size ≤ 1073741824
  nl : L.length ≤ 1073741824
theorem OpAt.kept {F : Nat → Prop} {w w' : World} {ii : Int} {U : Nat} {ba : Option Addr} {bc : Nat} {B : List Int} {s : ByteArray} {la : Option Addr} {L : List Int} (h : OpAt w ii U ba bc B s la L) (k : Kept F w w') (h1 : B ≠ [] → ∀ ad, ba = some ad → ¬ F ad.block) (h2 : L ≠ [] → ∀ ad, la = some ad → ¬ F ad.block) : OpAt w' ii U ba bc B s la L :=
  ⟨h.u, h.i0, h.i1, bytes_kept h.b k h1, h.bn, h.bb, ints_kept h.l k h2, h.li, h.nb, h.ns, h.nl⟩
/-- Is it taken, and which bytes are put? -/
def opOut (kd nn ii : Int) (U : Nat) (B : List Int) (s : ByteArray) (L : List Int) : Bool × List Int :=
  if kd = 1 then (true, [nn % 256]) else if kd = 2 then (true, uvb U) else if kd = 3 then (true, uvb (zig ii).toNat) else if kd = 4 then (true, le 4 (U % 4294967296)) else if kd = 5 then (true, le 8 U)
  else if kd = 6 then (true, B) else if kd = 7 then (true, uvb s.size ++ sb s) else if kd = 8 then (mayB 8 L, if mayB 8 L = true then rising L else []) else if kd = 9 then (mayB 9 L, if mayB 9 L = true then packed L else []) else if kd = 10 then (true, uvb U) else (false, [])
theorem uvb_bytes : ∀ n, IsBytes (uvb n) := by
  intro n
  induction n using Nat.strongRecOn with
  | ind n ih =>
    intro x hx
    by_cases h : n < 128
    · rw [uvb_small h] at hx
      simp at hx
      omega
    · rw [uvb_big h] at hx
      rcases List.mem_cons.1 hx with rfl | hx
      · omega
      · exact ih (n / 128) (by omega) x hx
theorem app_bytes {a b : List Int} (ha : IsBytes a) (hb : IsBytes b) : IsBytes (a ++ b) := by
  intro x hx
  rcases List.mem_append.1 hx with h | h
  · exact ha x h
  · exact hb x h
theorem risb_bytes : ∀ (l : List Int) (s : Nat), IsBytes (risb l s) := by
  intro l
  induction l with
  | nil => intro s x hx; cases hx
  | cons y r ih => intro s; rw [risb]; exact app_bytes (uvb_bytes _) (ih _)
theorem packed_bytes {l : List Int} (h0 : ∀ x ∈ l, 0 ≤ x) (hI : IsInts l) : IsBytes (packed l) := by
  rw [packed_eq]
  refine app_bytes (uvb_bytes _) ?_
  unfold pbody
  split
  · intro x hx; cases hx
  · intro x hx
    have := orl_bits l h0 hI
    rcases List.mem_cons.1 hx with rfl | hx
    · omega
    · exact le_bytes _ _ x hx
theorem uvb_len (n : Nat) (h : n < 18446744073709551616) : 1 ≤ (uvb n).length ∧ (uvb n).length ≤ 10 := by
  rw [uvb_length]
  exact ulen_le n (by simpa using h)
theorem out_bytes {w : World} {kd nn ii : Int} {U : Nat} {ba : Option Addr} {bc : Nat} {B : List Int} {s : ByteArray} {la : Option Addr} {L : List Int} (h : OpAt w ii U ba bc B s la L) : IsBytes (opOut kd nn ii U B s L).2 := by
  unfold opOut
  split
  · intro x hx; simp at hx; omega
  split
  · exact uvb_bytes _
  split
  · exact uvb_bytes _
  split
  · exact le_bytes _ _
  split
  · exact le_bytes _ _
  split
  · exact h.bb
  split
  · exact app_bytes (uvb_bytes _) (sb_bytes _)
  split
  · simp only
    split
    · exact app_bytes (uvb_bytes _) (risb_bytes _ _)
    · intro x hx; cases hx
  split
  · simp only
    split
    · rename_i hm
      exact packed_bytes (mayB_nonneg hm) h.li
    · intro x hx; cases hx
  split
  · exact uvb_bytes _
  · intro x hx; cases hx
theorem out_len {w : World} {kd nn ii : Int} {U : Nat} {ba : Option Addr} {bc : Nat} {B : List Int} {s : ByteArray} {la : Option Addr} {L : List Int} (h : OpAt w ii U ba bc B s la L) : (opOut kd nn ii U B s L).2.length ≤ 17179869184 := by
  have hz := zig_bd ii h.i0 h.i1
  have h1 := uvb_len U h.u
  have h2 := uvb_len (zig ii).toNat (by omega)
  have h3 := uvb_len s.size (by have := h.ns; omega)
  have h4 := uvb_len L.length (by have := h.nl; omega)
  have hb := h.nb
  have hs := h.ns
  have hl := h.nl
  have hA : (rising L).length ≤ 17179869184 := by
    have := risb_length L 0 (fun x hx => (h.li x hx).2)
    rw [rising, List.length_append]
    omega
  have hP : mayB 9 L = true → (packed L).length ≤ 17179869184 := by
    intro hm
    have hw := orl_bits L (mayB_nonneg hm) h.li
    have hmul : L.length * bitLen (orl L) ≤ L.length * 63 := Nat.mul_le_mul_left _ hw
    have hd : (L.length * bitLen (orl L) + 7) / 8 ≤ 8589934592 := by omega
    rw [uvb_length] at h4
    have e := packed_length L
    split at e <;> omega
  have z0 : ([] : List Int).length = 0 := rfl
  have z1 : [nn % 256].length = 1 := rfl
  have z4 := le_length 4 (U % 4294967296)
  have z8 := le_length 8 U
  have zs : (uvb s.size ++ sb s).length = (uvb s.size).length + s.size := by rw [List.length_append, sb_length]
  have ha : (if mayB 8 L = true then rising L else []).length ≤ 17179869184 := by
    by_cases hm : mayB 8 L = true
    · rw [if_pos hm]; exact hA
    · rw [if_neg hm]; omega
  have hp : (if mayB 9 L = true then packed L else []).length ≤ 17179869184 := by
    by_cases hm : mayB 9 L = true
    · rw [if_pos hm]; exact hP hm
    · rw [if_neg hm]; omega
  have key : ∀ (c : Prop) [Decidable c] (p q : Bool × List Int), p.2.length ≤ 17179869184 → q.2.length ≤ 17179869184 → (if c then p else q).2.length ≤ 17179869184 := by
    intro c _ p q hp hq
    by_cases hc : c
    · rw [if_pos hc]; exact hp
    · rw [if_neg hc]; exact hq
  unfold opOut
  refine key _ _ _ (by rw [z1]; omega) (key _ _ _ (by show (uvb U).length ≤ _; omega) (key _ _ _ (by show (uvb (zig ii).toNat).length ≤ _; omega) (key _ _ _ (by show (le 4 _).length ≤ _; omega) (key _ _ _ (by show (le 8 _).length ≤ _; omega) (key _ _ _ (by show B.length ≤ _; omega) (key _ _ _ (by show (uvb s.size ++ sb s).length ≤ _; omega) (key _ _ _ ha (key _ _ _ hp (key _ _ _ (by show (uvb U).length ≤ _; omega) (by rw [z0]; omega))))))))))

end Go.Proofs.YtjmmdklgkcbihaaDoor
namespace Go.Proofs.YtjmmdklgkcbihaaDoor
open Go.ChangeShapes Go.WideShapes Go.ChangeAt Go.RowKit

/-- A count and what is behind it, cut: the count is too short, or it is whole. -/
theorem cut_two (n k : Nat) (b : List Int) (hn : n < 18446744073709551616) (hk : k < (uvb n ++ b).length) : rdu 0 0 ((uvb n ++ b).take k) = .error 0 ∨ ∃ j, rdu 0 0 ((uvb n ++ b).take k) = .ok (n, (uvb n).length) ∧ ((uvb n ++ b).take k).drop (uvb n).length = b.take j ∧ j < b.length ∧ k = (uvb n).length + j := by
  rw [List.length_append] at hk
  rw [List.take_append]
  by_cases hlt : k < (uvb n).length
  · rw [show k - (uvb n).length = 0 by omega, List.take_zero, List.append_nil]
    exact .inl (rdu_cut n k hn hlt)
  · rw [List.take_of_length_le (Nat.not_lt.1 hlt)]
    exact .inr ⟨k - (uvb n).length, rdu_uvb n _ hn, List.drop_left, by omega, by omega⟩
end Go.Proofs.YtjmmdklgkcbihaaDoor
namespace Go.Proofs.YtjmmdklgkcbihaaDoor
open Go.ChangeShapes Go.WideShapes Go.ChangeAt Go.RowKit

theorem Tryd.cU8 : Tryd.prog.cellsOf 5 = 1 := by kernel_rfl
theorem Tryd.bytesU8 : Tryd.prog.bytesOf 5 = 1 := by kernel_rfl
/-- Every value counts. -/
theorem bulk_pos {H : Type} (d : DataW H) : 1 ≤ Rows.uptoBulk d := by
  cases d with
  | lit l => cases l <;> simp [Rows.uptoBulk]
  | _ => simp [Rows.uptoBulk]
theorem bulk_count {H : Type} : ∀ l : List (DataW H), l.length ≤ Rows.uptoBulkAll l
  | [] => by simp
  | x :: r => by
    have h1 := bulk_pos x
    have h2 := bulk_count r
    simp only [Rows.uptoBulkAll, List.length_cons]
    omega
theorem bulk_mem {H : Type} {d : DataW H} : ∀ {l : List (DataW H)}, d ∈ l → Rows.uptoBulk d ≤ Rows.uptoBulkAll l
  | x :: r, h => by
    simp only [Rows.uptoBulkAll]
    rcases List.mem_cons.1 h with rfl | h
    · omega
    · have := bulk_mem h
      omega
theorem bulk_slice {H : Type} (es sp : List (DataW H)) : es.length < Rows.uptoBulk (.slice es sp) := by
  have := bulk_count es
  simp only [Rows.uptoBulk]
  omega
theorem bytesAt_lt {W : World} {a : Option Addr} {B : List Int} (h : BytesAt W a B) (hne : B ≠ []) : ∀ ad, a = some ad → ad.block < W.heap.size := by
  obtain ⟨b, off, rfl, hc⟩ := h hne
  rintro ad e
  obtain rfl := Option.some.inj e
  exact World.block_lt_of_cell? W _ (hc 0 (List.length_pos_iff.2 hne))
/-- A slice of bytes that came in. -/
theorem bytes_in {H : Type} {enc : TypeId × Value → H} {W : World} {fuel : Nat} {cs : List Value} {x : DataW H × List MemPlace} (hf : DataW.trod enc Tryd.prog W 0 (fun _ => true) true fuel 26 cs = some x) :
    ∃ (a : Option Addr) (c : Nat) (B : List Int), cs = [.slice a B.length c] ∧ BytesAt W a B ∧ IsBytes B ∧ (a = none → c = 0) ∧ B.length < Rows.uptoBulk x.1 ∧ (x.1 = .nil ∧ B.length = 0 ∨ ∃ es sp, x.1 = .slice es sp ∧ es.length = B.length) := by
  rcases open_ints Tryd.underlying26 Tryd.underlying5 Tryd.cU8 hf with ⟨rfl, rfl⟩ | ⟨a, l, c, zs, rfl, _, hl, hm, hz, rfl, hcell, hwz⟩
  · exact ⟨none, 0, [], rfl, fun e => (e rfl).elim, fun y hy => (by cases hy), fun _ => rfl, bulk_pos _, .inl ⟨rfl, rfl⟩⟩
  · simp only [if_true] at hz
    have hlen : (zs.take l).length = l := by rw [List.length_take]; omega
    refine ⟨some a, c, zs.take l, by rw [hlen], fun hne => ?_, fun y hy => ?_, (fun e => nomatch e), ?_, .inr ⟨_, _, rfl, by simp [lits]⟩⟩
    · have hpos : 0 < zs.length := by
        have := List.length_pos_iff.2 hne
        omega
      obtain ⟨b, off, rfl, hc⟩ := ints_at hcell hpos
      refine ⟨b, off, rfl, fun k hk => ?_⟩
      have := hc k (by omega)
      rw [List.getElem?_take, if_pos (by omega)]
      simpa [List.getD] using this
    · have := bounds_u8 (hwz y (List.mem_of_mem_take hy))
      omega
    · have := bulk_slice (H := H) (lits .u8 (zs.take l)) (lits .u8 (zs.drop l))
      have e : (lits (H := H) .u8 (zs.take l)).length = (zs.take l).length := by simp [lits]
      rw [e] at this
      exact this
/-- The same, without the datum. -/
theorem bytes_of {H : Type} {enc : TypeId × Value → H} {W : World} {fuel : Nat} {cs : List Value} {x : DataW H × List MemPlace} (hf : DataW.trod enc Tryd.prog W 0 (fun _ => true) true fuel 26 cs = some x) :
    ∃ (a : Option Addr) (c : Nat) (B : List Int), cs = [.slice a B.length c] ∧ BytesAt W a B ∧ IsBytes B ∧ (a = none → c = 0) ∧ B.length < Rows.uptoBulk x.1 := by
  obtain ⟨a, c, B, h1, h2, h3, h4, h5, -⟩ := bytes_in hf
  exact ⟨a, c, B, h1, h2, h3, h4, h5⟩
end Go.Proofs.YtjmmdklgkcbihaaDoor
namespace Go.Proofs.YtjmmdklgkcbihaaDoor
open Go.ChangeShapes Go.WideShapes Go.ChangeAt Go.RowKit

theorem Tryd.c1 : Tryd.prog.cellsOf 3 = 1 ∧ Tryd.prog.cellsOf 4 = 1 ∧ Tryd.prog.cellsOf 34 = 1 ∧ Tryd.prog.cellsOf 2 = 1 ∧ Tryd.prog.cellsOf 26 = 1 ∧ Tryd.prog.cellsOf 9 = 1 ∧ Tryd.prog.cellsOf 35 = 1 ∧ Tryd.prog.cellsOf 5 = 1 ∧ Tryd.prog.cellsOf 37 = 8 := by
  refine ⟨?_, ?_, ?_, ?_, ?_, ?_, ?_, ?_, ?_⟩ <;> kernel_rfl
theorem list8 {α : Type} {l : List α} (h : l.length = 8) : ∃ a b c d e f g i, l = [a, b, c, d, e, f, g, i] := by
  match l, h with
  | [a, b, c, d, e, f, g, i], _ => exact ⟨a, b, c, d, e, f, g, i, rfl⟩
theorem intsAt_lt {W : World} {a : Option Addr} {B : List Int} (h : IntsAt W a B) (hne : B ≠ []) : ∀ ad, a = some ad → ad.block < W.heap.size := by
  obtain ⟨b, off, rfl, hc⟩ := h hne
  rintro ad e
  obtain rfl := Option.some.inj e
  exact World.block_lt_of_cell? W _ (hc 0 (List.length_pos_iff.2 hne))
/-- A slice of ints that came in. -/
theorem ints_of {H : Type} {enc : TypeId × Value → H} {W : World} {fuel : Nat} {cs : List Value} {x : DataW H × List MemPlace} (hf : DataW.trod enc Tryd.prog W 0 (fun _ => true) true fuel 35 cs = some x) :
    ∃ (a : Option Addr) (c : Nat) (B : List Int), cs = [.slice a B.length c] ∧ IntsAt W a B ∧ IsInts B ∧ (a = none → c = 0) ∧ B.length < Rows.uptoBulk x.1 := by
  rcases open_ints Tryd.underlying35 Tryd.underlying3 Tryd.c1.1 hf with ⟨rfl, rfl⟩ | ⟨a, l, c, zs, rfl, _, hl, hm, hz, rfl, hcell, hwz⟩
  · exact ⟨none, 0, [], rfl, fun e => (e rfl).elim, fun y hy => (by cases hy), fun _ => rfl, bulk_pos _⟩
  · simp only [if_true] at hz
    have hlen : (zs.take l).length = l := by rw [List.length_take]; omega
    refine ⟨some a, c, zs.take l, by rw [hlen], fun hne => ?_, fun y hy => ?_, (fun e => nomatch e), ?_⟩
    · have hpos : 0 < zs.length := by
        have := List.length_pos_iff.2 hne
        omega
      obtain ⟨b, off, rfl, hc⟩ := ints_at hcell hpos
      refine ⟨b, off, rfl, fun k hk => ?_⟩
      have := hc k (by omega)
      rw [List.getElem?_take, if_pos (by omega)]
      simpa [List.getD] using this
    · have := bounds_i64 (hwz y (List.mem_of_mem_take hy))
      omega
    · have := bulk_slice (H := H) (lits .i64 (zs.take l)) (lits .i64 (zs.drop l))
      have e : (lits (H := H) .i64 (zs.take l)).length = (zs.take l).length := by simp [lits]
      rw [e] at this
      exact this
/-- An Op's eight cells. -/
def opRow (kd : Int) (sec : Bool) (nn : Int) (U : Nat) (ii : Int) (ba : Option Addr) (bl bc : Nat) (s : ByteArray) (la : Option Addr) (ll lc : Nat) : List Value :=
  [.int .i64 kd, .bool sec, .int .i64 nn, .int .u64 U, .int .i64 ii, .slice ba bl bc, .string s, .slice la ll lc]
set_option maxRecDepth 100000 in
/-- The cells of an Op that came in. -/
theorem op_of {H : Type} {enc : TypeId × Value → H} {W : World} {fuel : Nat} {cs : List Value} {x : DataW H × List MemPlace} (hf : DataW.trod enc Tryd.prog W 0 (fun _ => true) true fuel 37 cs = some x) (hk : Rows.uptoBulk x.1 ≤ 1073741824) :
    ∃ (kd : Int) (sec : Bool) (nn : Int) (U : Nat) (ii : Int) (ba : Option Addr) (bc : Nat) (B : List Int) (s : ByteArray) (la : Option Addr) (lc : Nat) (L : List Int),
      cs = opRow kd sec nn U ii ba B.length bc s la L.length lc ∧ OpAt W ii U ba bc B s la L ∧ (-9223372036854775808 ≤ nn ∧ nn ≤ 9223372036854775807) ∧ B.length + s.size + L.length < Rows.uptoBulk x.1 := by
  obtain ⟨xs, n, rfl, hx, hl, hxl, hfs⟩ := DataW.trod_struct Tryd.underlying37 hf
  obtain ⟨c1, c2, c3, c4, c5, c6, c7, c8, c9⟩ := Tryd.c1
  obtain ⟨x0, x1, x2, x3, x4, x5, x6, x7, rfl⟩ := list8 hxl
  rw [c9] at hl
  obtain ⟨y0, y1, y2, y3, y4, y5, y6, y7, rfl⟩ := list8 hl
  have q0 : DataW.trod enc Tryd.prog W 0 (fun _ => true) true n 3 (([y0, y1, y2, y3, y4, y5, y6, y7].drop 0).take (Tryd.prog.cellsOf 3)) = some x0 := hfs 0 _ rfl
  have q1 : DataW.trod enc Tryd.prog W 0 (fun _ => true) true n 4 (([y0, y1, y2, y3, y4, y5, y6, y7].drop 1).take (Tryd.prog.cellsOf 4)) = some x1 := hfs 1 _ rfl
  have q2 : DataW.trod enc Tryd.prog W 0 (fun _ => true) true n 3 (([y0, y1, y2, y3, y4, y5, y6, y7].drop 2).take (Tryd.prog.cellsOf 3)) = some x2 := hfs 2 _ rfl
  have q3 : DataW.trod enc Tryd.prog W 0 (fun _ => true) true n 34 (([y0, y1, y2, y3, y4, y5, y6, y7].drop 3).take (Tryd.prog.cellsOf 34)) = some x3 := hfs 3 _ rfl
  have q4 : DataW.trod enc Tryd.prog W 0 (fun _ => true) true n 2 (([y0, y1, y2, y3, y4, y5, y6, y7].drop 4).take (Tryd.prog.cellsOf 2)) = some x4 := hfs 4 _ rfl
  have q5 : DataW.trod enc Tryd.prog W 0 (fun _ => true) true n 26 (([y0, y1, y2, y3, y4, y5, y6, y7].drop 5).take (Tryd.prog.cellsOf 26)) = some x5 := hfs 5 _ rfl
  have q6 : DataW.trod enc Tryd.prog W 0 (fun _ => true) true n 9 (([y0, y1, y2, y3, y4, y5, y6, y7].drop 6).take (Tryd.prog.cellsOf 9)) = some x6 := hfs 6 _ rfl
  have q7 : DataW.trod enc Tryd.prog W 0 (fun _ => true) true n 35 (([y0, y1, y2, y3, y4, y5, y6, y7].drop 7).take (Tryd.prog.cellsOf 35)) = some x7 := hfs 7 _ rfl
  rw [c1] at q0 q2
  rw [c2] at q1
  rw [c3] at q3
  rw [c4] at q4
  rw [c5] at q5
  rw [c6] at q6
  rw [c7] at q7
  simp only [List.drop, List.take] at q0 q1 q2 q3 q4 q5 q6 q7
  obtain ⟨kd, e0, -, -⟩ := DataW.trod_int Tryd.underlying3 q0
  obtain ⟨sec, e1, -⟩ := DataW.trod_bool Tryd.underlying4 q1
  obtain ⟨nn, e2, -, w2⟩ := DataW.trod_int Tryd.underlying3 q2
  obtain ⟨u, e3, -, w3⟩ := DataW.trod_int Tryd.underlying34 q3
  obtain ⟨ii, e4, -, w4⟩ := DataW.trod_int Tryd.underlying2 q4
  obtain ⟨ba, bc, B, e5, hb1, hb2, hb3, hb4⟩ := bytes_of q5
  obtain ⟨s, e6, f6, -⟩ := DataW.trod_string Tryd.underlying9 q6
  obtain ⟨la, lc, L, e7, hl1, hl2, -, hl4⟩ := ints_of q7
  have b3 := bounds_u64 w3
  have b4 := bounds_i64 w4
  have b2 := bounds_i64 w2
  obtain ⟨U, rfl⟩ : ∃ U : Nat, u = U := ⟨u.toNat, by omega⟩
  simp only [List.cons.injEq, and_true] at e0 e1 e2 e3 e4 e5 e6 e7
  subst e0 e1 e2 e3 e4 e5 e6 e7
  have hB : Rows.uptoBulk x.1 = Rows.uptoBulk x0.1 + (Rows.uptoBulk x1.1 + (Rows.uptoBulk x2.1 + (Rows.uptoBulk x3.1 + (Rows.uptoBulk x4.1 + (Rows.uptoBulk x5.1 + (Rows.uptoBulk x6.1 + (Rows.uptoBulk x7.1 + 0))))))) + 1 := by
    rw [hx]
    simp only [List.map, Rows.uptoBulk, Rows.uptoBulkAll]
  have hS : Rows.uptoBulk x6.1 = s.size + 1 := by
    rw [f6]
    simp [Rows.uptoBulk]
  refine ⟨kd, sec, nn, U, ii, ba, bc, B, s, la, lc, L, rfl, ⟨by omega, by omega, by omega, hb1, hb3, hb2, hl1, hl2, by omega, by omega, by omega⟩, ⟨by omega, by omega⟩, by omega⟩
end Go.Proofs.YtjmmdklgkcbihaaDoor
namespace Go.Proofs.YtjmmdklgkcbihaaDoor
open Go.ChangeShapes Go.WideShapes Go.ChangeAt Go.RowKit

/-- An Op, as it lies. -/
structure OpD where
  kd : Int
  sec : Bool
  nn : Int
  U : Nat
  ii : Int
  ba : Option Addr
  bc : Nat
  B : List Int
  s : ByteArray
  la : Option Addr
  lc : Nat
  L : List Int
def OpD.cells (o : OpD) : List Value := opRow o.kd o.sec o.nn o.U o.ii o.ba o.B.length o.bc o.s o.la o.L.length o.lc
def OpD.out (o : OpD) : Bool × List Int := opOut o.kd o.nn o.ii o.U o.B o.s o.L
def OpD.size (o : OpD) : Nat := o.B.length + o.s.size + o.L.length + 1
structure OpD.At (w : World) (o : OpD) : Prop where
  op : OpAt w o.ii o.U o.ba o.bc o.B o.s o.la o.L
  n0 : -9223372036854775808 ≤ o.nn
  n1 : o.nn ≤ 9223372036854775807
theorem OpD.cells_length (o : OpD) : o.cells.length = 8 := rfl
def total : List OpD → Nat
  | [] => 0
  | o :: r => o.size + total r
theorem total_append : ∀ a b, total (a ++ b) = total a + total b
  | [], b => by simp [total]
  | o :: r, b => by simp only [List.cons_append, total, total_append r b]; omega
theorem total_count : ∀ l, l.length ≤ total l
  | [] => Nat.le_refl _
  | o :: r => by have := total_count r; simp only [total, OpD.size, List.length_cons]; omega
/-- Where the Ops of a list lie. -/
def OpsAt (w : World) (a : Option Addr) (S : List OpD) : Prop :=
  S ≠ [] → ∃ b off, a = some ⟨b, off, none⟩ ∧ ∀ k (h : k < S.length) j, j < 8 → w.cell? ⟨b, off + (k * 8 + j), none⟩ = (S[k]).cells[j]?
theorem choose_list {α : Type} {P : Nat → α → Prop} : ∀ n, (∀ i, i < n → ∃ a, P i a) → ∃ l : List α, l.length = n ∧ ∀ i (h : i < l.length), P i l[i]
  | 0, _ => ⟨[], rfl, fun i h => by simp at h⟩
  | n + 1, h => by
    obtain ⟨l, hl, hp⟩ := choose_list n (fun i hi => h i (by omega))
    obtain ⟨a, ha⟩ := h n (by omega)
    refine ⟨l ++ [a], by simp [hl], fun i hi => ?_⟩
    by_cases hn : i < l.length
    · rw [List.getElem_append_left hn]
      exact hp i hn
    · have : i = l.length := by simp at hi; omega
      subst this
      rw [List.getElem_append_right (by omega)]
      simp only [Nat.sub_self, List.getElem_cons_zero, hl]
      exact ha
theorem total_le {H : Type} : ∀ (S : List OpD) (ds : List (DataW H)), S.length = ds.length → (∀ i (h : i < S.length) (h' : i < ds.length), (S[i]).size ≤ Rows.uptoBulk ds[i]) → total S ≤ Rows.uptoBulkAll ds
  | [], ds, _, _ => Nat.zero_le _
  | o :: r, [], h, _ => by simp at h
  | o :: r, d :: ds, h, hp => by
    have h0 : o.size ≤ Rows.uptoBulk d := hp 0 (by simp) (by simp)
    have h1 := total_le r ds (by simpa using h) (fun i hi hi' => hp (i + 1) (by simp; omega) (by simp; omega))
    simp only [total, Rows.uptoBulkAll]
    omega
theorem bulkAll_append {H : Type} : ∀ a b : List (DataW H), Rows.uptoBulkAll (a ++ b) = Rows.uptoBulkAll a + Rows.uptoBulkAll b
  | [], b => by simp [Rows.uptoBulkAll]
  | x :: a, b => by simp only [List.cons_append, Rows.uptoBulkAll, bulkAll_append a b]; omega
theorem cells_each {w : World} {base : Nat} {a : Addr} {n : Nat} {cs : List Value} (h : w.cells? base a n = some cs) : cs.length = n ∧ ∀ j, j < n → w.cell? (a.add j) = cs[j]? := (World.cells?_some h).2
/-- A script that came in. -/
theorem ops_of {H : Type} {enc : TypeId × Value → H} {W : World} {fuel : Nat} {cs : List Value} {x : DataW H × List MemPlace} (hf : DataW.trod enc Tryd.prog W 0 (fun _ => true) true fuel 22 cs = some x) (hk : Rows.uptoBulk x.1 ≤ 1073741824) :
    ∃ (a : Option Addr) (c : Nat) (S : List OpD), cs = [.slice a S.length c] ∧ OpsAt W a S ∧ (∀ o ∈ S, o.At W) ∧ total S < Rows.uptoBulk x.1 := by
  rcases DataW.trod_slice Tryd.underlying22 hf with ⟨rfl, rfl⟩ | ⟨a, len, cap, elems, rest, n, _, rfl, rfl, _, hl, hm, hlen, hel, _, _⟩
  · exact ⟨none, 0, [], rfl, fun e => (e rfl).elim, fun y hy => (by cases hy), bulk_pos _⟩
  obtain ⟨-, -, -, -, -, -, -, -, c9⟩ := Tryd.c1
  rw [c9] at hel
  have hbk : Rows.uptoBulk (DataW.slice (H := H) (elems.map (·.1)) (rest.map (·.1))) = Rows.uptoBulkAll (elems.map (·.1)) + Rows.uptoBulkAll (rest.map (·.1)) + 1 := by simp only [Rows.uptoBulk]
  have each : ∀ i, i < len → ∃ o : OpD, (∀ j, j < 8 → W.cell? ((a.add (i * 8)).add j) = o.cells[j]?) ∧ o.At W ∧ ∀ (h : i < elems.length), o.size ≤ Rows.uptoBulk (elems[i]).1 := by
    intro i hi
    have h := hel i hi
    rw [List.getElem?_eq_getElem (by omega), Option.bind_eq_some_iff] at h
    obtain ⟨cs8, h1, h2⟩ := h
    obtain ⟨_, h3⟩ := cells_each h1
    have hle : Rows.uptoBulk (elems[i]'(by omega)).1 ≤ Rows.uptoBulkAll (elems.map (·.1)) := bulk_mem (List.mem_map_of_mem (List.getElem_mem _))
    have hk' : Rows.uptoBulk (DataW.slice (H := H) (elems.map (·.1)) (rest.map (·.1))) ≤ 1073741824 := hk
    obtain ⟨kd, sec, nn, U, ii, ba, bc, B, s, la, lc, L, rfl, ho, hn, hsz⟩ := op_of h2 (by omega)
    exact ⟨⟨kd, sec, nn, U, ii, ba, bc, B, s, la, lc, L⟩, h3, ⟨ho, hn.1, hn.2⟩, fun _ => by simp only [OpD.size]; omega⟩
  obtain ⟨S, hS, hp⟩ := choose_list len each
  refine ⟨some a, cap, S, by rw [hS], fun hne => ?_, fun o ho => ?_, ?_⟩
  · have hp0 : 0 < S.length := List.length_pos_iff.2 hne
    obtain ⟨b, off, spot⟩ := a
    have h00 := (hp 0 hp0).1 0 (by omega)
    have hspot : spot = none := by
      have e : (S[0]).cells[0]? = some (.int .i64 (S[0]).kd) := rfl
      rw [e] at h00
      simpa [Addr.add] using World.cell?_spot h00
    subst hspot
    refine ⟨b, off, rfl, fun k hk j hj => ?_⟩
    have := (hp k hk).1 j hj
    rwa [Go.WideShapes.add_plain, Go.WideShapes.add_plain, Nat.add_assoc] at this
  · obtain ⟨i, hi, rfl⟩ := List.mem_iff_getElem.1 ho
    exact (hp i hi).2.1
  · have h1 := total_le S (elems.map (·.1)) (by rw [List.length_map]; omega) (fun i hi hi' => by
      rw [List.getElem_map]
      exact (hp i hi).2.2 (by omega))
    show total S < Rows.uptoBulk (DataW.slice (H := H) (elems.map (·.1)) (rest.map (·.1)))
    omega
end Go.Proofs.YtjmmdklgkcbihaaDoor
