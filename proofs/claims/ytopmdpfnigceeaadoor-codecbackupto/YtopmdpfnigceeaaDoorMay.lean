import Derived.Test.YtopmdpfnigceeaaDoorBp
import Derived.BigQuiet
namespace Go.Proofs.YtopmdpfnigceeaaDoor
open Go.ChangeShapes Go.WideShapes Go.ChangeAt Go.RowKit

/-- A call of a script, as a value. -/
def opV (kd : Int) (sec : Bool) (nn uu ii : Int) (bv : Value) (s : ByteArray) (lv : Value) : Value := .agg #[.int .i64 kd, .bool sec, .int .i64 nn, .int .u64 uu, .int .i64 ii, bv, .string s, lv]
def opCells (kd : Int) (sec : Bool) (nn uu ii : Int) (bv : Value) (s : ByteArray) (lv : Value) : Array Value := #[.int .i64 kd, .bool sec, .int .i64 nn, .int .u64 uu, .int .i64 ii, bv, .string s, lv]
def badAt (kd : Int) (l : List Int) (k : Nat) : Bool := decide (l[k]?.getD 0 < 0) || (decide (kd = 8) && decide (0 < k) && decide (l[k]?.getD 0 ≤ l[k - 1]?.getD 0))
def mayB (kd : Int) (l : List Int) : Bool := ((List.range l.length).all fun k => !badAt kd l k) && (decide (kd ≠ 9) || !(l.all fun x => decide (x = 0)) || decide (l.length ≤ 65536))
theorem mayB_bad {kd : Int} {l : List Int} {k : Nat} (hk : k < l.length) (h : badAt kd l k = true) : mayB kd l = false := by
  unfold mayB
  rw [Bool.and_eq_false_iff]
  refine .inl ?_
  rw [List.all_eq_false]
  exact ⟨k, List.mem_range.2 hk, by simp [h]⟩

theorem all_snoc {k : Nat} {l : List Int} (p : Int → Bool) (hk : k < l.length) : (l.take (k + 1)).all p = ((l.take k).all p && p (l[k]?.getD 0)) := by
  rw [List.take_add_one, List.all_append, List.getElem?_eq_getElem hk]
  simp
theorem stepJ {p : Nat → Prop} {k : Nat} (h : ∀ j, j < k → p j) (h2 : p k) : ∀ j, j < k + 1 → p j := by
  intro j hj
  by_cases e : j = k
  · exact e ▸ h2
  · exact h j (by omega)
set_option maxRecDepth 20000 in
set_option maxHeartbeats 1000000 in
theorem may_any (kd : Int) (sec : Bool) (nn uu ii : Int) (bv : Value) (s : ByteArray) (l : List Int) (a : Option Addr) (c : Nat) (w : World) (hA : IntsAt w a l) (hl : l.length ≤ 17592186044416) :
    Calls Tryd.prog 28 #[.agg #[.int .i64 kd, .bool sec, .int .i64 nn, .int .u64 uu, .int .i64 ii, bv, .string s, .slice a l.length c]] w fun e w' => e = .returned (.bool (mayB kd l)) ∧ Kept (fun _ => False) w w' := by
  have HH := hide hA
  clear hA
  go_enter Tryd.func28, Tryd.ntmps28
  go_wp2
  go_loopw [3, 9] (fun z i wr => (wr.cell? ⟨w.heap.size, 0, none⟩ = some (.int .i64 kd) ∧ wr.cell? ⟨w.heap.size, 7, none⟩ = some (.slice a l.length c)) ∧ Kept (fun _ => False) w wr ∧ ∃ k : Nat, k ≤ l.length ∧ i = .int .i64 k ∧ z = .bool ((l.take k).all fun x => decide (x = 0)) ∧ ∀ j, j < k → badAt kd l j = false) (fun _ i _ => l.length - (intOf i).toNat)
  case atStart =>
    refine ⟨⟨?_, ?_⟩, Kept.alloc _ _, 0, Nat.zero_le _, rfl, rfl, fun j hj => by omega⟩
    · rw [World.cell?_alloc_new]; rfl
    · rw [World.cell?_alloc_new]; rfl
  case round =>
    obtain ⟨⟨hc0, hc7⟩, hK, k, hk, rfl, rfl, hn⟩ := hrel
    have HN := hide hn
    have HK := hide hK
    obtain ⟨z, hz⟩ : ∃ z, z = (l.take k).all fun x => decide (x = 0) := ⟨_, rfl⟩
    rw [← hz]
    have HZ := hide hz
    clear hn hK hz
    by_cases hlt : k < l.length
    · obtain ⟨b, off, rfl, hcl⟩ := HH.out.get hlt
      have hcl2 := HK.out.cell hcl (fun f => f)
      clear hcl
      obtain ⟨x, hx⟩ : ∃ x, x = l[k]?.getD 0 := ⟨_, rfl⟩
      rw [← hx] at hcl2
      have HX := hide hx
      clear hx
      by_cases hx0 : x < 0
      · go_wp2
        go_ret
        refine ⟨ret_bool (mayB_bad hlt ?_).symm, HK.out⟩
        rw [badAt, ← HX.out]
        simp [hx0]
      · by_cases h8 : kd = 8
        · by_cases hk0 : 0 < k
          · obtain ⟨b', off', e, hcp⟩ := HH.out.get (k := k - 1) (by omega)
            cases e
            have hcp2 := HK.out.cell hcp (fun f => f)
            clear hcp
            obtain ⟨y, hy⟩ : ∃ y, y = l[k - 1]?.getD 0 := ⟨_, rfl⟩
            rw [← hy] at hcp2
            have HY := hide hy
            clear hy
            by_cases hle : x ≤ y
            · go_wp2
              go_ret
              refine ⟨ret_bool (mayB_bad hlt ?_).symm, HK.out⟩
              rw [badAt, ← HX.out, ← HY.out]
              simp [hle]
              omega
            · skip
              have hb : badAt kd l k = false := by
                rw [badAt, ← HX.out]
                rw [← HY.out]; simp [hle]; omega
              have HB := hide hb
              clear hb
              cases z
              · go_wp2
                go_roundw
                case rel => exact ⟨⟨hc0, hc7⟩, HK.out, k + 1, by omega, by go_num, by rw [all_snoc _ hlt, ← HZ.out]; rfl, stepJ HN.out HB.out⟩
                case measure => simp [intOf]; omega
              · by_cases hx00 : x = 0
                · go_wp2
                  go_roundw
                  case rel => exact ⟨⟨hc0, hc7⟩, HK.out, k + 1, by omega, by go_num, by rw [all_snoc _ hlt, ← HZ.out, ← HX.out]; simp [hx00], stepJ HN.out HB.out⟩
                  case measure => simp [intOf]; omega
                · go_wp2
                  go_roundw
                  case rel => exact ⟨⟨hc0, hc7⟩, HK.out, k + 1, by omega, by go_num, by rw [all_snoc _ hlt, ← HZ.out, ← HX.out]; simp [hx00], stepJ HN.out HB.out⟩
                  case measure => simp [intOf]; omega
          · skip
            have hb : badAt kd l k = false := by
              rw [badAt, ← HX.out]
              simp [hk0]; omega
            have HB := hide hb
            clear hb
            cases z
            · go_wp2
              go_roundw
              case rel => exact ⟨⟨hc0, hc7⟩, HK.out, k + 1, by omega, by go_num, by rw [all_snoc _ hlt, ← HZ.out]; rfl, stepJ HN.out HB.out⟩
              case measure => simp [intOf]; omega
            · by_cases hx00 : x = 0
              · go_wp2
                go_roundw
                case rel => exact ⟨⟨hc0, hc7⟩, HK.out, k + 1, by omega, by go_num, by rw [all_snoc _ hlt, ← HZ.out, ← HX.out]; simp [hx00], stepJ HN.out HB.out⟩
                case measure => simp [intOf]; omega
              · go_wp2
                go_roundw
                case rel => exact ⟨⟨hc0, hc7⟩, HK.out, k + 1, by omega, by go_num, by rw [all_snoc _ hlt, ← HZ.out, ← HX.out]; simp [hx00], stepJ HN.out HB.out⟩
                case measure => simp [intOf]; omega
        · skip
          have hb : badAt kd l k = false := by
            rw [badAt, ← HX.out]
            simp [h8]; omega
          have HB := hide hb
          clear hb
          cases z
          · go_wp2
            go_roundw
            case rel => exact ⟨⟨hc0, hc7⟩, HK.out, k + 1, by omega, by go_num, by rw [all_snoc _ hlt, ← HZ.out]; rfl, stepJ HN.out HB.out⟩
            case measure => simp [intOf]; omega
          · by_cases hx00 : x = 0
            · go_wp2
              go_roundw
              case rel => exact ⟨⟨hc0, hc7⟩, HK.out, k + 1, by omega, by go_num, by rw [all_snoc _ hlt, ← HZ.out, ← HX.out]; simp [hx00], stepJ HN.out HB.out⟩
              case measure => simp [intOf]; omega
            · go_wp2
              go_roundw
              case rel => exact ⟨⟨hc0, hc7⟩, HK.out, k + 1, by omega, by go_num, by rw [all_snoc _ hlt, ← HZ.out, ← HX.out]; simp [hx00], stepJ HN.out HB.out⟩
              case measure => simp [intOf]; omega
    · obtain rfl : k = l.length := by omega
      rw [List.take_length] at HZ
      clear hlt hk
      have hm : Hid (mayB kd l = (decide (kd ≠ 9) || !z || decide (l.length ≤ 65536))) := by
        show mayB kd l = _
        rw [mayB, ← HZ.out]
        have : ((List.range l.length).all fun k => !badAt kd l k) = true := by
          rw [List.all_eq_true]
          intro j hj
          rw [HN.out j (List.mem_range.1 hj)]
          rfl
        rw [this, Bool.true_and]
      by_cases h9 : kd = 9
      · cases z
        · go_wp2
          go_ret
          exact ⟨ret_bool (by rw [hm.out]; simp), HK.out⟩
        · by_cases hb : l.length ≤ 65536
          · go_wp2
            go_ret
            exact ⟨ret_bool (by rw [hm.out, Bool.eq_iff_iff]; simp [hb]; try omega), HK.out⟩
          · go_wp2
            go_ret
            exact ⟨ret_bool (by rw [hm.out, Bool.eq_iff_iff]; simp [hb]; try omega), HK.out⟩
      · go_wp2
        go_ret
        exact ⟨ret_bool (by rw [hm.out]; simp [h9]), HK.out⟩
end Go.Proofs.YtopmdpfnigceeaaDoor
