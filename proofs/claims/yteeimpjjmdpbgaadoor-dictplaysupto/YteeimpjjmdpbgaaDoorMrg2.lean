import Derived.Test.YteeimpjjmdpbgaaDoorMrg1
import Derived.Laws.CopyOwn
import Derived.Laws.BytesArg
import Derived.Lib.AppendStr
import Derived.Maps.AppendAt
import Derived.Laws.AppendOwnNone
namespace Go.Proofs.YteeimpjjmdpbgaaDoor
open Go.ChangeShapes Go.WideShapes Go.ChangeAt Go.RowKit

/-- A list of bytes as it lies in memory: nothing is said of the address of an empty one. -/
def BytesAt (w : World) (a : Option Addr) (l : List Int) : Prop :=
  l ≠ [] → ∃ b off, a = some ⟨b, off, none⟩ ∧ ∀ k, k < l.length → w.cell? ⟨b, off + k, none⟩ = some (.int .u8 (l[k]?.getD 0))
def IsBytes (l : List Int) : Prop := ∀ x ∈ l, 0 ≤ x ∧ x ≤ 255
theorem BytesAt.get {w : World} {a : Option Addr} {l : List Int} (h : BytesAt w a l) {k : Nat} (hk : k < l.length) : ∃ b off, a = some ⟨b, off, none⟩ ∧ w.cell? ⟨b, off + k, none⟩ = some (.int .u8 (l[k]?.getD 0)) := by
  obtain ⟨b, off, e, hc⟩ := h (by intro e; rw [e] at hk; simp at hk)
  exact ⟨b, off, e, hc k hk⟩
theorem IsBytes.at {l : List Int} (h : IsBytes l) {k : Nat} (hk : k < l.length) : ∃ c : Nat, l[k]?.getD 0 = c ∧ c < 256 ∧ l[k] = c := by
  have := h _ (List.getElem_mem hk)
  exact ⟨l[k].toNat, by rw [List.getElem?_eq_getElem hk]; simp; omega, by omega, by omega⟩

/-- A uvarint, byte by byte: 0: too short, 1: no good form; else the number and how many bytes it has. -/
def rdu : Nat → Nat → List Int → Except Nat (Nat × Nat)
  | _, _, [] => .error 0
  | i, acc, c :: r =>
    if i = 9 ∧ 1 < c then .error 1
    else if c < 128 then (if c = 0 ∧ 0 < i then .error 1 else .ok (acc + c.toNat % 128 * 2 ^ (7 * i), i + 1))
    else rdu (i + 1) (acc + c.toNat % 128 * 2 ^ (7 * i)) r
/-- What uvarintAt answers. -/
def uvRes (E0 E1 : Value) (p : Nat) : Except Nat (Nat × Nat) → Ending
  | .error 0 => .returned (.tuple #[.int .u64 0, .int .i64 0, E0])
  | .error _ => .returned (.tuple #[.int .u64 0, .int .i64 0, E1])
  | .ok (v, k) => .returned (.tuple #[.int .u64 v, .int .i64 ((p + k : Nat) : Int), .nilIface])

theorem and127 (c : Nat) (h : c < 256) : bits .and .u8 (c : Int) 127 = ((c % 128 : Nat) : Int) := by
  have q : ∀ k : Fin 256, bits .and .u8 ((k.val : Nat) : Int) 127 = ((k.val % 128 : Nat) : Int) := by decide +kernel
  exact q ⟨c, h⟩
theorem or_u64 (a b : Nat) (ha : a < 2 ^ 64) (hb : b < 2 ^ 64) : bits .or .u64 (a : Int) (b : Int) = ((a ||| b : Nat) : Int) := by
  show IntKind.u64.wrap ((BitVec.ofInt 64 (a : Int) ||| BitVec.ofInt 64 (b : Int)).toNat : Int) = _
  rw [BitVec.toNat_or, ofInt_nat a ha, ofInt_nat b hb, IntKind.wrap_u64]
  have := Nat.or_lt_two_pow ha hb
  omega

theorem uv_or (acc c k : Nat) (hacc : acc < 2 ^ (7 * k)) (hk : k ≤ 9) (hd : k < 9 ∨ c ≤ 1) :
    bits .or .u64 (acc : Int) (IntKind.u64.wrap ((c : Int) % 128 * 2 ^ (7 * k))) = ((acc + c % 128 * 2 ^ (7 * k) : Nat) : Int) ∧ (k < 9 → acc + c % 128 * 2 ^ (7 * k) < 2 ^ (7 * (k + 1))) ∧ acc + c % 128 * 2 ^ (7 * k) < 18446744073709551616 := by
  have hm : c % 128 < 128 := Nat.mod_lt _ (by decide)
  have hb : (c % 128 + 1) * 2 ^ (7 * k) ≤ 128 * 2 ^ (7 * k) := Nat.mul_le_mul_right _ hm
  rw [Nat.add_mul, Nat.one_mul, show (128 : Nat) = 2 ^ 7 by decide, ← Nat.pow_add, show 7 + 7 * k = 7 * (k + 1) by omega, show (2 : Nat) ^ 7 = 128 by decide] at hb
  have h64 : acc + c % 128 * 2 ^ (7 * k) < 2 ^ 64 := by
    rcases hd with h | h
    · have : 2 ^ (7 * (k + 1)) ≤ 2 ^ 63 := Nat.pow_le_pow_right (by decide) (by omega)
      omega
    · have h1 : c % 128 * 2 ^ (7 * k) ≤ 1 * 2 ^ (7 * k) := Nat.mul_le_mul_right _ (by omega)
      have h2 : 2 ^ (7 * k) ≤ 2 ^ 63 := Nat.pow_le_pow_right (by decide) (by omega)
      omega
  refine ⟨?_, fun _ => by omega, by omega⟩
  have e : IntKind.u64.wrap ((c : Int) % 128 * 2 ^ (7 * k)) = ((c % 128 * 2 ^ (7 * k) : Nat) : Int) := by
    rw [IntKind.wrap_u64]
    have e1 : ((c : Int) % 128 * 2 ^ (7 * k)) = ((c % 128 * 2 ^ (7 * k) : Nat) : Int) := by push_cast; rfl
    rw [e1]
    omega
  rw [e, or_u64 _ _ (by omega) (by omega), or_above _ _ _ hacc]

set_option maxRecDepth 20000 in
set_option maxHeartbeats 2000000 in
theorem uvat_any (l : List Int) (a : Option Addr) (cp p : Nat) (E0 E1 : Value) (w : World) (h : BytesAt w a l) (hB : IsBytes l) (hp : p ≤ l.length) (hl : l.length ≤ 4611686018427387904)
    (g0 : w.cell? ⟨2, 0, none⟩ = some E0) (g1 : w.cell? ⟨3, 0, none⟩ = some E1) :
    Calls Tryd.prog 64 #[.slice a l.length cp, .int .i64 p] w fun e w' => e = uvRes E0 E1 p (rdu 0 0 (l.drop p)) ∧ ∃ n, w' = w.drewN n := by
  have HH : Hid (BytesAt w a l) := h
  have HB : Hid (IsBytes l) := hB
  clear h hB
  go_enter Tryd.func64, Tryd.ntmps64
  go_wp2
  go_loop [7, 8] (fun vv i => ∃ (k acc : Nat), k ≤ 9 ∧ p + k ≤ l.length ∧ vv = .int .u64 acc ∧ i = .int .i64 k ∧ acc < 2 ^ (7 * k) ∧ rdu 0 0 (l.drop p) = rdu k acc (l.drop (p + k))) (fun _ i => 10 - (intOf i).toNat)
  case atStart => exact ⟨0, 0, by omega, hp, rfl, rfl, by decide, rfl⟩
  case round =>
    obtain ⟨k, acc, hk, hpk, rfl, rfl, hacc, hrd⟩ := hrel
    by_cases hlt : p + k < l.length
    · obtain ⟨b, off, rfl, hc⟩ := HH.out.get hlt
      obtain ⟨c, hc1, hc2, hc3⟩ := HB.out.at hlt
      rw [hc1] at hc
      have hd : l.drop (p + k) = (c : Int) :: l.drop (p + k + 1) := by rw [List.drop_eq_getElem_cons hlt, hc3]
      rw [hd, rdu] at hrd
      have hand := and127 c hc2
      have HR : Hid _ := hrd
      have HA : Hid (acc < 2 ^ (7 * k)) := hacc
      clear hrd hd hc1 hc3 hacc
      obtain ⟨na, hna⟩ : ∃ na, na = acc + c % 128 * 2 ^ (7 * k) := ⟨_, rfl⟩
      have hq := uv_or acc c k HA.out hk
      rw [← hna] at hq
      have HNA : Hid (na = acc + c % 128 * 2 ^ (7 * k)) := hna
      clear hna
      have HQ : Hid _ := hq
      clear hq
      by_cases hk9 : k < 9
      · obtain ⟨ho, hn1, hn2⟩ := HQ.out (.inl hk9)
        have hn3 := hn1 hk9
        have HN3 : Hid (na < 2 ^ (7 * (k + 1))) := hn3
        clear hn1 hn3 HQ HA
        by_cases hc128 : c < 128
        · have hr : rdu 0 0 (l.drop p) = if (c : Int) = 0 ∧ 0 < k then .error 1 else .ok (na, k + 1) := by
            rw [HR.out, if_neg (by omega), if_pos (by omega), HNA.out]
            simp
          have HR2 : Hid _ := hr
          clear hr HR HNA
          by_cases hc0 : c < 1
          · by_cases hk0 : 0 < k
            · go_wp2_with fail
              go_quiet (fail)
              go_wp2
              go_ret3
              refine ⟨?_, _, rfl⟩
              rw [HR2.out, if_pos ⟨by omega, hk0⟩]
              rfl
            · go_wp2
              go_ret3
              refine ⟨?_, 0, rfl⟩
              rw [HR2.out, if_neg (by omega)]
              simp [uvRes]
              omega
          · have hcp : 0 < c := by omega
            go_wp2
            go_ret3
            refine ⟨?_, 0, rfl⟩
            rw [HR2.out, if_neg (by omega)]
            simp [uvRes]
            omega
        · have hr : rdu 0 0 (l.drop p) = rdu (k + 1) na (l.drop (p + k + 1)) := by
            rw [HR.out, if_neg (by omega), if_neg (by omega), HNA.out]
            simp
          have HR2 : Hid _ := hr
          clear hr HR HNA
          go_wp2
          go_round
          case rel => exact ⟨k + 1, na, by omega, by omega, rfl, by go_num, HN3.out, HR2.out⟩
          case measure => simp [intOf]; omega
      · have hk99 : 9 ≤ k := by omega
        clear hk9
        by_cases hc1 : 1 < c
        · have hr : rdu 0 0 (l.drop p) = .error 1 := by
            rw [HR.out, if_pos ⟨by omega, by omega⟩]
          have HR2 : Hid _ := hr
          clear hr HR HNA HQ HA
          go_wp2_with fail
          go_quiet (fail)
          go_wp2
          go_ret3
          refine ⟨?_, _, rfl⟩
          rw [HR2.out]
          rfl
        · obtain ⟨ho, hn1, hn2⟩ := HQ.out (.inr (by omega))
          clear hn1 HQ HA
          have hr : rdu 0 0 (l.drop p) = if (c : Int) = 0 ∧ 0 < k then .error 1 else .ok (na, k + 1) := by
            rw [HR.out, if_neg (by omega), if_pos (by omega), HNA.out]
            simp
          have HR2 : Hid _ := hr
          clear hr HR HNA
          by_cases hc0 : c < 1
          · go_wp2_with fail
            go_quiet (fail)
            go_wp2
            go_ret3
            refine ⟨?_, _, rfl⟩
            rw [HR2.out, if_pos ⟨by omega, by omega⟩]
            rfl
          · have hcp : 0 < c := by omega
            have ho2 : bits .or .u64 (acc : Int) ((c : Int) % 128 * 9223372036854775808) = (na : Int) := by
              have e : IntKind.u64.wrap ((c : Int) % 128 * 2 ^ (7 * k)) = (c : Int) % 128 * 9223372036854775808 := by
                rw [show k = 9 by omega, IntKind.wrap_u64]
                have e2 : (2 : Int) ^ (7 * 9) = 9223372036854775808 := by decide
                rw [e2]
                omega
              rw [← e]
              exact ho
            go_wp2
            go_ret3
            refine ⟨?_, 0, rfl⟩
            rw [HR2.out, if_neg (by omega)]
            simp [uvRes]
            omega
    · have hd : l.drop (p + k) = [] := List.drop_eq_nil_of_le (by omega)
      rw [hd, rdu] at hrd
      have HR : Hid _ := hrd
      clear hrd hd
      go_wp2_with fail
      go_quiet (fail)
      go_wp2
      go_ret3
      refine ⟨?_, _, rfl⟩
      rw [HR.out]
      rfl
end Go.Proofs.YteeimpjjmdpbgaaDoor
namespace Go.Proofs.YteeimpjjmdpbgaaDoor
open Go.ChangeShapes Go.WideShapes Go.ChangeAt Go.RowKit

theorem hide {p : Prop} (h : p) : Hid p := h

theorem bs_get {l : List Int} {j : Nat} {u : Value} (h : (bs l)[j]? = some u) : j < l.length ∧ u = .int .u8 (l[j]?.getD 0) := by
  unfold bs at h
  rw [List.getElem?_map] at h
  cases hj : l[j]? with
  | none => rw [hj] at h; simp at h
  | some x =>
    rw [hj] at h
    simp at h
    refine ⟨(List.getElem?_eq_some_iff.1 hj).1, ?_⟩
    simp [h]
theorem BytesAt.cells {w : World} {b off : Nat} {l : List Int} (h : ∀ k, k < l.length → w.cell? ⟨b, off + k, none⟩ = some (.int .u8 (l[k]?.getD 0))) : ∀ j u, (bs l)[j]? = some u → w.cell? ((⟨b, off, none⟩ : Addr).add j) = some u := by
  intro j u hu
  obtain ⟨hj, rfl⟩ := bs_get hu
  have e : (⟨b, off, none⟩ : Addr).add j = ⟨b, off + j, none⟩ := by unfold Addr.add; split <;> simp_all
  rw [e]
  exact h j hj
theorem Tryd.sizeB : (Tryd.prog.info? 5).map (·.size) = some 1 := by kernel_rfl
/-- What an owned row of bytes is as a list in memory. -/
theorem bytes_of_own {w : World} {base n : Nat} {v : Value} {l : List Int} (h : w.ownsRow base 5 1 v n (bs l)) : ∃ a c, v = .slice a n c ∧ BytesAt w a l ∧ n = l.length := by
  have hn : n = l.length := by have := h.1; rw [bs_length] at this; omega
  rcases h.2 with ⟨rfl, h0⟩ | ⟨g, cap, cur, rfl, _, hg, hnc, _, hcs, ht⟩
  · refine ⟨none, 0, by rw [h0], fun e => ?_, hn⟩
    exact (e (List.eq_nil_of_length_eq_zero (by omega))).elim
  · refine ⟨_, cap, rfl, fun _ => ⟨g, 0, rfl, fun k hk => ?_⟩, hn⟩
    rw [cell_of_row w g (0 + k) cur 5 (0, 0) hg]
    have h1 : (bs l)[k]? = some (.int .u8 (l[k]?.getD 0)) := by
      unfold bs
      rw [List.getElem?_map, List.getElem?_eq_getElem hk]; rfl
    rw [← ht, List.getElem?_take] at h1
    split at h1
    · simpa using h1
    · cases h1

set_option maxRecDepth 20000 in
set_option maxHeartbeats 1000000 in
theorem fresh_any (l : List Int) (a : Option Addr) (c : Nat) (w : World) (h : BytesAt w a l) (hl : l.length ≤ 140737488355328) :
    Calls Tryd.prog 43 #[.slice a l.length c] w fun e w' => e = .returned (.slice (some ⟨w.heap.size, 0, none⟩) l.length l.length) ∧ w'.ownsRow w.heap.size 5 1 (.slice (some ⟨w.heap.size, 0, none⟩) l.length l.length) l.length (bs l) ∧ Kept (fun _ => False) w w' := by
  obtain ⟨i0, hi, hz0, hz1, hz2⟩ := info_parts Tryd.infoB
  have HH : Hid (BytesAt w a l) := h
  clear h
  by_cases hnil : l = []
  · subst hnil
    go_enter Tryd.func43, Tryd.ntmps43
    go_wp2_with (at_make; refine wpList_make_full _ rfl _ _ 25 rfl w.heap.size 5 i0 (.int .u8 0) 1 Tryd.underlying25 hi hz0 hz1 _ _ _ _ 0 rfl rfl rfl rfl ?m1 ?m2 (Nat.le_refl _) ?_)
    case m1 => rw [hz2]; omega
    case m2 => unfold maxLen; omega
    · intro w1 hown hgrow
      have HO : Hid _ := hown
      have HG : Hid _ := hgrow
      clear hown hgrow
      go_wp2_with (refine wpList_copy_nothing rfl (.tmp 7) (.tmp 8) 25 25 rfl 5 Tryd.underlying25 Tryd.sizeB _ _ _ _ _ _ rfl rfl rfl ?_)
      go_ret
      refine ⟨rfl, ?_, (Kept.grown HG.out).mono (fun i hi => by cases hi)⟩
      obtain ⟨_, q2⟩ := HO.out
      rcases q2 with ⟨e, _⟩ | ⟨g, cap, cur, hv, hb, hg, _, hcm, hcs, _⟩
      · cases e
      · exact ⟨rfl, .inr ⟨g, cap, cur, hv, hb, hg, Nat.zero_le _, hcm, hcs, by simp [bs]⟩⟩
  · obtain ⟨b, off, rfl, hc⟩ := HH.out hnil
    have hlt : b < w.heap.size := World.block_lt_of_cell? w _ (hc 0 (List.length_pos_iff.2 hnil))
    have HC : Hid _ := hc
    have hpos := List.length_pos_iff.2 hnil
    have HNL : Hid (¬ l = []) := hnil
    clear hc hnil
    go_enter Tryd.func43, Tryd.ntmps43
    go_wp2_with (at_make; refine wpList_make_full _ rfl _ _ 25 rfl w.heap.size 5 i0 (.int .u8 0) 1 Tryd.underlying25 hi hz0 hz1 _ _ _ _ l.length rfl rfl rfl rfl ?n1 ?n2 (Nat.le_refl _) ?_)
    case n1 => rw [hz2]; omega
    case n2 => unfold maxLen; omega
    · intro w1 hown hgrow
      rcases hown.2 with ⟨e, _⟩ | ⟨g, cap, cur, hv, _, hg, _, _, hcs, _⟩
      · cases e
      · simp only [Value.slice.injEq, Option.some.injEq, Addr.mk.injEq, true_and, and_true] at hv
        obtain ⟨rfl, rfl⟩ := hv
        have hcell : ∀ j u, (bs l)[j]? = some u → w1.cell? ((⟨b, off, none⟩ : Addr).add j) = some u :=
          BytesAt.cells (fun k hk => (Kept.grown hgrow).cell (HC.out k hk) (by simp))
        have HCl : Hid _ := hcell
        have HG : Hid _ := hgrow
        have HGG : Hid (w1.heap[w.heap.size]? = some (.cells cur 5 (0, 0))) := hg
        have HCS : Hid (cur.size = l.length * 1) := hcs
        clear hown hgrow hg hcell hcs
        go_wp2_with (refine wpList_copy_own rfl (.tmp 7) (.tmp 8) 25 25 rfl 5 Tryd.underlying25 Tryd.sizeB w.heap.size 0 l.length l.length ⟨b, off, none⟩ l.length c rfl rfl cur 5 HGG.out (bs l) ?k1 HCl.out ?k2 (bs_one l) ?_)
        case k1 => rw [bs_length]; exact (Nat.min_self _).symm
        case k2 => rw [bs_length, HCS.out]; omega
        · have hrow : Hid ((bs l ++ cur.toList.drop (bs l).length).toArray = (bs l).toArray) := by
            show (bs l ++ cur.toList.drop (bs l).length).toArray = (bs l).toArray
            rw [bs_length, List.drop_eq_nil_of_le (by have := HCS.out; simp; omega)]
            simp
          rw [hrow.out]
          go_ret
          refine ⟨rfl, ⟨by rw [bs_length]; omega, .inr ⟨w.heap.size, l.length, (bs l).toArray, rfl, Nat.le_refl _, setRow_heap w1 w.heap.size cur _ 5 _ HGG.out, Nat.le_refl _, by unfold maxLen; omega, by simp [bs_length], ?_⟩⟩, ?_⟩
          · rw [List.toList_toArray, List.take_of_length_le (by rw [bs_length]; omega)]
          · refine ((Kept.grown HG.out).mono (fun i hi => by cases hi)).trans (G := fun k => k = w.heap.size) ⟨rfl, rfl, rfl, by simp [World.setRow], fun k _ hk => setRow_other w1 w.heap.size k _ (fun e => hk e)⟩ (fun i hi => .inr (by omega))

/-- The bytes that a Writer holds, as new memory. -/
theorem bytes_any (bw : Nat) (v : Value) (xs : List Int) (w : World) (h : Wr w bw v xs) (hl : xs.length ≤ 140737488355328) :
    Calls Tryd.prog 42 #[.pointer (some ⟨bw, 0, none⟩)] w fun e w' => e = .returned (.slice (some ⟨w.heap.size, 0, none⟩) xs.length xs.length) ∧ w'.ownsRow w.heap.size 5 1 (.slice (some ⟨w.heap.size, 0, none⟩) xs.length xs.length) xs.length (bs xs) ∧ Kept (fun _ => False) w w' := by
  have hc := h.cell
  obtain ⟨a, c, rfl, hb, _⟩ := bytes_of_own h.own
  have HB : Hid _ := hb
  clear h hb
  go_enter Tryd.func42, Tryd.ntmps42
  go_wp2_with (go_at_call 43; refine (fresh_any xs a c w HB.out hl).mono ?_; rintro e w1 ⟨rfl, ho, hk⟩)
  go_ret
  exact ⟨rfl, ho, hk⟩

/-- The Reader at block br: over the bytes l, at the place p. -/
structure Rd (w : World) (br : Nat) (v : Value) (l : List Int) (p : Nat) : Prop where
  blk : w.heap[br]? = some (.cells #[v, .int .i64 p] 58 (0, 0))
  own : w.ownsRow 0 5 1 v l.length (bs l)
  isb : IsBytes l
  le : p ≤ l.length
  sm : l.length ≤ 140737488355328
  frm : ∃ g, v = .slice (some ⟨g, 0, none⟩) l.length l.length
theorem Rd.kept {F : Nat → Prop} {w w' : World} {br : Nat} {v : Value} {l : List Int} {p : Nat} (h : Rd w br v l p) (k : Kept F w w') (h1 : ¬ F br) (h2 : ∀ i, v.ownBlock = some i → ¬ F i) : Rd w' br v l p :=
  ⟨k.heap h.blk h1, k.row h.own h2, h.isb, h.le, h.sm, h.frm⟩
theorem Rd.cell0 {w : World} {br : Nat} {v : Value} {l : List Int} {p : Nat} (h : Rd w br v l p) : w.cell? ⟨br, 0, none⟩ = some v := by simp [World.cell?, h.blk]
theorem Rd.cell1 {w : World} {br : Nat} {v : Value} {l : List Int} {p : Nat} (h : Rd w br v l p) : w.cell? ⟨br, 1, none⟩ = some (.int .i64 p) := by simp [World.cell?, h.blk]
theorem Rd.free1 {w : World} {br : Nat} {v : Value} {l : List Int} {p : Nat} (h : Rd w br v l p) : w.frozen? ⟨br, 1, none⟩ = false := by simp [World.frozen?, h.blk]
theorem Rd.ne {w : World} {br : Nat} {v : Value} {l : List Int} {p : Nat} (h : Rd w br v l p) : v.ownBlock ≠ some br := by
  intro e
  rcases h.own.2 with ⟨rfl, _⟩ | ⟨g, cap, cur, rfl, _, hg, _⟩
  · simp [Value.ownBlock] at e
  · simp [Value.ownBlock] at e
    subst e
    rw [h.blk] at hg
    simp at hg
/-- The place is set. -/
theorem Rd.move {w : World} {br : Nat} {v : Value} {l : List Int} {p : Nat} (h : Rd w br v l p) {q : Nat} (hq : q ≤ l.length) : Rd (w.setCell ⟨br, 1, none⟩ (.int .i64 q)) br v l q := by
  refine ⟨?_, ownsRow_setCell_other h.own h.ne _, h.isb, hq, h.sm, h.frm⟩
  simp only [World.setCell, Array.getElem?_modify, if_true, h.blk]
  rfl

theorem newr_any (l : List Int) (a : Option Addr) (c : Nat) (w : World) (h : BytesAt w a l) (hB : IsBytes l) (hl : l.length ≤ 140737488355328) :
    Calls Tryd.prog 22 #[.slice a l.length c] w fun e w' => ∃ br v, e = .returned (.pointer (some ⟨br, 0, none⟩)) ∧ Rd w' br v l 0 ∧ w.heap.size ≤ br ∧ (∀ k, v.ownBlock = some k → w.heap.size ≤ k) ∧ Kept (fun _ => False) w w' := by
  have HH := hide h
  clear h
  go_enter Tryd.func22, Tryd.ntmps22
  go_wp2_with (go_at_call 43; refine (fresh_any l a c w HH.out hl).mono ?_; rintro e w1 ⟨rfl, ho, hk⟩)
  have HO := hide ho
  have HK := hide hk
  clear ho hk
  go_wp2
  go_ret
  have hs := HK.out.size
  refine ⟨w1.heap.size, .slice (some ⟨w.heap.size, 0, none⟩) l.length l.length, rfl, ⟨heap_alloc_new w1 _, ?_, hB, Nat.zero_le _, hl, ⟨_, rfl⟩⟩, hs, fun k hk => by simp [Value.ownBlock] at hk; omega, HK.out.trans (Kept.alloc _ _) (fun _ hf => hf.elim)⟩
  have q := HO.out.alloc (.cells #[.slice (some ⟨w.heap.size, 0, none⟩) l.length l.length, .int .i64 0] 58)
  obtain ⟨q1, q2⟩ := q
  refine ⟨q1, q2.imp id ?_⟩
  rintro ⟨g, cap, cur, e1, _, rest⟩
  exact ⟨g, cap, cur, e1, Nat.zero_le _, rest⟩
end Go.Proofs.YteeimpjjmdpbgaaDoor
namespace Go.Proofs.YteeimpjjmdpbgaaDoor
open Go.ChangeShapes Go.WideShapes Go.ChangeAt Go.RowKit

theorem rdu_le : ∀ (l : List Int) (i acc v k : Nat), rdu i acc l = .ok (v, k) → i < k ∧ k ≤ i + l.length := by
  intro l
  induction l with
  | nil => intro i acc v k h; simp [rdu] at h
  | cons c r ih =>
    intro i acc v k h
    rw [rdu] at h
    split at h
    · cases h
    · split at h
      · split at h
        · cases h
        · simp at h
          obtain ⟨_, rfl⟩ := h
          simp
      · have := ih _ _ _ _ h
        simp at *
        omega
theorem rdu_lt : ∀ (l : List Int) (i acc v k : Nat), i ≤ 9 → acc < 2 ^ (7 * i) → (∀ x ∈ l, 0 ≤ x ∧ x ≤ 255) → rdu i acc l = .ok (v, k) → v < 18446744073709551616 := by
  intro l
  induction l with
  | nil => intro i acc v k _ _ _ h; simp [rdu] at h
  | cons c r ih =>
    intro i acc v k hi ha hb h
    have hc := hb c (List.mem_cons_self ..)
    rw [rdu] at h
    split at h
    · cases h
    · rename_i h9
      have hq := uv_or acc c.toNat i ha hi (by omega)
      split at h
      · split at h
        · cases h
        · simp at h
          obtain ⟨rfl, _⟩ := h
          exact hq.2.2
      · exact ih _ _ _ _ (by omega) (hq.2.1 (by omega)) (fun x hx => hb x (List.mem_cons_of_mem _ hx)) h

/-- string(b) of an owned row. -/
theorem conv_own {w : World} {base g n cap : Nat} {l : List Int} (h : w.ownsRow base 5 1 (.slice (some ⟨g, 0, none⟩) n cap) n (bs l)) :
    (convert 25 9 (.slice (some ⟨g, 0, none⟩) n cap)).run Tryd.prog w = .ok (.string (strOfNums l)) w := by
  obtain ⟨a, c, e, hb, hn⟩ := bytes_of_own h
  simp only [Value.slice.injEq] at e
  obtain ⟨rfl, _, rfl⟩ := e
  refine run_convert_bytes_arg w 25 5 Tryd.underlying25 Tryd.underlying5 g 0 n cap l hn.symm (fun i hi => ?_) 9 Tryd.underlying9
  have hl : l ≠ [] := by intro e; rw [e] at hn; simp at hn; omega
  obtain ⟨b, off, e, hc⟩ := hb hl
  simp only [Option.some.injEq, Addr.mk.injEq, and_true] at e
  obtain ⟨rfl, rfl⟩ := e
  have := hc i (by omega)
  simpa [List.getD] using this
/-- An error as an answer. -/
def errV (a : Addr) : Value := .iface 114 (.pointer (some a))

theorem at_any (br : Nat) (v : Value) (l : List Int) (p : Nat) (w : World) (h : Rd w br v l p) :
    Calls Tryd.prog 49 #[.pointer (some ⟨br, 0, none⟩)] w fun e w' => e = .returned (.int .i64 p) ∧ w' = w := by
  have hc := h.cell1
  clear h
  go_enter Tryd.func49, Tryd.ntmps49
  go_wp2
  go_ret
  exact ⟨rfl, rfl⟩
theorem left_any (br : Nat) (v : Value) (l : List Int) (p : Nat) (w : World) (h : Rd w br v l p) :
    Calls Tryd.prog 46 #[.pointer (some ⟨br, 0, none⟩)] w fun e w' => e = .returned (.int .i64 ((l.length - p : Nat) : Int)) ∧ ∃ n, w' = w.drewN n := by
  have hc := h.cell1
  have hc0 := h.cell0
  have hp := h.le
  have hs := h.sm
  obtain ⟨a, c, rfl, _, _⟩ := bytes_of_own h.own
  clear h
  go_enter Tryd.func46, Tryd.ntmps46
  go_wp2_with fail
  go_quiet (fail)
  go_wp2
  go_ret
  exact ⟨ret_int (by first | omega | (rw [IntKind.wrap_i64]; omega)), _, rfl⟩

end Go.Proofs.YteeimpjjmdpbgaaDoor
namespace Go.Proofs.YteeimpjjmdpbgaaDoor
open Go.ChangeShapes Go.WideShapes Go.ChangeAt Go.RowKit

theorem uvb300 : uvb 300 = [172, 2] := by rw [uvb_big (by decide), uvb_small (by decide)]; rfl
theorem rdu300 : rdu 0 0 (([172, 2, 7] : List Int).drop 0) = .ok (300, 2) := by rfl

end Go.Proofs.YteeimpjjmdpbgaaDoor
namespace Go.Proofs.YteeimpjjmdpbgaaDoor
open Go.ChangeShapes Go.WideShapes Go.ChangeAt Go.RowKit

/-- What 'w.held = append(w.held, ..)' does, whatever the new value. -/
theorem wr_put {w w0 w1 : World} {bw : Nat} {v v' : Value} {xs news : List Int} (h : Wr w bw v xs) (k0 : Kept (fun _ => False) w w0)
    (hown : w1.ownsRow 0 5 1 v' (xs.length + news.length) (bs xs ++ bs news))
    (hgrow : w0.grownBy w1 v.ownBlock) (hat : v'.ownBlock = v.ownBlock ∨ v'.ownBlock = some w0.heap.size) :
    w1.cell? ⟨bw, 0, none⟩ = some v ∧ w1.frozen? ⟨bw, 0, none⟩ = false ∧ Wr (w1.setCell ⟨bw, 0, none⟩ v') bw v' (xs ++ news) ∧ WStep w (w1.setCell ⟨bw, 0, none⟩ v') bw v v' := by
  have k1 : Kept (fun k => v.ownBlock = some k) w w1 := k0.mono (fun _ h => h.elim) |>.trans (Kept.grown hgrow) (fun i hi => .inl hi)
  have hb : w1.heap[bw]? = some (.cells #[v] 99 (0, 0)) := k1.heap h.blk h.ne
  have hne : v'.ownBlock ≠ some bw := by
    rcases hat with e | e
    · rw [e]; exact h.ne
    · rw [e]; intro x; have := h.lt; have := k0.size; simp at x; omega
  refine ⟨cell_of_one hb, free_of_one hb, ⟨one_setCell hb, ?_⟩, ?_, ?_⟩
  · rw [List.length_append, bs_append]
    exact ownsRow_setCell_other hown hne _
  · exact (k1.mono (fun i hi => .inl (.inr hi))).trans (Kept.setCell _ _ _) (fun i hi => .inl (.inl hi))
  · intro k hk
    rcases hat with e | e
    · exact .inl (by rw [← e]; exact hk)
    · right; rw [e] at hk; have := k0.size; simp at hk; omega
theorem own_slice {w : World} {b e z n : Nat} {u : Value} {xs : List Value} (h : w.ownsRow b e z u n xs) : ∃ a c, u = .slice a n c := by
  obtain ⟨_, ⟨rfl, rfl⟩ | ⟨g, cap, cur, rfl, _⟩⟩ := h
  · exact ⟨_, _, rfl⟩
  · exact ⟨_, _, rfl⟩

end Go.Proofs.YteeimpjjmdpbgaaDoor
namespace Go.Proofs.YteeimpjjmdpbgaaDoor
open Go.ChangeShapes Go.WideShapes Go.ChangeAt Go.RowKit

/-- The bytes of a text. -/
def sb (s : ByteArray) : List Int := s.data.toList.map fun b => ((b.toNat : Nat) : Int)
theorem sb_length (s : ByteArray) : (sb s).length = s.size := by rw [sb, List.length_map, Array.length_toList]; rfl
theorem sb_cells (s : ByteArray) : Lib.strCells s = bs (sb s) := by simp [Lib.strCells, bs, sb, List.map_map]
theorem sb_bytes (s : ByteArray) : IsBytes (sb s) := by
  intro x hx
  simp only [sb, List.mem_map] at hx
  obtain ⟨b, _, rfl⟩ := hx
  have := b.toNat_lt
  omega
theorem str_lies (w : World) (s : ByteArray) (v : Value) (n : Nat) (xs : List Value) (ty : TypeId) (i : TypeInfo) (hi : Tryd.prog.info? 5 = some i) (hz : i.zero = some (.int .u8 0)) (hsize : i.size = 1) (hby : i.bytes = 1)
    (hown : w.ownsRow 0 5 1 v n xs) (h63 : n + s.size ≤ maxLen) (hbytes : n + s.size ≤ 140737488355328) :
    ∃ v' w', (Builtin.append_ #[25, 9] ty #[v, .string s]).run Tryd.prog w = .ok v' w' ∧ w'.ownsRow 0 5 1 v' (n + s.size) (xs ++ Lib.strCells s) ∧ w.grownBy w' v.ownBlock ∧ (v'.ownBlock = v.ownBlock ∨ v'.ownBlock = some w.heap.size) := by
  obtain ⟨v', w', hr, h2, h3, h4⟩ := Lib.run_append_own_string (P := Tryd.prog) w 0 25 9 ty 5 i Tryd.underlying25 Tryd.underlying9 hi hz hsize hby v n xs hown s h63 hbytes (Nat.zero_le _)
  refine ⟨v', w', hr, h2, h3, ?_⟩
  have hsmall : n + s.size ≤ 9223372036854775807 := by simp only [maxLen] at h63; omega
  rcases hown.2 with ⟨rfl, rfl⟩ | ⟨g, cap, cur, rfl, hbg, hg, hnc, hcm, hcs, htake⟩
  · by_cases hm : s.size = 0
    · have := h4.2 ⟨rfl, hm⟩
      rw [this]
      exact .inl rfl
    · have hr2 := run_append_nil_string (P := Tryd.prog) w 25 9 ty 5 i (.int .u8 0) Tryd.underlying25 Tryd.underlying9 hi hz s (by omega) (by omega) (by rw [hby]; omega)
      rw [hr] at hr2
      simp only [Result.ok.injEq] at hr2
      rw [hr2.1]
      exact .inr rfl
  · by_cases hroom : n + s.size ≤ cap
    · have hcs' : cur.size = cap := by simpa using hcs
      have hr2 := Lib.run_append_room_string (P := Tryd.prog) w 25 9 ty 5 i Tryd.underlying25 Tryd.underlying9 hi hsize g n cap cur hg s hroom (by omega)
      rw [hr] at hr2
      simp only [Result.ok.injEq] at hr2
      rw [hr2.1]
      exact .inl rfl
    · have holds : ∀ j u, xs[j]? = some u → w.cell? ((⟨g, 0, none⟩ : Addr).add j) = some u := hown.cells (g := g) rfl
      have hr2 := Lib.run_append_grow_string (P := Tryd.prog) w 25 9 ty 5 i (.int .u8 0) Tryd.underlying25 Tryd.underlying9 hi hz ⟨g, 0, none⟩ n cap xs (by rw [hsize]; simpa using hown.1) holds s (by omega) (by omega) (by rw [hby]; exact growslice_fits (by omega) (by omega))
      rw [hr] at hr2
      simp only [Result.ok.injEq] at hr2
      rw [hr2.1]
      exact .inr rfl
theorem wpList_str {w : World} {ops : Array Oper} {rest : List Oper} {o : Oper} {a : Act} {Q : Exit → Act → World → Prop} (hgd : o.guard = none) (sl x : Operand)
    (ho : o.op = .call { callee := .builtin .append, args := #[sl, x], argTypes := #[25, 9] })
    (v : Value) (n : Nat) (xs : List Value) (hs : a.eval sl = v) (hown : w.ownsRow 0 5 1 v n xs) (s : ByteArray) (hx : a.eval x = .string s) (h63 : n + s.size ≤ maxLen) (hbytes : n + s.size ≤ 140737488355328)
    (h : ∀ v' w', w'.ownsRow 0 5 1 v' (n + s.size) (xs ++ Lib.strCells s) → w.grownBy w' v.ownBlock → (v'.ownBlock = v.ownBlock ∨ v'.ownBlock = some w.heap.size) → wpList Tryd.prog ops Q rest (a.put o.dst v') w') : wpList Tryd.prog ops Q (o :: rest) a w := by
  obtain ⟨i0, hi, hz0, hz1, hz2⟩ := info_parts Tryd.infoB
  refine wpList_plain hgd fun K hK => ?_
  obtain ⟨v', w', hr, h2, h3, h4⟩ := str_lies w s v n xs o.type i0 hi hz0 hz1 hz2 hown h63 hbytes
  unfold Oper.wp execOp
  simp only [ho, resolve, invoke, builtin, Sem.run_bind, Sem.run_pure, Result.andThen_ok, List.map_toArray, List.map_cons, List.map_nil, hs, hx, hr]
  exact hK _ _ (h v' w' h2 h3 h4)

set_option maxRecDepth 20000 in
theorem text_any (bw : Nat) (v : Value) (xs : List Int) (s : ByteArray) (w : World) (h : Wr w bw v xs) (hr : xs.length + 10 + s.size ≤ 140737488355328) :
    Calls Tryd.prog 58 #[.pointer (some ⟨bw, 0, none⟩), .string s] w fun e w' => e = .returned (.tuple #[]) ∧ ∃ v', Wr w' bw v' (xs ++ (uvb s.size ++ sb s)) ∧ WStep w w' bw v v' := by
  have hul := (ulen_le s.size (by omega)).2
  have hul2 := uvb_length s.size
  have HH := hide h
  clear h
  go_enter Tryd.func58, Tryd.ntmps58
  go_wp2_with (first
    | (go_at_call 38; refine (wuv_any bw v xs s.size _ HH.out (by omega) (by omega)).mono ?_; rintro e w2 ⟨rfl, v2, hW2, hS2⟩; have hc2 := hW2.cell; have hown2 := hW2.own)
    | (at_builtin; refine wpList_str rfl _ _ rfl _ _ _ rfl hown2 s rfl ?d1 ?d2 ?_))
  case d1 => rw [List.length_append]; unfold maxLen; omega
  case d2 => rw [List.length_append]; omega
  · intro v' w1 hown1 hgrow hat
    rw [sb_cells] at hown1
    have hsl : s.size = (sb s).length := (sb_length s).symm
    have hown3 : w1.ownsRow 0 5 1 v' ((xs ++ uvb s.size).length + (sb s).length) (bs (xs ++ uvb s.size) ++ bs (sb s)) := by rw [sb_length, List.length_append, uvb_length]; exact hown1
    obtain ⟨q1, q2, q3, q4⟩ := wr_put (news := sb s) hW2 (Kept.refl _ _) hown3 hgrow hat
    obtain ⟨a', c', rfl⟩ := own_slice hown1
    clear hown1 hown3 hgrow hat hown2 hc2 hsl
    have Q3 := hide q3
    have Q4 := hide q4
    have S2 := hide hS2
    clear q3 q4 hW2 hS2 hul hul2
    go_wp2
    go_end0
    refine ⟨rfl, _, ?_, S2.out.trans Q4.out⟩
    rw [← List.append_assoc]
    exact Q3.out

end Go.Proofs.YteeimpjjmdpbgaaDoor
