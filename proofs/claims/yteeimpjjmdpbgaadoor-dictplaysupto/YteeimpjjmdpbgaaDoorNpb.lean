import Derived.Test.YteeimpjjmdpbgaaDoorNpa
import Derived.Test.YteeimpjjmdpbgaaDoorDfo
namespace Go.Proofs.YteeimpjjmdpbgaaDoor
open Go.ChangeShapes Go.WideShapes Go.ChangeAt Go.RowKit

theorem hdp_ext (k x : ByteArray) : decide (k.extract 0 x.size = x) = hdp k x := by
  have e : (k.extract 0 x.size).data.toList = k.data.toList.take x.data.toList.length := by
    rw [ByteArray.data_extract]
    simp only [Array.toList_extract, List.extract_eq_take_drop, Nat.sub_zero, List.drop_zero]
    rfl
  have e2 : (k.extract 0 x.size = x) ↔ x.data.toList <+: k.data.toList := by
    rw [List.prefix_iff_eq_take, ← e]
    constructor
    · intro h; rw [h]
    · intro h; exact (ByteArray.ext (Array.toList_inj.1 h)).symm
  unfold hdp Lib.hasPrefix
  by_cases h : x.data.toList <+: k.data.toList
  · rw [decide_eq_true (e2.2 h), List.isPrefixOf_iff_prefix.2 h]
  · rw [decide_eq_false (fun g => h (e2.1 g))]
    cases hc : List.isPrefixOf x.data.toList k.data.toList
    · rfl
    · exact absurd (List.isPrefixOf_iff_prefix.1 hc) h
/-- How many keys of the first n begin with x. -/
def bgn (E : List En) (x : ByteArray) (n : Nat) : Nat := (E.take n).countP (fun e => hdp e.k x)
theorem hdp_short {k x : ByteArray} (h : k.size < x.size) : hdp k x = false := by
  rw [← hdp_ext, decide_eq_false]
  intro e
  have := congrArg ByteArray.size e
  rw [ByteArray.size_extract] at this
  omega
theorem cnt_cong {p : En → Bool} {E : List En} {f : Nat → Nat} (h0 : f 0 = 0) (hs : ∀ i (hi : i < E.length), f (i + 1) = f i + if p E[i] then 1 else 0) : ∀ n, n ≤ E.length → (E.take n).countP p = f n
  | 0, _ => by simp [h0]
  | n + 1, h => by rw [cnt_step (by omega : n < E.length), cnt_cong h0 hs n (by omega), hs n (by omega)]
theorem skd_blw {E : List En} {x : ByteArray} {r : Nat} (hr : Rises E) (h : Skd E x r) : blw E x E.length = r := by
  unfold blw
  rw [cnt_cong (f := fun n => min n r) (by simp) (fun i hi => by
    have e := skd_iff hr h hi
    rw [kat_at hi] at e
    simp only [e, decide_eq_true_eq]
    split <;> omega) E.length (Nat.le_refl _)]
  have := h.1
  show min E.length r = r
  omega
theorem hdd_bgn {E : List En} {x : ByteArray} {r t : Nat} (hr : Rises E) (h : Hdd E x r t) : bgn E x E.length = t - r := by
  unfold bgn
  obtain ⟨-, h1, h2, -, -⟩ := id h
  rw [cnt_cong (f := fun n => min n t - min n r) (by simp) (fun i hi => by
    have e := hdd_iff hr h hi
    rw [kat_at hi] at e
    simp only [e, Bool.and_eq_true, decide_eq_true_eq]
    split <;> omega) E.length (Nat.le_refl _)]
  show min E.length t - min E.length r = t - r
  omega
/-- Find of both sides. -/
theorem fnd_same {E : List En} {x : ByteArray} {i : Nat} {b : Bool} {e : Ending} (hr : Rises E) (h : Fnd E x i b) (he : rfPost E x e) : e = .returned (.tuple #[.int .i64 i, .bool b]) := by
  rcases he with ⟨j, hj, hk, rfl⟩ | ⟨hn, rfl⟩
  · rw [← hk] at h
    obtain ⟨rfl, rfl⟩ := fnd_own hr hj h
    rfl
  · obtain ⟨r, -, ⟨-, h2, h3, -⟩ | ⟨rfl, rfl, -⟩⟩ := h
    · exact absurd h3 (hn r h2)
    · rfl
set_option maxRecDepth 20000 in
set_option maxHeartbeats 4000000 in
/-- The document's Heads. -/
theorem rheads_any (x : ByteArray) (E : List En) (a : Option Addr) (c : Nat) (w : World) (h : EsAt w a E) (hl : E.length ≤ 1073741824) : Calls Tryd.prog 31 #[.slice a E.length c, .string x] w fun e w' => e = .returned (.tuple #[.int .i64 (blw E x E.length : Nat), .int .i64 ((blw E x E.length + bgn E x E.length : Nat))]) ∧ w' = w := by
  have HE := hideQ h
  have CS := hideQ (rseek_any x E a c w h hl)
  have HC : Hid (∀ i (hi : i < E.length), bgn E x (i + 1) = bgn E x i + if hdp E[i].k x then 1 else 0) := hideQ (fun i hi => cnt_step hi)
  have HB : Hid (∀ i, bgn E x i ≤ i) := hideQ (fun i => cnt_le E i)
  have HZ : Hid (bgn E x 0 = 0) := hideQ (by simp [bgn])
  have hbl : blw E x E.length ≤ E.length := cnt_le E _
  obtain ⟨fr, hfr⟩ : ∃ fr, fr = blw E x E.length := ⟨_, rfl⟩
  rw [← hfr] at CS hbl ⊢
  obtain ⟨nl, hnl⟩ : ∃ nl, nl = E.length := ⟨_, rfl⟩
  rw [← hnl] at hl CS hbl ⊢
  have HNL := hideQ hnl
  clear h hnl hfr
  generalize bgn E x = B at *
  go_enter Tryd.func31, Tryd.ntmps31
  go_wp2_with (go_at_call 29; refine CS.out.mono ?_; rintro e V1 ⟨rfl, h1⟩; obtain rfl := h1.symm)
  clear CS
  go_loopw [7, 8] (fun v7 v8 wr => ∃ (j : Nat), j ≤ nl ∧ v7 = .int .i64 (B j : Nat) ∧ v8 = .int .i64 j ∧ wr = w) (fun _ v8 _ => nl - (intOf v8).toNat)
  case atStart => exact ⟨0, by omega, by rw [HZ.out]; rfl, rfl, rfl⟩
  case round =>
    obtain ⟨j, hj, rfl, rfl, rfl⟩ := hrel
    by_cases hlt : j < nl
    · have hjj : (j : Int) < (nl : Int) := by omega
      have hjl : j < E.length := by rw [← HNL.out]; exact hlt
      obtain ⟨b, off, rfl, hc⟩ := es_key HE.out hjl
      have HC1 := hideQ (HC.out j hjl)
      have hb := HB.out j
      have q1 : IntKind.i64.wrap ((j : Int) + 1) = (j : Int) + 1 := by rw [IntKind.wrap_i64]; omega
      have q2 : IntKind.i64.wrap ((B j : Int) + 1) = (B j : Int) + 1 := by rw [IntKind.wrap_i64]; omega
      generalize E[j].k = k at *
      by_cases hs : x.size ≤ k.size
      · have s1 : (x.size : Int) ≤ (k.size : Int) := by omega
        have s2 : decide ((x.size : Int) ≤ (k.size : Int)) = true := decide_eq_true s1
        have s3 : decide (x.size ≤ k.size) = true := decide_eq_true hs
        have g1 := eql_strN 9 (k.extract 0 x.size) x
        rw [toList_eqD, hdp_ext] at g1
        generalize hdp k x = Q at *
        cases Q with
        | true =>
          have e1 : Hid (B (j + 1) = B j + 1) := hideQ (by rw [HC1.out]; rfl)
          clear HC1
          generalize B j = bj at *
          go_wp2_with fail
          go_roundw
          case rel => exact ⟨j + 1, hlt, by rw [e1.out]; go_num, by go_num, trivial⟩
          case measure => simp [intOf]; omega
        | false =>
          have e1 : Hid (B (j + 1) = B j) := hideQ (by rw [HC1.out]; rfl)
          clear HC1
          generalize B j = bj at *
          go_wp2_with fail
          go_roundw
          case rel => exact ⟨j + 1, hlt, by rw [e1.out], by go_num, trivial⟩
          case measure => simp [intOf]; omega
      · have s1 : ¬ (x.size : Int) ≤ (k.size : Int) := by omega
        have s2 : decide ((x.size : Int) ≤ (k.size : Int)) = false := decide_eq_false s1
        have s3 : decide (x.size ≤ k.size) = false := decide_eq_false hs
        have e1 : Hid (B (j + 1) = B j) := hideQ (by rw [HC1.out, hdp_short (by omega)]; rfl)
        clear HC1
        generalize B j = bj at *
        go_wp2_with fail
        go_roundw
        case rel => exact ⟨j + 1, hlt, by rw [e1.out], by go_num, trivial⟩
        case measure => simp [intOf]; omega
    · obtain rfl : j = nl := by omega
      have hb := HB.out j
      have q3 : IntKind.i64.wrap ((fr : Int) + (B j : Int)) = (fr : Int) + (B j : Int) := by rw [IntKind.wrap_i64]; omega
      go_wp2_with fail
      go_ret2
      exact ⟨by first | rfl | (rw [q3]; rfl) | (simp), rfl⟩
end Go.Proofs.YteeimpjjmdpbgaaDoor
