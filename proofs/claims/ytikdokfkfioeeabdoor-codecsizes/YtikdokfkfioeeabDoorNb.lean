import Derived.Test.YtikdokfkfioeeabDoorLive
namespace Go.Proofs.YtikdokfkfioeeabDoor
open Go.ChangeShapes Go.WideShapes Go.ChangeAt Go.RowKit

theorem ulen_any (v : Int) (w : World) (h0 : 0 ≤ v) (h1 : v ≤ 18446744073709551615) :
    Calls Tryd.prog 17 #[.int .u64 v] w fun e w' => e = .returned (.int .i64 (ulen v.toNat)) ∧ w' = w := by
  have hb := bitLen_le v.toNat (by omega)
  have hu := ulen_bits 64 v.toNat (by omega)
  go_enter Tryd.func17, Tryd.ntmps17
  go_wp2_with (go_at_call 49; refine (len64_any _ _ (by omega) (by omega)).mono ?_; rintro e w' ⟨rfl, rfl⟩)
  all_goals go_ret
  · exact ⟨ret_int (by omega), rfl⟩
  · exact ⟨ret_int (by omega), rfl⟩

/-- F, F + 1, .. -/
def nbl (F k : Nat) : List Int := (List.range k).map fun i => ((F + i : Nat) : Int)
theorem nbl_length (F k : Nat) : (nbl F k).length = k := by simp [nbl]
theorem nbl_snoc (F k : Nat) : nbl F (k + 1) = nbl F k ++ [((F + k : Nat) : Int)] := by simp [nbl, List.range_succ]
theorem nbl_get {F k j : Nat} (h : j < k) : (nbl F k)[j]?.getD 0 = ((F + j : Nat) : Int) := by
  simp [nbl, List.getElem?_map, List.getElem?_range h]
theorem nbl_nxt (F k : Nat) (h : 0 < k) : nxt (nbl F k) 0 = F + k := by
  obtain ⟨m, rfl⟩ : ∃ m, k = m + 1 := ⟨k - 1, by omega⟩
  rw [nbl_snoc, nxt_snoc]; simp; omega
theorem nbl_risb (F : Nat) : ∀ k, 0 < k → (risb (nbl F k) 0).length = ulen F + k - 1 := by
  intro k
  induction k with
  | zero => intro h; omega
  | succ k ih =>
    intro _
    rw [nbl_snoc, risb_snoc, List.length_append, uvb_length]
    by_cases hk : k = 0
    · subst hk
      simp [nbl, risb, nxt]
    · rw [ih (by omega), nbl_nxt F k (by omega)]
      have : (((F + k : Nat) : Int)).toNat - (F + k) = 0 := by simp
      have u1 : ulen 0 = 1 := ulen_small (by decide)
      rw [this, u1]
      have := ulen F
      omega
theorem nbl_rise (F k : Nat) : riseB (nbl F k) = true := by
  rw [riseB_iff]
  intro j hj
  rw [nbl_length] at hj
  rw [nbl_get (by omega), nbl_get hj]
  omega
theorem nbl_mem {F k : Nat} {x : Int} (h : x ∈ nbl F k) : 0 ≤ x ∧ x < F + k := by
  simp only [nbl, List.mem_map, List.mem_range] at h
  obtain ⟨j, hj, rfl⟩ := h
  omega
theorem Tryd.infoI : (Tryd.prog.info? 3).map (fun i => (i.zero, i.size, i.bytes)) = some (some (.int .i64 0), 1, 8) := by kernel_rfl
/-- Ints as cells. -/
def is (xs : List Int) : List Value := xs.map (Value.int .i64)
theorem is_length (a : List Int) : (is a).length = a.length := List.length_map ..
theorem is_one (a : List Int) : ∀ u ∈ is a, u.oneCell' = true := by
  intro u hu
  obtain ⟨x, _, rfl⟩ := List.mem_map.1 hu
  rfl
/-- What an owned row of ints is as a list in memory. -/
theorem ints_of_own {w : World} {base n : Nat} {v : Value} {l : List Int} (h : w.ownsRow base 3 1 v n (is l)) : ∃ a c, v = .slice a n c ∧ n = l.length ∧ (l ≠ [] → ∃ b off, a = some ⟨b, off, none⟩ ∧ base ≤ b ∧ v.ownBlock = some b ∧ ∀ k, k < l.length → w.cell? ⟨b, off + k, none⟩ = some (.int .i64 (l[k]?.getD 0))) := by
  have hn : n = l.length := by have := h.1; rw [is_length] at this; omega
  rcases h.2 with ⟨rfl, h0⟩ | ⟨g, cap, cur, rfl, hb, hg, hnc, _, hcs, ht⟩
  · refine ⟨none, 0, by rw [h0], hn, fun e => ?_⟩
    exact (e (List.eq_nil_of_length_eq_zero (by omega))).elim
  · refine ⟨_, cap, rfl, hn, fun _ => ⟨g, 0, rfl, hb, rfl, fun k hk => ?_⟩⟩
    rw [cell_of_row w g (0 + k) cur 3 (0, 0) hg]
    have h1 : (is l)[k]? = some (.int .i64 (l[k]?.getD 0)) := by
      unfold is
      rw [List.getElem?_map, List.getElem?_eq_getElem hk]; rfl
    rw [← ht, List.getElem?_take] at h1
    split at h1
    · simpa using h1
    · cases h1

set_option maxRecDepth 20000 in
set_option maxHeartbeats 1000000 in
theorem nb_main (bw : Nat) (v : Value) (xs : List Int) (F m : Nat) (w : World) (h : Wr w bw v xs) (hm : 1 ≤ m) (hm2 : m ≤ 5000) (hF : F + m ≤ 9223372036854775807) :
    Calls Tryd.prog 22 #[.pointer (some ⟨bw, 0, none⟩), .int .i64 F, .int .i64 m] w fun e w' => e = .returned (.bool true) ∧ Kept (WF bw v) w w' := by
  obtain ⟨i0, hi, hz0, hz1, hz2⟩ := info_parts Tryd.infoI
  have HH := hide h
  clear h
  go_enter Tryd.func22, Tryd.ntmps22
  go_wp2
  go_loopw [7, 8] (fun u i wr => ∃ k : Nat, k ≤ m ∧ i = .int .i64 k ∧ wr.ownsRow w.heap.size 3 1 u k (is (nbl F k)) ∧ Kept (fun _ => False) w wr) (fun _ i _ => m - (intOf i).toNat)
  case atStart => exact ⟨0, Nat.zero_le _, rfl, World.ownsRow_made w #[] 0 (Nat.le_refl _) (by decide) rfl, Kept.alloc _ _⟩
  case round =>
    obtain ⟨k, hk, rfl, hown, hK⟩ := hrel
    have HK := hide hK
    have hsz := hK.size
    clear hK
    by_cases hlt : k < m
    · go_wp2_with (at_builtin; refine wpList_append_own _ rfl _ _ 24 rfl w.heap.size 3 i0 (.int .i64 0) 1 8 Tryd.underlying24 hi hz0 hz1 hz2 rfl (by decide) _ _ _ rfl (hown.alloc _) ⟨wr.heap.size, 0, none⟩ 1 1 (is [(F : Int) + k]) rfl rfl ?d1 ?d2 ?d3 ?d4 ?d5 ?_)
      case d1 => exact one_new _ _ _
      case d2 => exact is_one _
      case d3 => unfold maxLen; omega
      case d4 => omega
      case d5 => simp; omega
      · intro v' w1 hown1 hgrow _
        have hK1 : Kept (fun _ => False) w w1 := (HK.out.trans (Kept.alloc _ _) (fun _ f => f.elim)).trans (Kept.grown hgrow) (fun i hi => .inr (hown.lt i hi).1)
        have HO := hide hown1
        have HK1 := hide hK1
        clear hgrow hown hown1 hK1
        go_wp2
        go_roundw
        case rel =>
          refine ⟨k + 1, by omega, by go_num, ?_, HK1.out⟩
          have e : is (nbl F (k + 1)) = is (nbl F k) ++ is [(F : Int) + k] := by
            rw [nbl_snoc, is, List.map_append]; simp [is]
          rw [e]
          exact HO.out
        case measure => simp [intOf]; omega
    · obtain rfl : k = m := by omega
      have hW := HH.out.kept HK.out (fun _ _ f => f)
      obtain ⟨a, c, rfl, hkn, hcl⟩ := ints_of_own hown
      clear hkn
      have hlt1 := HH.out.lt
      have c1 := reset_any bw v xs wr hW
      have c2 : ∀ w1, Wr w1 bw (.slice none 0 0) [] → WStep wr w1 bw v (.slice none 0 0) → Calls Tryd.prog 23 #[.pointer (some ⟨bw, 0, none⟩), .slice a k c] w1 fun e w' => e = .returned .nilIface ∧ ∃ v', Wr w' bw v' (rising (nbl F k)) ∧ WStep w1 w' bw (.slice none 0 0) v' := by
        intro w1 hW1 hS1
        have hfar : IntsFar w1 a (nbl F k) bw (.slice none 0 0) := by
          intro hne
          obtain ⟨b, off, e, hb, hob, hc⟩ := hcl hne
          refine ⟨b, off, e, ?_, fun j hj => hS1.kept.cell (hc j hj) ?_⟩
          · rintro (e1 | e1)
            · omega
            · simp [Value.ownBlock] at e1
          · rintro (e1 | e1)
            · simp at e1; omega
            · have := (HH.out.own.lt b e1).2
              omega
        have q := rising_any bw (.slice none 0 0) [] (nbl F k) a c w1 hW1 hfar (fun x hx => (nbl_mem hx).1) (fun x hx => by have := nbl_mem hx; omega) (nbl_rise F k) (by rw [nbl_length]; omega) (by rw [nbl_length]; simp; omega)
        rw [nbl_length] at q
        exact q
      have hlen : Hid ((rising (nbl F k)).length = ulen k + ulen F + k - 1) := by
        show (rising (nbl F k)).length = _
        rw [rising, List.length_append, uvb_length, nbl_length, nbl_risb F k hm]
        have := (ulen_le F (by omega)).1
        omega
      have C1 := hide c1
      have C2 := hide c2
      have u1 := ulen_le F (by omega)
      have u2 := ulen_le k (by omega)
      clear hW hown hcl c1 c2 hk hlt
      go_wp2_with (first
        | (go_at_call 20; refine C1.out.mono ?_; rintro e w1 ⟨rfl, hW1, hS1⟩)
        | (go_at_call 23; refine (C2.out w1 hW1 hS1).mono ?_; rintro e w2 ⟨rfl, v2, hW2, hS2⟩)
        | (go_at_call 19; refine (wlen_any bw v2 _ w2 hW2).mono ?_; rintro e w3 ⟨rfl, rfl⟩)
        | (go_at_call 17; refine (ulen_any _ _ ?_ ?_).mono ?_; rotate_right; rintro e w4 ⟨rfl, rfl⟩))
      all_goals first
        | omega
        | skip
      go_ret
      refine ⟨ret_bool ?_, (HK.out.mono (fun _ f => f.elim)).trans (hS1.trans hS2).kept (fun i hi => .inl hi)⟩
      have := hlen.out
      simp only [beq_iff_eq]
      omega

set_option maxRecDepth 20000 in
theorem nb_any (bw : Nat) (v : Value) (xs : List Int) (f n : Int) (w : World) (h : Wr w bw v xs) (f0 : -9223372036854775808 ≤ f) (f1 : f ≤ 9223372036854775807) (n0 : -9223372036854775808 ≤ n) (n1 : n ≤ 9223372036854775807) :
    Calls Tryd.prog 22 #[.pointer (some ⟨bw, 0, none⟩), .int .i64 f, .int .i64 n] w fun e w' => e = .returned (.bool true) ∧ Kept (WF bw v) w w' := by
  by_cases c1 : f < 0
  · clear h
    go_enter Tryd.func22, Tryd.ntmps22
    go_wp2
    go_ret
    exact ⟨rfl, Kept.refl _ _⟩
  · by_cases c2 : n < 1
    · clear h
      go_enter Tryd.func22, Tryd.ntmps22
      go_wp2
      go_ret
      exact ⟨rfl, Kept.refl _ _⟩
    · by_cases c3 : 5000 < n
      · clear h
        go_enter Tryd.func22, Tryd.ntmps22
        go_wp2
        go_ret
        exact ⟨rfl, Kept.refl _ _⟩
      · by_cases c4 : 9223372036854775807 - n < f
        · clear h
          go_enter Tryd.func22, Tryd.ntmps22
          go_wp2
          go_ret
          exact ⟨rfl, Kept.refl _ _⟩
        · obtain ⟨F, rfl⟩ : ∃ F : Nat, f = F := ⟨f.toNat, by omega⟩
          obtain ⟨m, rfl⟩ : ∃ m : Nat, n = m := ⟨n.toNat, by omega⟩
          exact nb_main bw v xs F m w h (by omega) (by omega) (by omega)
end Go.Proofs.YtikdokfkfioeeabDoor
