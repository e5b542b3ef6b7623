import Derived.Test.YtjmmdklgkcbihaaDoorWrC
namespace Go.Proofs.YtjmmdklgkcbihaaDoor
open Go.ChangeShapes Go.WideShapes Go.ChangeAt Go.RowKit

theorem Kept.drewN (w : World) (n : Nat) : Kept (fun _ => False) w (w.drewN n) := ⟨rfl, rfl, rfl, Nat.le_refl _, fun _ _ _ => rfl⟩
theorem Wr.drewN {w : World} {bw : Nat} {v : Value} {xs : List Int} (h : Wr w bw v xs) (n : Nat) : Wr (w.drewN n) bw v xs := h.kept (Kept.drewN w n) (fun _ _ f => f)
theorem WStep.drewN (w : World) (bw : Nat) (v : Value) (n : Nat) : WStep w (w.drewN n) bw v v := ⟨(Kept.drewN w n).mono (fun _ h => h.elim), fun _ h => .inl h⟩

/-- The bytes of a packed list. -/
def packed (l : List Int) : List Int :=
  uvb l.length ++ (if l = [] then [] else ((bitLen (orl l) : Nat) : Int) :: le ((l.length * bitLen (orl l) + 7) / 8) (pk (bitLen (orl l)) l))
theorem packed_length (l : List Int) : (packed l).length = ulen l.length + (if l = [] then 0 else 1 + (l.length * bitLen (orl l) + 7) / 8) := by
  unfold packed
  rw [List.length_append, uvb_length]
  split <;> simp [le_length]
  omega
theorem orl_bits (l : List Int) (h0 : ∀ x ∈ l, 0 ≤ x) (hI : IsInts l) : bitLen (orl l) ≤ 63 := by
  rw [bitLen_le_iff]
  exact orl_lt 63 l (fun x hx => by have := hI x hx; have := h0 x hx; omega)
theorem no_neg {l : List Int} (h0 : ∀ x ∈ l, 0 ≤ x) : l.any (fun x => decide (x < 0)) = false := by
  rw [List.any_eq_false]
  intro x hx
  have := h0 x hx
  simp; omega


set_option maxRecDepth 20000 in
set_option maxHeartbeats 400000 in
theorem packed_nil (bw : Nat) (v : Value) (xs : List Int) (a : Option Addr) (c : Nat) (w : World) (h : Wr w bw v xs) (hr : xs.length + 10 ≤ 140737488355328) :
    Calls Tryd.prog 73 #[.pointer (some ⟨bw, 0, none⟩), .slice a 0 c] w fun e w' => e = .returned .nilIface ∧ ∃ v', Wr w' bw v' (xs ++ packed []) ∧ WStep w w' bw v v' := by
  have hA : IntsAt w a [] := fun e => (e rfl).elim
  have b1 : Calls Tryd.prog 86 #[.slice a 0 c] w fun e w' => e = .returned (.bool false) ∧ w = w' := (below_any [] a c w hA (by decide)).mono (fun _ _ h => ⟨h.1, h.2.symm⟩)
  have b2 : Calls Tryd.prog 88 #[.slice a 0 c] w fun e w' => e = .returned (.int .i64 0) ∧ w = w' := (width_any [] a c w hA (by decide) (fun _ h => by cases h) (fun _ h => by cases h)).mono (fun _ _ h => ⟨h.1, h.2.symm⟩)
  have HH : Hid (Wr w bw v xs) := h
  clear h hA
  go_enter Tryd.func73, Tryd.ntmps73
  go_wp2_with (first
    | (go_at_call 86; refine b1.mono ?_; rintro e w' ⟨rfl, rfl⟩)
    | (go_at_call 88; refine b2.mono ?_; rintro e w' ⟨rfl, rfl⟩)
    | (go_at_call 27; refine (wuv_any bw v xs 0 _ HH.out (by omega) (by omega)).mono ?_; rintro e w1 ⟨rfl, v1, hW1, hS1⟩))
  go_ret
  refine ⟨rfl, v1, ?_, hS1⟩
  simpa [packed] using hW1

set_option maxRecDepth 20000 in
set_option maxHeartbeats 1000000 in
theorem packed_cons (bw : Nat) (v : Value) (xs : List Int) (l : List Int) (a : Option Addr) (c : Nat) (w : World) (h : Wr w bw v xs) (hF : IntsFar w a l bw v)
    (h0 : ∀ x ∈ l, 0 ≤ x) (hI : IsInts l) (hz : bitLen (orl l) ≠ 0 ∨ l.length ≤ 65536) (hpos : 0 < l.length) (hl : l.length ≤ 17592186044416) (hr : xs.length + 11 + (l.length * 63 + 7) / 8 ≤ 140737488355328) :
    Calls Tryd.prog 73 #[.pointer (some ⟨bw, 0, none⟩), .slice a l.length c] w fun e w' => e = .returned .nilIface ∧ ∃ v', Wr w' bw v' (xs ++ packed l) ∧ WStep w w' bw v v' := by
  have hn := no_neg h0
  have hb := orl_bits l h0 hI
  have hul := (ulen_le l.length (by omega)).2
  obtain ⟨wd, hwd⟩ : ∃ wd, wd = bitLen (orl l) := ⟨_, rfl⟩
  have hmul : l.length * wd ≤ l.length * 63 := Nat.mul_le_mul_left _ (by omega)
  have hro : (xs ++ uvb l.length ++ [(wd : Int)]).length + (l.length * wd + 7) / 8 ≤ 140737488355328 := by
    simp only [List.length_append, uvb_length, List.length_cons, List.length_nil]
    omega
  have hr2 : (xs ++ uvb l.length).length + 1 ≤ 140737488355328 := by
    simp only [List.length_append, uvb_length]
    omega
  have hx : ∀ x ∈ l, x.toNat < 2 ^ wd := fun x hx => by rw [hwd]; exact mem_lt_width hx
  have HX : Hid (∀ x ∈ l, x.toNat < 2 ^ wd) := hx
  have H0 : Hid (∀ x ∈ l, 0 ≤ x) := h0
  have HI : Hid (IsInts l) := hI
  have HF : Hid (IntsFar w a l bw v) := hF
  have HP : Hid (packed l = uvb l.length ++ (if l = [] then [] else (wd : Int) :: le ((l.length * wd + 7) / 8) (pk wd l))) := by rw [hwd]; exact rfl
  have HO : Hid ((xs ++ uvb l.length ++ [(wd : Int)]).length + (l.length * wd + 7) / 8 ≤ 140737488355328) := hro
  have HR2 : Hid ((xs ++ uvb l.length).length + 1 ≤ 140737488355328) := hr2
  have HN : Hid (l.any (fun x => decide (x < 0)) = false) := hn
  have HH : Hid (Wr w bw v xs) := h
  have hw63 : wd ≤ 63 := by omega
  have hzz : ¬ wd = 0 ∨ l.length ≤ 65536 := by rw [hwd]; exact hz
  have HW : Hid (wd = bitLen (orl l)) := hwd
  clear hx h0 hI hF hro hr2 hn h hz hwd hb hmul hul
  have b1 : Calls Tryd.prog 86 #[.slice a l.length c] w fun e w' => e = .returned (.bool false) ∧ w = w' := by
    refine (below_any l a c w HF.out.ints (by omega)).mono ?_
    rintro e w' ⟨rfl, rfl⟩
    exact ⟨by rw [HN.out], rfl⟩
  have b2 : Calls Tryd.prog 88 #[.slice a l.length c] w fun e w' => e = .returned (.int .i64 wd) ∧ w = w' := by
    rw [HW.out]
    exact (width_any l a c w HF.out.ints (by omega) HI.out H0.out).mono (fun _ _ h => ⟨h.1, h.2.symm⟩)
  go_enter Tryd.func73, Tryd.ntmps73
  have fin : ∀ (w3 : World) (v3 : Value), Wr w3 bw v3 (xs ++ uvb l.length ++ [(wd : Int)] ++ le ((l.length * wd + 7) / 8) (pk wd l)) → Wr w3 bw v3 (xs ++ packed l) := by
    intro w3 v3 q
    rw [HP.out, if_neg (fun e => by rw [e] at hpos; simp at hpos)]
    simpa using q
  by_cases hwd0 : wd = 0
  · have hlen : l.length ≤ 65536 := by omega
    clear hzz
    subst hwd0
    have HFi : Hid _ := fin
    clear fin
    have b2' : Calls Tryd.prog 88 #[.slice a l.length c] w fun e w' => e = .returned (.int .i64 0) ∧ w = w' := b2
    have c1 : ∀ (w1 : World) (v1 : Value), Wr w1 bw v1 (xs ++ uvb l.length) → Calls Tryd.prog 30 #[.pointer (some ⟨bw, 0, none⟩), .int .u8 0] w1 fun e w' => e = .returned (.tuple #[]) ∧ ∃ v', Wr w' bw v' (xs ++ uvb l.length ++ [((0 : Nat) : Int)]) ∧ WStep w1 w' bw v1 v' :=
      fun w1 v1 h1 => byte_any bw v1 (xs ++ uvb l.length) 0 w1 h1 HR2.out
    have c2 : ∀ (w2 : World) (v2 : Value), Wr w2 bw v2 (xs ++ uvb l.length ++ [((0 : Nat) : Int)]) → IntsFar w2 a l bw v2 → Calls Tryd.prog 89 #[.pointer (some ⟨bw, 0, none⟩), .slice a l.length c, .int .i64 0] w2 fun e w' => e = .returned (.tuple #[]) ∧ ∃ v', Wr w' bw v' (xs ++ uvb l.length ++ [((0 : Nat) : Int)] ++ le ((l.length * 0 + 7) / 8) (pk 0 l)) ∧ WStep w2 w' bw v2 v' :=
      fun w2 v2 h2 h3 => run_any bw v2 (xs ++ uvb l.length ++ [((0 : Nat) : Int)]) l a c 0 w2 h2 h3 hw63 H0.out HI.out HX.out hl HO.out
    clear b2
    go_wp2_with (first
      | (go_at_call 86; refine b1.mono ?_; rintro e w' ⟨rfl, rfl⟩)
      | (go_at_call 88; refine b2'.mono ?_; rintro e w' ⟨rfl, rfl⟩)
      | (go_at_call 27; refine (wuv_any bw v xs l.length _ HH.out (by omega) (by omega)).mono ?_; rintro e w1 ⟨rfl, v1, hW1, hS1⟩; clear b1 b2')
      | (go_at_call 30; refine (c1 _ v1 hW1).mono ?_; rintro e w2 ⟨rfl, v2, hW2, hS2⟩)
      | (go_at_call 89; refine (c2 _ v2 hW2 ((HF.out.step hS1).step hS2)).mono ?_; rintro e w3 ⟨rfl, v3, hW3, hS3⟩))
    go_ret
    exact ⟨rfl, v3, HFi.out _ _ hW3, (hS1.trans hS2).trans hS3⟩
  · have hwp : 0 < wd := by omega
    clear hzz hwd0
    have HFi : Hid _ := fin
    clear fin
    go_wp2_with (first
      | (go_at_call 86; refine b1.mono ?_; rintro e w' ⟨rfl, rfl⟩)
      | (go_at_call 88; refine b2.mono ?_; rintro e w' ⟨rfl, rfl⟩)
      | (go_at_call 27; refine (wuv_any bw v xs l.length _ HH.out (by omega) (by omega)).mono ?_; rintro e w1 ⟨rfl, v1, hW1, hS1⟩)
      | (go_at_call 30; refine (byte_any bw v1 (xs ++ uvb l.length) wd _ hW1 HR2.out).mono ?_; rintro e w2 ⟨rfl, v2, hW2, hS2⟩)
      | (go_at_call 89; refine (run_any bw v2 (xs ++ uvb l.length ++ [(wd : Int)]) l a c wd _ hW2 ((HF.out.step hS1).step hS2) hw63 H0.out HI.out HX.out hl HO.out).mono ?_; rintro e w3 ⟨rfl, v3, hW3, hS3⟩))
    go_ret
    exact ⟨rfl, v3, HFi.out _ _ hW3, (hS1.trans hS2).trans hS3⟩

theorem packed_any (bw : Nat) (v : Value) (xs : List Int) (l : List Int) (a : Option Addr) (c : Nat) (w : World) (h : Wr w bw v xs) (hF : IntsFar w a l bw v)
    (h0 : ∀ x ∈ l, 0 ≤ x) (hI : IsInts l) (hz : bitLen (orl l) ≠ 0 ∨ l.length ≤ 65536) (hl : l.length ≤ 17592186044416) (hr : xs.length + 11 + (l.length * 63 + 7) / 8 ≤ 140737488355328) :
    Calls Tryd.prog 73 #[.pointer (some ⟨bw, 0, none⟩), .slice a l.length c] w fun e w' => e = .returned .nilIface ∧ ∃ v', Wr w' bw v' (xs ++ packed l) ∧ WStep w w' bw v v' := by
  by_cases hl0 : l = []
  · subst hl0
    exact packed_nil bw v xs a c w h (by omega)
  · exact packed_cons bw v xs l a c w h hF h0 hI hz (List.length_pos_iff.2 hl0) hl hr
end Go.Proofs.YtjmmdklgkcbihaaDoor
