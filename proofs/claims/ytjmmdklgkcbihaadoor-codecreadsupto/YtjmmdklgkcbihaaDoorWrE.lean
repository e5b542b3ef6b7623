import Derived.Test.YtjmmdklgkcbihaaDoorWrD
namespace Go.Proofs.YtjmmdklgkcbihaaDoor
open Go.ChangeShapes Go.WideShapes Go.ChangeAt Go.RowKit

/-- The steps of a rising list, from the least number that may come. -/
def risb : List Int → Nat → List Int
  | [], _ => []
  | x :: r, s => uvb (x.toNat - s) ++ risb r (x.toNat + 1)
def nxt (l : List Int) (s : Nat) : Nat := l.foldl (fun _ x => x.toNat + 1) s
theorem risb_snoc (x : Int) : ∀ (l : List Int) (s : Nat), risb (l ++ [x]) s = risb l s ++ uvb (x.toNat - nxt l s) := by
  intro l
  induction l with
  | nil => intro s; simp [risb, nxt]
  | cons y r ih => intro s; rw [List.cons_append, risb, ih, risb, List.append_assoc]; rfl
theorem nxt_snoc (l : List Int) (x : Int) (s : Nat) : nxt (l ++ [x]) s = x.toNat + 1 := by simp [nxt, List.foldl_append]
theorem risb_length : ∀ (l : List Int) (s : Nat), (∀ x ∈ l, x ≤ 9223372036854775807) → (risb l s).length ≤ 10 * l.length := by
  intro l
  induction l with
  | nil => intro s _; simp [risb]
  | cons y r ih =>
    intro s h
    have h1 := ih (y.toNat + 1) (fun x hx => h x (List.mem_cons_of_mem _ hx))
    have h2 := h y (List.mem_cons_self ..)
    have h3 := (ulen_le (y.toNat - s) (by omega)).2
    rw [risb, List.length_append, uvb_length, List.length_cons]
    omega
/-- The bytes of a rising list. -/
def rising (l : List Int) : List Int := uvb l.length ++ risb l 0

/-- What a rising list looks like at the place k. -/
theorem nxt_le {l : List Int} (h0 : ∀ x ∈ l, 0 ≤ x) (hr : riseB l = true) {k : Nat} (hk : k < l.length) : (nxt (l.take k) 0 : Int) ≤ l[k] := by
  cases k with
  | zero => simp [nxt]; exact h0 _ (List.getElem_mem hk)
  | succ k =>
    rw [List.take_succ_eq_append_getElem (by omega), nxt_snoc]
    have := (riseB_iff l).1 hr k hk
    rw [List.getElem?_eq_getElem (by omega), List.getElem?_eq_getElem hk] at this
    have := h0 l[k] (List.getElem_mem (by omega))
    simp at *
    omega

set_option maxRecDepth 20000 in
set_option maxHeartbeats 1000000 in
theorem rising_any (bw : Nat) (v : Value) (xs : List Int) (l : List Int) (a : Option Addr) (c : Nat) (w : World) (h : Wr w bw v xs) (hF : IntsFar w a l bw v)
    (h0 : ∀ x ∈ l, 0 ≤ x) (hI : IsInts l) (hri : riseB l = true) (hl : l.length ≤ 17592186044416) (hr : xs.length + 10 * (l.length + 1) ≤ 140737488355328) :
    Calls Tryd.prog 70 #[.pointer (some ⟨bw, 0, none⟩), .slice a l.length c] w fun e w' => e = .returned .nilIface ∧ ∃ v', Wr w' bw v' (xs ++ rising l) ∧ WStep w w' bw v v' := by
  have b1 : Calls Tryd.prog 86 #[.slice a l.length c] w fun e w' => e = .returned (.bool false) ∧ w = w' := by
    refine (below_any l a c w hF.ints (by omega)).mono ?_
    rintro e w' ⟨rfl, rfl⟩
    exact ⟨by rw [no_neg h0], rfl⟩
  have b2 : Calls Tryd.prog 87 #[.slice a l.length c] w fun e w' => e = .returned (.bool true) ∧ ∃ n, w' = w.drewN n := by
    refine (rises_any l a c w hF.ints (by omega)).mono ?_
    rintro e w' ⟨rfl, hn⟩
    exact ⟨by rw [hri], hn⟩
  have hul := (ulen_le l.length (by omega)).2
  have H0 : Hid (∀ x ∈ l, 0 ≤ x) := h0
  have HI : Hid (IsInts l) := hI
  have HR : Hid (riseB l = true) := hri
  have HF : Hid (IntsFar w a l bw v) := hF
  have HH : Hid (Wr w bw v xs) := h
  clear h0 hI hri hF h
  go_enter Tryd.func70, Tryd.ntmps70
  go_wp2_with (first
    | (go_at_call 86; refine b1.mono ?_; rintro e w' ⟨rfl, rfl⟩)
    | (go_at_call 87; refine b2.mono ?_; rintro e w' ⟨rfl, n, rfl⟩)
    | (go_at_call 27; refine (wuv_any bw v xs l.length _ (HH.out.drewN n) (by omega) (by omega)).mono ?_; rintro e w1 ⟨rfl, v1, hW1, hS1⟩))
  have hS2 := (WStep.drewN w bw v n).trans hS1
  clear b1 b2 hS1
  have HS : Hid _ := hS2
  have HW : Hid _ := hW1
  clear hS2 hW1
  go_loopw [5, 22] (fun ls i wr => ∃ (k : Nat) (z : Int) (v2 : Value), k ≤ l.length ∧ i = .int .i64 k ∧ ls = .int .i64 z ∧ (k < l.length → z = nxt (l.take k) 0) ∧ Wr wr bw v2 (xs ++ uvb l.length ++ risb (l.take k) 0) ∧ WStep w wr bw v v2)
    (fun _ i _ => l.length - (intOf i).toNat)
  case atStart => exact ⟨0, 0, v1, Nat.zero_le _, rfl, rfl, fun _ => rfl, by simpa [risb] using HW.out, HS.out⟩
  case round =>
    clear HW HS
    obtain ⟨k, z, v2, hk, rfl, rfl, hz, hW, hS⟩ := hrel
    have HW : Hid _ := hW
    have HS : Hid _ := hS
    clear hW hS
    by_cases hlt : k < l.length
    · have hz' := hz hlt
      clear hz
      obtain ⟨b, off, rfl, hc⟩ := (HF.out.step HS.out).ints.get hlt
      have hm : l[k] ∈ l := List.getElem_mem hlt
      have hle := nxt_le H0.out HR.out hlt
      have hx0 := H0.out _ hm
      have hxm := (HI.out _ hm).2
      obtain ⟨x, hx⟩ : ∃ x : Nat, l[k] = x := ⟨l[k].toNat, by omega⟩
      have hc' : wr.cell? ⟨b, off + k, none⟩ = some (.int .i64 (x : Int)) := by rw [hc, List.getElem?_eq_getElem hlt]; simp [hx]
      rw [hx] at hle hxm
      have hb : Hid (risb (l.take (k + 1)) 0 = risb (l.take k) 0 ++ uvb (x - nxt (l.take k) 0)) := by
        show risb (l.take (k + 1)) 0 = _
        rw [List.take_succ_eq_append_getElem hlt, risb_snoc, hx]; rfl
      have hn1 : Hid (nxt (l.take (k + 1)) 0 = x + 1) := by
        show nxt (l.take (k + 1)) 0 = x + 1
        rw [List.take_succ_eq_append_getElem hlt, nxt_snoc, hx]; rfl
      have hnx : Hid (k + 1 < l.length → (x : Int) + 1 ≤ 9223372036854775807) := by
        intro hk2
        have h1 := nxt_le H0.out HR.out hk2
        have h2 := (HI.out _ (List.getElem_mem hk2)).2
        have h3 := hn1.out
        rw [h3] at h1
        push_cast at h1
        omega
      have hlen : (xs ++ uvb l.length ++ risb (l.take k) 0).length + 10 ≤ 140737488355328 := by
        have h1 := risb_length (l.take k) 0 (fun y hy => (HI.out y (List.mem_of_mem_take hy)).2)
        have h2 : (l.take k).length = k := by rw [List.length_take]; omega
        rw [h2] at h1
        rw [List.length_append, List.length_append, uvb_length]
        omega
      have HLn : Hid _ := hlen
      clear hc hx hm hx0 hlen
      obtain ⟨s, hs⟩ : ∃ s, s = nxt (l.take k) 0 := ⟨_, rfl⟩
      rw [← hs] at hle hz' hb
      have HSs : Hid (s = nxt (l.take k) 0) := hs
      clear hs
      subst hz'
      have c1 : Calls Tryd.prog 27 #[.pointer (some ⟨bw, 0, none⟩), .int .u64 ((x : Int) - s)] wr fun e w' => e = .returned (.tuple #[]) ∧ ∃ v', Wr w' bw v' (xs ++ uvb l.length ++ risb (l.take k) 0 ++ uvb (x - s)) ∧ WStep wr w' bw v2 v' := by
        have e : (x : Int) - s = ((x - s : Nat) : Int) := by omega
        rw [e]
        exact wuv_any bw v2 _ (x - s) wr HW.out (by omega) HLn.out
      by_cases hmax : (x : Int) + 1 ≤ 9223372036854775807
      all_goals
        go_wp2_with (go_at_call 27; refine c1.mono ?_; rintro e w3 ⟨rfl, v3, hW3, hS3⟩)
        clear c1
        go_roundw
        case rel =>
          refine ⟨k + 1, _, v3, by omega, by go_num, rfl, fun hk2 => ?_, ?_, HS.out.trans hS3⟩
          · have := hnx.out hk2
            first
              | (rw [hn1.out]; push_cast; rfl)
              | omega
          · rw [hb.out, ← List.append_assoc]; exact hW3
        case measure => simp [intOf]; omega
    · have hkl : k = l.length := by omega
      subst hkl
      clear hz
      have q := HW.out
      rw [List.take_length] at q
      have HQ : Hid _ := q
      clear q
      go_wp2
      go_ret
      refine ⟨rfl, v2, ?_, HS.out⟩
      rw [rising, ← List.append_assoc]
      exact HQ.out
end Go.Proofs.YtjmmdklgkcbihaaDoor
