import Derived.Test.YtjmmdklgkcbihaaDoorRdI
import Derived.Test.YtjmmdklgkcbihaaDoorIs
import Derived.Deep.DeepFit
import Derived.Deep.DeepMust
namespace Go.Proofs.YtjmmdklgkcbihaaDoor
open Go.ChangeShapes Go.WideShapes Go.ChangeAt Go.RowKit

/-- The elements of a rising list, from the least number that may come: the numbers and how many bytes they have, or an error (0: too short, 1: no good form, 2: too great). -/
def rdr : Nat → Nat → List Int → Except Nat (List Int × Nat)
  | 0, _, _ => .ok ([], 0)
  | n + 1, s, l =>
    match rdu 0 0 l with
    | .error e => .error e
    | .ok (x, k) =>
      if 9223372036854775807 < s + x then .error 2
      else match rdr n (s + x + 1) (l.drop k) with
        | .error e => .error e
        | .ok (r, m) => .ok (((s + x : Nat) : Int) :: r, k + m)
/-- What has been read already, ahead of what comes. -/
def ahead (acc : List Int) (d : Nat) : Except Nat (List Int × Nat) → Except Nat (List Int × Nat)
  | .error e => .error e
  | .ok (r, m) => .ok (acc ++ r, d + m)
theorem ahead_step (acc : List Int) (d x k : Nat) (r : Except Nat (List Int × Nat)) : ahead acc d (match r with | .error e => .error e | .ok (r, m) => .ok ((x : Int) :: r, k + m)) = ahead (acc ++ [(x : Int)]) (d + k) r := by
  cases r with
  | error e => rfl
  | ok rm => obtain ⟨r, m⟩ := rm; simp [ahead, Nat.add_assoc]
theorem rdr_step (n s : Nat) (l : List Int) (x k : Nat) (h : rdu 0 0 l = .ok (x, k)) (hs : s + x ≤ 9223372036854775807) : rdr (n + 1) s l = (match rdr n (s + x + 1) (l.drop k) with | .error e => .error e | .ok (r, m) => .ok (((s + x : Nat) : Int) :: r, k + m)) := by
  rw [rdr, h]
  simp only
  rw [if_neg (by omega)]
theorem rdr_err (n s : Nat) (l : List Int) (e : Nat) (h : rdu 0 0 l = .error e) : rdr (n + 1) s l = .error e := by
  rw [rdr, h]
theorem rdr_lim (n s : Nat) (l : List Int) (x k : Nat) (h : rdu 0 0 l = .ok (x, k)) (hs : 9223372036854775807 < s + x) : rdr (n + 1) s l = .error 2 := by
  rw [rdr, h]
  simp only
  rw [if_pos hs]

theorem rdu_err_le : ∀ (l : List Int) (i acc e : Nat), rdu i acc l = .error e → e ≤ 1 := by
  intro l
  induction l with
  | nil => intro i acc e h; simp [rdu] at h; omega
  | cons c r ih =>
    intro i acc e h
    rw [rdu] at h
    split at h
    · simp at h; omega
    · split at h
      · split at h
        · simp at h; omega
        · cases h
      · exact ih _ _ _ h
/-- Which error a list's refusal is. -/
def errOf2 (a0 a1 a2 : Addr) (e : Nat) : Value := if e = 2 then errV a2 else errOf a0 a1 e

/-- What Reader.Rising leaves. -/
def RisPost (br : Nat) (v : Value) (l : List Int) (p q : Nat) (a0 a1 a2 : Addr) (w : World) (e : Ending) (w' : World) : Except Nat (List Int × Nat) → Prop
  | .error er => e = .returned (.tuple #[.slice none 0 0, errOf2 a0 a1 a2 er]) ∧ Rd w' br v l p ∧ Kept (fun _ => False) w w'
  | .ok (xs, m) => ∃ u, e = .returned (.tuple #[u, .nilIface]) ∧ w'.ownsRow w.heap.size 3 1 u xs.length (is xs) ∧ Rd w' br v l (q + m) ∧ Kept (fun i => i = br) w w'

set_option maxRecDepth 20000 in
set_option maxHeartbeats 4000000 in
theorem rris_any (br : Nat) (v : Value) (l : List Int) (p n k : Nat) (most : Int) (a0 a1 a2 : Addr) (w : World) (h : Rd w br v l p) (hr : rdu 0 0 (l.drop p) = .ok (n, k)) (hm : (n : Int) ≤ most) (hm2 : most ≤ 9223372036854775807) (hsm : l.length ≤ 1099511627776)
    (g0 : w.cell? ⟨1, 0, none⟩ = some (errV a0)) (g1 : w.cell? ⟨3, 0, none⟩ = some (errV a1)) (g2 : w.cell? ⟨4, 0, none⟩ = some (errV a2)) :
    Calls Tryd.prog 51 #[.pointer (some ⟨br, 0, none⟩), .int .i64 most] w fun e w' => RisPost br v l p (p + k) a0 a1 a2 w e w' (rdr n 0 (l.drop (p + k))) := by
  obtain ⟨i0, hi, hz0, hz1, hz2⟩ := info_parts Tryd.infoI
  have hc := h.cell1
  have hc0 := h.cell0
  have hf := h.free1
  have HH := hide h
  have hk := rdu_le _ _ _ _ _ hr
  rw [List.length_drop] at hk
  have hp := h.le
  obtain ⟨a, c, hv, hb, _⟩ := bytes_of_own h.own
  obtain ⟨g, rfl⟩ := h.frm
  simp only [Value.slice.injEq, true_and] at hv
  obtain ⟨rfl, rfl⟩ := hv
  have c1 : ∀ n', Calls Tryd.prog 80 #[.slice (some ⟨g, 0, none⟩) l.length l.length, .int .i64 p, .int .i64 most] (w.drewN n') fun e w' => e = .returned (.tuple #[.int .i64 n, .int .i64 ((p + k : Nat) : Int), .nilIface]) ∧ ∃ m, w' = w.drewN m := by
    intro n'
    refine (upat_ok l _ l.length p n k most a0 a1 (w.drewN n') hb h.isb h.le (by omega) g0 g1 hr hm hm2).mono ?_
    rintro e w' ⟨rfl, m, rfl⟩
    exact ⟨by simp, n' + m, by rw [World.drewN_drewN]⟩
  obtain ⟨q0, hq0⟩ : ∃ q, q = p + k := ⟨_, rfl⟩
  rw [← hq0] at c1 ⊢
  have hq1 : q0 ≤ l.length := by omega
  have C1 := hide c1
  have HB := hide h.isb
  have HBA := hide hb
  have G0 := hide g0
  have G1 := hide g1
  have G2 := hide g2
  clear h hb g0 g1 g2 hr c1 hk hq0
  go_enter Tryd.func51, Tryd.ntmps51
  go_wp2_with fail
  go_quiet ((exact C1.out _))
  obtain ⟨N, hN1, hN2, hN3⟩ : ∃ N : Nat, N ≤ l.length ∧ (N : Int) ≤ n ∧ (N : Int) = min (n : Int) ((l.length : Int) - q0) := ⟨min n (l.length - q0), by omega, by omega, by omega⟩
  have stp : ∀ w1 : World, w1.ownsRow w.heap.size 3 1 (.slice (some ⟨w.heap.size, 0, none⟩) 0 N) 0 [] → (w.drewN nq).grownBy w1 none → w1.ownsRow w.heap.size 3 1 (.slice (some ⟨w.heap.size, 0, none⟩) 0 N) 0 (is []) ∧ Kept (fun _ => False) w w1 := by
    intro w1 h1 h2
    exact ⟨h1, ((Kept.drewN w nq).trans (Kept.grown h2) (fun _ e => by cases e)).mono (fun _ f => f.elim)⟩
  have STP := hide stp
  clear stp C1
  by_cases hmin : (l.length : Int) - q0 < n
  all_goals
    go_wp2_with (at_make; refine wpList_make_own _ rfl _ _ 35 rfl w.heap.size 3 i0 (.int .i64 0) 1 Tryd.underlying35 hi hz0 hz1 _ _ _ N rfl rfl (by omega) (by rw [hz2]; omega) (by unfold maxLen; omega) (Nat.le_refl _) ?_)
    intro w1 hown1 hgrow1
    have hst := STP.out w1 hown1 hgrow1
    have HST := hide hst
    clear hown1 hgrow1 hst hmin hN3 STP
    go_wp2
    go_loopw [7, 9, 10] (fun at_ u ls wr => ∃ (acc : List Int) (s q : Nat), at_ = .int .i64 q ∧ ls = .int .u64 s ∧ wr.ownsRow w.heap.size 3 1 u acc.length (is acc) ∧ acc.length ≤ n ∧ q ≤ l.length ∧ q0 ≤ q ∧ s ≤ 9223372036854775808 ∧ acc.length ≤ q - q0 ∧ rdr n 0 (l.drop q0) = ahead acc (q - q0) (rdr (n - acc.length) s (l.drop q)) ∧ Kept (fun _ => False) w wr)
      (fun at_ _ _ _ => l.length - (intOf at_).toNat)
    case atStart =>
      refine ⟨[], 0, q0, rfl, rfl, HST.out.1, Nat.zero_le _, hq1, Nat.le_refl _, by omega, by simp, ?_, HST.out.2⟩
      cases hx : rdr n 0 (l.drop q0) with
      | error e => simp [ahead]
      | ok rm => simp [ahead]
    case round =>
      obtain ⟨acc, s, q, rfl, rfl, hown, hj, hq, hqq, hs, hjq, hrd, hK⟩ := hrel
      obtain ⟨ua, uc, rfl⟩ := own_slice hown
      have HO := hide hown
      have HK := hide hK
      have HR := hide hrd
      have hc2 := hK.cell hc0 (fun f => f)
      have hc3 := hK.cell hc (fun f => f)
      have hf2 : wr.frozen? ⟨br, 1, none⟩ = false := (HH.out.kept hK (fun f => f) (fun _ _ f => f)).free1
      have hsz := hK.size
      clear hown hrd hK
      have hBw : BytesAt wr (some ⟨g, 0, none⟩) l := by
        intro hne
        obtain ⟨b, off, e, hcc⟩ := HBA.out hne
        exact ⟨b, off, e, fun i hi => HK.out.cell (hcc i hi) (fun f => f)⟩
      have cu := uvat_any l (some ⟨g, 0, none⟩) l.length q (errV a0) (errV a1) wr hBw HB.out hq (by omega) (HK.out.cell G0.out (fun f => f)) (HK.out.cell G1.out (fun f => f))
      have hg2 := HK.out.cell G2.out (fun f => f)
      clear hBw
      by_cases hlt : acc.length < n
      · obtain ⟨nn, hnn⟩ : ∃ nn, n - acc.length = nn + 1 := ⟨n - acc.length - 1, by omega⟩
        cases hu : rdu 0 0 (l.drop q) with
        | error er =>
          have hle := rdu_err_le _ _ _ _ hu
          have hres : Hid (rdr n 0 (l.drop q0) = .error er) := by
            show rdr n 0 (l.drop q0) = .error er
            rw [HR.out, hnn, rdr_err _ _ _ _ hu]; rfl
          obtain ⟨ad, had⟩ := errOf_form a0 a1 er
          have cu2 : Calls Tryd.prog 64 #[.slice (some ⟨g, 0, none⟩) l.length l.length, .int .i64 q] wr fun e w' => e = .returned (.tuple #[.int .u64 0, .int .i64 0, .iface 139 (.pointer (some ad))]) ∧ ∃ m, w' = wr.drewN m := by
            refine cu.mono ?_
            rintro e w' ⟨rfl, hm⟩
            refine ⟨?_, hm⟩
            rw [hu, ← had]
            cases er with
            | zero => rfl
            | succ k => rfl
          have CU := hide cu2
          have HAD := hide had
          clear cu cu2 hu had hnn
          go_wp2_with (go_at_call 64; refine CU.out.mono ?_; rintro e w2 ⟨rfl, m2, rfl⟩)
          go_ret2
          rw [hres.out]
          refine ⟨?_, HH.out.kept (HK.out.trans (Kept.drewN _ _) (fun _ f => f.elim)) (fun f => f) (fun _ _ f => f), HK.out.trans (Kept.drewN _ _) (fun _ f => f.elim)⟩
          rw [errOf2, if_neg (by omega), HAD.out]
          rfl
        | ok xk =>
          obtain ⟨x, k2⟩ := xk
          have hk2 := rdu_le _ _ _ _ _ hu
          rw [List.length_drop] at hk2
          have hx := rdu_lt (l.drop q) 0 0 x k2 (by omega) (by decide) (fun y hy => HB.out y (List.mem_of_mem_drop hy)) hu
          have cu2 : Calls Tryd.prog 64 #[.slice (some ⟨g, 0, none⟩) l.length l.length, .int .i64 q] wr fun e w' => e = .returned (.tuple #[.int .u64 x, .int .i64 ((q : Int) + k2), .nilIface]) ∧ ∃ m, w' = wr.drewN m := by
            refine cu.mono ?_
            rintro e w' ⟨rfl, hm⟩
            refine ⟨?_, hm⟩
            rw [hu]
            simp [uvRes]
          have CU := hide cu2
          by_cases hbig : 9223372036854775807 < s + x
          · have hres : Hid (rdr n 0 (l.drop q0) = .error 2) := by
              show rdr n 0 (l.drop q0) = .error 2
              rw [HR.out, hnn, rdr_lim _ _ _ _ _ hu hbig]; rfl
            clear cu cu2 hu hnn
            by_cases hs2 : 9223372036854775807 < s
            all_goals
              go_wp2_with (go_at_call 64; refine CU.out.mono ?_; rintro e w2 ⟨rfl, m2, rfl⟩)
              go_quiet (fail)
              go_wp2
              go_ret2
              rw [hres.out]
              have kk := (HK.out.trans (Kept.drewN wr m2) (fun _ f => f.elim)).trans (Kept.drewN _ nq) (fun _ f => f.elim)
              first
                | exact ⟨rfl, HH.out.kept kk (fun f => f) (fun _ _ f => f), kk⟩
                | (rw [World.drewN_drewN] at kk; exact ⟨rfl, HH.out.kept kk (fun f => f) (fun _ _ f => f), kk⟩)
          · have hres : Hid (rdr n 0 (l.drop q0) = ahead (acc ++ [((s + x : Nat) : Int)]) (q + k2 - q0) (rdr nn (s + x + 1) (l.drop (q + k2)))) := by
              show rdr n 0 (l.drop q0) = _
              rw [HR.out, hnn, rdr_step _ _ _ _ _ hu (by omega), ahead_step, List.drop_drop, show q - q0 + k2 = q + k2 - q0 by omega]
            have HNN := hide hnn
            have cu3 : Calls Tryd.prog 64 #[.slice (some ⟨g, 0, none⟩) l.length l.length, .int .i64 q] wr fun e w' => e = .returned (.tuple #[.int .u64 x, .int .i64 ((q : Int) + k2), .nilIface]) ∧ Kept (fun _ => False) wr w' := by
              refine cu2.mono ?_
              rintro e w' ⟨rfl, m, rfl⟩
              exact ⟨rfl, Kept.drewN _ _⟩
            have CU3 := hide cu3
            clear cu cu2 cu3 CU hu hnn
            have hx2 : x ≤ 9223372036854775807 := by omega
            have hsx : (s : Int) + x ≤ 9223372036854775807 := by omega
            go_wp2_with (first
              | (go_at_call 64; refine CU3.out.mono ?_; rintro e w2 ⟨rfl, kw2⟩; have hown2 := kw2.row HO.out (fun _ _ f => f); have hz2' := kw2.size)
              | (at_builtin; refine wpList_append_own _ rfl _ _ 35 rfl w.heap.size 3 i0 (.int .i64 0) 1 8 Tryd.underlying35 hi hz0 hz1 hz2 rfl (by decide) _ _ _ rfl (hown2.alloc _) ⟨w2.heap.size, 0, none⟩ 1 1 (is [(s : Int) + x]) rfl rfl (one_new _ _ _) (is_one _) (by unfold maxLen; omega) (by omega) (by simp; omega) ?_))
            intro v3 w3 hown3 hgrow3 _
            have hK3 : Kept (fun _ => False) w w3 := ((HK.out.trans kw2 (fun _ f => f.elim)).trans (Kept.alloc _ _) (fun _ f => f.elim)).trans (Kept.grown hgrow3) (fun i hi => .inr (hown2.lt i hi).1)
            have HO3 := hide hown3
            have HK3 := hide hK3
            clear hown3 hgrow3 hK3 hown2 kw2
            go_wp2
            go_roundw
            case rel =>
              refine ⟨acc ++ [((s + x : Nat) : Int)], s + x + 1, q + k2, by go_num, by go_num, ?_, by rw [List.length_append]; simp; omega, by omega, by omega, by omega, by rw [List.length_append]; simp; omega, ?_, HK3.out⟩
              · have e : is (acc ++ [((s + x : Nat) : Int)]) = is acc ++ is [(s : Int) + x] := by
                  rw [is, List.map_append]; simp [is]
                rw [e, List.length_append]
                exact HO3.out
              · rw [hres.out, List.length_append]
                have : n - (acc.length + [((s + x : Nat) : Int)].length) = nn := by have := HNN.out; simp; omega
                rw [this]
            case measure => simp [intOf]; omega
      · have hn : acc.length = n := by omega
        have hres : Hid (rdr n 0 (l.drop q0) = .ok (acc, q - q0)) := by
          show rdr n 0 (l.drop q0) = .ok (acc, q - q0)
          rw [HR.out, hn, Nat.sub_self, rdr]
          simp [ahead]
        have hlt2 : ¬ (acc.length : Int) < n := by omega
        have HN := hide hn
        clear hn hlt cu
        have R2 := HH.out.kept HK.out (fun f => f) (fun _ _ f => f)
        have R3 : Hid (Rd (wr.setCell ⟨br, 1, none⟩ (.int .i64 q)) br (.slice (some ⟨g, 0, none⟩) l.length l.length) l (q0 + (q - q0))) := by
          rw [show q0 + (q - q0) = q by omega]
          exact R2.move hq
        have O3 : Hid ((wr.setCell ⟨br, 1, none⟩ (.int .i64 q)).ownsRow w.heap.size 3 1 (.slice ua acc.length uc) acc.length (is acc)) := by
          refine ownsRow_setCell_other HO.out ?_ _
          intro e
          have := (HO.out.lt br e).1
          have := lt_of_block HH.out.blk
          omega
        have K3 : Hid (Kept (fun i => i = br) w (wr.setCell ⟨br, 1, none⟩ (.int .i64 q))) := (HK.out.mono (fun _ f => f.elim)).trans (Kept.setCell _ _ _) (fun _ hi => .inl hi)
        clear R2
        go_wp2
        go_ret2
        rw [hres.out]
        exact ⟨_, rfl, O3.out, R3.out, K3.out⟩
end Go.Proofs.YtjmmdklgkcbihaaDoor
namespace Go.Proofs.YtjmmdklgkcbihaaDoor
open Go.ChangeShapes Go.WideShapes Go.ChangeAt Go.RowKit

/-- The n elements of the width w that a number stands for. -/
def unp (V w n : Nat) : List Int := (List.range n).map fun i => ((V / 2 ^ (i * w) % 2 ^ w : Nat) : Int)
theorem unp_length (V w n : Nat) : (unp V w n).length = n := by simp [unp]
theorem unp_succ (V w n : Nat) : unp V w (n + 1) = unp V w n ++ [((V / 2 ^ (n * w) % 2 ^ w : Nat) : Int)] := by simp [unp, List.range_succ]
/-- A piece of a byte is a piece of the number. -/
theorem piece_of (A r t : Nat) (h : r + t ≤ 8) : A % 256 / 2 ^ r % 2 ^ t = A / 2 ^ r % 2 ^ t := by
  have e : (256 : Nat) = 2 ^ r * 2 ^ (8 - r) := by rw [← Nat.pow_add, show r + (8 - r) = 8 by omega]
  rw [e, Nat.mod_mul_right_div_self, Nat.mod_mod_of_dvd]
  exact Nat.pow_dvd_pow 2 (by omega)
theorem vle_digit : ∀ (R : List Int) (j : Nat), IsBytes R → (h : j < R.length) → ((vle R / 256 ^ j % 256 : Nat) : Int) = R[j] := by
  intro R
  induction R with
  | nil => intro j _ h; simp at h
  | cons c r ih =>
    intro j hB h
    have h1 := hB c (List.mem_cons_self ..)
    cases j with
    | zero => rw [vle]; simp; omega
    | succ j =>
      have h2 := ih j (fun x hx => hB x (List.mem_cons_of_mem _ hx)) (by simpa using h)
      rw [vle, Nat.pow_succ, Nat.mul_comm (256 ^ j) 256, ← Nat.div_div_eq_div_mul]
      have e : (c.toNat + 256 * vle r) / 256 = vle r := by omega
      rw [e, h2]; rfl
/-- The bits from a place on, in one byte. -/
theorem piece_at {R : List Int} {j r t c : Nat} (hB : IsBytes R) (hj : j < R.length) (hc : R[j] = c) (h : r + t ≤ 8) : c / 2 ^ r % 2 ^ t = vle R / 2 ^ (8 * j + r) % 2 ^ t := by
  have e := vle_digit R j hB hj
  rw [hc] at e
  have e2 : vle R / 256 ^ j % 256 = c := by omega
  rw [← e2, piece_of _ _ _ h, pow8, Nat.div_div_eq_div_mul, ← Nat.pow_add]
theorem mod_more (A g t : Nat) : A % 2 ^ g + A / 2 ^ g % 2 ^ t * 2 ^ g = A % 2 ^ (g + t) := by
  rw [Nat.pow_add, Nat.mod_mul, Nat.mul_comm (2 ^ g)]
theorem and_mask (a t : Nat) (ha : a < 2 ^ 64) (ht : t ≤ 8) : bits .and .u64 (a : Int) ((2 : Int) ^ t - 1) = ((a % 2 ^ t : Nat) : Int) := by
  have h2 : 2 ^ t ≤ 2 ^ 8 := Nat.pow_le_pow_right (by decide) ht
  have hp := Nat.two_pow_pos t
  have e : (2 : Int) ^ t - 1 = ((2 ^ t - 1 : Nat) : Int) := by
    have : ((2 ^ t : Nat) : Int) = (2 : Int) ^ t := by push_cast; rfl
    omega
  rw [e]
  show IntKind.u64.wrap ((BitVec.ofInt 64 (a : Int) &&& BitVec.ofInt 64 ((2 ^ t - 1 : Nat) : Int)).toNat : Int) = _
  rw [BitVec.toNat_and, ofInt_nat a ha, ofInt_nat _ (by omega), Nat.and_two_pow_sub_one_eq_mod, IntKind.wrap_u64]
  have := Nat.mod_lt a hp
  omega

theorem mask_piece (cc r t : Nat) (hc : cc < 256) (ht : t ≤ 8) : bits .and .u64 ((cc : Int) / 2 ^ r) (IntKind.u64.wrap (IntKind.u64.wrap (2 ^ t) - 1)) = ((cc / 2 ^ r % 2 ^ t : Nat) : Int) := by
  have h2 : 2 ^ t ≤ 2 ^ 8 := Nat.pow_le_pow_right (by decide) ht
  have hp := Nat.two_pow_pos t
  have e0 : ((2 ^ t : Nat) : Int) = (2 : Int) ^ t := by push_cast; rfl
  have e : IntKind.u64.wrap (IntKind.u64.wrap (2 ^ t) - 1) = (2 : Int) ^ t - 1 := by
    rw [IntKind.wrap_u64, IntKind.wrap_u64]
    omega
  have e2 : ((cc : Int) / 2 ^ r) = ((cc / 2 ^ r : Nat) : Int) := by push_cast; rfl
  rw [e, e2, and_mask _ _ (Nat.lt_of_le_of_lt (Nat.div_le_self _ _) (by omega)) ht]
theorem or_shift (y pc g : Nat) (hy : y < 2 ^ g) (h : y + pc * 2 ^ g < 2 ^ 64) : bits .or .u64 (y : Int) (IntKind.u64.wrap ((pc : Int) * 2 ^ g)) = ((y + pc * 2 ^ g : Nat) : Int) := by
  have e : IntKind.u64.wrap ((pc : Int) * 2 ^ g) = ((pc * 2 ^ g : Nat) : Int) := by
    rw [IntKind.wrap_u64]
    have e1 : ((pc : Int) * 2 ^ g) = ((pc * 2 ^ g : Nat) : Int) := by push_cast; rfl
    rw [e1]
    omega
  rw [e, or_u64 _ _ (by omega) (by omega), or_above _ _ _ hy]
theorem set_mid {α : Type} (a : List α) (x u : α) (r : List α) (k : Nat) (h : a.length = k) : (a ++ x :: r).set k u = (a ++ [u]) ++ r := by
  subst h
  simp

set_option maxRecDepth 20000 in
set_option maxHeartbeats 4000000 in
theorem unpack_any (R : List Int) (a : Option Addr) (c n wd : Nat) (w : World) (h : BytesAt w a R) (hB : IsBytes R) (hw : wd ≤ 63) (hn : n * wd ≤ 8 * R.length) (hn2 : n ≤ 17592186044416) (hR : R.length ≤ 1099511627776) :
    Calls Tryd.prog 82 #[.slice a R.length c, .int .i64 n, .int .i64 wd] w fun e w' => e = .returned (.slice (some ⟨w.heap.size, 0, none⟩) n n) ∧ w'.ownsRow w.heap.size 3 1 (.slice (some ⟨w.heap.size, 0, none⟩) n n) n (is (unp (vle R) wd n)) ∧ Kept (fun _ => False) w w' := by
  obtain ⟨i0, hi, hz0, hz1, hz2⟩ := info_parts Tryd.infoI
  have HA := hide h
  have HB := hide hB
  obtain ⟨V, hV⟩ : ∃ V, V = vle R := ⟨_, rfl⟩
  have HV := hide hV
  rw [← hV]
  clear h hB hV
  go_enter Tryd.func82, Tryd.ntmps82
  go_wp2_with (at_make; refine wpList_make_full _ rfl _ _ 35 rfl w.heap.size 3 i0 (.int .i64 0) 1 Tryd.underlying35 hi hz0 hz1 _ _ _ _ n rfl rfl rfl rfl ?m1 ?m2 (Nat.le_refl _) ?_)
  case m1 => rw [hz2]; omega
  case m2 => unfold maxLen; omega
  intro w1 hown1 hgrow1
  have hK1 : Kept (fun _ => False) w w1 := (Kept.grown hgrow1).mono (fun _ e => by cases e)
  have hO1 : w1.ownsRow w.heap.size 3 1 (.slice (some ⟨w.heap.size, 0, none⟩) n n) n (is (unp V wd 0) ++ (madeCells #[Value.int .i64 0] n).toList) := by
    have e : is (unp V wd 0) = [] := rfl
    rw [e, List.nil_append]
    exact hown1
  have HK1 := hide hK1
  have HO1 := hide hO1
  clear hown1 hgrow1 hK1 hO1
  go_wp2
  go_loopw [8, 18] (fun bt i wr => ∃ (k : Nat) (rest : List Value), k ≤ n ∧ i = .int .i64 k ∧ bt = .int .i64 ((k * wd : Nat) : Int) ∧ wr.ownsRow w.heap.size 3 1 (.slice (some ⟨w.heap.size, 0, none⟩) n n) n (is (unp V wd k) ++ rest) ∧ Kept (fun _ => False) w wr) (fun _ i _ => n - (intOf i).toNat)
  case atStart => exact ⟨0, _, Nat.zero_le _, rfl, by simp, HO1.out, HK1.out⟩
  case round =>
    clear HO1 HK1
    obtain ⟨k, rest, hk, rfl, rfl, hown, hK⟩ := hrel
    have HO := hide hown
    have HK := hide hK
    clear hown hK
    by_cases hlt : k < n
    · obtain ⟨wo, rfl⟩ : ∃ wo : World, wo = wr := ⟨_, rfl⟩
      have hkw : k * wd + wd ≤ n * wd := by
        have : (k + 1) * wd ≤ n * wd := Nat.mul_le_mul_right _ hlt
        rwa [Nat.add_mul, Nat.one_mul] at this
      have hkb : k * wd ≤ 8796093022208 := by omega
      go_wp2
      go_loopw [8, 10, 11] (fun bt vv gt wr => ∃ (g m : Nat), g ≤ wd ∧ bt = .int .i64 ((k * wd + g : Nat) : Int) ∧ gt = .int .i64 g ∧ vv = .int .u64 ((V / 2 ^ (k * wd) % 2 ^ g : Nat) : Int) ∧ wr = wo.drewN m) (fun _ _ gt _ => wd - (intOf gt).toNat)
      case atStart => exact ⟨0, 0, Nat.zero_le _, by simp, rfl, by simp [Nat.mod_one], rfl⟩
      case round =>
        obtain ⟨g, m, hg, rfl, rfl, rfl, rfl⟩ := hrel
        by_cases hgl : g < wd
        · obtain ⟨T, hT⟩ : ∃ T, T = k * wd + g := ⟨_, rfl⟩
          rw [← hT]
          have hTb : T < 8 * R.length := by omega
          have hTb2 : T ≤ 8796093022208 := by omega
          have HT := hide hT
          clear hT
          have hj : T / 8 < R.length := by omega
          obtain ⟨b, off, rfl, hcl⟩ := HA.out.get hj
          obtain ⟨cc, e1, e2, e3⟩ := HB.out.at hj
          rw [e1] at hcl
          have hcl2 := HK.out.cell hcl (fun f => f)
          have HE3 := hide e3
          clear e1 e3 hcl
          obtain ⟨y, hy⟩ : ∃ y, y = V / 2 ^ (k * wd) % 2 ^ g := ⟨_, rfl⟩
          rw [← hy]
          have HY := hide hy
          clear hy
          have stp : ∀ t : Nat, t ≤ 8 - T % 8 → g + t ≤ wd → ∃ pc ny : Nat, bits .and .u64 ((cc : Int) / 2 ^ (T % 8)) (IntKind.u64.wrap (IntKind.u64.wrap (2 ^ t) - 1)) = (pc : Int) ∧ pc < 256 ∧ bits .or .u64 (y : Int) (IntKind.u64.wrap ((pc : Int) * 2 ^ g)) = (ny : Int) ∧ ny = V / 2 ^ (k * wd) % 2 ^ (g + t) ∧ ny < 9223372036854775808 := by
            intro t ht hgt
            have e4 := piece_at HB.out hj HE3.out (r := T % 8) (t := t) (by omega)
            rw [← HV.out, Nat.div_add_mod, HT.out, Nat.pow_add, ← Nat.div_div_eq_div_mul] at e4
            have e5 := mod_more (V / 2 ^ (k * wd)) g t
            have hlt9 : V / 2 ^ (k * wd) % 2 ^ (g + t) < 2 ^ 63 := Nat.lt_of_lt_of_le (Nat.mod_lt _ (Nat.two_pow_pos _)) (Nat.pow_le_pow_right (by decide) (by omega))
            have hpc : cc / 2 ^ ((k * wd + g) % 8) % 2 ^ t < 256 := Nat.lt_of_le_of_lt (Nat.mod_le _ _) (Nat.lt_of_le_of_lt (Nat.div_le_self _ _) e2)
            refine ⟨cc / 2 ^ (T % 8) % 2 ^ t, _, mask_piece cc (T % 8) t e2 (by omega), by rw [HT.out]; exact hpc, or_shift _ _ _ ?_ ?_, ?_, ?_⟩
            · rw [HY.out]; exact Nat.mod_lt _ (Nat.two_pow_pos _)
            · rw [HY.out, HT.out, e4, e5]; omega
            · rw [HY.out, HT.out, e4, e5]
            · rw [HY.out, HT.out, e4, e5]; omega
          have STP := hide stp
          clear stp
          by_cases hmin : (wd : Int) - g ≤ 8 - (T : Int) % 8
          · obtain ⟨pc, ny, b1, b2, b3, b4, b5⟩ := STP.out (wd - g) (by omega) (by omega)
            have B4 := hide b4
            clear b4 STP
            go_wp2_with fail
            go_quiet (fail)
            go_wp2
            go_roundw
            case rel =>
              refine ⟨wd, _, Nat.le_refl _, ?_, ?_, ?_, rfl⟩
              · have := HT.out; congr 1; omega
              · congr 1; omega
              · rw [B4.out, show g + (wd - g) = wd by omega]
            case measure => simp [intOf]; omega
          · obtain ⟨pc, ny, b1, b2, b3, b4, b5⟩ := STP.out (8 - T % 8) (by omega) (by omega)
            have B4 := hide b4
            clear b4 STP
            go_wp2_with fail
            go_quiet (fail)
            go_wp2
            go_roundw
            case rel =>
              refine ⟨g + (8 - T % 8), _, by omega, ?_, ?_, ?_, rfl⟩
              · have := HT.out; congr 1; omega
              · congr 1; omega
              · rw [B4.out]
            case measure => simp [intOf]; omega
        · obtain rfl : g = wd := by omega
          obtain ⟨y, hy⟩ : ∃ y, y = V / 2 ^ (k * g) % 2 ^ g := ⟨_, rfl⟩
          have hy63 : y < 9223372036854775808 := by
            rw [hy]
            exact Nat.lt_of_lt_of_le (Nat.mod_lt _ (Nat.two_pow_pos _)) (Nat.pow_le_pow_right (n := 2) (by decide) hw)
          rw [← hy]
          have HY := hide hy
          have hl9 : rest.length = n - k := by
            have := HO.out.1
            rw [List.length_append, is_length, unp_length] at this
            omega
          obtain ⟨r0, rs, hrs⟩ : ∃ r0 rs, rest = r0 :: rs := by
            cases rest with
            | nil => simp at hl9; omega
            | cons a b => exact ⟨a, b, rfl⟩
          subst hrs
          have hcell : wo.cell? ⟨w.heap.size, k, none⟩ = some r0 := by
            rw [HO.out.cellAt k (by omega), List.getElem?_append_right (by rw [is_length, unp_length]; omega), is_length, unp_length, Nat.sub_self]
            rfl
          have hfz := HO.out.frozenAt k
          have hst := (HO.out.stored k (.int .i64 y))
          have hO2 : ((wo.drewN m).setCell ⟨w.heap.size, k, none⟩ (.int .i64 y)).ownsRow w.heap.size 3 1 (.slice (some ⟨w.heap.size, 0, none⟩) n n) n (is (unp V g (k + 1)) ++ rs) := by
            have q := hst.1
            rw [set_mid _ _ _ _ _ (by rw [is_length, unp_length])] at q
            have e : is (unp V g (k + 1)) = is (unp V g k) ++ [Value.int .i64 y] := by
              rw [unp_succ, is, List.map_append, hy]; rfl
            rw [e]
            exact q
          have hK2 : Kept (fun _ => False) w ((wo.drewN m).setCell ⟨w.heap.size, k, none⟩ (.int .i64 y)) := (HK.out.trans (Kept.drewN wo m) (fun _ f => f.elim)).trans (Kept.setCell _ _ _) (fun i hi => .inr (by rw [hi]; exact Nat.le_refl _))
          have HO2 := hide hO2
          have HK2 := hide hK2
          clear hst hO2 hK2 hy hl9
          go_wp2
          go_roundw
          case rel =>
            refine ⟨k + 1, rs, by omega, by go_num, ?_, HO2.out, HK2.out⟩
            congr 1
            rw [Nat.add_mul, Nat.one_mul]
          case measure => simp [intOf]; omega
    · obtain rfl : k = n := by omega
      have hl9 : rest = [] := by
        have := HO.out.1
        rw [List.length_append, is_length, unp_length] at this
        exact List.eq_nil_of_length_eq_zero (by omega)
      subst hl9
      clear hlt hk
      go_wp2
      go_ret
      refine ⟨rfl, ?_, HK.out⟩
      have q := HO.out
      rwa [List.append_nil] at q
end Go.Proofs.YtjmmdklgkcbihaaDoor
namespace Go.Proofs.YtjmmdklgkcbihaaDoor
open Go.ChangeShapes Go.WideShapes Go.ChangeAt Go.RowKit

/-- Is the run of bits one that a Writer puts for the list? -/
def tightB (R xs : List Int) (wd : Nat) : Bool := decide (vle R < 2 ^ (xs.length * wd)) && decide (bitLen (orl xs) = wd)
theorem last_byte {R : List Int} {c : Nat} (hB : IsBytes R) (h : 0 < R.length) (hc : R[R.length - 1] = c) : vle R / 2 ^ (8 * (R.length - 1)) = c := by
  have e := vle_digit R (R.length - 1) hB (by omega)
  rw [hc, pow8] at e
  have h1 := vle_lt R hB
  have h2 : vle R / 2 ^ (8 * (R.length - 1)) < 256 := by
    apply Nat.div_lt_of_lt_mul
    rw [show (256 : Nat) = 2 ^ 8 by decide, ← Nat.pow_add, show 8 * (R.length - 1) + 8 = 8 * R.length by omega, ← pow8]
    exact h1
  rw [Nat.mod_eq_of_lt h2] at e
  omega
theorem over_iff {R : List Int} {c P : Nat} (hB : IsBytes R) (h : 0 < P % 8) (hl : R.length = (P + 7) / 8) (hR : 0 < R.length) (hc : R[R.length - 1] = c) : vle R < 2 ^ P ↔ c / 2 ^ (P % 8) = 0 := by
  have e := last_byte hB hR hc
  have hP : P = 8 * (R.length - 1) + P % 8 := by omega
  rw [← e, Nat.div_div_eq_div_mul, ← Nat.pow_add, ← hP, Nat.div_eq_zero_iff]
  have := Nat.two_pow_pos P
  omega
theorem no_over {R : List Int} {P : Nat} (hB : IsBytes R) (h : P % 8 = 0) (hl : R.length = (P + 7) / 8) : vle R < 2 ^ P := by
  have := vle_lt R hB
  rw [pow8, show 8 * R.length = P by omega] at this
  exact this

set_option maxRecDepth 20000 in
set_option maxHeartbeats 1000000 in
theorem tight_any (R xs : List Int) (a u : Option Addr) (c c2 wd : Nat) (w : World) (h : BytesAt w a R) (hB : IsBytes R) (hx : IntsAt w u xs) (hI : IsInts xs) (h0 : ∀ x ∈ xs, 0 ≤ x) (hw : wd ≤ 63) (hxl : xs.length ≤ 17592186044416) (hl : R.length = (xs.length * wd + 7) / 8) :
    Calls Tryd.prog 83 #[.slice a R.length c, .slice u xs.length c2, .int .i64 wd] w fun e w' => e = .returned (.bool (tightB R xs wd)) ∧ w' = w := by
  have cw := width_any xs u c2 w hx (by omega) hI h0
  have hbl := orl_bits xs h0 hI
  obtain ⟨P, hP⟩ : ∃ P, P = xs.length * wd := ⟨_, rfl⟩
  have hPm : P ≤ xs.length * 63 := by rw [hP]; exact Nat.mul_le_mul_left _ hw
  have hPI : (xs.length : Int) * wd = (P : Int) := by rw [hP]; push_cast; rfl
  have hPb : P ≤ 1108307720798208 := by omega
  have ht : Hid (tightB R xs wd = (decide (vle R < 2 ^ P) && decide (bitLen (orl xs) = wd))) := by
    show tightB R xs wd = _
    rw [tightB, ← hP]
  rw [← hP] at hl
  obtain ⟨bl, hbl2⟩ : ∃ bl, bl = bitLen (orl xs) := ⟨_, rfl⟩
  rw [← hbl2] at cw hbl ht
  have CW := hide cw
  have HA := hide h
  have HB := hide hB
  clear hx hI h0 h hB cw hP hPm hbl2
  by_cases ho : 0 < P % 8
  · have hR : 0 < R.length := by omega
    obtain ⟨b, off, rfl, hcl⟩ := HA.out.get (k := R.length - 1) (by omega)
    obtain ⟨cc, e1, e2, e3⟩ := HB.out.at (k := R.length - 1) (by omega)
    rw [e1] at hcl
    have hiff := over_iff HB.out ho hl hR e3
    clear e1 e3
    have hoI : (0 : Int) < (P : Int) % 8 := by omega
    have hRb : R.length ≤ 138538465099777 := by omega
    have HL := hide hl
    clear hl
    by_cases hz : cc / 2 ^ (P % 8) = 0
    · have hzI : (cc : Int) / 2 ^ (P % 8) = 0 := by
        have : ((cc / 2 ^ (P % 8) : Nat) : Int) = (cc : Int) / 2 ^ (P % 8) := by push_cast; rfl
        rw [← this, hz]; rfl
      have hd : Hid (decide (vle R < 2 ^ P) = true) := by show _ = _; simp [hiff.2 hz]
      clear hiff hz
      go_enter Tryd.func83, Tryd.ntmps83
      go_wp2_with (go_at_call 88; refine CW.out.mono ?_; rintro e w' ⟨rfl, rfl⟩)
      go_ret
      refine ⟨ret_bool ?_, rfl⟩
      rw [ht.out, hd.out, Bool.true_and, Bool.eq_iff_iff]
      simp
      omega
    · have hzI : ((cc : Int) / 2 ^ (P % 8) != 0) = true := by
        have : ((cc / 2 ^ (P % 8) : Nat) : Int) = (cc : Int) / 2 ^ (P % 8) := by push_cast; rfl
        rw [← this]
        simp
        omega
      have hd : Hid (decide (vle R < 2 ^ P) = false) := by show _ = _; simp; have := mt hiff.1 hz; omega
      clear hiff hz
      go_enter Tryd.func83, Tryd.ntmps83
      go_wp2_with (go_at_call 88; refine CW.out.mono ?_; rintro e w' ⟨rfl, rfl⟩)
      go_ret
      exact ⟨ret_bool (by rw [ht.out, hd.out]; rfl), rfl⟩
  · have hd : Hid (decide (vle R < 2 ^ P) = true) := by show _ = _; simp [no_over HB.out (by omega) hl]
    have hoI : (P : Int) % 8 ≤ 0 := by omega
    go_enter Tryd.func83, Tryd.ntmps83
    go_wp2_with (go_at_call 88; refine CW.out.mono ?_; rintro e w' ⟨rfl, rfl⟩)
    go_ret
    refine ⟨ret_bool ?_, rfl⟩
    rw [ht.out, hd.out, Bool.true_and, Bool.eq_iff_iff]
    simp
    omega

/-- A packed list behind its count: the elements and how many bytes they have, or an error (0: too short, 2: too great, 3: not the one form). -/
def rdp (n : Nat) (l : List Int) : Except Nat (List Int × Nat) :=
  if n = 0 then .ok ([], 0)
  else match l with
    | [] => .error 0
    | c :: r =>
      if 63 < c.toNat ∨ c.toNat = 0 ∧ 65536 < n then .error 2
      else if r.length < (n * c.toNat + 7) / 8 then .error 0
      else if tightB (r.take ((n * c.toNat + 7) / 8)) (unp (vle (r.take ((n * c.toNat + 7) / 8))) c.toNat n) c.toNat = true then .ok (unp (vle (r.take ((n * c.toNat + 7) / 8))) c.toNat n, 1 + (n * c.toNat + 7) / 8)
      else .error 3
def errOf3 (a0 a2 a3 : Addr) (e : Nat) : Value := if e = 0 then errV a0 else if e = 2 then errV a2 else errV a3
/-- What Reader.Packed leaves. -/
def PakPost (br : Nat) (v : Value) (l : List Int) (p q : Nat) (a0 a2 a3 : Addr) (w : World) (e : Ending) (w' : World) : Except Nat (List Int × Nat) → Prop
  | .error er => e = .returned (.tuple #[.slice none 0 0, errOf3 a0 a2 a3 er]) ∧ Rd w' br v l p ∧ Kept (fun _ => False) w w'
  | .ok (xs, m) => ∃ u, e = .returned (.tuple #[u, .nilIface]) ∧ w'.ownsRow w.heap.size 3 1 u xs.length (is xs) ∧ Rd w' br v l (q + m) ∧ Kept (fun i => i = br) w w'
theorem unp_mem {V w n : Nat} {x : Int} (h : x ∈ unp V w n) : 0 ≤ x ∧ x < 2 ^ w := by
  simp only [unp, List.mem_map] at h
  obtain ⟨i, _, rfl⟩ := h
  have h1 := Nat.mod_lt (V / 2 ^ (i * w)) (Nat.two_pow_pos w)
  have e0 : ((2 ^ w : Nat) : Int) = (2 : Int) ^ w := by push_cast; rfl
  omega
theorem unp_ints {V w n : Nat} (hw : w ≤ 63) : IsInts (unp V w n) := by
  intro x hx
  have h1 := unp_mem hx
  have h2 : 2 ^ w ≤ 2 ^ 63 := Nat.pow_le_pow_right (by decide) hw
  have e0 : ((2 ^ w : Nat) : Int) = (2 : Int) ^ w := by push_cast; rfl
  omega
end Go.Proofs.YtjmmdklgkcbihaaDoor
namespace Go.Proofs.YtjmmdklgkcbihaaDoor
open Go.ChangeShapes Go.WideShapes Go.ChangeAt Go.RowKit

set_option maxRecDepth 20000 in
set_option maxHeartbeats 4000000 in
theorem rpak_short (br g : Nat) (l : List Int) (p q n cc : Nat) (most : Int) (a0 a2 a3 : Addr) (w : World) (h : Rd w br (.slice (some ⟨g, 0, none⟩) l.length l.length) l p) (hsm : l.length ≤ 1099511627776)
    (C1 : Hid (∀ n', Calls Tryd.prog 80 #[.slice (some ⟨g, 0, none⟩) l.length l.length, .int .i64 p, .int .i64 most] (w.drewN n') fun e w' => e = .returned (.tuple #[.int .i64 n, .int .i64 (q : Int), .nilIface]) ∧ ∃ m, w' = w.drewN m))
    (hq : q < l.length) (hnp : 0 < n) (hcl : w.cell? ⟨g, q, none⟩ = some (.int .u8 (cc : Int))) (hc0 : 0 < cc) (hc63 : cc ≤ 63) (hD : (((l.length : Int) - ((q : Int) + 1)) * 8) / cc < (n : Int))
    (g0 : w.cell? ⟨1, 0, none⟩ = some (errV a0)) :
    Calls Tryd.prog 53 #[.pointer (some ⟨br, 0, none⟩), .int .i64 most] w fun e w' => PakPost br (.slice (some ⟨g, 0, none⟩) l.length l.length) l p q a0 a2 a3 w e w' (.error 0) := by
  have hc := h.cell1
  have hcc0 := h.cell0
  have HH := hide h
  clear h
  have hccI : (0 : Int) < cc := by omega
  have hD0 : 0 ≤ (((l.length : Int) - ((q : Int) + 1)) * 8) / cc := Int.ediv_nonneg (by omega) (by omega)
  have hD1 : (((l.length : Int) - ((q : Int) + 1)) * 8) / cc ≤ ((l.length : Int) - ((q : Int) + 1)) * 8 := Int.ediv_le_self _ (by omega)
  have hD2 : Int.tdiv (((l.length : Int) - ((q : Int) + 1)) * 8) cc = (((l.length : Int) - ((q : Int) + 1)) * 8) / cc := Int.tdiv_eq_ediv_of_nonneg (by omega)
  have fin0 : ∀ (a b : Nat), PakPost br (.slice (some ⟨g, 0, none⟩) l.length l.length) l p q a0 a2 a3 w (.returned (.tuple #[.slice none 0 0, errV a0])) ((w.drewN a).drewN b) (.error 0) := fun a b => ⟨rfl, (HH.out.drewN _).drewN _, (Kept.drewN _ _).trans (Kept.drewN _ _) (fun _ f => f.elim)⟩
  have F0 := hide fin0
  clear fin0
  go_enter Tryd.func53, Tryd.ntmps53
  go_wp2_with fail
  go_quiet ((exact C1.out _))
  go_wp2
  go_quiet (fail)
  go_wp2
  go_ret2
  first
    | exact F0.out _ _
    | (rw [← World.drewN_drewN]; exact F0.out _ _)
end Go.Proofs.YtjmmdklgkcbihaaDoor
namespace Go.Proofs.YtjmmdklgkcbihaaDoor
open Go.ChangeShapes Go.WideShapes Go.ChangeAt Go.RowKit

def pakRes (R xs : List Int) (cc m : Nat) : Except Nat (List Int × Nat) := if tightB R xs cc = true then .ok (xs, 1 + m) else .error 3

set_option maxRecDepth 20000 in
set_option maxHeartbeats 4000000 in
theorem rpak_pos (br g : Nat) (l : List Int) (p q n cc : Nat) (most : Int) (a0 a2 a3 : Addr) (w : World) (h : Rd w br (.slice (some ⟨g, 0, none⟩) l.length l.length) l p) (hsm : l.length ≤ 1099511627776)
    (C1 : Hid (∀ n', Calls Tryd.prog 80 #[.slice (some ⟨g, 0, none⟩) l.length l.length, .int .i64 p, .int .i64 most] (w.drewN n') fun e w' => e = .returned (.tuple #[.int .i64 n, .int .i64 (q : Int), .nilIface]) ∧ ∃ m, w' = w.drewN m))
    (hq : q < l.length) (hnp : 0 < n) (hcl : w.cell? ⟨g, q, none⟩ = some (.int .u8 (cc : Int))) (hc63 : cc ≤ 63)
    (hz : 0 < cc ∧ (n : Int) ≤ (((l.length : Int) - ((q : Int) + 1)) * 8) / cc)
    (m : Nat) (hm : m = (n * cc + 7) / 8) (hqm : q + 1 + m ≤ l.length) (R xs : List Int) (hR : R = (l.drop (q + 1)).take m) (hxs : xs = unp (vle R) cc n)
    (g3 : w.cell? ⟨5, 0, none⟩ = some (errV a3)) :
    Calls Tryd.prog 53 #[.pointer (some ⟨br, 0, none⟩), .int .i64 most] w fun e w' => PakPost br (.slice (some ⟨g, 0, none⟩) l.length l.length) l p q a0 a2 a3 w e w' (pakRes R xs cc m) := by
  have hc := h.cell1
  have hcc0 := h.cell0
  have hf := h.free1
  obtain ⟨aa, ca, hv, hb, _⟩ := bytes_of_own h.own
  simp only [Value.slice.injEq, true_and] at hv
  obtain ⟨rfl, rfl⟩ := hv
  have hRl : R.length = m := by rw [hR, List.length_take, List.length_drop]; omega
  have hRB : IsBytes R := by rw [hR]; exact fun x hx => h.isb x (List.mem_of_mem_drop (List.mem_of_mem_take hx))
  have hxl : xs.length = n := by rw [hxs, unp_length]
  have hP8 : n * cc ≤ 8 * m := by omega
  have hnb : n ≤ 17592186044416 := by
    obtain ⟨h0, h1⟩ := hz
    · have := Int.ediv_le_self (a := ((l.length : Int) - ((q : Int) + 1)) * 8) (cc : Int) (by omega)
      omega
  have ba : ∀ (W : World) (off : Nat), Kept (fun _ => False) w W → (off = q + 1 ∨ m = 0) → BytesAt W (some ⟨g, off, none⟩) R := by
    intro W off hW ho hne
    rcases ho with rfl | rfl
    · obtain ⟨b, off, e, hcc⟩ := hb (by intro e; rw [e] at hq; simp at hq)
      cases e
      have q1 := BytesAt.cut (p := q + 1) (n := m) hcc hqm
      rw [← hR, Nat.zero_add] at q1
      obtain ⟨b, off, e, hcc⟩ := q1 hne
      cases e
      exact ⟨_, _, rfl, fun k hk => hW.cell (hcc k hk) (fun f => f)⟩
    · exact (hne (List.eq_nil_of_length_eq_zero hRl)).elim
  have cu : ∀ (k off c : Nat), (off = q + 1 ∨ m = 0) → Calls Tryd.prog 82 #[.slice (some ⟨g, off, none⟩) m c, .int .i64 n, .int .i64 cc] (w.drewN k) fun e w' => e = .returned (.slice (some ⟨w.heap.size, 0, none⟩) n n) ∧ Hid (w'.ownsRow w.heap.size 3 1 (.slice (some ⟨w.heap.size, 0, none⟩) n n) n (is xs) ∧ Kept (fun _ => False) w w') := by
    intro k off c ho
    have q1 := unpack_any R (some ⟨g, off, none⟩) c n cc (w.drewN k) (ba _ off (Kept.drewN _ _) ho) hRB hc63 (by rw [hRl]; omega) hnb (by rw [hRl]; omega)
    rw [hRl, ← hxs] at q1
    refine q1.mono ?_
    rintro e w' ⟨rfl, h1, h2⟩
    exact ⟨rfl, h1, (Kept.drewN w k).trans h2 (fun _ f => f.elim)⟩
  have ct : ∀ (w2 : World) (off c : Nat), Hid (w2.ownsRow w.heap.size 3 1 (.slice (some ⟨w.heap.size, 0, none⟩) n n) n (is xs) ∧ Kept (fun _ => False) w w2) → (off = q + 1 ∨ m = 0) → ∀ k, Calls Tryd.prog 83 #[.slice (some ⟨g, off, none⟩) m c, .slice (some ⟨w.heap.size, 0, none⟩) n n, .int .i64 cc] (w2.drewN k) fun e w' => e = .returned (.bool (tightB R xs cc)) ∧ w' = w2.drewN k := by
    intro w2 off c hh ho k
    have hi : IntsAt (w2.drewN k) (some ⟨w.heap.size, 0, none⟩) xs := by
      obtain ⟨a', c', e, _, hcl'⟩ := ints_of_own hh.out.1
      simp only [Value.slice.injEq, true_and] at e
      obtain ⟨rfl, rfl⟩ := e
      intro hne
      obtain ⟨b, off, e, _, _, hc'⟩ := hcl' hne
      exact ⟨b, off, e, hc'⟩
    have q1 := tight_any R xs (some ⟨g, off, none⟩) (some ⟨w.heap.size, 0, none⟩) c n cc (w2.drewN k) (ba _ off (hh.out.2.trans (Kept.drewN _ _) (fun _ f => f.elim)) ho) hRB hi (by rw [hxs]; exact unp_ints hc63) (by rw [hxs]; exact fun x hx => (unp_mem hx).1) hc63 (by rw [hxl]; exact hnb) (by rw [hRl, hxl]; exact hm)
    rw [hRl, hxl] at q1
    exact q1
  have HH := hide h
  have hbr := lt_of_block h.blk
  have fin : ∀ (w2 : World) (k : Nat), Hid (w2.ownsRow w.heap.size 3 1 (.slice (some ⟨w.heap.size, 0, none⟩) n n) n (is xs) ∧ Kept (fun _ => False) w w2) →
      ((w2.drewN k).cell? ⟨br, 1, none⟩ = some (.int .i64 p) ∧ (w2.drewN k).frozen? ⟨br, 1, none⟩ = false ∧ w2.cell? ⟨5, 0, none⟩ = some (errV a3) ∧ w2.cell? ⟨br, 0, none⟩ = some (.slice (some ⟨g, 0, none⟩) l.length l.length)) ∧
      (tightB R xs cc = true → PakPost br (.slice (some ⟨g, 0, none⟩) l.length l.length) l p q a0 a2 a3 w (.returned (.tuple #[.slice (some ⟨w.heap.size, 0, none⟩) n n, .nilIface])) ((w2.drewN k).setCell ⟨br, 1, none⟩ (.int .i64 ((q + 1 + m : Nat) : Int))) (pakRes R xs cc m)) ∧
      (tightB R xs cc = false → PakPost br (.slice (some ⟨g, 0, none⟩) l.length l.length) l p q a0 a2 a3 w (.returned (.tuple #[.slice none 0 0, errV a3])) (w2.drewN k) (pakRes R xs cc m)) := by
    intro w2 k hh
    have r2 := HH.out.kept hh.out.2 (fun f => f) (fun _ _ f => f)
    have r3 := r2.drewN k
    refine ⟨⟨r3.cell1, r3.free1, hh.out.2.cell g3 (fun f => f), r2.cell0⟩, fun e => ?_, fun e => ?_⟩
    · rw [pakRes, if_pos e]
      refine ⟨_, rfl, ?_, ?_, ?_⟩
      · rw [hxl]
        exact ownsRow_setCell_other (hh.out.1) (by simp [Value.ownBlock]; omega) _
      · rw [show q + (1 + m) = q + 1 + m by omega]
        exact r3.move hqm
      · exact ((hh.out.2.trans (Kept.drewN _ _) (fun _ f => f.elim)).mono (fun _ f => f.elim)).trans (Kept.setCell _ _ _) (fun _ hi => .inl hi)
    · rw [pakRes, if_neg (by rw [e]; decide)]
      exact ⟨rfl, r3, hh.out.2.trans (Kept.drewN _ _) (fun _ f => f.elim)⟩
  obtain ⟨P, hP⟩ : ∃ P, P = n * cc := ⟨_, rfl⟩
  have hPI : (n : Int) * cc = (P : Int) := by rw [hP]; push_cast; rfl
  rw [← hP] at hm
  have hPb : P ≤ 8796093022208 := by omega
  have hmI : ((P : Int) + 7) / 8 = (m : Int) := by omega
  have hmb : m ≤ 1099511627776 := by omega
  have FIN := hide fin
  have CU := hide cu
  have CT := hide ct
  obtain ⟨rs, hrs⟩ : ∃ rs, rs = pakRes R xs cc m := ⟨_, rfl⟩
  rw [← hrs] at FIN ⊢
  obtain ⟨tb, htb⟩ : ∃ tb, tb = tightB R xs cc := ⟨_, rfl⟩
  rw [← htb] at FIN CT
  clear hrs htb
  clear h hb hRl hRB hxl hP8 ba cu ct fin hR hxs hP hm
  have hcz : 0 < cc := hz.1
  · have hz2 : (n : Int) ≤ (((l.length : Int) - ((q : Int) + 1)) * 8) / cc := hz.2
    have hccI : (0 : Int) < cc := by omega
    have hD0 : 0 ≤ (((l.length : Int) - ((q : Int) + 1)) * 8) / cc := Int.ediv_nonneg (by omega) (by omega)
    have hD1 : (((l.length : Int) - ((q : Int) + 1)) * 8) / cc ≤ ((l.length : Int) - ((q : Int) + 1)) * 8 := Int.ediv_le_self _ (by omega)
    have hD2 : Int.tdiv (((l.length : Int) - ((q : Int) + 1)) * 8) cc = (((l.length : Int) - ((q : Int) + 1)) * 8) / cc := Int.tdiv_eq_ediv_of_nonneg (by omega)
    clear hz
    have hlq : ¬ l.length = q + 1 := by
      intro e
      rw [e] at hz2
      simp at hz2
      omega
    have cu2 : Hid (∀ k c : Nat, Calls Tryd.prog 82 #[.slice (some ⟨g, q + 1, none⟩) m c, .int .i64 n, .int .i64 cc] (w.drewN k) fun e w' => e = .returned (.slice (some ⟨w.heap.size, 0, none⟩) n n) ∧ Hid (w'.ownsRow w.heap.size 3 1 (.slice (some ⟨w.heap.size, 0, none⟩) n n) n (is xs) ∧ Kept (fun _ => False) w w')) := fun k c => CU.out k (q + 1) c (.inl rfl)
    have ct3 : Hid (∀ (w2 : World) (c : Nat), Hid (w2.ownsRow w.heap.size 3 1 (.slice (some ⟨w.heap.size, 0, none⟩) n n) n (is xs) ∧ Kept (fun _ => False) w w2) → Calls Tryd.prog 83 #[.slice (some ⟨g, q + 1, none⟩) m c, .slice (some ⟨w.heap.size, 0, none⟩) n n, .int .i64 cc] w2 fun e w' => e = .returned (.bool tb) ∧ w' = w2) := fun w2 c hk => CT.out w2 (q + 1) c hk (.inl rfl) 0
    clear CU CT
    cases tb
    · go_enter Tryd.func53, Tryd.ntmps53
      go_wp2_with fail
      go_quiet ((exact C1.out _))
      go_wp2_with (first | (go_at_call 82; refine (cu2.out _ _).mono ?_; rintro e w2 ⟨rfl, hk2⟩; obtain ⟨⟨z1, z2, z3, z7⟩, z4⟩ := FIN.out w2 0 hk2; rw [World.drewN_zero] at z1 z2; clear z4) | (go_at_call 83; refine (ct3.out _ _ hk2).mono ?_; rintro e w3 ⟨rfl, rfl⟩))
      go_quiet (fail)
      go_wp2
      go_ret2
      first
        | exact (FIN.out _ _ hk2).2.2 (by first | rfl | trivial)
    · go_enter Tryd.func53, Tryd.ntmps53
      go_wp2_with fail
      go_quiet ((exact C1.out _))
      go_wp2_with (first | (go_at_call 82; refine (cu2.out _ _).mono ?_; rintro e w2 ⟨rfl, hk2⟩; obtain ⟨⟨z1, z2, z3, z7⟩, z4⟩ := FIN.out w2 0 hk2; rw [World.drewN_zero] at z1 z2; clear z4) | (go_at_call 83; refine (ct3.out _ _ hk2).mono ?_; rintro e w3 ⟨rfl, rfl⟩))
      go_ret2
      exact (FIN.out _ 0 hk2).2.1 (by first | rfl | trivial)
end Go.Proofs.YtjmmdklgkcbihaaDoor
namespace Go.Proofs.YtjmmdklgkcbihaaDoor
open Go.ChangeShapes Go.WideShapes Go.ChangeAt Go.RowKit

set_option maxRecDepth 20000 in
set_option maxHeartbeats 400000 in
theorem rpak_zero (br g : Nat) (l : List Int) (p q n cc : Nat) (most : Int) (a0 a2 a3 : Addr) (w : World) (h : Rd w br (.slice (some ⟨g, 0, none⟩) l.length l.length) l p) (hsm : l.length ≤ 1099511627776)
    (C1 : Hid (∀ n', Calls Tryd.prog 80 #[.slice (some ⟨g, 0, none⟩) l.length l.length, .int .i64 p, .int .i64 most] (w.drewN n') fun e w' => e = .returned (.tuple #[.int .i64 n, .int .i64 (q : Int), .nilIface]) ∧ ∃ m, w' = w.drewN m))
    (hq : q < l.length) (hnp : 0 < n) (hcl : w.cell? ⟨g, q, none⟩ = some (.int .u8 (cc : Int))) (hc63 : cc ≤ 63)
    (hz : cc = 0 ∧ n ≤ 65536)
    (m : Nat) (hm : m = (n * cc + 7) / 8) (hqm : q + 1 + m ≤ l.length) (R xs : List Int) (hR : R = (l.drop (q + 1)).take m) (hxs : xs = unp (vle R) cc n)
    (g3 : w.cell? ⟨5, 0, none⟩ = some (errV a3)) :
    Calls Tryd.prog 53 #[.pointer (some ⟨br, 0, none⟩), .int .i64 most] w fun e w' => PakPost br (.slice (some ⟨g, 0, none⟩) l.length l.length) l p q a0 a2 a3 w e w' (pakRes R xs cc m) := by
  have hc := h.cell1
  have hcc0 := h.cell0
  have hf := h.free1
  obtain ⟨aa, ca, hv, hb, _⟩ := bytes_of_own h.own
  simp only [Value.slice.injEq, true_and] at hv
  obtain ⟨rfl, rfl⟩ := hv
  have hRl : R.length = m := by rw [hR, List.length_take, List.length_drop]; omega
  have hRB : IsBytes R := by rw [hR]; exact fun x hx => h.isb x (List.mem_of_mem_drop (List.mem_of_mem_take hx))
  have hxl : xs.length = n := by rw [hxs, unp_length]
  have hP8 : n * cc ≤ 8 * m := by omega
  have hnb : n ≤ 17592186044416 := by
    obtain ⟨h0, h1⟩ := hz
    omega
  have ba : ∀ (W : World) (off : Nat), Kept (fun _ => False) w W → (off = q + 1 ∨ m = 0) → BytesAt W (some ⟨g, off, none⟩) R := by
    intro W off hW ho hne
    rcases ho with rfl | rfl
    · obtain ⟨b, off, e, hcc⟩ := hb (by intro e; rw [e] at hq; simp at hq)
      cases e
      have q1 := BytesAt.cut (p := q + 1) (n := m) hcc hqm
      rw [← hR, Nat.zero_add] at q1
      obtain ⟨b, off, e, hcc⟩ := q1 hne
      cases e
      exact ⟨_, _, rfl, fun k hk => hW.cell (hcc k hk) (fun f => f)⟩
    · exact (hne (List.eq_nil_of_length_eq_zero hRl)).elim
  have cu : ∀ (k off c : Nat), (off = q + 1 ∨ m = 0) → Calls Tryd.prog 82 #[.slice (some ⟨g, off, none⟩) m c, .int .i64 n, .int .i64 cc] (w.drewN k) fun e w' => e = .returned (.slice (some ⟨w.heap.size, 0, none⟩) n n) ∧ Hid (w'.ownsRow w.heap.size 3 1 (.slice (some ⟨w.heap.size, 0, none⟩) n n) n (is xs) ∧ Kept (fun _ => False) w w') := by
    intro k off c ho
    have q1 := unpack_any R (some ⟨g, off, none⟩) c n cc (w.drewN k) (ba _ off (Kept.drewN _ _) ho) hRB hc63 (by rw [hRl]; omega) hnb (by rw [hRl]; omega)
    rw [hRl, ← hxs] at q1
    refine q1.mono ?_
    rintro e w' ⟨rfl, h1, h2⟩
    exact ⟨rfl, h1, (Kept.drewN w k).trans h2 (fun _ f => f.elim)⟩
  have ct : ∀ (w2 : World) (off c : Nat), Hid (w2.ownsRow w.heap.size 3 1 (.slice (some ⟨w.heap.size, 0, none⟩) n n) n (is xs) ∧ Kept (fun _ => False) w w2) → (off = q + 1 ∨ m = 0) → ∀ k, Calls Tryd.prog 83 #[.slice (some ⟨g, off, none⟩) m c, .slice (some ⟨w.heap.size, 0, none⟩) n n, .int .i64 cc] (w2.drewN k) fun e w' => e = .returned (.bool (tightB R xs cc)) ∧ w' = w2.drewN k := by
    intro w2 off c hh ho k
    have hi : IntsAt (w2.drewN k) (some ⟨w.heap.size, 0, none⟩) xs := by
      obtain ⟨a', c', e, _, hcl'⟩ := ints_of_own hh.out.1
      simp only [Value.slice.injEq, true_and] at e
      obtain ⟨rfl, rfl⟩ := e
      intro hne
      obtain ⟨b, off, e, _, _, hc'⟩ := hcl' hne
      exact ⟨b, off, e, hc'⟩
    have q1 := tight_any R xs (some ⟨g, off, none⟩) (some ⟨w.heap.size, 0, none⟩) c n cc (w2.drewN k) (ba _ off (hh.out.2.trans (Kept.drewN _ _) (fun _ f => f.elim)) ho) hRB hi (by rw [hxs]; exact unp_ints hc63) (by rw [hxs]; exact fun x hx => (unp_mem hx).1) hc63 (by rw [hxl]; exact hnb) (by rw [hRl, hxl]; exact hm)
    rw [hRl, hxl] at q1
    exact q1
  have HH := hide h
  have hbr := lt_of_block h.blk
  have fin : ∀ (w2 : World) (k : Nat), Hid (w2.ownsRow w.heap.size 3 1 (.slice (some ⟨w.heap.size, 0, none⟩) n n) n (is xs) ∧ Kept (fun _ => False) w w2) →
      ((w2.drewN k).cell? ⟨br, 1, none⟩ = some (.int .i64 p) ∧ (w2.drewN k).frozen? ⟨br, 1, none⟩ = false ∧ w2.cell? ⟨5, 0, none⟩ = some (errV a3) ∧ w2.cell? ⟨br, 0, none⟩ = some (.slice (some ⟨g, 0, none⟩) l.length l.length)) ∧
      (tightB R xs cc = true → PakPost br (.slice (some ⟨g, 0, none⟩) l.length l.length) l p q a0 a2 a3 w (.returned (.tuple #[.slice (some ⟨w.heap.size, 0, none⟩) n n, .nilIface])) ((w2.drewN k).setCell ⟨br, 1, none⟩ (.int .i64 ((q + 1 + m : Nat) : Int))) (pakRes R xs cc m)) ∧
      (tightB R xs cc = false → PakPost br (.slice (some ⟨g, 0, none⟩) l.length l.length) l p q a0 a2 a3 w (.returned (.tuple #[.slice none 0 0, errV a3])) (w2.drewN k) (pakRes R xs cc m)) := by
    intro w2 k hh
    have r2 := HH.out.kept hh.out.2 (fun f => f) (fun _ _ f => f)
    have r3 := r2.drewN k
    refine ⟨⟨r3.cell1, r3.free1, hh.out.2.cell g3 (fun f => f), r2.cell0⟩, fun e => ?_, fun e => ?_⟩
    · rw [pakRes, if_pos e]
      refine ⟨_, rfl, ?_, ?_, ?_⟩
      · rw [hxl]
        exact ownsRow_setCell_other (hh.out.1) (by simp [Value.ownBlock]; omega) _
      · rw [show q + (1 + m) = q + 1 + m by omega]
        exact r3.move hqm
      · exact ((hh.out.2.trans (Kept.drewN _ _) (fun _ f => f.elim)).mono (fun _ f => f.elim)).trans (Kept.setCell _ _ _) (fun _ hi => .inl hi)
    · rw [pakRes, if_neg (by rw [e]; decide)]
      exact ⟨rfl, r3, hh.out.2.trans (Kept.drewN _ _) (fun _ f => f.elim)⟩
  obtain ⟨P, hP⟩ : ∃ P, P = n * cc := ⟨_, rfl⟩
  have hPI : (n : Int) * cc = (P : Int) := by rw [hP]; push_cast; rfl
  rw [← hP] at hm
  have hPb : P ≤ 8796093022208 := by omega
  have hmI : ((P : Int) + 7) / 8 = (m : Int) := by omega
  have hmb : m ≤ 1099511627776 := by omega
  have FIN := hide fin
  have CU := hide cu
  have CT := hide ct
  obtain ⟨rs, hrs⟩ : ∃ rs, rs = pakRes R xs cc m := ⟨_, rfl⟩
  rw [← hrs] at FIN ⊢
  obtain ⟨tb, htb⟩ : ∃ tb, tb = tightB R xs cc := ⟨_, rfl⟩
  rw [← htb] at FIN CT
  clear hrs htb
  clear h hb hRl hRB hxl hP8 ba cu ct fin hR hxs hP hm
  obtain ⟨hcz0, hn6⟩ := hz
  have hP0 : P = 0 := by
    subst hcz0
    simp at hPI
    omega
  have hm0 : m = 0 := by omega
  have hccI : (cc : Int) = 0 := by omega
  rw [hccI] at hcl
  rw [hccI] at CU CT
  subst hm0
  clear hPb hmb hP0 hcz0 hmI hPI hc63 hccI
  by_cases hlq : l.length = q + 1
  · rw [hlq] at C1 FIN hcc0 ⊢
    have hqb : q < 1099511627776 := by omega
    clear hlq hq hqm hsm HH
    have cu2 : Hid (∀ k c : Nat, Calls Tryd.prog 82 #[.slice (some ⟨g, 0, none⟩) 0 c, .int .i64 n, .int .i64 0] (w.drewN k) fun e w' => e = .returned (.slice (some ⟨w.heap.size, 0, none⟩) n n) ∧ Hid (w'.ownsRow w.heap.size 3 1 (.slice (some ⟨w.heap.size, 0, none⟩) n n) n (is xs) ∧ Kept (fun _ => False) w w')) := fun k c => CU.out k (0) c (.inr rfl)
    have ct3 : Hid (∀ (w2 : World) (c : Nat), Hid (w2.ownsRow w.heap.size 3 1 (.slice (some ⟨w.heap.size, 0, none⟩) n n) n (is xs) ∧ Kept (fun _ => False) w w2) → Calls Tryd.prog 83 #[.slice (some ⟨g, 0, none⟩) 0 c, .slice (some ⟨w.heap.size, 0, none⟩) n n, .int .i64 0] w2 fun e w' => e = .returned (.bool tb) ∧ w' = w2) := fun w2 c hk => CT.out w2 (0) c hk (.inr rfl) 0
    clear CU CT
    cases tb
    · go_enter Tryd.func53, Tryd.ntmps53
      go_wp2_with fail
      go_quiet ((exact C1.out _))
      go_wp2_with (first | (go_at_call 82; refine (cu2.out _ _).mono ?_; rintro e w2 ⟨rfl, hk2⟩; obtain ⟨⟨z1, z2, z3, z7⟩, z4⟩ := FIN.out w2 0 hk2; rw [World.drewN_zero] at z1 z2; clear z4) | (go_at_call 83; refine (ct3.out _ _ hk2).mono ?_; rintro e w3 ⟨rfl, rfl⟩))
      go_quiet (fail)
      go_wp2
      go_ret2
      exact (FIN.out _ _ hk2).2.2 (by first | rfl | trivial)
    · go_enter Tryd.func53, Tryd.ntmps53
      go_wp2_with fail
      go_quiet ((exact C1.out _))
      go_wp2_with (first | (go_at_call 82; refine (cu2.out _ _).mono ?_; rintro e w2 ⟨rfl, hk2⟩; obtain ⟨⟨z1, z2, z3, z7⟩, z4⟩ := FIN.out w2 0 hk2; rw [World.drewN_zero] at z1 z2; clear z4) | (go_at_call 83; refine (ct3.out _ _ hk2).mono ?_; rintro e w3 ⟨rfl, rfl⟩))
      go_ret2
      exact (FIN.out _ 0 hk2).2.1 (by first | rfl | trivial)
  · skip
    have cu2 : Hid (∀ k c : Nat, Calls Tryd.prog 82 #[.slice (some ⟨g, q + 1, none⟩) 0 c, .int .i64 n, .int .i64 0] (w.drewN k) fun e w' => e = .returned (.slice (some ⟨w.heap.size, 0, none⟩) n n) ∧ Hid (w'.ownsRow w.heap.size 3 1 (.slice (some ⟨w.heap.size, 0, none⟩) n n) n (is xs) ∧ Kept (fun _ => False) w w')) := fun k c => CU.out k (q + 1) c (.inl rfl)
    have ct3 : Hid (∀ (w2 : World) (c : Nat), Hid (w2.ownsRow w.heap.size 3 1 (.slice (some ⟨w.heap.size, 0, none⟩) n n) n (is xs) ∧ Kept (fun _ => False) w w2) → Calls Tryd.prog 83 #[.slice (some ⟨g, q + 1, none⟩) 0 c, .slice (some ⟨w.heap.size, 0, none⟩) n n, .int .i64 0] w2 fun e w' => e = .returned (.bool tb) ∧ w' = w2) := fun w2 c hk => CT.out w2 (q + 1) c hk (.inl rfl) 0
    clear CU CT
    cases tb
    · go_enter Tryd.func53, Tryd.ntmps53
      go_wp2_with fail
      go_quiet ((exact C1.out _))
      go_wp2_with (first | (go_at_call 82; refine (cu2.out _ _).mono ?_; rintro e w2 ⟨rfl, hk2⟩; obtain ⟨⟨z1, z2, z3, z7⟩, z4⟩ := FIN.out w2 0 hk2; rw [World.drewN_zero] at z1 z2; clear z4) | (go_at_call 83; refine (ct3.out _ _ hk2).mono ?_; rintro e w3 ⟨rfl, rfl⟩))
      go_quiet (fail)
      go_wp2
      go_ret2
      exact (FIN.out _ _ hk2).2.2 (by first | rfl | trivial)
    · go_enter Tryd.func53, Tryd.ntmps53
      go_wp2_with fail
      go_quiet ((exact C1.out _))
      go_wp2_with (first | (go_at_call 82; refine (cu2.out _ _).mono ?_; rintro e w2 ⟨rfl, hk2⟩; obtain ⟨⟨z1, z2, z3, z7⟩, z4⟩ := FIN.out w2 0 hk2; rw [World.drewN_zero] at z1 z2; clear z4) | (go_at_call 83; refine (ct3.out _ _ hk2).mono ?_; rintro e w3 ⟨rfl, rfl⟩))
      go_ret2
      exact (FIN.out _ 0 hk2).2.1 (by first | rfl | trivial)
end Go.Proofs.YtjmmdklgkcbihaaDoor
namespace Go.Proofs.YtjmmdklgkcbihaaDoor
open Go.ChangeShapes Go.WideShapes Go.ChangeAt Go.RowKit

set_option maxRecDepth 20000 in
set_option maxHeartbeats 4000000 in
theorem rpak_any (br : Nat) (v : Value) (l : List Int) (p n k : Nat) (most : Int) (a0 a1 a2 a3 : Addr) (w : World) (h : Rd w br v l p) (hr : rdu 0 0 (l.drop p) = .ok (n, k)) (hm : (n : Int) ≤ most) (hm2 : most ≤ 9223372036854775807) (hsm : l.length ≤ 1099511627776)
    (g0 : w.cell? ⟨1, 0, none⟩ = some (errV a0)) (g1 : w.cell? ⟨3, 0, none⟩ = some (errV a1)) (g2 : w.cell? ⟨4, 0, none⟩ = some (errV a2)) (g3 : w.cell? ⟨5, 0, none⟩ = some (errV a3)) :
    Calls Tryd.prog 53 #[.pointer (some ⟨br, 0, none⟩), .int .i64 most] w fun e w' => PakPost br v l p (p + k) a0 a2 a3 w e w' (rdp n (l.drop (p + k))) := by
  have hc := h.cell1
  have hc0 := h.cell0
  have hf := h.free1
  have HH := hide h
  have hk := rdu_le _ _ _ _ _ hr
  rw [List.length_drop] at hk
  have hp := h.le
  obtain ⟨a, c, hv, hb, _⟩ := bytes_of_own h.own
  obtain ⟨g, rfl⟩ := h.frm
  simp only [Value.slice.injEq, true_and] at hv
  obtain ⟨rfl, rfl⟩ := hv
  have c1 : ∀ n', Calls Tryd.prog 80 #[.slice (some ⟨g, 0, none⟩) l.length l.length, .int .i64 p, .int .i64 most] (w.drewN n') fun e w' => e = .returned (.tuple #[.int .i64 n, .int .i64 ((p + k : Nat) : Int), .nilIface]) ∧ ∃ m, w' = w.drewN m := by
    intro n'
    refine (upat_ok l _ l.length p n k most a0 a1 (w.drewN n') hb h.isb h.le (by omega) g0 g1 hr hm hm2).mono ?_
    rintro e w' ⟨rfl, m, rfl⟩
    exact ⟨by simp, n' + m, by rw [World.drewN_drewN]⟩
  obtain ⟨q, hq0⟩ : ∃ q, q = p + k := ⟨_, rfl⟩
  rw [← hq0] at c1 ⊢
  have hq1 : q ≤ l.length := by omega
  have C1 := hide c1
  have HB := hide h.isb
  have HBA := hide hb
  clear h hb g1 hr c1 hk hq0 hp
  by_cases hn0 : n = 0
  · subst hn0
    have hres : Hid (rdp 0 (l.drop q) = .ok ([], 0)) := by show rdp 0 (l.drop q) = _; unfold rdp; rw [if_pos rfl]
    go_enter Tryd.func53, Tryd.ntmps53
    go_wp2_with fail
    go_quiet ((exact C1.out _))
    go_wp2
    go_ret2
    rw [hres.out]
    exact ⟨_, rfl, World.ownsRow_nil _ _ _ _, (HH.out.drewN nq).move hq1, RKept nq _⟩
  · have hnp : 0 < n := by omega
    by_cases hql : l.length ≤ q
    · have hqe : q = l.length := by omega
      have hres : Hid (rdp n (l.drop q) = .error 0) := by show rdp n (l.drop q) = _; unfold rdp; rw [if_neg hn0, List.drop_eq_nil_of_le hql]
      clear hn0
      have hqi : (q : Int) = l.length := by omega
      subst hqe
      clear hqi hql
      go_enter Tryd.func53, Tryd.ntmps53
      go_wp2_with fail
      go_quiet ((exact C1.out _))
      go_wp2
      go_quiet (fail)
      go_wp2
      go_ret2
      rw [hres.out]
      first
        | exact ⟨rfl, HH.out.drewN _, Kept.drewN _ _⟩
        | exact ⟨rfl, (HH.out.drewN _).drewN _, (Kept.drewN _ _).trans (Kept.drewN _ _) (fun _ f => f.elim)⟩
    · have hqlt : q < l.length := by omega
      obtain ⟨cc, e1, e2, e3⟩ := HB.out.at hqlt
      have hcl : w.cell? ⟨g, q, none⟩ = some (.int .u8 (cc : Int)) := by
        obtain ⟨b, off, e, hcc⟩ := HBA.out.get hqlt
        cases e
        rwa [Nat.zero_add, e1] at hcc
      have hdrop : l.drop q = (cc : Int) :: l.drop (q + 1) := by rw [List.drop_eq_getElem_cons hqlt, e3]
      have hrdp : rdp n (l.drop q) = if 63 < cc ∨ cc = 0 ∧ 65536 < n then .error 2
          else if (l.drop (q + 1)).length < (n * cc + 7) / 8 then .error 0
          else if tightB ((l.drop (q + 1)).take ((n * cc + 7) / 8)) (unp (vle ((l.drop (q + 1)).take ((n * cc + 7) / 8))) cc n) cc = true then .ok (unp (vle ((l.drop (q + 1)).take ((n * cc + 7) / 8))) cc n, 1 + (n * cc + 7) / 8)
          else .error 3 := by
        rw [hdrop]
        unfold rdp
        rw [if_neg hn0]
        simp only [Int.toNat_natCast]
      have HRD := hide hrdp
      have HHD := hide hdrop
      clear hrdp hdrop e1 e3 hn0 hql
      have fin2 : ∀ (a b : Nat), PakPost br (.slice (some ⟨g, 0, none⟩) l.length l.length) l p q a0 a2 a3 w (.returned (.tuple #[.slice none 0 0, errV a2])) ((w.drewN a).drewN b) (.error 2) := fun a b => ⟨rfl, (HH.out.drewN _).drewN _, (Kept.drewN _ _).trans (Kept.drewN _ _) (fun _ f => f.elim)⟩
      have fin0 : ∀ (a b : Nat), PakPost br (.slice (some ⟨g, 0, none⟩) l.length l.length) l p q a0 a2 a3 w (.returned (.tuple #[.slice none 0 0, errV a0])) ((w.drewN a).drewN b) (.error 0) := fun a b => ⟨rfl, (HH.out.drewN _).drewN _, (Kept.drewN _ _).trans (Kept.drewN _ _) (fun _ f => f.elim)⟩
      have F2 := hide fin2
      have F0 := hide fin0
      clear fin2 fin0
      by_cases h63 : 63 < cc
      · have hres : Hid (rdp n (l.drop q) = .error 2) := by show rdp n (l.drop q) = _; rw [HRD.out, if_pos (.inl h63)]
        clear HRD
        go_enter Tryd.func53, Tryd.ntmps53
        go_wp2_with fail
        go_quiet ((exact C1.out _))
        go_wp2
        go_quiet (fail)
        go_wp2
        go_ret2
        rw [hres.out]
        first
          | exact F2.out _ _
          | (rw [← World.drewN_drewN]; exact F2.out _ _)
      · by_cases hz : cc = 0 ∧ 65536 < n
        · have hres : Hid (rdp n (l.drop q) = .error 2) := by show rdp n (l.drop q) = _; rw [HRD.out, if_pos (.inr hz)]
          clear HRD
          have hcz : cc < 1 := by omega
          have hnb : 65536 < n := hz.2
          clear hz
          go_enter Tryd.func53, Tryd.ntmps53
          go_wp2_with fail
          go_quiet ((exact C1.out _))
          go_wp2
          go_quiet (fail)
          go_wp2
          go_ret2
          rw [hres.out]
          first
            | exact F2.out _ _
            | (rw [← World.drewN_drewN]; exact F2.out _ _)
        · have hnb9 : (n : Int) ≤ 9223372036854775807 := by omega
          have hres : rdp n (l.drop q) = if (l.drop (q + 1)).length < (n * cc + 7) / 8 then .error 0 else pakRes ((l.drop (q + 1)).take ((n * cc + 7) / 8)) (unp (vle ((l.drop (q + 1)).take ((n * cc + 7) / 8))) cc n) cc ((n * cc + 7) / 8) := by
            rw [HRD.out, if_neg (by omega)]
            rfl
          rw [List.length_drop] at hres
          by_cases hcz : cc = 0
          · have e0 : (n * cc + 7) / 8 = 0 := by rw [hcz]; simp
            rw [hres, if_neg (by omega)]
            exact rpak_zero br g l p q n cc most a0 a2 a3 w HH.out hsm C1 hqlt hnp hcl (by omega) ⟨hcz, by omega⟩ _ rfl (by omega) _ _ rfl rfl g3
          · by_cases hD : (((l.length : Int) - ((q : Int) + 1)) * 8) / cc < (n : Int)
            · have hlt : l.length - (q + 1) < (n * cc + 7) / 8 := by
                have h1 := Int.lt_mul_of_ediv_lt (by omega) hD
                have h2 : (n : Int) * cc = ((n * cc : Nat) : Int) := by push_cast; rfl
                rw [h2] at h1
                omega
              rw [hres, if_pos hlt]
              exact rpak_short br g l p q n cc most a0 a2 a3 w HH.out hsm C1 hqlt hnp hcl (by omega) (by omega) hD g0
            · have hle : n * cc ≤ (l.length - (q + 1)) * 8 := by
                have h1 := Int.mul_le_of_le_ediv (by omega) (Int.not_lt.1 hD)
                have h2 : (n : Int) * cc = ((n * cc : Nat) : Int) := by push_cast; rfl
                rw [h2] at h1
                omega
              rw [hres, if_neg (by omega)]
              exact rpak_pos br g l p q n cc most a0 a2 a3 w HH.out hsm C1 hqlt hnp hcl (by omega) ⟨by omega, Int.not_lt.1 hD⟩ _ rfl (by omega) _ _ rfl rfl g3
end Go.Proofs.YtjmmdklgkcbihaaDoor
namespace Go.Proofs.YtjmmdklgkcbihaaDoor
open Go.ChangeShapes Go.WideShapes Go.ChangeAt Go.RowKit

theorem pow7 (n i : Nat) : n / 128 * 2 ^ (7 * (i + 1)) = n / 128 * 128 * 2 ^ (7 * i) := by
  rw [show 7 * (i + 1) = 7 + 7 * i by omega, Nat.pow_add, ← Nat.mul_assoc]
/-- A written uvarint is read again, whatever stands behind it. -/
theorem rdu_uvb_at : ∀ (n i acc : Nat) (r : List Int), i ≤ 9 → n < 2 ^ (64 - 7 * i) → (0 < i → 0 < n) → rdu i acc (uvb n ++ r) = .ok (acc + n * 2 ^ (7 * i), i + (uvb n).length) := by
  intro n
  induction n using Nat.strongRecOn with
  | ind n ih =>
    intro i acc r hi hn h0
    have h9 : i = 9 → n < 2 := by intro e; subst e; simpa using hn
    by_cases h : n < 128
    · rw [uvb_small h, List.singleton_append, rdu, if_neg (by omega), if_pos (by omega), if_neg (by omega)]
      have e : (n : Int).toNat % 128 = n := by omega
      rw [e]
      rfl
    · have hi9 : i < 9 := by
        rcases Nat.lt_or_ge i 9 with h1 | h1
        · exact h1
        · have := h9 (by omega); omega
      rw [uvb_big h, List.cons_append, rdu, if_neg (by omega), if_neg (by omega)]
      have e : (128 + (n : Int) % 128).toNat % 128 = n % 128 := by omega
      have hn2 : n / 128 < 2 ^ (64 - 7 * (i + 1)) := by
        apply Nat.div_lt_of_lt_mul
        rw [show (128 : Nat) = 2 ^ 7 by decide, ← Nat.pow_add, show 7 + (64 - 7 * (i + 1)) = 64 - 7 * i by omega]
        exact hn
      rw [e, ih (n / 128) (by omega) (i + 1) _ r (by omega) hn2 (by omega), pow7, List.length_cons]
      have e2 : acc + n % 128 * 2 ^ (7 * i) + n / 128 * 128 * 2 ^ (7 * i) = acc + n * 2 ^ (7 * i) := by
        rw [Nat.add_assoc, ← Nat.add_mul]
        congr 2
        omega
      rw [e2]
      congr 2
      omega
theorem rdu_uvb (n : Nat) (r : List Int) (h : n < 18446744073709551616) : rdu 0 0 (uvb n ++ r) = .ok (n, (uvb n).length) := by
  have := rdu_uvb_at n 0 0 r (by omega) (by simpa using h) (fun h => by omega)
  simpa using this
/-- Cut ahead of its end it is too short. -/
theorem rdu_cut_at : ∀ (n i acc k : Nat), i ≤ 9 → n < 2 ^ (64 - 7 * i) → k < (uvb n).length → rdu i acc ((uvb n).take k) = .error 0 := by
  intro n
  induction n using Nat.strongRecOn with
  | ind n ih =>
    intro i acc k hi hn hk
    have h9 : i = 9 → n < 2 := by intro e; subst e; simpa using hn
    cases k with
    | zero => rw [List.take_zero, rdu]
    | succ k =>
      by_cases h : n < 128
      · rw [uvb_small h] at hk; simp at hk
      · have hi9 : i < 9 := by
          rcases Nat.lt_or_ge i 9 with h1 | h1
          · exact h1
          · have := h9 (by omega); omega
        rw [uvb_big h, List.length_cons] at hk
        rw [uvb_big h, List.take_succ_cons, rdu, if_neg (by omega), if_neg (by omega)]
        have hn2 : n / 128 < 2 ^ (64 - 7 * (i + 1)) := by
          apply Nat.div_lt_of_lt_mul
          rw [show (128 : Nat) = 2 ^ 7 by decide, ← Nat.pow_add, show 7 + (64 - 7 * (i + 1)) = 64 - 7 * i by omega]
          exact hn
        exact ih (n / 128) (by omega) (i + 1) _ k (by omega) hn2 (by omega)
theorem rdu_cut (n k : Nat) (h : n < 18446744073709551616) (hk : k < (uvb n).length) : rdu 0 0 ((uvb n).take k) = .error 0 :=
  rdu_cut_at n 0 0 k (by omega) (by simpa using h) hk
/-- What is read as a number is what is written for it. -/
theorem rdu_form_at : ∀ (l : List Int) (i acc v k : Nat), i ≤ 9 → IsBytes l → rdu i acc l = .ok (v, k) → ∃ n, v = acc + n * 2 ^ (7 * i) ∧ (0 < i → 0 < n) ∧ i ≤ k ∧ l.take (k - i) = uvb n := by
  intro l
  induction l with
  | nil => intro i acc v k _ _ h; simp [rdu] at h
  | cons c r ih =>
    intro i acc v k hi hB h
    have hc := hB c (List.mem_cons_self ..)
    rw [rdu] at h
    split at h
    · cases h
    · rename_i h9
      split at h
      · rename_i hc1
        split at h
        · cases h
        · rename_i hz
          simp only [Except.ok.injEq, Prod.mk.injEq] at h
          obtain ⟨rfl, rfl⟩ := h
          refine ⟨c.toNat, ?_, by omega, by omega, ?_⟩
          · rw [Nat.mod_eq_of_lt (by omega)]
          · rw [show i + 1 - i = 1 by omega, uvb_small (by omega)]
            simp
            omega
      · rename_i hc1
        obtain ⟨n, e1, e2, e3, e4⟩ := ih (i + 1) _ v k (by omega) (fun x hx => hB x (List.mem_cons_of_mem _ hx)) h
        have h0 := e2 (by omega)
        refine ⟨c.toNat % 128 + 128 * n, ?_, by omega, by omega, ?_⟩
        · rw [e1, show 7 * (i + 1) = 7 + 7 * i by omega, Nat.pow_add, ← Nat.mul_assoc, Nat.add_assoc, ← Nat.add_mul]
          congr 2
          omega
        · rw [show k - i = (k - (i + 1)) + 1 by omega, List.take_succ_cons, e4, uvb_big (n := c.toNat % 128 + 128 * n) (by omega)]
          congr 1
          · omega
          · congr 1; omega
theorem rdu_form {l : List Int} {n k : Nat} (hB : IsBytes l) (h : rdu 0 0 l = .ok (n, k)) : l.take k = uvb n := by
  obtain ⟨m, e1, _, _, e4⟩ := rdu_form_at l 0 0 n k (by omega) hB h
  simp at e1 e4
  rw [e4, e1]

/-- The lists that a Writer takes as rising ones, from the least number that may come. -/
def Ris : List Int → Nat → Prop
  | [], _ => True
  | x :: r, s => (s : Int) ≤ x ∧ x ≤ 9223372036854775807 ∧ Ris r (x.toNat + 1)
theorem ris_of {l : List Int} (hI : IsInts l) (h0 : ∀ x ∈ l, 0 ≤ x) (hr : riseB l = true) : Ris l 0 := by
  rw [riseB_iff] at hr
  have : ∀ (l : List Int) (s : Nat), IsInts l → (∀ x, l[0]? = some x → (s : Int) ≤ x) → (∀ j, j + 1 < l.length → l[j]?.getD 0 < l[j + 1]?.getD 0) → Ris l s := by
    intro l
    induction l with
    | nil => intro s _ _ _; trivial
    | cons x r ih =>
      intro s hI h1 h2
      have hx := hI x (List.mem_cons_self ..)
      have hs := h1 x rfl
      refine ⟨hs, hx.2, ih _ (fun y hy => hI y (List.mem_cons_of_mem _ hy)) ?_ ?_⟩
      · intro y hy
        have hl : 1 < (x :: r).length := by
          cases r with
          | nil => simp at hy
          | cons a b => simp
        have := h2 0 hl
        simp only [Nat.zero_add, List.getElem?_cons_zero, List.getElem?_cons_succ, hy, Option.getD_some] at this
        omega
      · intro j hj
        have := h2 (j + 1) (by simp; omega)
        simpa using this
  refine this l 0 hI ?_ hr
  intro x hx
  exact h0 x (List.mem_of_getElem? hx)
theorem Ris.mem : ∀ {l : List Int} {s : Nat}, Ris l s → ∀ x ∈ l, (s : Int) ≤ x ∧ x ≤ 9223372036854775807 := by
  intro l
  induction l with
  | nil => intro s _ x hx; cases hx
  | cons y r ih =>
    intro s h x hx
    obtain ⟨h1, h2, h3⟩ := h
    rcases List.mem_cons.1 hx with rfl | hx
    · exact ⟨h1, h2⟩
    · have := ih h3 x hx
      omega
theorem Ris.rise : ∀ {l : List Int} {s : Nat}, Ris l s → riseB l = true := by
  intro l
  induction l with
  | nil => intro s _; rfl
  | cons y r ih =>
    intro s h
    rw [riseB_iff]
    intro j hj
    obtain ⟨h1, h2, h3⟩ := h
    cases j with
    | zero =>
      cases r with
      | nil => simp at hj
      | cons z t =>
        obtain ⟨h4, _⟩ := h3
        simp
        omega
    | succ j =>
      have := (riseB_iff r).1 (ih h3) j (by simpa using hj)
      simpa using this
/-- A written rising list is read again, whatever stands behind it. -/
theorem rdr_back : ∀ (l : List Int) (s : Nat) (r : List Int), Ris l s → rdr l.length s (risb l s ++ r) = .ok (l, (risb l s).length) := by
  intro l
  induction l with
  | nil => intro s r _; rfl
  | cons x t ih =>
    intro s r h
    obtain ⟨h1, h2, h3⟩ := h
    rw [List.length_cons, risb, List.append_assoc, rdr_step _ _ _ _ _ (rdu_uvb (x.toNat - s) _ (by omega)) (by omega), List.drop_left, show s + (x.toNat - s) + 1 = x.toNat + 1 by omega, ih _ _ h3, List.length_append]
    have e : ((s + (x.toNat - s) : Nat) : Int) = x := by omega
    simp only [e]
theorem rdr_cut : ∀ (l : List Int) (s k : Nat), Ris l s → k < (risb l s).length → rdr l.length s ((risb l s).take k) = .error 0 := by
  intro l
  induction l with
  | nil => intro s k _ h; simp [risb] at h
  | cons x t ih =>
    intro s k h hk
    obtain ⟨h1, h2, h3⟩ := h
    rw [risb, List.length_append] at hk
    rw [List.length_cons, risb, List.take_append]
    by_cases hlt : k < (uvb (x.toNat - s)).length
    · rw [show k - (uvb (x.toNat - s)).length = 0 by omega, List.take_zero, List.append_nil]
      exact rdr_err _ _ _ _ (rdu_cut _ _ (by omega) hlt)
    · rw [List.take_of_length_le (Nat.not_lt.1 hlt), rdr_step _ _ _ _ _ (rdu_uvb (x.toNat - s) _ (by omega)) (by omega), List.drop_left, show s + (x.toNat - s) + 1 = x.toNat + 1 by omega, ih _ _ h3 (by omega)]
/-- What is read as a rising list is what is written for it. -/
theorem rdr_form : ∀ (n s : Nat) (l xs : List Int) (m : Nat), IsBytes l → rdr n s l = .ok (xs, m) → xs.length = n ∧ Ris xs s ∧ l.take m = risb xs s ∧ m ≤ l.length := by
  intro n
  induction n with
  | zero =>
    intro s l xs m _ h
    simp only [rdr, Except.ok.injEq, Prod.mk.injEq] at h
    obtain ⟨rfl, rfl⟩ := h
    exact ⟨rfl, trivial, rfl, by omega⟩
  | succ n ih =>
    intro s l xs m hB h
    cases hu : rdu 0 0 l with
    | error e => rw [rdr_err _ _ _ _ hu] at h; cases h
    | ok xk =>
      obtain ⟨x, k⟩ := xk
      by_cases hl : 9223372036854775807 < s + x
      · rw [rdr_lim _ _ _ _ _ hu hl] at h; cases h
      · rw [rdr_step _ _ _ _ _ hu (by omega)] at h
        cases hd : rdr n (s + x + 1) (l.drop k) with
        | error e => rw [hd] at h; cases h
        | ok rm =>
          obtain ⟨r, m'⟩ := rm
          rw [hd] at h
          simp only [Except.ok.injEq, Prod.mk.injEq] at h
          obtain ⟨rfl, rfl⟩ := h
          obtain ⟨i1, i2, i3, i4⟩ := ih _ _ _ _ (fun y hy => hB y (List.mem_of_mem_drop hy)) hd
          have hk := rdu_le _ _ _ _ _ hu
          have hf := rdu_form hB hu
          rw [List.length_drop] at i4
          refine ⟨by simp [i1], ⟨by omega, by omega, by rw [show ((s + x : Nat) : Int).toNat + 1 = s + x + 1 by omega]; exact i2⟩, ?_, by omega⟩
          rw [risb, show ((s + x : Nat) : Int).toNat - s = x by omega, show ((s + x : Nat) : Int).toNat + 1 = s + x + 1 by omega, ← i3, ← hf, List.take_add]
end Go.Proofs.YtjmmdklgkcbihaaDoor
namespace Go.Proofs.YtjmmdklgkcbihaaDoor
open Go.ChangeShapes Go.WideShapes Go.ChangeAt Go.RowKit

theorem unp_cons (V w n : Nat) : unp V w (n + 1) = ((V % 2 ^ w : Nat) : Int) :: unp (V / 2 ^ w) w n := by
  rw [unp, List.range_succ_eq_map, List.map_cons, List.map_map]
  congr 1
  · simp
  · rw [unp]
    apply List.map_congr_left
    intro i _
    simp only [Function.comp, Nat.succ_eq_add_one]
    rw [Nat.div_div_eq_div_mul, ← Nat.pow_add, Nat.add_mul, Nat.one_mul, Nat.add_comm]
theorem unp_pk (w : Nat) : ∀ l : List Int, (∀ x ∈ l, 0 ≤ x ∧ x.toNat < 2 ^ w) → unp (pk w l) w l.length = l := by
  intro l
  induction l with
  | nil => intro _; rfl
  | cons x r ih =>
    intro h
    have hx := h x (List.mem_cons_self ..)
    have hp := Nat.two_pow_pos w
    rw [List.length_cons, unp_cons, pk, Nat.add_mul_mod_self_left, Nat.add_mul_div_left _ _ hp, Nat.mod_eq_of_lt hx.2, Nat.div_eq_of_lt hx.2, Nat.zero_add, ih (fun y hy => h y (List.mem_cons_of_mem _ hy))]
    congr 1
    omega
theorem pk_unp (w : Nat) : ∀ (n V : Nat), pk w (unp V w n) = V % 2 ^ (n * w) := by
  intro n
  induction n with
  | zero => intro V; simp [unp, pk, Nat.mod_one]
  | succ n ih =>
    intro V
    rw [unp_cons, pk, ih, Int.toNat_natCast, Nat.add_mul, Nat.one_mul, Nat.add_comm (n * w) w, Nat.pow_add, Nat.mod_mul]

/-- The bytes of a packed list behind its count. -/
def pbody (l : List Int) : List Int := if l = [] then [] else ((bitLen (orl l) : Nat) : Int) :: le ((l.length * bitLen (orl l) + 7) / 8) (pk (bitLen (orl l)) l)
theorem packed_eq (l : List Int) : packed l = uvb l.length ++ pbody l := rfl
theorem pbody_length (l : List Int) : (pbody l).length = if l = [] then 0 else 1 + (l.length * bitLen (orl l) + 7) / 8 := by
  unfold pbody
  split <;> simp [le_length]
  omega
theorem pow_le8 (a m : Nat) (h : a ≤ 8 * m) : 2 ^ a ≤ 256 ^ m := by
  rw [pow8]
  exact Nat.pow_le_pow_right (by decide) h
/-- A written packed list is read again, whatever stands behind it. -/
theorem rdp_back (l r : List Int) (hI : IsInts l) (h0 : ∀ x ∈ l, 0 ≤ x) (hz : ¬ (orl l = 0 ∧ 65536 < l.length)) : rdp l.length (pbody l ++ r) = .ok (l, (pbody l).length) := by
  by_cases hn : l = []
  · subst hn; rfl
  · have hl : l.length ≠ 0 := by intro e; exact hn (List.eq_nil_of_length_eq_zero e)
    obtain ⟨w, hw⟩ : ∃ w, w = bitLen (orl l) := ⟨_, rfl⟩
    have hw63 := orl_bits l h0 hI
    have hml : ∀ x ∈ l, 0 ≤ x ∧ x.toNat < 2 ^ w := fun x hx => ⟨h0 x hx, by rw [hw]; exact mem_lt_width hx⟩
    have hpk := pk_lt w l (fun x hx => (hml x hx).2)
    obtain ⟨m, hm⟩ : ∃ m, m = (l.length * w + 7) / 8 := ⟨_, rfl⟩
    have hp8 := pow_le8 (l.length * w) m (by omega)
    have hv : vle (le m (pk w l)) = pk w l := by
      rw [vle_le, Nat.mod_eq_of_lt]
      rw [Nat.mul_comm w] at hpk
      omega
    have hz0 : w = 0 → orl l = 0 := by
      intro e
      have : orl l < 2 ^ 0 := (bitLen_le_iff _ _).1 (by omega)
      omega
    rw [pbody_length, if_neg hn, pbody, if_neg hn, ← hw, ← hm, List.cons_append, rdp, if_neg hl]
    simp only [Int.toNat_natCast]
    rw [if_neg (by rintro (h | ⟨h, h'⟩) <;> first | omega | exact hz ⟨hz0 h, h'⟩), ← hm, if_neg (by rw [List.length_append, le_length]; omega), List.take_append_of_le_length (by rw [le_length]; omega), List.take_of_length_le (by rw [le_length]; omega), hv, unp_pk w l hml, if_pos]
    rw [tightB, hv, ← hw]
    rw [Nat.mul_comm w] at hpk
    simp [hpk]
theorem rdp_cut (l : List Int) (k : Nat) (hI : IsInts l) (h0 : ∀ x ∈ l, 0 ≤ x) (hz : ¬ (orl l = 0 ∧ 65536 < l.length)) (hk : k < (pbody l).length) : rdp l.length ((pbody l).take k) = .error 0 := by
  by_cases hn : l = []
  · subst hn; simp [pbody] at hk
  · have hl : l.length ≠ 0 := by intro e; exact hn (List.eq_nil_of_length_eq_zero e)
    rw [pbody_length, if_neg hn] at hk
    have hw63 := orl_bits l h0 hI
    have hz0 : bitLen (orl l) = 0 → orl l = 0 := by
      intro e
      have : orl l < 2 ^ 0 := (bitLen_le_iff _ _).1 (by omega)
      omega
    cases k with
    | zero => rw [List.take_zero, rdp, if_neg hl]
    | succ k =>
      rw [pbody, if_neg hn, List.take_succ_cons, rdp, if_neg hl]
      simp only [Int.toNat_natCast]
      rw [if_neg (by rintro (h | ⟨h, h'⟩) <;> first | omega | exact hz ⟨hz0 h, h'⟩), if_pos (by rw [List.length_take, le_length]; omega)]
/-- What is read as a packed list is what is written for it. -/
theorem rdp_form {n : Nat} {l xs : List Int} {m : Nat} (hB : IsBytes l) (h : rdp n l = .ok (xs, m)) : xs.length = n ∧ IsInts xs ∧ (∀ x ∈ xs, 0 ≤ x) ∧ ¬ (orl xs = 0 ∧ 65536 < xs.length) ∧ l.take m = pbody xs ∧ m ≤ l.length := by
  rw [rdp.eq_def] at h
  split at h
  · simp only [Except.ok.injEq, Prod.mk.injEq] at h
    obtain ⟨rfl, rfl⟩ := h
    subst n
    exact ⟨rfl, (fun _ hx => nomatch hx), (fun _ hx => nomatch hx), (by simp), rfl, (by omega)⟩
  · rename_i hn
    split at h
    · cases h
    · rename_i c r
      have hc := hB c (List.mem_cons_self ..)
      have hBr : IsBytes r := fun x hx => hB x (List.mem_cons_of_mem _ hx)
      split at h
      · cases h
      · rename_i hcc
        split at h
        · cases h
        · rename_i hlen
          obtain ⟨w, hw⟩ : ∃ w, w = c.toNat := ⟨_, rfl⟩
          rw [← hw] at h hcc hlen
          obtain ⟨k, hk⟩ : ∃ k, k = (n * w + 7) / 8 := ⟨_, rfl⟩
          rw [← hk] at h hlen
          split at h
          · rename_i ht
            simp only [Except.ok.injEq, Prod.mk.injEq] at h
            obtain ⟨rfl, rfl⟩ := h
            simp only [tightB, Bool.and_eq_true, decide_eq_true_eq, unp_length] at ht
            obtain ⟨t1, t2⟩ := ht
            have hne : unp (vle (r.take k)) w n ≠ [] := by
              intro e
              have := congrArg List.length e
              rw [unp_length] at this
              exact hn this
            refine ⟨unp_length _ _ _, unp_ints (by omega), fun x hx => (unp_mem hx).1, ?_, ?_, by rw [List.length_cons]; omega⟩
            · rintro ⟨e1, e2⟩
              rw [unp_length] at e2
              rw [e1] at t2
              have : bitLen 0 = 0 := by have := (bitLen_le_iff 0 0).2 (by decide); omega
              omega
            · rw [pbody, if_neg hne, t2, unp_length, pk_unp, Nat.mod_eq_of_lt t1, ← hk, Nat.add_comm 1 k, List.take_succ_cons]
              congr 1
              · omega
              · have e := le_vle (r.take k) (fun x hx => hBr x (List.mem_of_mem_take hx))
                rw [List.length_take, Nat.min_eq_left (by omega)] at e
                exact e.symm
          · cases h
end Go.Proofs.YtjmmdklgkcbihaaDoor
