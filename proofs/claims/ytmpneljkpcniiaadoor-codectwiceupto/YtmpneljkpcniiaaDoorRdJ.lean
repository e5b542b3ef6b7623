import Derived.Test.YtmpneljkpcniiaaDoorRdI
import Derived.Test.YtmpneljkpcniiaaDoorIs
namespace Go.Proofs.YtmpneljkpcniiaaDoor
open Go.ChangeShapes Go.WideShapes Go.ChangeAt Go.RowKit

/-- The elements of a rising list, from the least number that may come: the numbers and how many bytes they have, or an error (0: too short, 1: no good form, 2: too great). -/
def rdr : Nat → Nat → List Int → Except Nat (List Int × Nat)
  | 0, _, _ => .ok ([], 0)
  | n + 1, s, l =>
    match rdu 0 0 l with
    | .error e => .error e
    | .ok (x, k) =>
      if 9223372036854775807 < s + x then .error 2
      else match rdr n (s + x + 1) (l.drop k) with
        | .error e => .error e
        | .ok (r, m) => .ok (((s + x : Nat) : Int) :: r, k + m)
/-- What has been read already, ahead of what comes. -/
def ahead (acc : List Int) (d : Nat) : Except Nat (List Int × Nat) → Except Nat (List Int × Nat)
  | .error e => .error e
  | .ok (r, m) => .ok (acc ++ r, d + m)
theorem ahead_step (acc : List Int) (d x k : Nat) (r : Except Nat (List Int × Nat)) : ahead acc d (match r with | .error e => .error e | .ok (r, m) => .ok ((x : Int) :: r, k + m)) = ahead (acc ++ [(x : Int)]) (d + k) r := by
  cases r with
  | error e => rfl
  | ok rm => obtain ⟨r, m⟩ := rm; simp [ahead, Nat.add_assoc]
theorem rdr_step (n s : Nat) (l : List Int) (x k : Nat) (h : rdu 0 0 l = .ok (x, k)) (hs : s + x ≤ 9223372036854775807) : rdr (n + 1) s l = (match rdr n (s + x + 1) (l.drop k) with | .error e => .error e | .ok (r, m) => .ok (((s + x : Nat) : Int) :: r, k + m)) := by
  rw [rdr, h]
  simp only
  rw [if_neg (by omega)]
theorem rdr_err (n s : Nat) (l : List Int) (e : Nat) (h : rdu 0 0 l = .error e) : rdr (n + 1) s l = .error e := by
  rw [rdr, h]
theorem rdr_lim (n s : Nat) (l : List Int) (x k : Nat) (h : rdu 0 0 l = .ok (x, k)) (hs : 9223372036854775807 < s + x) : rdr (n + 1) s l = .error 2 := by
  rw [rdr, h]
  simp only
  rw [if_pos hs]

theorem rdu_err_le : ∀ (l : List Int) (i acc e : Nat), rdu i acc l = .error e → e ≤ 1 := by
  intro l
  induction l with
  | nil => intro i acc e h; simp [rdu] at h; omega
  | cons c r ih =>
    intro i acc e h
    rw [rdu] at h
    split at h
    · simp at h; omega
    · split at h
      · split at h
        · simp at h; omega
        · cases h
      · exact ih _ _ _ h
/-- Which error a list's refusal is. -/
def errOf2 (a0 a1 a2 : Addr) (e : Nat) : Value := if e = 2 then errV a2 else errOf a0 a1 e

/-- What Reader.Rising leaves. -/
def RisPost (br : Nat) (v : Value) (l : List Int) (p q : Nat) (a0 a1 a2 : Addr) (w : World) (e : Ending) (w' : World) : Except Nat (List Int × Nat) → Prop
  | .error er => e = .returned (.tuple #[.slice none 0 0, errOf2 a0 a1 a2 er]) ∧ Rd w' br v l p ∧ Kept (fun _ => False) w w'
  | .ok (xs, m) => ∃ u, e = .returned (.tuple #[u, .nilIface]) ∧ w'.ownsRow w.heap.size 3 1 u xs.length (is xs) ∧ Rd w' br v l (q + m) ∧ Kept (fun i => i = br) w w'

set_option maxRecDepth 20000 in
set_option maxHeartbeats 4000000 in
theorem rris_any (br : Nat) (v : Value) (l : List Int) (p n k : Nat) (most : Int) (a0 a1 a2 : Addr) (w : World) (h : Rd w br v l p) (hr : rdu 0 0 (l.drop p) = .ok (n, k)) (hm : (n : Int) ≤ most) (hm2 : most ≤ 9223372036854775807) (hsm : l.length ≤ 1099511627776)
    (g0 : w.cell? ⟨3, 0, none⟩ = some (errV a0)) (g1 : w.cell? ⟨4, 0, none⟩ = some (errV a1)) (g2 : w.cell? ⟨2, 0, none⟩ = some (errV a2)) :
    Calls Tryd.prog 12 #[.pointer (some ⟨br, 0, none⟩), .int .i64 most] w fun e w' => RisPost br v l p (p + k) a0 a1 a2 w e w' (rdr n 0 (l.drop (p + k))) := by
  obtain ⟨i0, hi, hz0, hz1, hz2⟩ := info_parts Tryd.infoI
  have hc := h.cell1
  have hc0 := h.cell0
  have hf := h.free1
  have HH := hide h
  have hk := rdu_le _ _ _ _ _ hr
  rw [List.length_drop] at hk
  have hp := h.le
  obtain ⟨a, c, hv, hb, _⟩ := bytes_of_own h.own
  obtain ⟨g, rfl⟩ := h.frm
  simp only [Value.slice.injEq, true_and] at hv
  obtain ⟨rfl, rfl⟩ := hv
  have c1 : ∀ n', Calls Tryd.prog 30 #[.slice (some ⟨g, 0, none⟩) l.length l.length, .int .i64 p, .int .i64 most] (w.drewN n') fun e w' => e = .returned (.tuple #[.int .i64 n, .int .i64 ((p + k : Nat) : Int), .nilIface]) ∧ ∃ m, w' = w.drewN m := by
    intro n'
    refine (upat_ok l _ l.length p n k most a0 a1 (w.drewN n') hb h.isb h.le (by omega) g0 g1 hr hm hm2).mono ?_
    rintro e w' ⟨rfl, m, rfl⟩
    exact ⟨by simp, n' + m, by rw [World.drewN_drewN]⟩
  obtain ⟨q0, hq0⟩ : ∃ q, q = p + k := ⟨_, rfl⟩
  rw [← hq0] at c1 ⊢
  have hq1 : q0 ≤ l.length := by omega
  have C1 := hide c1
  have HB := hide h.isb
  have HBA := hide hb
  have G0 := hide g0
  have G1 := hide g1
  have G2 := hide g2
  clear h hb g0 g1 g2 hr c1 hk hq0
  go_enter Tryd.func12, Tryd.ntmps12
  go_wp2_with fail
  go_quiet ((exact C1.out _))
  obtain ⟨N, hN1, hN2, hN3⟩ : ∃ N : Nat, N ≤ l.length ∧ (N : Int) ≤ n ∧ (N : Int) = min (n : Int) ((l.length : Int) - q0) := ⟨min n (l.length - q0), by omega, by omega, by omega⟩
  have stp : ∀ w1 : World, w1.ownsRow w.heap.size 3 1 (.slice (some ⟨w.heap.size, 0, none⟩) 0 N) 0 [] → (w.drewN nq).grownBy w1 none → w1.ownsRow w.heap.size 3 1 (.slice (some ⟨w.heap.size, 0, none⟩) 0 N) 0 (is []) ∧ Kept (fun _ => False) w w1 := by
    intro w1 h1 h2
    exact ⟨h1, ((Kept.drewN w nq).trans (Kept.grown h2) (fun _ e => by cases e)).mono (fun _ f => f.elim)⟩
  have STP := hide stp
  clear stp C1
  by_cases hmin : (l.length : Int) - q0 < n
  all_goals
    go_wp2_with (at_make; refine wpList_make_own _ rfl _ _ 22 rfl w.heap.size 3 i0 (.int .i64 0) 1 Tryd.underlying22 hi hz0 hz1 _ _ _ N rfl rfl (by omega) (by rw [hz2]; omega) (by unfold maxLen; omega) (Nat.le_refl _) ?_)
    intro w1 hown1 hgrow1
    have hst := STP.out w1 hown1 hgrow1
    have HST := hide hst
    clear hown1 hgrow1 hst hmin hN3 STP
    go_wp2
    go_loopw [7, 9, 10] (fun at_ u ls wr => ∃ (acc : List Int) (s q : Nat), at_ = .int .i64 q ∧ ls = .int .u64 s ∧ wr.ownsRow w.heap.size 3 1 u acc.length (is acc) ∧ acc.length ≤ n ∧ q ≤ l.length ∧ q0 ≤ q ∧ s ≤ 9223372036854775808 ∧ acc.length ≤ q - q0 ∧ rdr n 0 (l.drop q0) = ahead acc (q - q0) (rdr (n - acc.length) s (l.drop q)) ∧ Kept (fun _ => False) w wr)
      (fun at_ _ _ _ => l.length - (intOf at_).toNat)
    case atStart =>
      refine ⟨[], 0, q0, rfl, rfl, HST.out.1, Nat.zero_le _, hq1, Nat.le_refl _, by omega, by simp, ?_, HST.out.2⟩
      cases hx : rdr n 0 (l.drop q0) with
      | error e => simp [ahead]
      | ok rm => simp [ahead]
    case round =>
      obtain ⟨acc, s, q, rfl, rfl, hown, hj, hq, hqq, hs, hjq, hrd, hK⟩ := hrel
      obtain ⟨ua, uc, rfl⟩ := own_slice hown
      have HO := hide hown
      have HK := hide hK
      have HR := hide hrd
      have hc2 := hK.cell hc0 (fun f => f)
      have hc3 := hK.cell hc (fun f => f)
      have hf2 : wr.frozen? ⟨br, 1, none⟩ = false := (HH.out.kept hK (fun f => f) (fun _ _ f => f)).free1
      have hsz := hK.size
      clear hown hrd hK
      have hBw : BytesAt wr (some ⟨g, 0, none⟩) l := by
        intro hne
        obtain ⟨b, off, e, hcc⟩ := HBA.out hne
        exact ⟨b, off, e, fun i hi => HK.out.cell (hcc i hi) (fun f => f)⟩
      have cu := uvat_any l (some ⟨g, 0, none⟩) l.length q (errV a0) (errV a1) wr hBw HB.out hq (by omega) (HK.out.cell G0.out (fun f => f)) (HK.out.cell G1.out (fun f => f))
      have hg2 := HK.out.cell G2.out (fun f => f)
      clear hBw
      by_cases hlt : acc.length < n
      · obtain ⟨nn, hnn⟩ : ∃ nn, n - acc.length = nn + 1 := ⟨n - acc.length - 1, by omega⟩
        cases hu : rdu 0 0 (l.drop q) with
        | error er =>
          have hle := rdu_err_le _ _ _ _ hu
          have hres : Hid (rdr n 0 (l.drop q0) = .error er) := by
            show rdr n 0 (l.drop q0) = .error er
            rw [HR.out, hnn, rdr_err _ _ _ _ hu]; rfl
          obtain ⟨ad, had⟩ := errOf_form a0 a1 er
          have cu2 : Calls Tryd.prog 31 #[.slice (some ⟨g, 0, none⟩) l.length l.length, .int .i64 q] wr fun e w' => e = .returned (.tuple #[.int .u64 0, .int .i64 0, .iface 77 (.pointer (some ad))]) ∧ ∃ m, w' = wr.drewN m := by
            refine cu.mono ?_
            rintro e w' ⟨rfl, hm⟩
            refine ⟨?_, hm⟩
            rw [hu, ← had]
            cases er with
            | zero => rfl
            | succ k => rfl
          have CU := hide cu2
          have HAD := hide had
          clear cu cu2 hu had hnn
          go_wp2_with (go_at_call 31; refine CU.out.mono ?_; rintro e w2 ⟨rfl, m2, rfl⟩)
          go_ret2
          rw [hres.out]
          refine ⟨?_, HH.out.kept (HK.out.trans (Kept.drewN _ _) (fun _ f => f.elim)) (fun f => f) (fun _ _ f => f), HK.out.trans (Kept.drewN _ _) (fun _ f => f.elim)⟩
          rw [errOf2, if_neg (by omega), HAD.out]
          rfl
        | ok xk =>
          obtain ⟨x, k2⟩ := xk
          have hk2 := rdu_le _ _ _ _ _ hu
          rw [List.length_drop] at hk2
          have hx := rdu_lt (l.drop q) 0 0 x k2 (by omega) (by decide) (fun y hy => HB.out y (List.mem_of_mem_drop hy)) hu
          have cu2 : Calls Tryd.prog 31 #[.slice (some ⟨g, 0, none⟩) l.length l.length, .int .i64 q] wr fun e w' => e = .returned (.tuple #[.int .u64 x, .int .i64 ((q : Int) + k2), .nilIface]) ∧ ∃ m, w' = wr.drewN m := by
            refine cu.mono ?_
            rintro e w' ⟨rfl, hm⟩
            refine ⟨?_, hm⟩
            rw [hu]
            simp [uvRes]
          have CU := hide cu2
          by_cases hbig : 9223372036854775807 < s + x
          · have hres : Hid (rdr n 0 (l.drop q0) = .error 2) := by
              show rdr n 0 (l.drop q0) = .error 2
              rw [HR.out, hnn, rdr_lim _ _ _ _ _ hu hbig]; rfl
            clear cu cu2 hu hnn
            by_cases hs2 : 9223372036854775807 < s
            all_goals
              go_wp2_with (go_at_call 31; refine CU.out.mono ?_; rintro e w2 ⟨rfl, m2, rfl⟩)
              go_quiet (fail)
              go_wp2
              go_ret2
              rw [hres.out]
              have kk := (HK.out.trans (Kept.drewN wr m2) (fun _ f => f.elim)).trans (Kept.drewN _ nq) (fun _ f => f.elim)
              first
                | exact ⟨rfl, HH.out.kept kk (fun f => f) (fun _ _ f => f), kk⟩
                | (rw [World.drewN_drewN] at kk; exact ⟨rfl, HH.out.kept kk (fun f => f) (fun _ _ f => f), kk⟩)
          · have hres : Hid (rdr n 0 (l.drop q0) = ahead (acc ++ [((s + x : Nat) : Int)]) (q + k2 - q0) (rdr nn (s + x + 1) (l.drop (q + k2)))) := by
              show rdr n 0 (l.drop q0) = _
              rw [HR.out, hnn, rdr_step _ _ _ _ _ hu (by omega), ahead_step, List.drop_drop, show q - q0 + k2 = q + k2 - q0 by omega]
            have HNN := hide hnn
            have cu3 : Calls Tryd.prog 31 #[.slice (some ⟨g, 0, none⟩) l.length l.length, .int .i64 q] wr fun e w' => e = .returned (.tuple #[.int .u64 x, .int .i64 ((q : Int) + k2), .nilIface]) ∧ Kept (fun _ => False) wr w' := by
              refine cu2.mono ?_
              rintro e w' ⟨rfl, m, rfl⟩
              exact ⟨rfl, Kept.drewN _ _⟩
            have CU3 := hide cu3
            clear cu cu2 cu3 CU hu hnn
            have hx2 : x ≤ 9223372036854775807 := by omega
            have hsx : (s : Int) + x ≤ 9223372036854775807 := by omega
            go_wp2_with (first
              | (go_at_call 31; refine CU3.out.mono ?_; rintro e w2 ⟨rfl, kw2⟩; have hown2 := kw2.row HO.out (fun _ _ f => f); have hz2' := kw2.size)
              | (at_builtin; refine wpList_append_own _ rfl _ _ 22 rfl w.heap.size 3 i0 (.int .i64 0) 1 8 Tryd.underlying22 hi hz0 hz1 hz2 rfl (by decide) _ _ _ rfl (hown2.alloc _) ⟨w2.heap.size, 0, none⟩ 1 1 (is [(s : Int) + x]) rfl rfl (one_new _ _ _) (is_one _) (by unfold maxLen; omega) (by omega) (by simp; omega) ?_))
            intro v3 w3 hown3 hgrow3 _
            have hK3 : Kept (fun _ => False) w w3 := ((HK.out.trans kw2 (fun _ f => f.elim)).trans (Kept.alloc _ _) (fun _ f => f.elim)).trans (Kept.grown hgrow3) (fun i hi => .inr (hown2.lt i hi).1)
            have HO3 := hide hown3
            have HK3 := hide hK3
            clear hown3 hgrow3 hK3 hown2 kw2
            go_wp2
            go_roundw
            case rel =>
              refine ⟨acc ++ [((s + x : Nat) : Int)], s + x + 1, q + k2, by go_num, by go_num, ?_, by rw [List.length_append]; simp; omega, by omega, by omega, by omega, by rw [List.length_append]; simp; omega, ?_, HK3.out⟩
              · have e : is (acc ++ [((s + x : Nat) : Int)]) = is acc ++ is [(s : Int) + x] := by
                  rw [is, List.map_append]; simp [is]
                rw [e, List.length_append]
                exact HO3.out
              · rw [hres.out, List.length_append]
                have : n - (acc.length + [((s + x : Nat) : Int)].length) = nn := by have := HNN.out; simp; omega
                rw [this]
            case measure => simp [intOf]; omega
      · have hn : acc.length = n := by omega
        have hres : Hid (rdr n 0 (l.drop q0) = .ok (acc, q - q0)) := by
          show rdr n 0 (l.drop q0) = .ok (acc, q - q0)
          rw [HR.out, hn, Nat.sub_self, rdr]
          simp [ahead]
        have hlt2 : ¬ (acc.length : Int) < n := by omega
        have HN := hide hn
        clear hn hlt cu
        have R2 := HH.out.kept HK.out (fun f => f) (fun _ _ f => f)
        have R3 : Hid (Rd (wr.setCell ⟨br, 1, none⟩ (.int .i64 q)) br (.slice (some ⟨g, 0, none⟩) l.length l.length) l (q0 + (q - q0))) := by
          rw [show q0 + (q - q0) = q by omega]
          exact R2.move hq
        have O3 : Hid ((wr.setCell ⟨br, 1, none⟩ (.int .i64 q)).ownsRow w.heap.size 3 1 (.slice ua acc.length uc) acc.length (is acc)) := by
          refine ownsRow_setCell_other HO.out ?_ _
          intro e
          have := (HO.out.lt br e).1
          have := lt_of_block HH.out.blk
          omega
        have K3 : Hid (Kept (fun i => i = br) w (wr.setCell ⟨br, 1, none⟩ (.int .i64 q))) := (HK.out.mono (fun _ f => f.elim)).trans (Kept.setCell _ _ _) (fun _ hi => .inl hi)
        clear R2
        go_wp2
        go_ret2
        rw [hres.out]
        exact ⟨_, rfl, O3.out, R3.out, K3.out⟩
end Go.Proofs.YtmpneljkpcniiaaDoor
