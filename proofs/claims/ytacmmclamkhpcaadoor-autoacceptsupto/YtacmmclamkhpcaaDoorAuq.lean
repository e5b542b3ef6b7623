import Derived.Test.YtacmmclamkhpcaaDoorAup
namespace Go.Proofs.YtacmmclamkhpcaaDoor
open Go.ChangeShapes Go.WideShapes Go.ChangeAt Go.RowKit

/-! A span. -/
def okB (l : List UInt8) (x : Int) : Prop := x = -1 ∨ ∃ n : Nat, x = (n : Int) ∧ n ≤ l.length
def bsd (l : List UInt8) (x : Int) (b : Nat) : Int × Int := if x = -1 then (-1, 0) else match l[x.toNat]? with
  | none => (-1, 1)
  | some c => if c.toNat < b then (-1, 1) else if b < c.toNat then (-1, -1) else (x + 1, 0)
theorem bsd_ok {l : List UInt8} {x : Int} {b : Nat} (h : okB l x) : okB l (bsd l x b).1 := by
  unfold bsd
  split
  · exact .inl rfl
  · rcases h with h | ⟨n, rfl, hn⟩
    · contradiction
    · split
      · exact .inl rfl
      · rename_i c hc
        split
        · exact .inl rfl
        · split
          · exact .inl rfl
          · refine .inr ⟨n + 1, by simp, ?_⟩
            rw [Int.toNat_natCast] at hc
            exact (List.getElem?_eq_some_iff.1 hc).1
set_option maxRecDepth 20000 in
set_option maxHeartbeats 4000000 in
theorem beside_any (l : List UInt8) (x : Int) (b : Nat) (w : World) (hl : l.length ≤ 1099511627776) (hx : okB l x) (_hb : b < 256) : Calls Tryd.prog 78 #[.string (bq l), .int .i64 x, .int .u8 (b : Nat)] w fun e w' => e = .returned (.tuple #[.int .i64 (bsd l x b).1, .int .i64 (bsd l x b).2]) ∧ w' = w := by
  rcases hx with rfl | ⟨n, rfl, hn⟩
  · have e : bsd l (-1) b = (-1, 0) := by unfold bsd; rw [if_pos rfl]
    rw [e]
    go_enter Tryd.func78, Tryd.ntmps78
    go_wp2
    go_ret2
    exact ⟨rfl, rfl⟩
  · have n1 : ((n : Int) == -1) = false := by simp <;> omega
    have n2 : ¬ ((n : Int) = -1) := by omega
    obtain ⟨s, hs⟩ : ∃ s, s = bq l := ⟨_, rfl⟩
    have hz : s.size = l.length := by rw [hs]; exact bq_size l
    have hsm : s.size ≤ 1099511627776 := by omega
    have HX : Hid (∀ k (h : k < l.length) (h2 : k < s.size), s[k] = l[k]) := hideG (fun k h h2 => by subst hs; rfl)
    rw [← hs]
    rcases Nat.lt_or_ge n s.size with hlt | hge
    · have hkl : n < l.length := by omega
      have x0 := HX.out n hkl hlt
      have d0 : ((n : Int) == (s.size : Int)) = false := by simp; omega
      have d1 : ¬ ((n : Int) = (s.size : Int)) := by omega
      have d3 : (n : Int) < (s.size : Int) := by omega
      obtain ⟨q, hq⟩ : ∃ q, q = l[n].toNat := ⟨_, rfl⟩
      have y1 : s[n].toNat = q := by rw [x0, hq]
      have hqb : q < 256 := by rw [hq]; exact l[n].toNat_lt
      have e : bsd l (n : Int) b = if q < b then (-1, 1) else if b < q then (-1, -1) else ((n : Int) + 1, 0) := by unfold bsd; rw [if_neg n2, Int.toNat_natCast, List.getElem?_eq_getElem hkl, hq]
      rw [e]
      clear e hq x0 HX hkl hz hs hn
      by_cases h1 : q < b
      · rw [if_pos h1]
        have p1 : (q : Int) < (b : Int) := by omega
        go_enter Tryd.func78, Tryd.ntmps78
        go_wp2
        go_ret2
        exact ⟨rfl, rfl⟩
      · rw [if_neg h1]
        have p1 : ¬ ((q : Int) < (b : Int)) := by omega
        by_cases h2 : b < q
        · rw [if_pos h2]
          have p2 : (b : Int) < (q : Int) := by omega
          go_enter Tryd.func78, Tryd.ntmps78
          go_wp2
          go_ret2
          exact ⟨rfl, rfl⟩
        · rw [if_neg h2]
          have p2 : ¬ ((b : Int) < (q : Int)) := by omega
          go_enter Tryd.func78, Tryd.ntmps78
          go_wp2
          go_ret2
          exact ⟨rfl, rfl⟩
    · obtain rfl : n = s.size := by omega
      have e : bsd l ((s.size : Nat) : Int) b = (-1, 1) := by unfold bsd; rw [if_neg n2, Int.toNat_natCast, List.getElem?_eq_none (by omega)]
      rw [e]
      clear e HX hz hs hn
      go_enter Tryd.func78, Tryd.ntmps78
      go_wp2
      go_ret2
      exact ⟨rfl, rfl⟩
def IvS (l L : List UInt8) (S : List Int) : Prop := S = [] ∨ ∃ x y, S = [x, y] ∧ okB l x ∧ okB L y
def nxS (l : List UInt8) (L : List UInt8) (I : Bool) (S : List Int) (b : Nat) : List Int := match S with
  | [x, y] => if (bsd l x b).2 < 0 ∨ 0 < (bsd L y b).2 then [] else if (bsd L y b).1 = (L.length : Int) ∧ I = false then [] else [(bsd l x b).1, (bsd L y b).1]
  | _ => []
def acS (l : List UInt8) (i : Bool) (S : List Int) : Bool := match S with
  | x :: _ => x == -1 || (x == (l.length : Int) && i)
  | [] => false
theorem ivS_next {l L : List UInt8} {I : Bool} {S : List Int} {b : Nat} (h : IvS l L S) (hne : S ≠ []) : IvS l L (nxS l L I S b) := by
  rcases h with h | ⟨x, y, rfl, hx, hy⟩
  · exact absurd h hne
  · unfold nxS
    simp only []
    split
    · exact .inl rfl
    · split
      · exact .inl rfl
      · exact .inr ⟨_, _, rfl, bsd_ok hx, bsd_ok hy⟩
theorem nsAt_two (w : World) (y z : Int) : NsAt (w.alloc (.cells #[.int .i64 y, .int .i64 z] 3)) (some ⟨w.heap.size, 0, none⟩) [y, z] := by
  intro _
  refine ⟨w.heap.size, 0, rfl, fun j hj => ?_⟩
  have : j = 0 ∨ j = 1 := by simp at hj; omega
  rcases this with rfl | rfl <;> simp
set_option maxRecDepth 20000 in
set_option maxHeartbeats 4000000 in
theorem next_span (o i O I : Bool) (l L : List UInt8) (W : World) (S : List Int) (a : Option Addr) (c b : Nat) (hl : l.length ≤ 1099511627776) (hL : L.length ≤ 1099511627776) (hS : NsAt W a S) (hI : IvS l L S) (hne : S ≠ []) (hb : b < 256) :
    Calls Tryd.prog 76 #[.agg #[.bool o, .bool i, .string (bq l), .bool O, .bool I, .string (bq L)], .slice a S.length c, .int .u8 (b : Nat)] W fun e w' => StK W w' (nxS l L I S b) e := by
  rcases hI with h | ⟨x, y, rfl, hx, hy⟩
  · exact absurd h hne
  · obtain ⟨bS, oS, rfl, hc⟩ := hS hne
    have KB := Kept.alloc W (.cells #[.bool o, .bool i, .string (bq l), .bool O, .bool I, .string (bq L)] 92)
    have h1 := heap_alloc_new W (.cells #[.bool o, .bool i, .string (bq l), .bool O, .bool I, .string (bq L)] 92)
    have CB := fun V => hideG (beside_any l x b V hl hx hb)
    have CC := fun V => hideG (beside_any L y b V hL hy hb)
    have hzL : (bq L).size = L.length := bq_size L
    have HR : Hid (nxS l L I [x, y] b = if (bsd l x b).2 < 0 ∨ 0 < (bsd L y b).2 then [] else if (bsd L y b).1 = ((bq L).size : Int) ∧ I = false then [] else [(bsd l x b).1, (bsd L y b).1]) := hideG (by unfold nxS; rw [hzL])
    rw [HR.out]
    clear HR hzL
    generalize (bsd l x b) = pl at *
    generalize (bsd L y b) = ph at *
    generalize bq l = t at *
    generalize bq L = T at *
    obtain ⟨lo, ro⟩ := pl
    obtain ⟨zh, rh⟩ := ph
    simp only at CB CC ⊢
    obtain ⟨R, hR⟩ : ∃ R : List Int, R = if ro < 0 ∨ 0 < rh then [] else if zh = (T.size : Int) ∧ I = false then [] else [lo, zh] := ⟨_, rfl⟩
    rw [← hR]
    have HRr := hideG hR
    clear hR
    have HC : Hid (∀ V : World, Kept (fun _ => False) (W.alloc (.cells #[.bool o, .bool i, .string t, .bool O, .bool I, .string T] 92)) V → V.cell? ⟨W.heap.size, 2, none⟩ = some (.string t) ∧ V.cell? ⟨W.heap.size, 4, none⟩ = some (.bool I) ∧ V.cell? ⟨W.heap.size, 5, none⟩ = some (.string T) ∧ V.cell? ⟨bS, oS, none⟩ = some (.int .i64 x) ∧ V.cell? ⟨bS, oS + 1, none⟩ = some (.int .i64 y)) := hideG (fun V k => by
      have g1 := k.heap h1 (fun f => f)
      exact ⟨by simp [World.cell?, g1], by simp [World.cell?, g1], by simp [World.cell?, g1], k.cell (KB.cell (hc 0 (by simp)) (fun f => f)) (fun f => f), k.cell (KB.cell (hc 1 (by simp)) (fun f => f)) (fun f => f)⟩)
    have HKB := hideG KB
    clear KB h1 hc hS hx hy
    go_enter Tryd.func76, Tryd.ntmps76
    go_wp2
    generalize World.alloc W (.cells #[.bool o, .bool i, .string t, .bool O, .bool I, .string T] 92) = V at *
    have hS6 : Kept (fun _ => False) V V.drew := Kept.drewA V 1
    refine wp_region_held (S := fun W' => Kept (fun _ => False) V W') (by kernel_rfl) ?_
    change wpAnyH _ _ _ _ _ _ _ _ (World.drew _)
    refine takeHA (i := 0) (d := 12) (v := .pointer (some ⟨W.heap.size, 0, none⟩)) rfl rfl (by kernel_rfl) (by kernel_rfl) (by kernel_rfl) (fun _ _ _ h => h) (Or.inl ⟨by rfl, fun W hW => ?_⟩) hS6 ?_
    · go_simp
    simp only [Act.put, List.setIfInBounds_toArray, List.set_cons_zero, List.set_cons_succ]
    refine takeHA (i := 1) (d := 13) (v := .pointer (some ⟨W.heap.size, 2, none⟩)) rfl rfl (by kernel_rfl) (by kernel_rfl) (by kernel_rfl) (fun _ _ _ h => h) (Or.inl ⟨by rfl, fun W hW => ?_⟩) hS6 ?_
    · go_simp
    simp only [Act.put, List.setIfInBounds_toArray, List.set_cons_zero, List.set_cons_succ]
    refine takeHA (i := 2) (d := 14) (v := .string t) rfl rfl (by kernel_rfl) (by kernel_rfl) (by kernel_rfl) (fun _ _ _ h => h) (Or.inl ⟨by rfl, fun W hW => ?_⟩) hS6 ?_
    · (obtain ⟨q0, q1, q2, q3, q4⟩ := HC.out _ hW; go_simp)
    simp only [Act.put, List.setIfInBounds_toArray, List.set_cons_zero, List.set_cons_succ]
    refine takeHA (i := 3) (d := 15) (v := .slice (some ⟨bS, oS, none⟩) 2 c) rfl rfl (by kernel_rfl) (by kernel_rfl) (by kernel_rfl) (fun _ _ _ h => h) (Or.inl ⟨by rfl, fun W hW => ?_⟩) hS6 ?_
    · go_simp
    simp only [Act.put, List.setIfInBounds_toArray, List.set_cons_zero, List.set_cons_succ]
    refine takeHA (i := 4) (d := 16) (v := .pointer (some ⟨bS, oS, none⟩)) rfl rfl (by kernel_rfl) (by kernel_rfl) (by kernel_rfl) (fun _ _ _ h => h) (Or.inl ⟨by rfl, fun W hW => ?_⟩) hS6 ?_
    · go_simp
    simp only [Act.put, List.setIfInBounds_toArray, List.set_cons_zero, List.set_cons_succ]
    refine takeHA (i := 5) (d := 17) (v := .int .i64 x) rfl rfl (by kernel_rfl) (by kernel_rfl) (by kernel_rfl) (fun _ _ _ h => h) (Or.inl ⟨by rfl, fun W hW => ?_⟩) hS6 ?_
    · (obtain ⟨q0, q1, q2, q3, q4⟩ := HC.out _ hW; go_simp)
    simp only [Act.put, List.setIfInBounds_toArray, List.set_cons_zero, List.set_cons_succ]
    refine takeHA (i := 6) (d := 18) (v := .int .u8 b) rfl rfl (by kernel_rfl) (by kernel_rfl) (by kernel_rfl) (fun _ _ _ h => h) (Or.inl ⟨by rfl, fun W hW => ?_⟩) hS6 ?_
    · go_simp
    simp only [Act.put, List.setIfInBounds_toArray, List.set_cons_zero, List.set_cons_succ]
    refine wpAnyH_all (rs := [7]) (by kernel_rfl) (by simp) ?_
    intro i hi
    obtain rfl : i = 7 := by simpa using hi
    unfold wpOp
    go_simp
    first | refine (CB _).out.mono ?_ | refine Or.inl ((CB _).out.mono ?_)
    rintro e W2 ⟨rfl, e9⟩
    subst e9
    refine ⟨hS6, ?_⟩
    refine takeHA (i := 8) (d := 11) (v := .tuple #[.int .i64 lo, .int .i64 ro]) rfl rfl (by kernel_rfl) (by kernel_rfl) (by kernel_rfl) (fun _ _ _ h => h) (Or.inl ⟨by rfl, fun W hW => ?_⟩) hS6 ?_
    · go_simp
    simp only [Act.put, List.setIfInBounds_toArray, List.set_cons_zero, List.set_cons_succ]
    refine takeHA (i := 9) (d := 20) (v := .int .i64 lo) rfl rfl (by kernel_rfl) (by kernel_rfl) (by kernel_rfl) (fun _ _ _ h => h) (Or.inl ⟨by rfl, fun W hW => ?_⟩) hS6 ?_
    · go_simp
    simp only [Act.put, List.setIfInBounds_toArray, List.set_cons_zero, List.set_cons_succ]
    refine takeHA (i := 10) (d := 21) (v := .int .i64 ro) rfl rfl (by kernel_rfl) (by kernel_rfl) (by kernel_rfl) (fun _ _ _ h => h) (Or.inl ⟨by rfl, fun W hW => ?_⟩) hS6 ?_
    · go_simp
    simp only [Act.put, List.setIfInBounds_toArray, List.set_cons_zero, List.set_cons_succ]
    refine takeHA (i := 11) (d := 7) (v := .int .i64 lo) rfl rfl (by kernel_rfl) (by kernel_rfl) (by kernel_rfl) (fun _ _ _ h => h) (Or.inl ⟨by rfl, fun W hW => ?_⟩) hS6 ?_
    · go_simp
    simp only [Act.put, List.setIfInBounds_toArray, List.set_cons_zero, List.set_cons_succ]
    refine takeHA (i := 12) (d := 8) (v := .int .i64 ro) rfl rfl (by kernel_rfl) (by kernel_rfl) (by kernel_rfl) (fun _ _ _ h => h) (Or.inl ⟨by rfl, fun W hW => ?_⟩) hS6 ?_
    · go_simp
    simp only [Act.put, List.setIfInBounds_toArray, List.set_cons_zero, List.set_cons_succ]
    refine wpAnyH_done (by kernel_rfl) ?_ _
    go_wp2
    have hS7 : Kept (fun _ => False) V V.drew.drew := hS6.trans (Kept.drewA V.drew 1) (fun _ f => f.elim)
    refine wp_region_held (S := fun W' => Kept (fun _ => False) V W') (by kernel_rfl) ?_
    change wpAnyH _ _ _ _ _ _ _ _ (World.drew _)
    refine takeHA (i := 0) (d := 23) (v := .pointer (some ⟨W.heap.size, 3, none⟩)) rfl rfl (by kernel_rfl) (by kernel_rfl) (by kernel_rfl) (fun _ _ _ h => h) (Or.inl ⟨by rfl, fun W hW => ?_⟩) hS7 ?_
    · go_simp
    simp only [Act.put, List.setIfInBounds_toArray, List.set_cons_zero, List.set_cons_succ]
    refine takeHA (i := 1) (d := 24) (v := .pointer (some ⟨W.heap.size, 5, none⟩)) rfl rfl (by kernel_rfl) (by kernel_rfl) (by kernel_rfl) (fun _ _ _ h => h) (Or.inl ⟨by rfl, fun W hW => ?_⟩) hS7 ?_
    · go_simp
    simp only [Act.put, List.setIfInBounds_toArray, List.set_cons_zero, List.set_cons_succ]
    refine takeHA (i := 2) (d := 25) (v := .string T) rfl rfl (by kernel_rfl) (by kernel_rfl) (by kernel_rfl) (fun _ _ _ h => h) (Or.inl ⟨by rfl, fun W hW => ?_⟩) hS7 ?_
    · (obtain ⟨q0, q1, q2, q3, q4⟩ := HC.out _ hW; go_simp)
    simp only [Act.put, List.setIfInBounds_toArray, List.set_cons_zero, List.set_cons_succ]
    refine takeHA (i := 3) (d := 26) (v := .slice (some ⟨bS, oS, none⟩) 2 c) rfl rfl (by kernel_rfl) (by kernel_rfl) (by kernel_rfl) (fun _ _ _ h => h) (Or.inl ⟨by rfl, fun W hW => ?_⟩) hS7 ?_
    · go_simp
    simp only [Act.put, List.setIfInBounds_toArray, List.set_cons_zero, List.set_cons_succ]
    refine takeHA (i := 4) (d := 27) (v := .pointer (some ⟨bS, oS + 1, none⟩)) rfl rfl (by kernel_rfl) (by kernel_rfl) (by kernel_rfl) (fun _ _ _ h => h) (Or.inl ⟨by rfl, fun W hW => ?_⟩) hS7 ?_
    · go_simp
    simp only [Act.put, List.setIfInBounds_toArray, List.set_cons_zero, List.set_cons_succ]
    refine takeHA (i := 5) (d := 28) (v := .int .i64 y) rfl rfl (by kernel_rfl) (by kernel_rfl) (by kernel_rfl) (fun _ _ _ h => h) (Or.inl ⟨by rfl, fun W hW => ?_⟩) hS7 ?_
    · (obtain ⟨q0, q1, q2, q3, q4⟩ := HC.out _ hW; go_simp)
    simp only [Act.put, List.setIfInBounds_toArray, List.set_cons_zero, List.set_cons_succ]
    refine takeHA (i := 6) (d := 29) (v := .int .u8 b) rfl rfl (by kernel_rfl) (by kernel_rfl) (by kernel_rfl) (fun _ _ _ h => h) (Or.inl ⟨by rfl, fun W hW => ?_⟩) hS7 ?_
    · go_simp
    simp only [Act.put, List.setIfInBounds_toArray, List.set_cons_zero, List.set_cons_succ]
    refine wpAnyH_all (rs := [7]) (by kernel_rfl) (by simp) ?_
    intro i hi
    obtain rfl : i = 7 := by simpa using hi
    unfold wpOp
    go_simp
    first | refine (CC _).out.mono ?_ | refine Or.inl ((CC _).out.mono ?_)
    rintro e W3 ⟨rfl, e9⟩
    subst e9
    refine ⟨hS7, ?_⟩
    refine takeHA (i := 8) (d := 22) (v := .tuple #[.int .i64 zh, .int .i64 rh]) rfl rfl (by kernel_rfl) (by kernel_rfl) (by kernel_rfl) (fun _ _ _ h => h) (Or.inl ⟨by rfl, fun W hW => ?_⟩) hS7 ?_
    · go_simp
    simp only [Act.put, List.setIfInBounds_toArray, List.set_cons_zero, List.set_cons_succ]
    refine takeHA (i := 9) (d := 31) (v := .int .i64 zh) rfl rfl (by kernel_rfl) (by kernel_rfl) (by kernel_rfl) (fun _ _ _ h => h) (Or.inl ⟨by rfl, fun W hW => ?_⟩) hS7 ?_
    · go_simp
    simp only [Act.put, List.setIfInBounds_toArray, List.set_cons_zero, List.set_cons_succ]
    refine takeHA (i := 10) (d := 32) (v := .int .i64 rh) rfl rfl (by kernel_rfl) (by kernel_rfl) (by kernel_rfl) (fun _ _ _ h => h) (Or.inl ⟨by rfl, fun W hW => ?_⟩) hS7 ?_
    · go_simp
    simp only [Act.put, List.setIfInBounds_toArray, List.set_cons_zero, List.set_cons_succ]
    refine takeHA (i := 11) (d := 9) (v := .int .i64 zh) rfl rfl (by kernel_rfl) (by kernel_rfl) (by kernel_rfl) (fun _ _ _ h => h) (Or.inl ⟨by rfl, fun W hW => ?_⟩) hS7 ?_
    · go_simp
    simp only [Act.put, List.setIfInBounds_toArray, List.set_cons_zero, List.set_cons_succ]
    refine takeHA (i := 12) (d := 10) (v := .int .i64 rh) rfl rfl (by kernel_rfl) (by kernel_rfl) (by kernel_rfl) (fun _ _ _ h => h) (Or.inl ⟨by rfl, fun W hW => ?_⟩) hS7 ?_
    · go_simp
    simp only [Act.put, List.setIfInBounds_toArray, List.set_cons_zero, List.set_cons_succ]
    refine wpAnyH_done (by kernel_rfl) ?_ _
    obtain ⟨q0, q1, q2, q3, q4⟩ := HC.out _ hS7
    by_cases h1 : ro < 0
    · have eR : R = [] := by rw [HRr.out, if_pos (show ro < 0 ∨ 0 < rh from .inl h1)]
      subst eR
      go_wp2
      go_ret
      exact ⟨⟨none, 0, rfl, fun h => absurd rfl h, Nat.le_refl _⟩, HKB.out.trans hS7 (fun _ f => f.elim)⟩
    · by_cases h2 : 0 < rh
      · have eR : R = [] := by rw [HRr.out, if_pos (show ro < 0 ∨ 0 < rh from .inr h2)]
        subst eR
        go_wp2
        go_ret
        exact ⟨⟨none, 0, rfl, fun h => absurd rfl h, Nat.le_refl _⟩, HKB.out.trans hS7 (fun _ f => f.elim)⟩
      · have hno : ¬ (ro < 0 ∨ 0 < rh) := by rintro (h | h) <;> contradiction
        by_cases h3 : zh = (T.size : Int)
        · have d3 : (zh == (T.size : Int)) = true := by simpa using h3
          cases I
          · have eR : R = [] := by rw [HRr.out, if_neg hno, if_pos ⟨h3, rfl⟩]
            subst eR
            clear h3
            go_wp2
            go_ret
            exact ⟨⟨none, 0, rfl, fun h => absurd rfl h, Nat.le_refl _⟩, HKB.out.trans hS7 (fun _ f => f.elim)⟩
          · have eR : R = [lo, zh] := by rw [HRr.out, if_neg hno, if_neg (by simp)]
            subst eR
            have HN := hideG (nsAt_two V.drew.drew lo zh)
            clear h3
            go_wp2
            go_ret
            exact ⟨⟨_, _, rfl, HN.out, Nat.le_refl _⟩, (HKB.out.trans hS7 (fun _ f => f.elim)).trans (Kept.alloc _ _) (fun _ f => f.elim)⟩
        · have d3 : (zh == (T.size : Int)) = false := by simpa using h3
          have eR : R = [lo, zh] := by rw [HRr.out, if_neg hno, if_neg (fun h => h3 h.1)]
          subst eR
          have HN := hideG (nsAt_two V.drew.drew lo zh)
          go_wp2
          go_ret
          exact ⟨⟨_, _, rfl, HN.out, Nat.le_refl _⟩, (HKB.out.trans hS7 (fun _ f => f.elim)).trans (Kept.alloc _ _) (fun _ f => f.elim)⟩
end Go.Proofs.YtacmmclamkhpcaaDoor
