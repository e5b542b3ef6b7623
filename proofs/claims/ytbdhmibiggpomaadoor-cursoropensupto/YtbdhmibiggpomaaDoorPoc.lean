import Derived.Test.YtbdhmibiggpomaaDoorMrg8
import Derived.Test.YtbdhmibiggpomaaDoorGro
import Derived.Test.YtbdhmibiggpomaaDoorAnyz
import Derived.BigQuiet
namespace Go.Proofs.YtbdhmibiggpomaaDoor
open Go.ChangeShapes Go.WideShapes Go.ChangeAt Go.RowKit

theorem hideP {p : Prop} (h : p) : Hid p := h
/-- A posting as it lies in memory. -/
structure Pg where
  d : Int
  a : Option Addr
  c : Nat
  ps : List Int
def Pg.po (g : Pg) : Po := ⟨g.d, g.ps⟩
def pol (L : List Pg) : List Po := L.map Pg.po
theorem pol_len (L : List Pg) : (pol L).length = L.length := by simp [pol]
def PsAt (w : World) (a : Option Addr) (L : List Pg) : Prop :=
  L ≠ [] → ∃ b off, a = some ⟨b, off, none⟩ ∧ ∀ k (h : k < L.length), w.cell? ⟨b, off + k * 2, none⟩ = some (.int .i64 L[k].d) ∧ w.cell? ⟨b, off + k * 2 + 1, none⟩ = some (.slice L[k].a L[k].ps.length L[k].c) ∧ IntsAt w L[k].a L[k].ps
theorem IntsAt.kept {w w' : World} {a : Option Addr} {l : List Int} (h : IntsAt w a l) (k : Kept (fun _ => False) w w') : IntsAt w' a l := h.of_same (fun _ _ hc _ => k.cell hc (fun f => f))
theorem PsAt.kept {w w' : World} {a : Option Addr} {L : List Pg} (h : PsAt w a L) (k : Kept (fun _ => False) w w') : PsAt w' a L := by
  intro hne
  obtain ⟨b, off, e, hc⟩ := h hne
  refine ⟨b, off, e, fun j hj => ?_⟩
  obtain ⟨x0, x1, x2⟩ := hc j hj
  exact ⟨k.cell x0 (fun f => f), k.cell x1 (fun f => f), x2.kept k⟩
/-- The number of what is wrong with a posting behind the document b: 0 nothing, 3 order, 7 range. -/
def flt (b : Int) (p : Po) : Nat :=
  if p.d < 0 ∨ 2147483646 < p.d then 7 else if p.d ≤ b then 3 else if p.ps = [] ∨ p.ps.any (fun x => decide (x < 0)) = true then 7 else if riseB p.ps = true then 0 else 3
def flts : Int → List Po → Nat
  | _, [] => 0
  | b, p :: r => if flt b p = 0 then flts p.d r else flt b p
def erN (a3 a7 : Addr) (k : Nat) : Value := if k = 0 then .nilIface else if k = 3 then errV a3 else errV a7
theorem flt_iff {b : Int} {p : Po} (hI : IsInts p.ps) : flt b p = 0 ↔ Gd1 b p := by
  unfold flt
  by_cases h1 : p.d < 0 ∨ 2147483646 < p.d
  · rw [if_pos h1]
    refine ⟨fun h => by omega, fun h => ?_⟩
    have := h.lo
    have := h.hi
    omega
  rw [if_neg h1]
  by_cases h2 : p.d ≤ b
  · rw [if_pos h2]
    refine ⟨fun h => by omega, fun h => ?_⟩
    have := h.up
    omega
  rw [if_neg h2]
  by_cases h3 : p.ps = [] ∨ p.ps.any (fun x => decide (x < 0)) = true
  · rw [if_pos h3]
    refine ⟨fun h => by omega, fun h => ?_⟩
    exfalso
    rcases h3 with h3 | h3
    · exact h.ne h3
    · rw [List.any_eq_true] at h3
      obtain ⟨x, hx, hn⟩ := h3
      have := (h.ri.mem x hx).1
      simp at hn
      omega
  rw [if_neg h3]
  have hne : p.ps ≠ [] := fun e => h3 (.inl e)
  have h0 : ∀ x ∈ p.ps, 0 ≤ x := by
    intro x hx
    rcases Int.lt_or_le x 0 with hn | hn
    · exact absurd (.inr (List.any_eq_true.2 ⟨x, hx, by simpa using hn⟩)) h3
    · exact hn
  by_cases h4 : riseB p.ps = true
  · rw [if_pos h4]
    exact ⟨fun _ => ⟨by omega, by omega, by omega, hne, ris_of hI h0 h4⟩, fun _ => rfl⟩
  · rw [if_neg h4]
    refine ⟨fun h => by omega, fun h => ?_⟩
    exact absurd h.ri.rise h4
theorem flts_iff : ∀ {L : List Po} {b : Int}, (∀ p ∈ L, IsInts p.ps) → (flts b L = 0 ↔ gdl b L)
  | [], _, _ => ⟨fun _ => trivial, fun _ => rfl⟩
  | p :: L, b, h => by
    have h1 := flt_iff (b := b) (h p (List.mem_cons_self ..))
    have h2 := flts_iff (L := L) (b := p.d) (fun q hq => h q (List.mem_cons_of_mem _ hq))
    rw [flts, gdl]
    by_cases h3 : flt b p = 0
    · rw [if_pos h3, h2]
      exact ⟨fun h => ⟨h1.1 h3, h⟩, fun h => h.2⟩
    · rw [if_neg h3]
      exact ⟨fun h => absurd h h3, fun h => absurd (h1.2 h.1) h3⟩
theorem flt_or (b : Int) (p : Po) : flt b p = 0 ∨ flt b p = 3 ∨ flt b p = 7 := by
  unfold flt
  split
  · exact .inr (.inr rfl)
  · split
    · exact .inr (.inl rfl)
    · split
      · exact .inr (.inr rfl)
      · split
        · exact .inl rfl
        · exact .inr (.inl rfl)
theorem flts_or : ∀ (L : List Po) (b : Int), flts b L = 0 ∨ flts b L = 3 ∨ flts b L = 7
  | [], _ => .inl rfl
  | p :: L, b => by
    rw [flts]
    split
    · exact flts_or L p.d
    · exact flt_or b p
theorem wpList_minP {P : Program} {W : World} {ops : Array Oper} {rest : List Oper} {o : Oper} {act : Act} {Q : Exit → Act → World → Prop} {ts : Array TypeId} (hgd : o.guard = none) (s t : Operand)
    (ho : o.op = .call { callee := .builtin .min, args := #[s, t], argTypes := ts }) (x y m : Int) (hs : act.eval s = .int .i64 x) (ht : act.eval t = .int .i64 y) (hm : m = if y < x then y else x)
    (h : wpList P ops Q rest (act.put o.dst (.int .i64 m)) W) : wpList P ops Q (o :: rest) act W := by
  refine wpList_plain hgd fun K hK => ?_
  have hr : ∀ ty, (Builtin.min_ ts ty #[.int .i64 x, .int .i64 y]).run P W = .ok (.int .i64 m) W := fun ty => by rw [hm]; simp [Builtin.min_, Builtin.min2]
  unfold Oper.wp execOp
  simp only [ho, resolve, invoke, builtin, Sem.run_bind, Sem.run_pure, Result.andThen_ok, List.map_toArray, List.map_cons, List.map_nil, hs, ht, hr]
  exact hK _ _ h
set_option maxRecDepth 20000 in
set_option maxHeartbeats 1000000 in
theorem min_any (l : List Int) (a : Option Addr) (c : Nat) (w : World) (h : IntsAt w a l) (hl : l.length ≤ 1099511627776) (hne : l ≠ []) :
    Calls Tryd.prog 55 #[.slice a l.length c] w fun e w' => (∃ m : Int, e = .returned (.int .i64 m) ∧ decide (m < 0) = l.any (fun x => decide (x < 0))) ∧ w' = w := by
  have h0 : 0 < l.length := List.length_pos_iff.2 hne
  obtain ⟨b, off, rfl, hc0⟩ := h.get h0
  have HH := hideP h
  obtain ⟨x0, hx0⟩ : ∃ x0, x0 = l[0]?.getD 0 := ⟨_, rfl⟩
  rw [← hx0, Nat.add_zero] at hc0
  have H1 : Hid (decide (x0 < 0) = (l.take 1).any (fun x => decide (x < 0))) := hideP (by
    have e := any_snoc (k := 0) (l := l) (fun x => decide (x < 0)) h0
    rw [Nat.zero_add] at e
    rw [e, ← hx0]
    simp)
  obtain ⟨n, hn⟩ : ∃ n, n = l.length := ⟨_, rfl⟩
  rw [← hn] at hl h0 ⊢
  have HN := hideP hn
  have hn1 : ¬ (n : Int) < 1 := by omega
  clear h hx0 hn hne
  go_enter Tryd.func55, Tryd.ntmps55
  go_wp2
  go_loop [3, 4] (fun mv i => ∃ (k : Nat) (m : Int), 1 ≤ k ∧ k ≤ n ∧ mv = .int .i64 m ∧ i = .int .i64 k ∧ Hid (decide (m < 0) = (l.take k).any (fun x => decide (x < 0)))) (fun _ i => n - (intOf i).toNat)
  case atStart => exact ⟨1, x0, by omega, by omega, rfl, rfl, H1⟩
  case round =>
    obtain ⟨k, m, hk1, hk, rfl, rfl, HM⟩ := hrel
    clear hc0
    by_cases hlt : k < n
    · have hkk : (k : Int) < (n : Int) := by omega
      obtain ⟨b', off', e, hc⟩ := HH.out.get (k := k) (by rw [← HN.out]; exact hlt)
      cases e
      obtain ⟨x, hx⟩ : ∃ x, x = l[k]?.getD 0 := ⟨_, rfl⟩
      rw [← hx] at hc
      obtain ⟨m', hm'⟩ : ∃ m', m' = if x < m then x else m := ⟨_, rfl⟩
      have HM2 : Hid (decide (m' < 0) = (l.take (k + 1)).any (fun x => decide (x < 0))) := hideP (by
        rw [any_snoc _ (by rw [← HN.out]; exact hlt), ← HM.out, ← hx, hm', Bool.eq_iff_iff]
        simp
        split <;> omega)
      have Hm' := hideP hm'
      clear hx hm' HM
      go_wp2_with (refine wpList_minP rfl _ _ rfl m x m' rfl rfl Hm'.out ?_)
      go_round
      case rel => exact ⟨k + 1, m', by omega, by omega, rfl, by go_num, HM2⟩
      case measure => simp [intOf]; omega
    · have hkk : ¬ (k : Int) < (n : Int) := by omega
      go_wp2
      go_ret
      refine ⟨⟨m, rfl, ?_⟩, rfl⟩
      rw [HM.out, List.take_of_length_le (by have := HN.out; omega)]
set_option maxHeartbeats 400000 in
theorem prises_any (l : List Int) (a : Option Addr) (c : Nat) (w : World) (h : IntsAt w a l) (hl : l.length ≤ 9223372036854775806) :
    Calls Tryd.prog 56 #[.slice a l.length c] w fun e w' => e = .returned (.bool (riseB l)) ∧ ∃ n, w' = w.drewN n := by
  have HH : Hid (IntsAt w a l) := h
  clear h
  go_enter Tryd.func56, Tryd.ntmps56
  go_wp2
  go_loopw [3] (fun i wr => (∃ n, wr = w.drewN n) ∧ ∃ k : Nat, (k = 0 ∨ k + 1 ≤ l.length) ∧ i = .int .i64 ((k : Int) + 1) ∧ ∀ j, j < k → l[j]?.getD 0 < l[j + 1]?.getD 0) (fun i _ => l.length + 1 - (intOf i).toNat)
  case atStart => exact ⟨⟨0, rfl⟩, 0, .inl rfl, rfl, fun j hj => by omega⟩
  case round =>
    obtain ⟨⟨n, rfl⟩, k, hk, rfl, hn⟩ := hrel
    have HN : Hid _ := hn
    clear hn
    by_cases hlt : k + 1 < l.length
    · obtain ⟨b, off, rfl, hc⟩ := HH.out.get (k := k) (by omega)
      obtain ⟨b', off', e, hc'⟩ := HH.out.get hlt
      cases e
      obtain ⟨x, hx⟩ : ∃ x, x = l[k]?.getD 0 := ⟨_, rfl⟩
      obtain ⟨y, hy⟩ : ∃ y, y = l[k + 1]?.getD 0 := ⟨_, rfl⟩
      rw [← hx] at hc
      rw [← hy] at hc'
      have HX : Hid (x = l[k]?.getD 0) := hx
      have HY : Hid (y = l[k + 1]?.getD 0) := hy
      clear hx hy
      by_cases hle : y ≤ x
      · go_wp2_with fail
        go_quiet (fail)
        go_wp2
        go_ret
        refine ⟨ret_bool ?_, _, by rw [World.drewN_drewN]⟩
        cases hr : riseB l with
        | false => rfl
        | true =>
          have := (riseB_iff l).1 hr k hlt
          rw [← HX.out, ← HY.out] at this
          omega
      · go_wp2_with fail
        go_quiet (fail)
        go_wp2
        go_roundw
        case rel =>
          refine ⟨⟨_, rfl⟩, k + 1, .inr (by omega), by go_num, fun j hj => ?_⟩
          by_cases e : j = k
          · subst e; rw [← HX.out, ← HY.out]; omega
          · exact HN.out j (by omega)
        case measure => simp [intOf]; omega
    · go_wp2
      go_ret
      refine ⟨ret_bool ?_, n, rfl⟩
      symm
      rw [riseB_iff]
      intro j hj
      exact HN.out j (by omega)
def pgO (d : Int) (a : Option Addr) (n c : Nat) : Obj := .cells #[.int .i64 d, .slice a n c] 42
set_option maxRecDepth 20000 in
set_option maxHeartbeats 1000000 in
theorem faultOf_any (d : Int) (a : Option Addr) (c : Nat) (ps : List Int) (b : Int) (a3 a7 : Addr) (w : World) (hA : IntsAt w a ps) (hl : ps.length ≤ 1099511627776) (g3 : w.cell? ⟨4, 0, none⟩ = some (errV a3)) (g7 : w.cell? ⟨8, 0, none⟩ = some (errV a7)) :
    Calls Tryd.prog 36 #[.agg #[.int .i64 d, .slice a ps.length c], .int .i64 b] w fun e w' => e = .returned (erN a3 a7 (flt b ⟨d, ps⟩)) ∧ Kept (fun _ => False) w w' := by
  have K0 := Kept.alloc w (.cells #[.int .i64 d, .slice a ps.length c] 42)
  have HA := hideP (hA.kept K0)
  have q3 := K0.cell g3 (fun f => f)
  have q7 := K0.cell g7 (fun f => f)
  have HK := hideP K0
  obtain ⟨V, hV⟩ : ∃ V, V = erN a3 a7 (flt b ⟨d, ps⟩) := ⟨_, rfl⟩
  rw [← hV]
  unfold flt at hV
  simp only at hV
  clear hA g3 g7 K0
  by_cases h1 : d < 0
  · rw [if_pos (.inl h1)] at hV
    have HV : Hid (V = errV a7) := hideP hV
    clear hV
    go_enter Tryd.func36, Tryd.ntmps36
    go_wp2
    go_ret
    exact ⟨by rw [HV.out]; rfl, HK.out⟩
  by_cases h2 : 2147483646 < d
  · rw [if_pos (.inr h2)] at hV
    have HV : Hid (V = errV a7) := hideP hV
    clear hV
    go_enter Tryd.func36, Tryd.ntmps36
    go_wp2
    go_ret
    exact ⟨by rw [HV.out]; rfl, HK.out⟩
  rw [if_neg (by omega)] at hV
  by_cases h3 : d ≤ b
  · rw [if_pos h3] at hV
    have HV : Hid (V = errV a3) := hideP hV
    clear hV
    go_enter Tryd.func36, Tryd.ntmps36
    go_wp2
    go_ret
    exact ⟨by rw [HV.out]; rfl, HK.out⟩
  rw [if_neg h3] at hV
  by_cases h4 : ps = []
  · rw [if_pos (.inl h4)] at hV
    have HV : Hid (V = errV a7) := hideP hV
    subst h4
    rw [List.length_nil] at *
    clear hV
    go_enter Tryd.func36, Tryd.ntmps36
    go_wp2
    go_ret
    exact ⟨by rw [HV.out]; rfl, HK.out⟩
  have CM := hideP (min_any ps a c _ HA.out hl h4)
  have CR := hideP (prises_any ps a c _ HA.out (by omega))
  have hp : 0 < ps.length := List.length_pos_iff.2 h4
  by_cases h5 : ps.any (fun x => decide (x < 0)) = true
  · rw [if_pos (.inr h5)] at hV
    rw [h5] at CM
    have HV : Hid (V = errV a7) := hideP hV
    clear hV CR h4 h5 HA
    generalize ps.length = n at *
    have hn0 : ¬ ((n : Int) = 0) := by omega
    have hn1 : ¬ (n = 0) := by omega
    go_enter Tryd.func36, Tryd.ntmps36
    go_wp2_with (go_at_call 55; refine CM.out.mono ?_; clear CM; rintro e W ⟨⟨m, rfl, hm⟩, rfl⟩; have hm2 : m < 0 := of_decide_eq_true hm)
    go_ret
    exact ⟨by rw [HV.out]; rfl, HK.out⟩
  have h5' : ps.any (fun x => decide (x < 0)) = false := by simpa using h5
  rw [if_neg (by intro h; exact h.elim h4 h5)] at hV
  rw [h5'] at CM
  cases h6 : riseB ps with
  | true =>
    rw [h6] at hV CR
    have HV : Hid (V = .nilIface) := hideP hV
    clear hV h4 h5 h5' HA h6
    generalize ps.length = n at *
    have hn0 : ¬ ((n : Int) = 0) := by omega
    have hn1 : ¬ (n = 0) := by omega
    go_enter Tryd.func36, Tryd.ntmps36
    go_wp2_with (first | (go_at_call 55; refine CM.out.mono ?_; clear CM; rintro e W ⟨⟨m, rfl, hm⟩, rfl⟩; have hm2 : ¬ m < 0 := of_decide_eq_false hm) | (go_at_call 56; refine CR.out.mono ?_; clear CR; rintro e W ⟨rfl, nq, rfl⟩))
    go_ret
    exact ⟨by rw [HV.out]; rfl, HK.out.trans (Kept.drewN _ _) (fun _ f => f.elim)⟩
  | false =>
    rw [h6] at hV CR
    have HV : Hid (V = errV a3) := hideP hV
    clear hV h4 h5 h5' HA h6
    generalize ps.length = n at *
    have hn0 : ¬ ((n : Int) = 0) := by omega
    have hn1 : ¬ (n = 0) := by omega
    go_enter Tryd.func36, Tryd.ntmps36
    go_wp2_with (first | (go_at_call 55; refine CM.out.mono ?_; clear CM; rintro e W ⟨⟨m, rfl, hm⟩, rfl⟩; have hm2 : ¬ m < 0 := of_decide_eq_false hm) | (go_at_call 56; refine CR.out.mono ?_; clear CR; rintro e W ⟨rfl, nq, rfl⟩; have q3' := (Kept.drewN (w.alloc (.cells #[.int .i64 d, .slice a n c] 42)) nq).cell q3 (fun f => f)))
    go_ret
    exact ⟨by rw [HV.out]; rfl, HK.out.trans (Kept.drewN _ _) (fun _ f => f.elim)⟩
end Go.Proofs.YtbdhmibiggpomaaDoor
