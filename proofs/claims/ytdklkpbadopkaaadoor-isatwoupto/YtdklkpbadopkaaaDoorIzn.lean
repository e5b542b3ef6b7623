import Derived.Test.YtdklkpbadopkaaaDoorIzj
import Derived.Test.YtdklkpbadopkaaaDoorIzm
namespace Go.Proofs.YtdklkpbadopkaaaDoor
open Go.ChangeShapes Go.WideShapes Go.ChangeAt Go.RowKit

/-- A cursor's leaf, a phrase, a program. -/
structure Lf where
  f : Int
  t : ByteArray
structure Nr where
  cs : List Int
  os : List Int
  sl : Int
structure Pg where
  av : List Int
  cu : List Lf
  nr : List Nr
  al : Bool
  dr : List Int
  co : List Int
def hbl (l : List Int) : Bool := l.any fun x => decide (x < 0)
def gdL (c : Lf) : Bool := decide (0 ≤ c.f)
def gdN (n : Nr) : Bool := decide (0 ≤ n.sl) && !hbl n.cs && !hbl n.os && decide (n.cs.length = n.os.length)
/-- Can it be listed, whatever its code is? -/
def gdT (p : Pg) : Bool := !hbl p.av && !hbl p.dr && p.cu.all gdL && p.nr.all gdN
def LfAt (w : World) (a : Option Addr) (l : List Lf) : Prop :=
  l ≠ [] → ∃ b off, a = some ⟨b, off, none⟩ ∧ ∀ (k : Nat) (h : k < l.length), w.cell? ⟨b, off + k * 2, none⟩ = some (.int .i64 l[k].f) ∧ w.cell? ⟨b, off + k * 2 + 1, none⟩ = some (.string l[k].t)
def NrAt (w : World) (a : Option Addr) (l : List Nr) : Prop :=
  l ≠ [] → ∃ b off, a = some ⟨b, off, none⟩ ∧ ∀ (k : Nat) (h : k < l.length), ∃ a1 c1 a2 c2, w.cell? ⟨b, off + k * 3, none⟩ = some (.slice a1 l[k].cs.length c1) ∧ w.cell? ⟨b, off + k * 3 + 1, none⟩ = some (.slice a2 l[k].os.length c2) ∧ w.cell? ⟨b, off + k * 3 + 2, none⟩ = some (.int .i64 l[k].sl) ∧ IntsAt w a1 l[k].cs ∧ IntsAt w a2 l[k].os
theorem IntsAt.keptI {w w' : World} {a : Option Addr} {l : List Int} (h : IntsAt w a l) (k : Kept (fun _ => False) w w') : IntsAt w' a l := h.of_same (fun _ _ hc _ => k.cell hc (fun f => f))
theorem LfAt.kept {w w' : World} {a : Option Addr} {l : List Lf} (h : LfAt w a l) (k : Kept (fun _ => False) w w') : LfAt w' a l := fun hn => by
  obtain ⟨b, off, e, hc⟩ := h hn
  exact ⟨b, off, e, fun i hi => ⟨k.cell (hc i hi).1 (fun f => f), k.cell (hc i hi).2 (fun f => f)⟩⟩
theorem NrAt.kept {w w' : World} {a : Option Addr} {l : List Nr} (h : NrAt w a l) (k : Kept (fun _ => False) w w') : NrAt w' a l := fun hn => by
  obtain ⟨b, off, e, hc⟩ := h hn
  refine ⟨b, off, e, fun i hi => ?_⟩
  obtain ⟨a1, c1, a2, c2, x0, x1, x2, i1, i2⟩ := hc i hi
  exact ⟨a1, c1, a2, c2, k.cell x0 (fun f => f), k.cell x1 (fun f => f), k.cell x2 (fun f => f), i1.keptI k, i2.keptI k⟩
theorem BytesAt.keptI {w w' : World} {a : Option Addr} {l : List Int} (h : BytesAt w a l) (k : Kept (fun _ => False) w w') : BytesAt w' a l := fun hn => by
  obtain ⟨b, off, e, hc⟩ := h hn
  exact ⟨b, off, e, fun i hi => k.cell (hc i hi) (fun f => f)⟩
/-- How great a program is. -/
def psz (p : Pg) : Nat := p.av.length + p.dr.length + (p.cu.map fun c => c.t.size + 1).sum + (p.nr.map fun n => n.cs.length + n.os.length + 1).sum + p.co.length
/-- A program as it lies. -/
structure PgAt (w : World) (p : Pg) (aA aC aN aD aO : Option Addr) : Prop where
  av : IntsAt w aA p.av
  cu : LfAt w aC p.cu
  nr : NrAt w aN p.nr
  dr : IntsAt w aD p.dr
  co : BytesAt w aO p.co
theorem PgAt.kept {w w' : World} {p : Pg} {aA aC aN aD aO : Option Addr} (h : PgAt w p aA aC aN aD aO) (k : Kept (fun _ => False) w w') : PgAt w' p aA aC aN aD aO :=
  ⟨h.av.keptI k, h.cu.kept k, h.nr.kept k, h.dr.keptI k, h.co.keptI k⟩
structure Pg.Ok (p : Pg) : Prop where
  av : IsInts p.av
  dr : IsInts p.dr
  cu : ∀ c ∈ p.cu, -9223372036854775808 ≤ c.f ∧ c.f ≤ 9223372036854775807
  nr : ∀ n ∈ p.nr, IsInts n.cs ∧ IsInts n.os ∧ -9223372036854775808 ≤ n.sl ∧ n.sl ≤ 9223372036854775807
  co : IsBytes p.co
  sz : psz p ≤ 67108864
theorem sum_mem {α : Type} (f : α → Nat) : ∀ (l : List α) (x : α), x ∈ l → f x ≤ (l.map f).sum
  | y :: r, x, h => by
    rw [List.map_cons, List.sum_cons]
    rcases List.mem_cons.1 h with e | e
    · rw [e]; omega
    · have := sum_mem f r x e; omega
theorem sum_len {α : Type} (f : α → Nat) (hf : ∀ x, 1 ≤ f x) : ∀ (l : List α), l.length ≤ (l.map f).sum
  | [] => by simp
  | y :: r => by
    have := sum_len f hf r
    have := hf y
    rw [List.map_cons, List.sum_cons, List.length_cons]; omega
theorem Pg.Ok.len {p : Pg} (h : p.Ok) : p.av.length ≤ 67108864 ∧ p.dr.length ≤ 67108864 ∧ p.cu.length ≤ 67108864 ∧ p.nr.length ≤ 67108864 ∧ p.co.length ≤ 67108864 := by
  have h1 := h.sz
  have h2 := sum_len (fun c : Lf => c.t.size + 1) (fun _ => by omega) p.cu
  have h3 := sum_len (fun n : Nr => n.cs.length + n.os.length + 1) (fun _ => by omega) p.nr
  unfold psz at h1
  omega
theorem Pg.Ok.nlen {p : Pg} (h : p.Ok) {n : Nr} (hn : n ∈ p.nr) : n.cs.length ≤ 67108864 ∧ n.os.length ≤ 67108864 := by
  have h1 := h.sz
  have h3 := sum_mem (fun n : Nr => n.cs.length + n.os.length + 1) p.nr n hn
  unfold psz at h1
  omega
set_option maxHeartbeats 400000 in
theorem ibelow_any (l : List Int) (a : Option Addr) (c : Nat) (w : World) (h : IntsAt w a l) (hl : l.length ≤ 9223372036854775807) :
    Calls Tryd.prog 40 #[.slice a l.length c] w fun e w' => e = .returned (.bool (hbl l)) ∧ w' = w := by
  have HH : Hid (IntsAt w a l) := h
  clear h
  unfold hbl
  go_enter Tryd.func40, Tryd.ntmps40
  go_wp2
  go_loop [7] (fun i => ∃ k : Nat, k ≤ l.length ∧ i = .int .i64 k ∧ (l.take k).any (fun x => decide (x < 0)) = false) (fun i => l.length - (intOf i).toNat)
  case atStart => exact ⟨0, Nat.zero_le _, rfl, rfl⟩
  case round =>
    obtain ⟨k, hk, rfl, hn⟩ := hrel
    have HN : Hid _ := hn
    clear hn
    by_cases hlt : k < l.length
    · obtain ⟨b, off, rfl, hc⟩ := HH.out.get hlt
      obtain ⟨x, hx⟩ : ∃ x, x = l[k]?.getD 0 := ⟨_, rfl⟩
      rw [← hx] at hc
      have HX : Hid (x = l[k]?.getD 0) := hx
      clear hx
      by_cases hneg : x < 0
      · go_wp2
        go_ret
        refine ⟨ret_bool ?_, rfl⟩
        have : x ∈ l := by rw [HX.out, List.getElem?_eq_getElem hlt]; exact List.getElem_mem hlt
        exact (List.any_eq_true.2 ⟨x, this, by simpa using hneg⟩).symm
      · go_wp2
        go_round
        case rel =>
          refine ⟨k + 1, by omega, by go_num, ?_⟩
          rw [any_snoc _ hlt, HN.out, ← HX.out]
          simpa using hneg
        case measure => simp [intOf]; omega
    · go_wp2
      go_ret
      refine ⟨ret_bool ?_, rfl⟩
      have e := HN.out
      rw [List.take_of_length_le (by omega)] at e
      exact e.symm
theorem all_take {α : Type} {f : α → Bool} {l : List α} {j : Nat} (h : j < l.length) (ha : (l.take j).all f = true) (hf : f l[j] = true) : (l.take (j + 1)).all f = true := by
  rw [List.take_succ_eq_append_getElem h, List.all_append, ha]; simp [hf]
theorem all_not {α : Type} {f : α → Bool} {l : List α} {x : α} (hx : x ∈ l) (hf : f x = false) : l.all f = false := by
  rw [List.all_eq_false]; exact ⟨x, hx, by simp [hf]⟩
set_option maxRecDepth 20000 in
set_option maxHeartbeats 8000000 in
theorem good_any (p : Pg) (aA aC aN aD aO : Option Addr) (cA cC cN cD cO : Nat) (w : World) (hP : PgAt w p aA aC aN aD aO) (hO : p.Ok) :
    Calls Tryd.prog 15 #[.agg #[.slice aA p.av.length cA, .slice aC p.cu.length cC, .slice aN p.nr.length cN, .bool p.al, .slice aD p.dr.length cD, .slice aO p.co.length cO]] w fun e w' => e = .returned (.bool (gdT p)) ∧ Kept (fun _ => False) w w' := by
  obtain ⟨l1, l2, l3, l4, l5⟩ := hO.len
  have KA := Kept.alloc w (.cells #[.slice aA p.av.length cA, .slice aC p.cu.length cC, .slice aN p.nr.length cN, .bool p.al, .slice aD p.dr.length cD, .slice aO p.co.length cO] 27)
  have HPx := hideI (hP.kept KA)
  have H1 := hideI (ibelow_any p.av aA cA _ HPx.out.av (by omega))
  have H2 := hideI (ibelow_any p.dr aD cD _ HPx.out.dr (by omega))
  have HKA := hideI KA
  have HO := hideI hO
  have HC := hideI HPx.out.cu
  have HN := hideI HPx.out.nr
  clear KA hP HPx hO
  have HG : Hid (gdT p = (!hbl p.av && !hbl p.dr && p.cu.all gdL && p.nr.all gdN)) := hideI rfl
  generalize gdT p = G at *
  cases h1 : hbl p.av with
  | true =>
    rw [h1] at H1 HG
    have hG : G = false := by rw [HG.out]; rfl
    subst hG
    clear h1
    go_enter Tryd.func15, Tryd.ntmps15
    go_wp2_with (go_at_call 40; refine H1.out.mono ?_; rintro e W1 ⟨rfl, rfl⟩)
    go_ret
    exact ⟨rfl, HKA.out⟩
  | false =>
    rw [h1] at H1 HG
    cases h2 : hbl p.dr with
    | true =>
      rw [h2] at H2 HG
      have hG : G = false := by rw [HG.out]; rfl
      subst hG
      clear h1 h2
      go_enter Tryd.func15, Tryd.ntmps15
      go_wp2_with (first
        | (go_at_call 40; refine H1.out.mono ?_; clear H1; rintro e W1 ⟨rfl, rfl⟩)
        | (go_at_call 40; refine H2.out.mono ?_; clear H2; rintro e W1 ⟨rfl, rfl⟩))
      go_ret
      exact ⟨rfl, HKA.out⟩
    | false =>
      rw [h2] at H2 HG
      have HBX : Hid ((w.alloc (.cells #[.slice aA p.av.length cA, .slice aC p.cu.length cC, .slice aN p.nr.length cN, .bool p.al, .slice aD p.dr.length cD, .slice aO p.co.length cO] 27)).heap[w.heap.size]? = some (.cells #[.slice aA p.av.length cA, .slice aC p.cu.length cC, .slice aN p.nr.length cN, .bool p.al, .slice aD p.dr.length cD, .slice aO p.co.length cO] 27 (0, 0))) := hideI (heap_alloc_new w _)
      clear h1 h2
      go_enter Tryd.func15, Tryd.ntmps15
      go_wp2_with (first
        | (go_at_call 40; refine H1.out.mono ?_; clear H1; rintro e W1 ⟨rfl, rfl⟩)
        | (go_at_call 40; refine H2.out.mono ?_; clear H2; rintro e W1 ⟨rfl, rfl⟩))
      obtain ⟨V, hV⟩ : ∃ V, V = w.alloc (.cells #[.slice aA p.av.length cA, .slice aC p.cu.length cC, .slice aN p.nr.length cN, .bool p.al, .slice aD p.dr.length cD, .slice aO p.co.length cO] 27) := ⟨_, rfl⟩
      rw [← hV] at HKA HC HN HBX ⊢
      clear hV
      obtain ⟨nC, hnC⟩ : ∃ nC, nC = p.cu.length := ⟨_, rfl⟩
      obtain ⟨nN, hnN⟩ : ∃ nN, nN = p.nr.length := ⟨_, rfl⟩
      have HNC := hideI hnC
      have HNN := hideI hnN
      rw [← hnC, ← hnN] at HBX ⊢
      rw [← hnC] at l3
      rw [← hnN] at l4
      clear hnC hnN
      go_loopw [18] (fun v18 wr => ∃ (j : Nat), j ≤ nC ∧ v18 = .int .i64 j ∧ Hid ((p.cu.take j).all gdL = true) ∧ Hid (Kept (fun _ => False) V wr)) (fun v18 _ => nC - (intOf v18).toNat)
      case atStart => exact ⟨0, by omega, rfl, hideI (by simp), hideI (Kept.refl _ _)⟩
      case round =>
        obtain ⟨j, hj, rfl, HA, HK⟩ := hrel
        by_cases hlt : j < nC
        · have hjl : j < p.cu.length := by rw [← HNC.out]; exact hlt
          have hji : (j : Int) < (nC : Int) := by omega
          obtain ⟨fb, fo, ea, hc⟩ := HC.out (by intro e; rw [e] at hjl; simp at hjl)
          obtain ⟨x0, x1⟩ := hc j hjl
          subst ea
          have x0 := HK.out.cell x0 (fun f => f)
          have x1 := HK.out.cell x1 (fun f => f)
          have HAn : Hid (gdL p.cu[j] = true → (p.cu.take (j + 1)).all gdL = true) := hideI (fun e => all_take hjl HA.out e)
          have HAb : Hid (gdL p.cu[j] = false → p.cu.all gdL = false) := hideI (fun e => all_not (List.getElem_mem hjl) e)
          have HGL : Hid (gdL p.cu[j] = decide (0 ≤ p.cu[j].f)) := hideI rfl
          generalize p.cu[j] = c at *
          obtain ⟨f, t⟩ := c
          simp only at x0 x1 HGL
          clear hc
          by_cases hneg : f < 0
          · have HGf : Hid (G = false) := hideI (by rw [HG.out, HAb.out (by rw [HGL.out]; exact decide_eq_false (by omega))]; simp)
            go_wp2
            go_ret
            rw [HGf.out]
            exact ⟨rfl, (HKA.out.trans HK.out (fun _ f => f.elim)).trans (Kept.alloc _ _) (fun _ f => f.elim)⟩
          · have HA2 := hideI (HAn.out (by rw [HGL.out]; exact decide_eq_true (by omega)))
            go_wp2
            go_roundw
            case rel => exact ⟨j + 1, hlt, by go_num, HA2, hideI (HK.out.trans (Kept.alloc _ _) (fun _ f => f.elim))⟩
            case measure => simp [intOf]; omega
        · obtain rfl : j = nC := by omega
          have hT : p.cu.take j = p.cu := List.take_of_length_le (by rw [HNC.out]; exact Nat.le_refl _)
          rw [hT] at HA
          have hxx := HK.out.heap HBX.out (fun f => f)
          have y2 : wr.cell? ⟨w.heap.size, 2, none⟩ = some (.slice aN nN cN) := by simp [World.cell?, hxx]
          clear hxx
          obtain ⟨V1, hV1⟩ : ∃ V1, V1 = wr := ⟨_, rfl⟩
          rw [← hV1] at y2 HK ⊢
          clear hV1
          go_wp2
          go_loopw [29] (fun v29 wr => ∃ (j : Nat), j ≤ nN ∧ v29 = .int .i64 j ∧ Hid ((p.nr.take j).all gdN = true) ∧ Hid (Kept (fun _ => False) V wr)) (fun v29 _ => nN - (intOf v29).toNat)
          case atStart => exact ⟨0, by omega, rfl, hideI (by simp), HK⟩
          case round =>
            obtain ⟨i, hi, rfl, HA2, HK2⟩ := hrel
            by_cases hlt2 : i < nN
            · have hil : i < p.nr.length := by rw [← HNN.out]; exact hlt2
              have hii : (i : Int) < (nN : Int) := by omega
              obtain ⟨fb, fo, ea, hc⟩ := HN.out (by intro e; rw [e] at hil; simp at hil)
              obtain ⟨a1, c1, a2, c2, x0, x1, x2, i1, i2⟩ := hc i hil
              subst ea
              have x0 := HK2.out.cell x0 (fun f => f)
              have x1 := HK2.out.cell x1 (fun f => f)
              have x2 := HK2.out.cell x2 (fun f => f)
              have HAn : Hid (gdN p.nr[i] = true → (p.nr.take (i + 1)).all gdN = true) := hideI (fun e => all_take hil HA2.out e)
              have HAb : Hid (gdN p.nr[i] = false → p.nr.all gdN = false) := hideI (fun e => all_not (List.getElem_mem hil) e)
              have HGN : Hid (gdN p.nr[i] = (decide (0 ≤ p.nr[i].sl) && !hbl p.nr[i].cs && !hbl p.nr[i].os && decide (p.nr[i].cs.length = p.nr[i].os.length))) := hideI rfl
              have hnl := HO.out.nlen (List.getElem_mem hil)
              generalize p.nr[i] = nn at *
              obtain ⟨cs, os, sl⟩ := nn
              simp only at x0 x1 x2 i1 i2 HGN hnl
              have HKx := hideI (HK2.out.trans (Kept.alloc wr (.cells #[.slice a1 cs.length c1, .slice a2 os.length c2, .int .i64 sl] 62)) (fun _ f => f.elim))
              have HB1 := hideI (ibelow_any cs a1 c1 _ (i1.keptI HKx.out) (by omega))
              have HB2 := hideI (ibelow_any os a2 c2 _ (i2.keptI HKx.out) (by omega))
              have HBad : Hid (gdN ⟨cs, os, sl⟩ = false → G = false) := hideI (fun e => by rw [HG.out, HAb.out e]; simp)
              clear hc i1 i2 HAb
              generalize gdN ⟨cs, os, sl⟩ = gn at *
              by_cases hneg : sl < 0
              · have HGf : Hid (G = false) := hideI (HBad.out (by rw [HGN.out, decide_eq_false (by omega)]; rfl))
                go_wp2
                go_ret
                rw [HGf.out]
                exact ⟨rfl, HKA.out.trans HKx.out (fun _ f => f.elim)⟩
              · have hneg2 : 0 ≤ sl := by omega
                have hds : decide (0 ≤ sl) = true := decide_eq_true hneg2
                rw [hds] at HGN
                clear hds hneg2
                cases hb1 : hbl cs with
                | true =>
                  rw [hb1] at HB1 HGN
                  have HGf : Hid (G = false) := hideI (HBad.out (by rw [HGN.out]; rfl))
                  clear hb1
                  go_wp2_with (go_at_call 40; refine HB1.out.mono ?_; clear HB1; rintro e W1 ⟨rfl, rfl⟩)
                  go_ret
                  rw [HGf.out]
                  exact ⟨rfl, HKA.out.trans HKx.out (fun _ f => f.elim)⟩
                | false =>
                  rw [hb1] at HB1 HGN
                  cases hb2 : hbl os with
                  | true =>
                    rw [hb2] at HB2 HGN
                    have HGf : Hid (G = false) := hideI (HBad.out (by rw [HGN.out]; rfl))
                    clear hb1 hb2
                    go_wp2_with (first
                      | (go_at_call 40; refine HB1.out.mono ?_; clear HB1; rintro e W1 ⟨rfl, rfl⟩)
                      | (go_at_call 40; refine HB2.out.mono ?_; clear HB2; rintro e W1 ⟨rfl, rfl⟩))
                    go_ret
                    rw [HGf.out]
                    exact ⟨rfl, HKA.out.trans HKx.out (fun _ f => f.elim)⟩
                  | false =>
                    rw [hb2] at HB2 HGN
                    clear hb1 hb2
                    obtain ⟨n1, hn1⟩ : ∃ n1, n1 = cs.length := ⟨_, rfl⟩
                    obtain ⟨n2, hn2⟩ : ∃ n2, n2 = os.length := ⟨_, rfl⟩
                    rw [← hn1, ← hn2] at HGN HB1 HB2 HKx
                    rw [← hn1] at x0
                    rw [← hn2] at x1
                    clear hn1 hn2 hnl
                    by_cases hll : n1 = n2
                    · have HA3 := hideI (HAn.out (by rw [HGN.out, decide_eq_true hll]; rfl))
                      subst hll
                      have hne : ((n1 : Int) != (n1 : Int)) = false := by simp
                      go_wp2_with (first
                        | (go_at_call 40; refine HB1.out.mono ?_; clear HB1; rintro e W1 ⟨rfl, rfl⟩)
                        | (go_at_call 40; refine HB2.out.mono ?_; clear HB2; rintro e W1 ⟨rfl, rfl⟩))
                      go_roundw
                      case rel => exact ⟨i + 1, hlt2, by go_num, HA3, HKx⟩
                      case measure => simp [intOf]; omega
                    · have HGf : Hid (G = false) := hideI (HBad.out (by rw [HGN.out, decide_eq_false hll]; rfl))
                      have hne : ((n1 : Int) != (n2 : Int)) = true := by rw [bne_iff_ne]; omega
                      have hne2 : ((n1 : Int) == (n2 : Int)) = false := by rw [beq_eq_false_iff_ne]; omega
                      go_wp2_with (first
                        | (go_at_call 40; refine HB1.out.mono ?_; clear HB1; rintro e W1 ⟨rfl, rfl⟩)
                        | (go_at_call 40; refine HB2.out.mono ?_; clear HB2; rintro e W1 ⟨rfl, rfl⟩))
                      go_ret
                      rw [HGf.out]
                      exact ⟨rfl, HKA.out.trans HKx.out (fun _ f => f.elim)⟩
            · obtain rfl : i = nN := by omega
              have hT2 : p.nr.take i = p.nr := List.take_of_length_le (by rw [HNN.out]; exact Nat.le_refl _)
              rw [hT2] at HA2
              have HGt : Hid (G = true) := hideI (by rw [HG.out, HA.out, HA2.out]; rfl)
              go_wp2
              go_ret
              rw [HGt.out]
              exact ⟨rfl, HKA.out.trans HK2.out (fun _ f => f.elim)⟩
end Go.Proofs.YtdklkpbadopkaaaDoor
