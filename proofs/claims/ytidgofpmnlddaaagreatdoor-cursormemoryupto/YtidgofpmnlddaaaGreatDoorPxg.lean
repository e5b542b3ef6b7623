import Derived.Test.YtidgofpmnlddaaaGreatDoorPxf
import Derived.Test.YtidgofpmnlddaaaGreatDoorMrg11
import Derived.Test.YtidgofpmnlddaaaGreatDoorMrg8
namespace Go.Proofs.YtidgofpmnlddaaaGreatDoor
open Go.ChangeShapes Go.WideShapes Go.ChangeAt Go.RowKit

theorem preI_some {a : List Int} {o : Option (List Int × Nat)} {y : List Int × Nat} (h : preI a o = some y) : ∃ z, o = some z ∧ y = (a ++ z.1, z.2) := by
  cases o with
  | none => cases h
  | some z => exact ⟨z, rfl, (Option.some.inj h).symm⟩
theorem preP_some {a : List Po} {o : Option (List Po × Nat)} {y : List Po × Nat} (h : preP a o = some y) : ∃ z, o = some z ∧ y = (a ++ z.1, z.2) := by
  cases o with
  | none => cases h
  | some z => exact ⟨z, rfl, (Option.some.inj h).symm⟩
theorem dps_len {l : List Int} : ∀ {k : Nat} {last : Int} {p : Nat} {y : List Int × Nat}, dps l k last p = some y → y.1.length = k
  | 0, last, p, y, h => by
    rw [dps] at h
    injection h with h
    subst h
    rfl
  | k + 1, last, p, y, h => by
    cases hd : dnu l p with
    | none => rw [dps_none hd] at h; cases h
    | some xq =>
      obtain ⟨x, q⟩ := xq
      rw [dps_some hd] at h
      split at h
      · cases h
      · obtain ⟨z, hz, rfl⟩ := preI_some h
        have := dps_len hz
        simp
        omega
theorem dbs_ok {l : List Int} : ∀ {G M : List Int} {b : Int} {p : Nat} {y : List Po × Nat}, dbs l b G M p = some y → -1 ≤ b → b ≤ 2147483646 → (∀ g ∈ G, 0 ≤ g) → y.1.length ≤ tot y.1 ∧ -1 ≤ lastd b y.1 ∧ lastd b y.1 ≤ 2147483646
  | [], M, b, p, y, h, h1, h2, _ => by
    have e : dbs l b [] M p = some ([], p) := by cases M <;> rfl
    rw [e] at h
    injection h with h
    subst h
    exact ⟨Nat.le_refl _, h1, h2⟩
  | g :: G, [], b, p, y, h, h1, h2, _ => by
    have e : dbs l b (g :: G) [] p = some ([], p) := rfl
    rw [e] at h
    injection h with h
    subst h
    exact ⟨Nat.le_refl _, h1, h2⟩
  | g :: G, m :: M, b, p, y, h, h1, h2, hg => by
    rw [dbs] at h
    split at h
    · cases h
    · rename_i hno
      have hg0 := hg g List.mem_cons_self
      cases hd : dps l (m.toNat + 1) (-1) p with
      | none => rw [hd] at h; cases h
      | some xq =>
        obtain ⟨xs, q⟩ := xq
        rw [hd, conX] at h
        obtain ⟨z, hz, rfl⟩ := preP_some h
        have i := dbs_ok hz (by omega) (by omega) (fun g' hg' => hg g' (List.mem_cons_of_mem _ hg'))
        have hx := dps_len hd
        simp only at hx
        simp only [List.singleton_append, List.length_cons, tot, lastd]
        exact ⟨by omega, i.2.1, i.2.2⟩
theorem dbk_ok {l : List Int} (hI : IsBytes l) {n p : Nat} {b : Int} {y : List Po × Nat} (h : dbk l n b p = some y) (h1 : -1 ≤ b) (h2 : b ≤ 2147483646) : y.1.length ≤ tot y.1 ∧ -1 ≤ lastd b y.1 ∧ lastd b y.1 ≤ 2147483646 := by
  unfold dbk at h
  split at h
  · cases h
  · rename_i G q hd1
    split at h
    · cases h
    · exact dbs_ok h h1 h2 (dpa_back hI hd1).2.2.2.1
theorem lastd_at : ∀ (L : List Pg) (b : Int) (h : 0 < L.length), lastd b (pol L) = (L[L.length - 1]'(by omega)).d
  | [x], b, _ => rfl
  | x :: y :: r, b, _ => by
    have e : pol (x :: y :: r) = x.po :: pol (y :: r) := rfl
    rw [e, lastd, lastd_at (y :: r) x.po.d (by simp)]
    simp
/-- 'append(s, x...)' of no posting. -/
theorem wpList_appG0 {W : World} {ops : Array Oper} {rest : List Oper} {o : Oper} {act : Act} {Q : Exit → Act → World → Prop} (hgd : o.guard = none) (s x : Operand)
    (ho : o.op = .call { callee := .builtin .append, args := #[s, x], argTypes := #[22, 22] }) (sa : Option Addr) (n sc : Nat) (hs : act.eval s = .slice sa n sc) (hn : n ≤ sc) (a : Option Addr) (c : Nat) (hx : act.eval x = .slice a 0 c)
    (h : wpList Tryz.prog ops Q rest (act.put o.dst (.slice sa n sc)) W) : wpList Tryz.prog ops Q (o :: rest) act W := by
  obtain ⟨i0, hi, hz0, hz1, hz2⟩ := info_partsP Tryz.infoPo
  refine wpList_plain hgd fun K hK => ?_
  have hrun := run_append_nothing (P := Tryz.prog) W 22 22 o.type 38 i0 Tryz.underlying22 hi sa n sc hn (.slice a 0 c) ⟨.inl ⟨_, Tryz.underlying22⟩, fun _ => rfl, by cases a <;> simp [Builtin.firstCells, loadCells, loadCellsFrom], by cases a <;> simp [Builtin.firstCells, loadCells, loadCellsFrom], by simp, by simp⟩
  unfold Oper.wp
  simp [execOp, ho, resolve, invoke, builtin, hs, hx, hrun, Result.andThen]
  exact hK _ _ h
theorem str_injP {A B : List Int} (hA : IsBytes A) (hB : IsBytes B) (h : (strOfNums A).toList = (strOfNums B).toList) : A = B := by
  have h9 : strOfNums A = strOfNums B := by
    rw [ByteArray.toList_eq, ByteArray.toList_eq] at h
    exact WideShapes.bytes_inj h
  have key : ∀ l : List Int, IsBytes l → (strOfNums l).data.toList.map (fun b => ((b.toNat : Nat) : Int)) = l := by
    intro l hl
    rw [strOfNums_data, List.map_map]
    conv => rhs; rw [← List.map_id l]
    apply List.map_congr_left
    intro x hx
    have := hl x hx
    show (((UInt8.ofNat x.toNat).toNat : Nat) : Int) = x
    rw [UInt8.toNat_ofNat']
    omega
  rw [← key A hA, ← key B hB, h9]
/-- What is behind the skips. -/
def finD (l : List Int) (N : Nat) : Option Nat → Option (List Po)
  | none => none
  | some s => (dal l (nbp N) N (-1) s).map (·.1)
def apD (F : List Po) (o : Option (List Po × Nat)) : Option (List Po) := o.map (fun x => F ++ x.1)
theorem ddc_n1 {l : List Int} (h : dnu l 0 = none) : ddc l = none := by unfold ddc; rw [h]
theorem ddc_n2 {l : List Int} {n q : Nat} (h : dnu l 0 = some (n, q)) (h2 : dnu l q = none) : ddc l = none := by unfold ddc; rw [h]; simp only; rw [h2]
theorem ddc_s {l : List Int} {n q t r : Nat} (h : dnu l 0 = some (n, q)) (h2 : dnu l q = some (t, r)) : ddc l = finD l n (dsk l (nbp n) r) := by
  unfold ddc
  rw [h]
  simp only
  rw [h2]
  simp only
  cases dsk l (nbp n) r <;> rfl
theorem dsk_n1 {l : List Int} {m p : Nat} (h : dnu l p = none) : dsk l (m + 1) p = none := by rw [dsk, h]
theorem dsk_n2 {l : List Int} {m p x q : Nat} (h : dnu l p = some (x, q)) (h2 : dnu l q = none) : dsk l (m + 1) p = none := by rw [dsk, h]; simp only; rw [h2]
theorem dsk_s {l : List Int} {m p x q y r : Nat} (h : dnu l p = some (x, q)) (h2 : dnu l q = some (y, r)) : dsk l (m + 1) p = dsk l m r := by rw [dsk, h]; simp only; rw [h2]
theorem dal_n {l : List Int} {m left p : Nat} {b : Int} (h : dbk l (min 16 left) b p = none) : dal l (m + 1) left b p = none := by rw [dal, h]
theorem dal_s {l : List Int} {m left p q : Nat} {b : Int} {F : List Po} (h : dbk l (min 16 left) b p = some (F, q)) : dal l (m + 1) left b p = preP F (dal l m (left - 16) (lastd b F) q) := by rw [dal, h]
/-- 1 as long as the reader has met nothing bad. -/
def flg (rb : Nat) (W : World) : Nat := match W.cell? ⟨rb, 2, none⟩ with
  | some (.bool true) => 0
  | _ => 1
theorem flg_bad {W : World} {rb : Nat} {a : Option Addr} {n c p : Nat} (h : RdX W rb a n c p true) : flg rb W = 0 := by unfold flg; rw [(row3 h).1.2.2]
theorem flg_ok {W : World} {rb : Nat} {a : Option Addr} {n c p : Nat} (h : RdX W rb a n c p false) : flg rb W = 1 := by unfold flg; rw [(row3 h).1.2.2]
def lnO : Value → Nat
  | .slice _ n _ => n
  | _ => 0
/-- What the document's Decode leaves. -/
def ddP (W : World) (e : Ending) (w' : World) : Option (List Po) → Prop
  | none => e = .returned (.tuple #[.slice none 0 0, .int .i64 10]) ∧ Kept (fun _ => False) W w'
  | some L => ∃ (PL : List Pg) (va : Option Addr) (vc : Nat), pol PL = L ∧ e = .returned (.tuple #[.slice va PL.length vc, .int .i64 0]) ∧ PsAt w' va PL ∧ Kept (fun _ => False) W w'
set_option maxRecDepth 20000 in
set_option maxHeartbeats 16000000 in
theorem ddec_any (l : List Int) (a : Option Addr) (n c : Nat) (W : World) (hn : n = l.length) (hB : BytesAt W a l) (hI : IsBytes l) (hl : l.length ≤ 67108864) :
    Calls Tryz.prog 12 #[.slice a n c] W fun e w' => ddP W e w' (opn l) := by
  obtain ⟨O, hO⟩ : ∃ O, O = opn l := ⟨_, rfl⟩
  rw [← hO]
  obtain ⟨D, hD⟩ : ∃ D, D = ddc l := ⟨_, rfl⟩
  have HOD : Hid (D = none → O = none) := hideP (fun h => by rw [hO, ddc_opn hI (by omega), ← hD, h])
  have HOS : Hid (∀ F, D = some F → (gdl (-1) F ∧ img F = l → O = some F) ∧ (¬ (gdl (-1) F ∧ img F = l) → O = none)) := hideP (fun F h => by
    have e := ddc_opn hI (show l.length < 9223372036854775808 by omega)
    rw [← hD, h] at e
    simp only at e
    exact ⟨fun g => by rw [hO, e, if_pos g], fun g => by rw [hO, e, if_neg g]⟩)
  have HDd := hideP hD
  have HI := hideP hI
  have HNL := hideP hn
  have HL := hideP hl
  have hnb : n ≤ 67108864 := by omega
  have HB : Hid (∀ V, Kept (fun _ => False) W V → BytesAt V a l) := hideP (fun V k => hB.kept k)
  have HFR : Hid (l ≠ [] → ∀ b off, a = some ⟨b, off, none⟩ → b ≠ W.heap.size) := hideP (fun hne b off e hb => by
    obtain ⟨b', off', e', hc⟩ := hB hne
    rw [e] at e'
    simp only [Option.some.injEq, Addr.mk.injEq, and_true] at e'
    have := World.block_lt_of_cell? W _ (hc 0 (List.length_pos_iff.2 hne))
    simp only at this
    omega)
  have HR0 : Hid (RdX (W.alloc (.cells #[.slice a n c, .int .i64 0, .bool false] 68)) W.heap.size a n c 0 false) := hideP (heap_alloc_new W _)
  have k0 : Kept (fun _ => False) W (W.alloc (.cells #[.slice a n c, .int .i64 0, .bool false] 68)) := Kept.alloc W _
  have CN1 := hideP (num8_ok l a n c 0 W.heap.size (W.alloc (.cells #[.slice a n c, .int .i64 0, .bool false] 68)) HR0.out hn (HB.out _ k0) hI (Nat.zero_le _) (by omega))
  clear hO hD hB hI hn hl
  go_enter Tryz.func12, Tryz.ntmps12
  go_wp2_with (go_at_call 30; refine StpQ.go ?_)
  refine ⟨?_⟩
  generalize W.alloc (.cells #[.slice a n c, .int .i64 0, .bool false] 68) = W0 at *
  cases hd1 : dnu l 0 with
  | none =>
    rw [hd1] at CN1
    have HOn : Hid (O = none) := hideP (HOD.out (by rw [HDd.out]; exact ddc_n1 hd1))
    clear hd1
    refine CN1.out.mono ?_
    clear CN1
    rintro e W1 ⟨rfl, hR1, k1⟩
    have kW1 := k0.trans k1 (fun i hi => .inr (by omega))
    have CN2 := hideP (num8_bad l a n c 0 W.heap.size W1 hR1 HNL.out (HB.out _ kW1) HI.out (Nat.zero_le _) (by have := HL.out; omega))
    have HK1 := hideP kW1
    clear hR1 k1 kW1 k0 HR0
    go_wp2_with (go_at_call 30; refine StpQ.go ?_)
    refine ⟨?_⟩
    refine CN2.out.mono ?_
    clear CN2
    rintro e W2 ⟨rfl, hR2, k2⟩
    have HKx := hideP (HK1.out.trans k2 (fun i hi => .inr (by omega)))
    have HRx := hideP hR2
    obtain ⟨⟨-, -, w2⟩, -⟩ := row3 hR2
    obtain ⟨N, hN⟩ : ∃ N : Nat, N = 0 := ⟨_, rfl⟩
    clear hR2 k2 HK1
    go_wp2
    go_loopw [6] (fun s6 wr => s6 = .int .i64 0 ∧ W2 = wr) (fun _ _ => 0)
    case atStart => exact ⟨rfl, rfl⟩
    case round =>
    obtain ⟨rfl, rfl⟩ := hrel
    have HNz := hideP hN
    clear hN
    have HRl := hideP (HRx.out.kept (Kept.alloc W2 (.cells #[] 38)))
    have HKl := hideP (HKx.out.trans (Kept.alloc W2 (.cells #[] 38)) (fun _ f => f.elim))
    obtain ⟨⟨-, -, x2⟩, -⟩ := row3 HRl.out
    have z1 : ¬ (0 : Int) < (N : Int) := by have := HNz.out; omega
    have z2 : decide ((0 : Int) < (N : Int)) = false := decide_eq_false z1
    go_wp2
    go_loopw [7, 8] (fun s7 s8 wr => s7 = .slice (some ⟨W2.heap.size, 0, none⟩) 0 0 ∧ s8 = .int .i64 (-1) ∧ (W2.alloc (.cells #[] 38)) = wr) (fun _ _ _ => 0)
    case atStart => exact ⟨rfl, rfl, rfl⟩
    case round =>
    obtain ⟨rfl, rfl, rfl⟩ := hrel
    go_wp2
    go_ret2
    rw [HOn.out]
    exact ⟨rfl, HKl.out⟩
  | some xq =>
    obtain ⟨N, q⟩ := xq
    obtain ⟨hu1, hu2, hu3⟩ := upn_lt hd1
    have hu2 := hu2 (Nat.zero_le _)
    have hNb : (N : Int) ≤ 9223372036854775807 := hu3
    rw [hd1] at CN1
    refine CN1.out.mono ?_
    clear CN1
    rintro e W1 ⟨rfl, hR1, k1⟩
    have kW1 := k0.trans k1 (fun i hi => .inr (by omega))
    have CN2 := hideP (num8_ok l a n c q W.heap.size W1 hR1 HNL.out (HB.out _ kW1) HI.out hu2 (by have := HL.out; omega))
    have HK1 := hideP kW1
    clear hR1 k1 kW1 k0 HR0 hu3
    go_wp2_with (go_at_call 30; refine StpQ.go ?_)
    refine ⟨?_⟩
    cases hd2 : dnu l q with
    | none =>
      rw [hd2] at CN2
      have HOn : Hid (O = none) := hideP (HOD.out (by rw [HDd.out]; exact ddc_n2 hd1 hd2))
      clear hd1 hd2
      refine CN2.out.mono ?_
      clear CN2
      rintro e W2 ⟨rfl, hR2, k2⟩
      have HKx := hideP (HK1.out.trans k2 (fun i hi => .inr (by omega)))
      have HRx := hideP hR2
      obtain ⟨⟨-, -, w2⟩, -⟩ := row3 hR2
      clear hR2 k2 HK1
      go_wp2
      go_loopw [6] (fun s6 wr => s6 = .int .i64 0 ∧ W2 = wr) (fun _ _ => 0)
      case atStart => exact ⟨rfl, rfl⟩
      case round =>
      obtain ⟨rfl, rfl⟩ := hrel
      by_cases hN0 : N = 0
      · have HNz := hideP hN0
        have y1 : ¬ (0 : Int) < (N : Int) := by omega
        have y2 : decide ((0 : Int) < (N : Int)) = false := decide_eq_false y1
        clear hN0
        have HRl := hideP (HRx.out.kept (Kept.alloc W2 (.cells #[] 38)))
        have HKl := hideP (HKx.out.trans (Kept.alloc W2 (.cells #[] 38)) (fun _ f => f.elim))
        obtain ⟨⟨-, -, x2⟩, -⟩ := row3 HRl.out
        have z1 : ¬ (0 : Int) < (N : Int) := by have := HNz.out; omega
        have z2 : decide ((0 : Int) < (N : Int)) = false := decide_eq_false z1
        go_wp2
        go_loopw [7, 8] (fun s7 s8 wr => s7 = .slice (some ⟨W2.heap.size, 0, none⟩) 0 0 ∧ s8 = .int .i64 (-1) ∧ (W2.alloc (.cells #[] 38)) = wr) (fun _ _ _ => 0)
        case atStart => exact ⟨rfl, rfl, rfl⟩
        case round =>
        obtain ⟨rfl, rfl, rfl⟩ := hrel
        go_wp2
        go_ret2
        rw [HOn.out]
        exact ⟨rfl, HKl.out⟩
      · have y1 : (0 : Int) < (N : Int) := by omega
        have y2 : decide ((0 : Int) < (N : Int)) = true := decide_eq_true y1
        have HRl := hideP (HRx.out.kept (Kept.alloc W2 (.cells #[] 38)))
        have HKl := hideP (HKx.out.trans (Kept.alloc W2 (.cells #[] 38)) (fun _ f => f.elim))
        obtain ⟨⟨-, -, x2⟩, -⟩ := row3 HRl.out
        have z1 : (0 : Int) < (N : Int) := by omega
        have z2 : decide ((0 : Int) < (N : Int)) = true := decide_eq_true z1
        go_wp2
        go_loopw [7, 8] (fun s7 s8 wr => s7 = .slice (some ⟨W2.heap.size, 0, none⟩) 0 0 ∧ s8 = .int .i64 (-1) ∧ (W2.alloc (.cells #[] 38)) = wr) (fun _ _ _ => 0)
        case atStart => exact ⟨rfl, rfl, rfl⟩
        case round =>
        obtain ⟨rfl, rfl, rfl⟩ := hrel
        go_wp2
        go_ret2
        rw [HOn.out]
        exact ⟨rfl, HKl.out⟩
    | some tq =>
      obtain ⟨tt, r⟩ := tq
      obtain ⟨hv1, hv2, hv3⟩ := upn_lt hd2
      have hv2 := hv2 hu2
      rw [hd2] at CN2
      have HDs : Hid (D = finD l N (dsk l (nbp N) r)) := hideP (by rw [HDd.out]; exact ddc_s hd1 hd2)
      clear hd1 hd2 hv3
      refine CN2.out.mono ?_
      clear CN2
      rintro e W2 ⟨rfl, hR2, k2⟩
      have HKx := hideP (HK1.out.trans k2 (fun i hi => .inr (by omega)))
      have HRx := hideP hR2
      have hrn : r ≤ n := by have := HNL.out; omega
      clear hR2 k2 HK1
      go_wp2
      go_loopw [6] (fun s6 wr => ∃ (j pp : Nat) (bd : Bool), j ≤ pp + 1 ∧ pp ≤ n ∧ s6 = .int .i64 ((16 * j : Nat) : Int) ∧ Hid (RdX wr W.heap.size a n c pp bd) ∧ Hid (Kept (fun _ => False) W wr) ∧ Hid (bd = false → D = finD l N (dsk l (nbp N - j) pp) ∧ j ≤ pp) ∧ Hid (bd = true → D = none)) (fun s6 _ => 16 * (n + 3) - (intOf s6).toNat)
      case atStart => exact ⟨0, r, false, by omega, hrn, rfl, HRx, HKx, hideP (fun _ => ⟨by rw [HDs.out, Nat.sub_zero], by omega⟩), hideP (fun h => (by cases h))⟩
      case round =>
      obtain ⟨j, pp, bd, hj, hpp, rfl, HRx, HKx, HF, HT⟩ := hrel
      obtain ⟨V, hV⟩ : ∃ V, V = wr := ⟨_, rfl⟩
      rw [← hV] at HRx HKx ⊢
      clear hV
      obtain ⟨⟨-, -, w2⟩, -⟩ := row3 HRx.out
      obtain ⟨J, hJ⟩ : ∃ J, J = 16 * j := ⟨_, rfl⟩
      rw [← hJ]
      cases bd with
      | true =>
        have HOn := hideP (HOD.out (HT.out rfl))
        clear HT HF
        by_cases hJN : J < N
        · have y1 : (J : Int) < (N : Int) := by omega
          have y2 : decide ((J : Int) < (N : Int)) = true := decide_eq_true y1
          have HRl := hideP (HRx.out.kept (Kept.alloc V (.cells #[] 38)))
          have HKl := hideP (HKx.out.trans (Kept.alloc V (.cells #[] 38)) (fun _ f => f.elim))
          obtain ⟨⟨-, -, x2⟩, -⟩ := row3 HRl.out
          have z1 : (0 : Int) < (N : Int) := by omega
          have z2 : decide ((0 : Int) < (N : Int)) = true := decide_eq_true z1
          go_wp2
          go_loopw [7, 8] (fun s7 s8 wr => s7 = .slice (some ⟨V.heap.size, 0, none⟩) 0 0 ∧ s8 = .int .i64 (-1) ∧ (V.alloc (.cells #[] 38)) = wr) (fun _ _ _ => 0)
          case atStart => exact ⟨rfl, rfl, rfl⟩
          case round =>
          obtain ⟨rfl, rfl, rfl⟩ := hrel
          go_wp2
          go_ret2
          rw [HOn.out]
          exact ⟨rfl, HKl.out⟩
        · have y1 : ¬ (J : Int) < (N : Int) := by omega
          have y2 : decide ((J : Int) < (N : Int)) = false := decide_eq_false y1
          by_cases hN0 : N = 0
          · have HNz := hideP hN0
            clear hN0
            have HRl := hideP (HRx.out.kept (Kept.alloc V (.cells #[] 38)))
            have HKl := hideP (HKx.out.trans (Kept.alloc V (.cells #[] 38)) (fun _ f => f.elim))
            obtain ⟨⟨-, -, x2⟩, -⟩ := row3 HRl.out
            have z1 : ¬ (0 : Int) < (N : Int) := by have := HNz.out; omega
            have z2 : decide ((0 : Int) < (N : Int)) = false := decide_eq_false z1
            go_wp2
            go_loopw [7, 8] (fun s7 s8 wr => s7 = .slice (some ⟨V.heap.size, 0, none⟩) 0 0 ∧ s8 = .int .i64 (-1) ∧ (V.alloc (.cells #[] 38)) = wr) (fun _ _ _ => 0)
            case atStart => exact ⟨rfl, rfl, rfl⟩
            case round =>
            obtain ⟨rfl, rfl, rfl⟩ := hrel
            go_wp2
            go_ret2
            rw [HOn.out]
            exact ⟨rfl, HKl.out⟩
          · have HNz := hideP hN0
            have HRl := hideP (HRx.out.kept (Kept.alloc V (.cells #[] 38)))
            have HKl := hideP (HKx.out.trans (Kept.alloc V (.cells #[] 38)) (fun _ f => f.elim))
            obtain ⟨⟨-, -, x2⟩, -⟩ := row3 HRl.out
            have z1 : (0 : Int) < (N : Int) := by omega
            have z2 : decide ((0 : Int) < (N : Int)) = true := decide_eq_true z1
            go_wp2
            go_loopw [7, 8] (fun s7 s8 wr => s7 = .slice (some ⟨V.heap.size, 0, none⟩) 0 0 ∧ s8 = .int .i64 (-1) ∧ (V.alloc (.cells #[] 38)) = wr) (fun _ _ _ => 0)
            case atStart => exact ⟨rfl, rfl, rfl⟩
            case round =>
            obtain ⟨rfl, rfl, rfl⟩ := hrel
            go_wp2
            go_ret2
            rw [HOn.out]
            exact ⟨rfl, HKl.out⟩
      | false =>
        obtain ⟨hDf, hjp⟩ := HF.out rfl
        have HDf := hideP hDf
        clear hDf HF HT
        by_cases hJN : J < N
        · have y1 : (J : Int) < (N : Int) := by omega
          have y2 : decide ((J : Int) < (N : Int)) = true := decide_eq_true y1
          have hnj : nbp N - j = (nbp N - (j + 1)) + 1 := by unfold nbp; omega
          have CA := hideP (num8_ok l a n c pp W.heap.size V HRx.out HNL.out (HB.out _ HKx.out) HI.out (by have := HNL.out; omega) (by have := HL.out; omega))
          have HJ := hideP hJ
          have hJb : J ≤ 1073741856 := by omega
          clear hJ
          go_wp2_with (go_at_call 30; refine StpQ.go ?_)
          refine ⟨?_⟩
          cases hda : dnu l pp with
          | none =>
            rw [hda] at CA
            have HDn : Hid (D = none) := hideP (by rw [HDf.out, hnj, dsk_n1 hda]; rfl)
            clear hda
            refine CA.out.mono ?_
            clear CA
            rintro e V1 ⟨rfl, hR1, k1⟩
            have kV1 := HKx.out.trans k1 (fun i hi => .inr (by omega))
            have CB := hideP (num8_bad l a n c pp W.heap.size V1 hR1 HNL.out (HB.out _ kV1) HI.out (by have := HNL.out; omega) (by have := HL.out; omega))
            have HK1 := hideP kV1
            clear hR1 k1 kV1
            go_wp2_with (go_at_call 30; refine StpQ.go ?_)
            refine ⟨?_⟩
            refine CB.out.mono ?_
            clear CB
            rintro e V2 ⟨rfl, hR2, k2⟩
            have HK2 := hideP (HK1.out.trans k2 (fun i hi => .inr (by omega)))
            have HR2 := hideP hR2
            clear hR2 k2 HK1
            go_wp2
            go_roundw
            case rel => exact ⟨j + 1, pp, true, by omega, hpp, by have := HJ.out; rw [show ((16 * (j + 1) : Nat) : Int) = (J : Int) + 16 by omega], HR2, HK2, hideP (fun h => (by cases h)), hideP (fun _ => HDn.out)⟩
            case measure => have := HJ.out; simp [intOf]; omega
          | some xa =>
            obtain ⟨x1, q1⟩ := xa
            obtain ⟨ha1, ha2, -⟩ := upn_lt hda
            have ha2 := ha2 (by have := HNL.out; omega)
            rw [hda] at CA
            refine CA.out.mono ?_
            clear CA
            rintro e V1 ⟨rfl, hR1, k1⟩
            have kV1 := HKx.out.trans k1 (fun i hi => .inr (by omega))
            have CB := hideP (num8_ok l a n c q1 W.heap.size V1 hR1 HNL.out (HB.out _ kV1) HI.out ha2 (by have := HL.out; omega))
            have HK1 := hideP kV1
            clear hR1 k1 kV1
            go_wp2_with (go_at_call 30; refine StpQ.go ?_)
            refine ⟨?_⟩
            cases hdb : dnu l q1 with
            | none =>
              rw [hdb] at CB
              have HDn : Hid (D = none) := hideP (by rw [HDf.out, hnj, dsk_n2 hda hdb]; rfl)
              clear hda hdb
              refine CB.out.mono ?_
              clear CB
              rintro e V2 ⟨rfl, hR2, k2⟩
              have HK2 := hideP (HK1.out.trans k2 (fun i hi => .inr (by omega)))
              have HR2 := hideP hR2
              clear hR2 k2 HK1
              go_wp2
              go_roundw
              case rel => exact ⟨j + 1, q1, true, by omega, by have := HNL.out; omega, by have := HJ.out; rw [show ((16 * (j + 1) : Nat) : Int) = (J : Int) + 16 by omega], HR2, HK2, hideP (fun h => (by cases h)), hideP (fun _ => HDn.out)⟩
              case measure => have := HJ.out; simp [intOf]; omega
            | some xb =>
              obtain ⟨x2, q2⟩ := xb
              obtain ⟨hb1, hb2, -⟩ := upn_lt hdb
              have hb2 := hb2 ha2
              rw [hdb] at CB
              have HDn : Hid (D = finD l N (dsk l (nbp N - (j + 1)) q2)) := hideP (by rw [HDf.out, hnj, dsk_s hda hdb])
              clear hda hdb
              refine CB.out.mono ?_
              clear CB
              rintro e V2 ⟨rfl, hR2, k2⟩
              have HK2 := hideP (HK1.out.trans k2 (fun i hi => .inr (by omega)))
              have HR2 := hideP hR2
              clear hR2 k2 HK1
              go_wp2
              go_roundw
              case rel => exact ⟨j + 1, q2, false, by omega, by have := HNL.out; omega, by have := HJ.out; rw [show ((16 * (j + 1) : Nat) : Int) = (J : Int) + 16 by omega], HR2, HK2, hideP (fun _ => ⟨HDn.out, by omega⟩), hideP (fun h => (by cases h))⟩
              case measure => have := HJ.out; simp [intOf]; omega
        have y1 : ¬ (J : Int) < (N : Int) := by omega
        have y2 : decide ((J : Int) < (N : Int)) = false := decide_eq_false y1
        have HDa : Hid (D = apD [] (dal l (nbp N) N (-1) pp)) := hideP (by
          rw [HDf.out, show nbp N - j = 0 by unfold nbp; omega, dsk]
          simp only [finD, apD]
          cases dal l (nbp N) N (-1) pp <;> simp)
        clear HDf hJ
        have HGl : Hid (Gps (fun x => x = W.heap.size) V (V.alloc (.cells #[] 38)) (.slice (some ⟨V.heap.size, 0, none⟩) 0 0) 0 []) := hideP ⟨(gro_empty V V 38 2 (Kept.refl _ _)).own, (Kept.alloc V _).mono (fun _ f => f.elim), fun g hg => (by cases hg), fun g hg => (by cases hg)⟩
        have HRl := hideP (HRx.out.kept (Kept.alloc V (.cells #[] 38)))
        have hWV : W.heap.size < V.heap.size := lt_of_block HRx.out
        clear w2
        go_wp2
        go_loopw [7, 8] (fun s7 s8 wr => ∃ (nn pq : Nat) (b : Int) (va : Option Addr) (vc : Nat) (PL : List Pg) (bd : Bool), nn ≤ 67108880 ∧ pq ≤ n ∧ s7 = .slice va nn vc ∧ s8 = .int .i64 b ∧ Hid (Gps (fun x => x = W.heap.size) V wr (.slice va nn vc) nn PL) ∧ Hid (∀ g ∈ PL, IsInts g.ps) ∧ Hid (RdX wr W.heap.size a n c pq bd) ∧ Hid (bd = false → (D = apD (pol PL) (dal l (nbp (N - nn)) (N - nn) b pq) ∧ nn ≤ N) ∧ (tot (pol PL) ≤ pq ∧ nn ≤ tot (pol PL)) ∧ -1 ≤ b ∧ b ≤ 2147483646) ∧ Hid (bd = true → D = none)) (fun s7 _ wr => (134217800 - lnO s7) + flg W.heap.size wr)
        case atStart => exact ⟨0, pp, -1, _, _, [], false, by omega, by omega, rfl, rfl, HGl, hideP (fun g hg => (by cases hg)), HRl, hideP (fun _ => ⟨⟨by rw [HDa.out, Nat.sub_zero]; rfl, by omega⟩, ⟨Nat.zero_le _, Nat.zero_le _⟩, by decide, by decide⟩), hideP (fun h => (by cases h))⟩
        case round =>
        obtain ⟨nn, pq, b, va, vc, PL, bd, hnn, hpq, rfl, rfl, HG, HPI, HRz, HF, HT⟩ := hrel
        obtain ⟨Z, hZ⟩ : ∃ Z, Z = wr := ⟨_, rfl⟩
        rw [← hZ] at HG HRz ⊢
        clear hZ HGl HRl HDa
        obtain ⟨⟨-, -, w3⟩, -⟩ := row3 HRz.out
        have HKz := hideP (HKx.out.trans HG.out.kept (fun i hi => .inr (by omega)))
        have hVZ := HG.out.kept.size
        cases bd with
        | true =>
          have HOn := hideP (HOD.out (HT.out rfl))
          clear HT HF
          by_cases hnN : nn < N
          · have t1 : (nn : Int) < (N : Int) := by omega
            have t2 : decide ((nn : Int) < (N : Int)) = true := decide_eq_true t1
            have t3 : decide (nn < N) = true := decide_eq_true hnN
            go_wp2
            go_ret2
            rw [HOn.out]
            exact ⟨rfl, HKz.out⟩
          · have t1 : ¬ (nn : Int) < (N : Int) := by omega
            have t2 : decide ((nn : Int) < (N : Int)) = false := decide_eq_false t1
            have t3 : decide (nn < N) = false := decide_eq_false hnN
            go_wp2
            go_ret2
            rw [HOn.out]
            exact ⟨rfl, HKz.out⟩
        | false =>
        obtain ⟨⟨hDf, hnN2⟩, ⟨htp, hnt⟩, hb1, hb2⟩ := HF.out rfl
        have HDf := hideP hDf
        have HTP := hideP htp
        have HNT := hideP hnt
        have hnB : nn ≤ 67108864 := by omega
        have hfl : flg W.heap.size Z = 1 := flg_ok HRz.out
        have HFl := hideP hfl
        clear hDf HF HT htp hnt hfl
        by_cases hnN : nn < N
        · have t1 : (nn : Int) < (N : Int) := by omega
          have t2 : decide ((nn : Int) < (N : Int)) = true := decide_eq_true t1
          have t3 : decide (nn < N) = true := decide_eq_true hnN
          obtain ⟨m, hm⟩ : ∃ m, m = min 16 (N - nn) := ⟨_, rfl⟩
          have hm1 : 1 ≤ m ∧ m ≤ 16 ∧ m ≤ N - nn := by omega
          have hmi : (m : Int) = if (N : Int) - (nn : Int) < 16 then (N : Int) - (nn : Int) else 16 := by split <;> omega
          have HMI := hideP hmi
          have hnb2 : nbp (N - nn) = nbp (N - nn - 16) + 1 := by unfold nbp; omega
          have HD1 : Hid (dbk l m b pq = none → D = none) := hideP (fun h => by rw [HDf.out, hnb2, dal_n (by rw [← hm]; exact h)]; rfl)
          have HD2 : Hid (∀ F q, dbk l m b pq = some (F, q) → F.length = m → D = apD (pol PL ++ F) (dal l (nbp (N - (nn + m))) (N - (nn + m)) (lastd b F) q)) := hideP (fun F q h hF => by
            rw [HDf.out, hnb2, dal_s (by rw [← hm]; exact h)]
            have e1 : N - nn - 16 = N - (nn + m) := by omega
            rw [e1]
            cases dal l (nbp (N - (nn + m))) (N - (nn + m)) (lastd b F) q <;> simp [apD, preP])
          have HD3 : Hid (∀ y, dbk l m b pq = some y → y.1.length ≤ tot y.1 ∧ -1 ≤ lastd b y.1 ∧ lastd b y.1 ≤ 2147483646) := hideP (fun y h => dbk_ok HI.out h hb1 hb2)
          have CB := hideP (blk8_any m hm1.2.1 b ⟨hb1, hb2⟩ l a n c pq W.heap.size Z HRz.out HNL.out (HB.out _ HKz.out) HI.out (by have := HNL.out; omega) (by have := HL.out; omega) HFR.out)
          obtain ⟨Rb, hRb⟩ : ∃ Rb, Rb = dbk l m b pq := ⟨_, rfl⟩
          rw [← hRb] at CB HD1 HD2 HD3
          obtain ⟨hm2, hm3, hm4⟩ := hm1
          have sN : (N : Int) - (nn : Int) ≤ 9223372036854775807 := by omega
          clear hm hmi hnb2 hRb HDf
          go_wp2_with (first
            | (refine wpList_minP rfl _ _ rfl 16 ((N : Int) - (nn : Int)) (m : Int) rfl (by first | rfl | go_num) HMI.out ?_)
            | (go_at_call 31; refine StpQ.go ?_))
          refine ⟨?_⟩
          refine CB.out.mono ?_
          clear CB
          rintro e Y ⟨FL, fa, fc, fn, pz, bd2, rfl, hGf, hFI, hRf, hpz1, hpz2, hfm, hok, hno⟩
          have kY : Kept (fun x => x = W.heap.size) Z Y := hGf.kept
          have hGy := HG.out.step kY (fun i hi => ⟨hi, by omega⟩)
          have HKy := hideP (HKz.out.trans kY (fun i hi => .inr (by omega)))
          obtain ⟨hPf, hfl1, hfl2⟩ := hGf.at
          have hfar : ∀ g ∈ FL, g.ps ≠ [] → ∃ b off, g.a = some ⟨b, off, none⟩ ∧ Z.heap.size ≤ b ∧ b < Y.heap.size := fun g hg hne => by
            obtain ⟨b9, o9, e9, h9, h10, -⟩ := hGf.far g hg hne
            exact ⟨b9, o9, e9, h9, h10⟩
          have HGy := hideP hGy
          have HOw := hideP hGy.own
          have HPf := hideP hPf
          have HFar := hideP hfar
          have HFI := hideP hFI
          have HRf := hideP hRf
          have HFn := hideP hfl1
          have HIf := hideP hGf.ints
          have HFLs : Hid (∀ x, (Value.slice va nn vc).ownBlock = some x → x < Z.heap.size) := hideP (fun x hx => (HG.out.own.lt x hx).2)
          have hsz : V.heap.size ≤ Y.heap.size := by have := hGy.kept.size; omega
          have hpzn : pz ≤ n := by have := HNL.out; omega
          have HOK := hideP hok
          have HNO := hideP hno
          clear hGf hFI hRf kY hGy hPf hfl1 hfar hok hno
          by_cases hf0 : fn = 0
          · have hbd : bd2 = true := by
              cases bd2 with
              | true => rfl
              | false => have := (HOK.out rfl).2.1; omega
            subst hbd
            have HOn := hideP (HD1.out (HNO.out rfl))
            subst hf0
            have HMS : Hid (flg W.heap.size Y = 0) := hideP (flg_bad HRf.out)
            have HPL := hideP HGy.out.at
            by_cases hn0 : nn = 0
            · have w5 : ¬ (0 : Int) < (nn : Int) := by omega
              have w6 : decide (0 < nn) = false := decide_eq_false (by omega)
              have w7 : ¬ 0 < nn := by omega
              have HN0 := hideP hn0
              clear hn0
              go_wp2_with (at_builtin; refine StpQ.go ?_)
              refine ⟨?_⟩
              refine wpList_appG0 rfl (.tmp 55) (.tmp 56) rfl va nn vc rfl HPL.out.2.2 fa fc rfl ?_
              go_wp2
              go_roundw
              case rel => exact ⟨nn, pz, _, va, vc, PL, true, hnn, hpzn, rfl, rfl, HGy, HPI, HRf, hideP (fun h => (by cases h)), hideP (fun _ => HOn.out)⟩
              case measure => have := HMS.out; have := HFl.out; simp only [lnO]; omega
            · have w5 : (0 : Int) < (nn : Int) := by omega
              have w6 : decide (0 < nn) = true := decide_eq_true (by omega)
              have HC9 := hideP HPL.out.2.2
              obtain ⟨hq1, hq2, hq3⟩ := HPL.out
              obtain ⟨t, ht⟩ : ∃ t, t = nn - 1 := ⟨_, rfl⟩
              have htl : t < PL.length := by omega
              obtain ⟨lb, lo, hle, hlc⟩ := hq1 (by intro e; rw [e] at htl; simp at htl)
              have hl0 := (hlc t htl).1
              generalize (PL[t]).d = dd at *
              subst hle
              have w7 : (nn : Int) - 1 = (t : Int) := by omega
              have w8 : (t : Int) < (nn : Int) := by omega
              clear hq1 hq2 hq3 hlc ht HPL
              go_wp2_with (at_builtin; refine StpQ.go ?_)
              refine ⟨?_⟩
              refine wpList_appG0 rfl (.tmp 55) (.tmp 56) rfl (some ⟨lb, lo, none⟩) nn vc rfl HC9.out fa fc rfl ?_
              go_wp2
              go_roundw
              case rel => exact ⟨nn, pz, dd, _, vc, PL, true, hnn, hpzn, rfl, by first | rfl | go_num, HGy, HPI, HRf, hideP (fun h => (by cases h)), hideP (fun _ => HOn.out)⟩
              case measure => have := HMS.out; have := HFl.out; simp only [lnO]; omega
          · have hFne : FL ≠ [] := by
              intro e
              have := HFn.out
              rw [e] at this
              simp at this
              omega
            obtain ⟨fb, fo, hfe, hfc⟩ := HPf.out hFne
            subst hfe
            clear hfc
            go_wp2_with (at_builtin; refine StpQ.go ?_)
            refine ⟨?_⟩
            refine wpList_appG rfl (.tmp 55) (.tmp 56) rfl (.slice va nn vc) nn (pcs PL) FL fn fb fo fc HFn.out HPf.out hFne rfl HOw hsz rfl (by omega) ?_
            intro gb c' Y5 O5 K5 A5
            have HG5 := hideP (HGy.out.more (M := FL) O5.out K5.out A5.out (fun g hg => HIf.out g hg) (fun g hg hne => by
              obtain ⟨b9, o9, e9, h9, h10⟩ := HFar.out g hg hne
              exact ⟨b9, o9, e9, by omega, h10, fun f => by have := HFLs.out b9 f; omega⟩))
            obtain ⟨sn, hsn⟩ : ∃ sn, sn = nn + fn := ⟨_, rfl⟩
            rw [← hsn] at HG5 ⊢
            have HR5 : Hid (RdX Y5 W.heap.size a n c pz bd2) := hideP (K5.out.heap HRf.out (fun e => by have := (HOw.out.lt _ e).1; omega))
            have HPI5 : Hid (∀ g ∈ PL ++ FL, IsInts g.ps) := hideP (fun g hg => (List.mem_append.1 hg).elim (HPI.out g) (HFI.out g))
            obtain ⟨hq1, hq2, hq3⟩ := HG5.out.at
            obtain ⟨t, ht⟩ : ∃ t, t = sn - 1 := ⟨_, rfl⟩
            have htl : t < (PL ++ FL).length := by omega
            obtain ⟨lb, lo, hle, hlc⟩ := hq1 (by intro e; rw [e] at htl; simp at htl)
            simp only [Option.some.injEq, Addr.mk.injEq, and_true] at hle
            obtain ⟨rfl, rfl⟩ := hle
            have hl0 := (hlc t htl).1
            have hdd : ((PL ++ FL)[t]).d = lastd b (pol FL) := by
              have hLf := lastd_at FL b (List.length_pos_iff.2 hFne)
              rw [hLf]
              have hp := HGy.out.at.2.1
              have hf := HFn.out
              have h1 : PL.length ≤ t := by omega
              rw [List.getElem_append_right h1]
              congr 2
              omega
            rw [hdd, Nat.zero_add] at hl0
            have HPO : Hid (pol (PL ++ FL) = pol PL ++ pol FL) := hideP (by simp [pol])
            have w5 : (0 : Int) < (sn : Int) := by omega
            have w6 : decide (0 < sn) = true := decide_eq_true (by omega)
            have w7 : (sn : Int) - 1 = (t : Int) := by omega
            have w8 : (t : Int) < (sn : Int) := by omega
            have w9 : t < sn := by omega
            have hsnb : sn ≤ 67108880 := by omega
            have HSN := hideP hsn
            obtain ⟨dd, hde⟩ : ∃ dd, dd = lastd b (pol FL) := ⟨_, rfl⟩
            rw [← hde] at hl0
            have HDE := hideP hde
            clear hq1 hq2 hq3 hlc ht hdd hde hsn
            cases bd2 with
            | true =>
              have HOn := hideP (HD1.out (HNO.out rfl))
              have HMS : Hid (flg W.heap.size Y5 = 0) := hideP (flg_bad HR5.out)
              go_wp2
              go_roundw
              case rel => exact ⟨sn, pz, dd, _, c', PL ++ FL, true, hsnb, hpzn, rfl, by first | rfl | go_num, HG5, HPI5, HR5, hideP (fun h => (by cases h)), hideP (fun _ => HOn.out)⟩
              case measure => have := HMS.out; have := HFl.out; have := HSN.out; simp only [lnO]; omega
            | false =>
              obtain ⟨hok1, hok2, hok3⟩ := HOK.out rfl
              have hfm2 : (pol FL).length = m := by rw [pol_len, ← HFn.out, hok2]
              have h3 := HD3.out _ hok1
              have HD5 : Hid (D = apD (pol (PL ++ FL)) (dal l (nbp (N - sn)) (N - sn) dd pz)) := hideP (by rw [HPO.out, HDE.out, HSN.out, hok2]; exact HD2.out _ _ hok1 hfm2)
              have HTT : Hid (tot (pol (PL ++ FL)) ≤ pz ∧ sn ≤ tot (pol (PL ++ FL))) := hideP (by
                have e0 := HSN.out
                have e1 := HTP.out
                have e2 := HNT.out
                have e3 := h3.1
                rw [hfm2] at e3
                rw [HPO.out, tot_append]
                simp only at e3
                omega)
              have HDB : Hid (-1 ≤ dd ∧ dd ≤ 2147483646) := hideP (by rw [HDE.out]; exact h3.2)
              have HNN : Hid (sn ≤ N) := hideP (by have e0 := HSN.out; omega)
              have HMS : Hid (flg W.heap.size Y5 = 1) := hideP (flg_ok HR5.out)
              clear hok1 hok3 hfm2 h3
              go_wp2
              go_roundw
              case rel => exact ⟨sn, pz, dd, _, c', PL ++ FL, false, hsnb, hpzn, rfl, by first | rfl | go_num, HG5, HPI5, HR5, hideP (fun _ => ⟨⟨HD5.out, HNN.out⟩, HTT.out, HDB.out⟩), hideP (fun h => (by cases h))⟩
              case measure => have := HMS.out; have := HFl.out; have := HSN.out; simp only [lnO]; omega
        have t1 : ¬ (nn : Int) < (N : Int) := by omega
        have t2 : decide ((nn : Int) < (N : Int)) = false := decide_eq_false t1
        have t3 : decide (nn < N) = false := decide_eq_false hnN
        have HDz : Hid (D = some (pol PL)) := hideP (by rw [HDf.out, show N - nn = 0 by omega, show nbp 0 = 0 from rfl, dal]; simp [apD])
        obtain ⟨hP9, hn9, hc9⟩ := HG.out.at
        have CE := hideP (dencode_any PL va vc Z hP9 HPI.out (by rw [← hn9]; exact hnB) (by rw [← hn9]; exact hc9) (by have := HTP.out; omega))
        rw [← hn9] at CE
        have HP9 := hideP hP9
        have HN9 := hideP hn9
        have hfi := flts_iff (L := pol PL) (b := -1) (fun p hp => by
          obtain ⟨g, hgm, rfl⟩ := List.mem_map.1 hp
          exact HPI.out g hgm)
        obtain ⟨hgood, hbadx⟩ := HOS.out _ HDz.out
        have HGood := hideP hgood
        have HBadx := hideP hbadx
        have HFi := hideP hfi
        clear hP9 hn9 hfi hgood hbadx HDf w3
        obtain ⟨⟨-, -, w3⟩, -⟩ := row3 HRz.out
        go_wp2_with (go_at_call 5; refine StpQ.go ?_)
        refine ⟨?_⟩
        refine CE.out.mono ?_
        clear CE
        rintro e Y (⟨hf, g, c', rfl, hGr⟩ | ⟨hf, rfl, kY⟩)
        · have hgd := HFi.out.1 hf
          have HKy := hideP (HKz.out.trans hGr.kept (fun _ f => f.elim))
          have HPy := hideP (HP9.out.kept hGr.kept)
          have cva := conv_at (some ⟨g, 0, none⟩) (img (pol PL)).length c' Y (img (pol PL)) rfl (gro_bytes hGr).1
          have cvb := conv_at a n c Y l HNL.out (HB.out _ HKy.out)
          obtain ⟨IM, hIM⟩ : ∃ IM, IM = img (pol PL) := ⟨_, rfl⟩
          rw [← hIM] at cva
          have nsa := neqSP 9 (strOfNums IM) (strOfNums l)
          by_cases he : img (pol PL) = l
          · have HOs := hideP (HGood.out ⟨hgd, he⟩)
            have nsb : ((strOfNums IM).toList == (strOfNums l).toList) = true := by rw [hIM, he]; simp
            rw [nsb] at nsa
            obtain ⟨il, hil⟩ : ∃ il, il = (img (pol PL)).length := ⟨_, rfl⟩
            rw [← hil]
            rw [hIM, ← hil, ← hIM] at cva
            clear hf hGr nsb he hgd hil hIM HBadx HGood
            go_wp2
            go_ret2
            rw [HOs.out]
            exact ⟨PL, va, vc, rfl, by rw [← HN9.out]; rfl, HPy.out, HKy.out⟩
          · have HOn := hideP (HBadx.out (fun h => he h.2))
            have nsb : ((strOfNums IM).toList == (strOfNums l).toList) = false := by
              rw [beq_eq_false_iff_ne]
              intro h
              exact he (by rw [← hIM]; exact str_injP (by rw [hIM]; exact img_bytes hgd) HI.out h)
            rw [nsb] at nsa
            obtain ⟨il, hil⟩ : ∃ il, il = (img (pol PL)).length := ⟨_, rfl⟩
            rw [← hil]
            rw [hIM, ← hil, ← hIM] at cva
            clear hf hGr nsb he hgd hil hIM HBadx HGood
            go_wp2
            go_ret2
            rw [HOn.out]
            exact ⟨rfl, HKy.out⟩
        · have HOn := hideP (HBadx.out (fun h => hf (HFi.out.2 h.1)))
          have HKy := hideP (HKz.out.trans kY (fun _ f => f.elim))
          have nz : (fnm (flts (-1) (pol PL)) != 0) = true := by
            unfold fnm
            rw [if_neg hf]
            split <;> rfl
          generalize fnm (flts (-1) (pol PL)) = code at *
          clear hf kY
          go_wp2
          go_ret2
          rw [HOn.out]
          exact ⟨rfl, HKy.out⟩
