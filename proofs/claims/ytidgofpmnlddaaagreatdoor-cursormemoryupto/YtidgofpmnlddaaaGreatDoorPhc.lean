import Derived.Test.YtidgofpmnlddaaaGreatDoorMrg9
namespace Go.Proofs.YtidgofpmnlddaaaGreatDoor
open Go.ChangeShapes Go.WideShapes Go.ChangeAt Go.RowKit

/-- Spots as they lie in memory: a place and a word each. -/
def SpAt (w : World) (a : Option Addr) (L : List (Int × Nat)) : Prop :=
  L ≠ [] → ∃ b off, a = some ⟨b, off, none⟩ ∧ ∀ k (h : k < L.length), w.cell? ⟨b, off + k * 2, none⟩ = some (.int .i64 L[k].1) ∧ w.cell? ⟨b, off + k * 2 + 1, none⟩ = some (.int .i64 (L[k].2 : Nat))
theorem SpAt.kept {w w' : World} {a : Option Addr} {L : List (Int × Nat)} (h : SpAt w a L) (k : Kept (fun _ => False) w w') : SpAt w' a L := by
  intro hne
  obtain ⟨b, off, e, hc⟩ := h hne
  exact ⟨b, off, e, fun j hj => ⟨k.cell (hc j hj).1 (fun f => f), k.cell (hc j hj).2 (fun f => f)⟩⟩
/-- How many spots of each word are inside, how many words are met, and how far the window goes. -/
structure Wn where
  ins : List Int
  met : Int
  en : Nat
def inn (L : List (Int × Nat)) (lim : Int) : Nat → Wn → Wn
  | 0, s => s
  | f + 1, s => match L[s.en]? with
    | none => s
    | some x => if x.1 ≤ lim then inn L lim f ⟨s.ins.set x.2 ((s.ins[x.2]?).getD 0 + 1), if (s.ins[x.2]?).getD 0 = 0 then s.met + 1 else s.met, s.en + 1⟩ else s
def fre (L : List (Int × Nat)) (i : Nat) (x : Int × Nat) : Bool := decide (i = 0) || decide (((L[i - 1]?).getD (0, 0)).1 ≠ x.1)
def out (L : List (Int × Nat)) (wd : Nat) (sl : Int) : Nat → Wn × Nat
  | 0 => (⟨List.replicate wd 0, 0, 0⟩, 0)
  | i + 1 => match L[i]? with
    | none => out L wd sl i
    | some x =>
      let s := inn L (x.1 + sl) (L.length - (out L wd sl i).1.en) (out L wd sl i).1
      let v := (s.ins[x.2]?).getD 0 - 1
      (⟨s.ins.set x.2 v, if v = 0 then s.met - 1 else s.met, s.en⟩, if fre L i x && decide (s.met = wd) then (out L wd sl i).2 + 1 else (out L wd sl i).2)
def cbg (L : List (Int × Nat)) (wd : Nat) (sl : Int) : Nat := (out L wd sl L.length).2
/-- How great the numbers are after i rounds. -/
structure Bd (n wd i : Nat) (s : Wn) : Prop where
  en : s.en ≤ n
  len : s.ins.length = wd
  ins : ∀ v ∈ s.ins, -(i : Int) ≤ v ∧ v ≤ (s.en : Int)
  met : -(i : Int) ≤ s.met ∧ s.met ≤ (s.en : Int)
theorem Bd.at {n wd i : Nat} {s : Wn} (h : Bd n wd i s) {k : Nat} (hk : k < wd) : s.ins[k]? = some ((s.ins[k]?).getD 0) ∧ -(i : Int) ≤ (s.ins[k]?).getD 0 ∧ (s.ins[k]?).getD 0 ≤ (s.en : Int) := by
  have hl : k < s.ins.length := by rw [h.len]; exact hk
  rw [List.getElem?_eq_getElem hl]
  exact ⟨rfl, h.ins _ (List.getElem_mem hl)⟩
theorem mem_set_or {l : List Int} {k : Nat} {x y : Int} (h : y ∈ l.set k x) : y ∈ l ∨ y = x := (List.mem_or_eq_of_mem_set h)
theorem Bd.inner {n wd i : Nat} {s : Wn} (h : Bd n wd i s) (x : Nat) (hx : x < wd) (he : s.en < n) : Bd n wd i ⟨s.ins.set x ((s.ins[x]?).getD 0 + 1), if (s.ins[x]?).getD 0 = 0 then s.met + 1 else s.met, s.en + 1⟩ := by
  have h1 := h.at hx
  have h2 := h.met
  refine ⟨he, by rw [List.length_set]; exact h.len, fun v hv => ?_, ?_⟩
  · rcases mem_set_or hv with q | q
    · have := h.ins v q; simp only; omega
    · simp only; omega
  · simp only; split <;> omega
theorem Bd.outer {n wd i : Nat} {s : Wn} (h : Bd n wd i s) (x : Nat) (hx : x < wd) : Bd n wd (i + 1) ⟨s.ins.set x ((s.ins[x]?).getD 0 - 1), if (s.ins[x]?).getD 0 - 1 = 0 then s.met - 1 else s.met, s.en⟩ := by
  have h1 := h.at hx
  have h2 := h.met
  refine ⟨h.en, by rw [List.length_set]; exact h.len, fun v hv => ?_, ?_⟩
  · rcases mem_set_or hv with q | q
    · have := h.ins v q; simp only; omega
    · simp only; omega
  · simp only; split <;> omega
theorem inn_step {L : List (Int × Nat)} {lim : Int} {s : Wn} (h : s.en < L.length) (hle : L[s.en].1 ≤ lim) : inn L lim (L.length - s.en) s = inn L lim (L.length - (s.en + 1)) ⟨s.ins.set L[s.en].2 ((s.ins[L[s.en].2]?).getD 0 + 1), if (s.ins[L[s.en].2]?).getD 0 = 0 then s.met + 1 else s.met, s.en + 1⟩ := by
  obtain ⟨f, hf⟩ : ∃ f, L.length - s.en = f + 1 := ⟨L.length - s.en - 1, by omega⟩
  rw [hf, show L.length - (s.en + 1) = f by omega]
  conv => lhs; unfold inn
  rw [List.getElem?_eq_getElem h]
  simp only [if_pos hle]
theorem inn_stop {L : List (Int × Nat)} {lim : Int} {s : Wn} (h : s.en = L.length ∨ ∃ hl : s.en < L.length, ¬ L[s.en].1 ≤ lim) : inn L lim (L.length - s.en) s = s := by
  rcases h with h | ⟨hl, hn⟩
  · rw [show L.length - s.en = 0 by omega]; rfl
  · obtain ⟨f, hf⟩ : ∃ f, L.length - s.en = f + 1 := ⟨L.length - s.en - 1, by omega⟩
    rw [hf]
    unfold inn
    rw [List.getElem?_eq_getElem hl]
    simp only [if_neg hn]
theorem out_step {L : List (Int × Nat)} {wd : Nat} {sl : Int} {i : Nat} {s s2 : Wn} {cn : Nat} {x : Int × Nat} (h : (s, cn) = out L wd sl i) (hx : L[i]? = some x) (h2 : inn L (x.1 + sl) (L.length - s.en) s = s2) :
    out L wd sl (i + 1) = (⟨s2.ins.set x.2 ((s2.ins[x.2]?).getD 0 - 1), if (s2.ins[x.2]?).getD 0 - 1 = 0 then s2.met - 1 else s2.met, s2.en⟩, if fre L i x && decide (s2.met = wd) then cn + 1 else cn) := by
  conv => lhs; unfold out
  rw [hx, ← h]
  simp only [h2]
theorem madeI (n : Nat) : madeCells #[Value.int .i64 0] n = (is (List.replicate n (0 : Int))).toArray := by
  apply Array.ext
  · rw [size_madeCells, List.size_toArray, is_len, List.length_replicate]
  · intro i h1 h2
    simp [madeCells, is, Nat.mod_one]
/-- make([]int, n). -/
theorem make_ints (n : Nat) (W : World) (hn : n ≤ 1099511627776) :
    (Instr.makeSlice 24 (.int .i64 (n : Int)) (.int .i64 (n : Int))).run Tryz.prog W = .ok (.slice (some ⟨W.heap.size, 0, none⟩) n n) (W.alloc (.cells (is (List.replicate n (0 : Int))).toArray 3)) := by
  obtain ⟨i0, hi, hz0, hz1, hz2⟩ := info_partsP Tryz.infoI
  have q := run_make (P := Tryz.prog) W 24 3 i0 (.int .i64 0) Tryz.underlying24 hi hz0 .i64 .i64 (n : Int) (n : Int) (by omega) (by omega) (by rw [hz2]; omega) (by omega)
  rw [hz1, Nat.mul_one, Int.toNat_natCast] at q
  rw [q, show (Value.int .i64 0).cells = #[Value.int .i64 0] from rfl, madeI]
theorem ints_own (n : Nat) (W : World) (hn : n ≤ 1099511627776) : Gro W (W.alloc (.cells (is (List.replicate n (0 : Int))).toArray 3)) 3 1 (.slice (some ⟨W.heap.size, 0, none⟩) n n) n (is (List.replicate n 0)) := by
  refine ⟨⟨by rw [is_len, List.length_replicate]; omega, .inr ⟨W.heap.size, n, (is (List.replicate n 0)).toArray, rfl, Nat.le_refl _, heap_alloc_new W _, Nat.le_refl _, by unfold maxLen; omega, by simp [is_len], ?_⟩⟩, Kept.alloc W _⟩
  rw [List.toList_toArray, List.take_of_length_le (by rw [is_len, List.length_replicate]; omega)]
theorem is_get {l : List Int} {k : Nat} {x : Int} (h : l[k]? = some x) : (is l)[k]? = some (.int .i64 x) := by simp [is, h]
theorem is_set (l : List Int) (k : Nat) (x : Int) : (is l).set k (.int .i64 x) = is (l.set k x) := by simp [is, List.map_set]
set_option maxRecDepth 20000 in
set_option maxHeartbeats 8000000 in
theorem countBegins_any (L : List (Int × Nat)) (a : Option Addr) (c wd : Nat) (sl : Int) (W : World) (hS : SpAt W a L) (hl : L.length ≤ 1099511627776) (hw : wd ≤ 1099511627776) (hlw : ∀ x ∈ L, x.2 < wd) (hat : ∀ x ∈ L, -2147483648 ≤ x.1 ∧ x.1 ≤ 2147483648) (hsl : 0 ≤ sl ∧ sl ≤ 2147483648) :
    Calls Tryz.prog 38 #[.slice a L.length c, .int .i64 wd, .int .i64 sl] W fun e w' => e = .returned (.int .i64 (cbg L wd sl : Nat)) ∧ Kept (fun _ => False) W w' := by
  have HS := hideP hS
  have HLW := hideP hlw
  have HAT := hideP hat
  obtain ⟨n, hn⟩ : ∃ n, n = L.length := ⟨_, rfl⟩
  have HN := hideP hn
  rw [← hn] at hl ⊢
  clear hS hlw hat hn
  go_enter Tryz.func38, Tryz.ntmps38
  have mk := make_ints wd W hw
  have HG0 := hideP (ints_own wd W hw)
  go_wp2
  generalize W.heap.size = g at *
  generalize W.alloc (.cells (is (List.replicate wd (0 : Int))).toArray 3) = V0 at *
  clear mk
  go_loopw [8, 9, 10, 19] (fun s8 s9 s10 s19 wr => ∃ (i : Nat) (s : Wn) (cn : Nat), i ≤ n ∧ cn ≤ i ∧ s19 = .int .i64 i ∧ s8 = .int .i64 s.met ∧ s9 = .int .i64 s.en ∧ s10 = .int .i64 cn ∧ Hid ((s, cn) = out L wd sl i) ∧ Hid (Bd n wd i s) ∧ Hid (Gro W wr 3 1 (.slice (some ⟨g, 0, none⟩) wd wd) wd (is s.ins))) (fun _ _ _ s19 _ => n - (intOf s19).toNat)
  case atStart => exact ⟨0, ⟨List.replicate wd 0, 0, 0⟩, 0, by omega, by omega, rfl, rfl, rfl, rfl, hideP rfl, hideP ⟨Nat.zero_le _, List.length_replicate .., fun v hv => by rw [List.eq_of_mem_replicate hv]; simp, by simp⟩, HG0⟩
  case round =>
    obtain ⟨i, s, cn, hi, hcn, rfl, rfl, rfl, rfl, HO, HB, HG⟩ := hrel
    by_cases hlt : i < n
    · have hil : i < L.length := by rw [← HN.out]; exact hlt
      obtain ⟨b, off, rfl, hc⟩ := HS.out (by intro e; rw [e] at hil; simp at hil)
      obtain ⟨x, hx⟩ : ∃ x, x = L[i] := ⟨_, rfl⟩
      obtain ⟨z0, z1⟩ := hc i hil
      rw [← hx] at z0 z1
      have y0 := HG.out.kept.cell z0 (fun f => f)
      have y1 := HG.out.kept.cell z1 (fun f => f)
      have HX := hideP hx
      have hxm : x ∈ L := by rw [hx]; exact List.getElem_mem hil
      have hxw := HLW.out x hxm
      have hxa := HAT.out x hxm
      have hii : (i : Int) < (n : Int) := by omega
      have HC := hideP hc
      obtain ⟨hxa1, hxa2⟩ := hxa
      clear hx z0 z1 hc hxm
      have HG1 := hideP (HG.out.later (Kept.alloc wr (.cells #[.int .i64 x.1, .int .i64 (x.2 : Nat)] 100)))
      have gf := heap_alloc_new wr (.cells #[.int .i64 x.1, .int .i64 (x.2 : Nat)] 100)
      have hfg : wr.heap.size ≠ g := by
        have := (HG.out.own.lt g rfl).2
        omega
      obtain ⟨x1, hx1⟩ : ∃ x1, x1 = x.1 := ⟨_, rfl⟩
      obtain ⟨x2, hx2⟩ : ∃ x2, x2 = x.2 := ⟨_, rfl⟩
      rw [← hx1] at y0 gf HG1
      rw [← hx2] at y1 gf HG1
      rw [← hx1] at hxa1 hxa2
      rw [← hx2] at hxw
      have HX1 := hideP hx1
      have HX2 := hideP hx2
      clear hx1 hx2 HG
      go_wp2
      generalize wr.heap.size = fb at *
      generalize wr.alloc (.cells #[.int .i64 x1, .int .i64 (x2 : Nat)] 100) = V1 at *
      clear y0 y1
      obtain ⟨lim, hlim⟩ : ∃ lim, lim = x1 + sl := ⟨_, rfl⟩
      have HLIM := hideP hlim
      have HIN0 : Hid (inn L lim (L.length - s.en) s = inn L lim (L.length - s.en) s) := hideP rfl
      have h8 : s.en ≤ n := HB.out.en
      go_loopw [8, 9] (fun s8 s9 w2 => ∃ (s2 : Wn), s2.en ≤ n ∧ s8 = .int .i64 s2.met ∧ s9 = .int .i64 s2.en ∧ Hid (inn L lim (L.length - s.en) s = inn L lim (L.length - s2.en) s2) ∧ Hid (Bd n wd i s2) ∧ Hid (Gro W w2 3 1 (.slice (some ⟨g, 0, none⟩) wd wd) wd (is s2.ins)) ∧ Hid (w2.heap[fb]? = some (.cells #[.int .i64 x1, .int .i64 (x2 : Nat)] 100 (0, 0)))) (fun _ s9 _ => n - (intOf s9).toNat)
      case atStart => exact ⟨s, h8, rfl, rfl, HIN0, HB, HG1, hideP gf⟩
      case round =>
        obtain ⟨s2, hs2, rfl, rfl, HI2, HB2, HG2, HF2⟩ := hrel
        have v0 : wr.cell? ⟨fb, 0, none⟩ = some (.int .i64 x1) := by rw [cell_of_row _ fb 0 _ _ _ HF2.out]; rfl
        have v1 : wr.cell? ⟨fb, 1, none⟩ = some (.int .i64 (x2 : Nat)) := by rw [cell_of_row _ fb 1 _ _ _ HF2.out]; rfl
        have hlm : x1 + sl = lim := hlim.symm
        clear hlim
        by_cases hen : s2.en < n
        · have hel : s2.en < L.length := by rw [← HN.out]; exact hen
          obtain ⟨y, hy⟩ : ∃ y, y = L[s2.en] := ⟨_, rfl⟩
          obtain ⟨q0, q1⟩ := HC.out s2.en hel
          rw [← hy] at q0 q1
          have w0 := HG2.out.kept.cell q0 (fun f => f)
          have w1 := HG2.out.kept.cell q1 (fun f => f)
          have hym : y ∈ L := by rw [hy]; exact List.getElem_mem hel
          have hyw := HLW.out y hym
          have HY := hideP hy
          have hee : decide ((s2.en : Int) < (n : Int)) = true := decide_eq_true (by omega)
          have hee2 : (s2.en : Int) < (n : Int) := by omega
          obtain ⟨y1, hy1⟩ : ∃ y1, y1 = y.1 := ⟨_, rfl⟩
          obtain ⟨y2, hy2⟩ : ∃ y2, y2 = y.2 := ⟨_, rfl⟩
          rw [← hy1] at w0
          rw [← hy2] at w1 hyw
          have HY1 := hideP hy1
          have HY2 := hideP hy2
          clear hy q0 q1 hym hy1 hy2
          by_cases hle : y1 ≤ lim
          · have hld : decide (y1 ≤ lim) = true := decide_eq_true hle
            have hvv := HB2.out.at hyw
            obtain ⟨v, hv⟩ : ∃ v, v = (s2.ins[y2]?).getD 0 := ⟨_, rfl⟩
            rw [← hv] at hvv
            have HV := hideP hv
            obtain ⟨hv1, hv2, hv3⟩ := hvv
            have HBi := hideP (HB2.out.inner y2 hyw hen)
            rw [← hv] at HBi
            have HIi : Hid (inn L lim (L.length - s.en) s = inn L lim (L.length - (s2.en + 1)) ⟨s2.ins.set y2 (v + 1), if v = 0 then s2.met + 1 else s2.met, s2.en + 1⟩) := hideP (by
              rw [HI2.out, inn_step hel (by rw [← HY.out, ← HY1.out]; exact hle), ← HY.out, ← HY2.out, HV.out])
            have hmb := HB2.out.met
            obtain ⟨hmb1, hmb2⟩ := hmb
            clear hv
            go_wp2_with fail
            go_quiet (fail)
            have HG3 := hideP (HG2.out.later (Kept.drewN wr nq))
            have HF3 := hideP ((Kept.drewN wr nq).heap HF2.out (fun f => f))
            have w1' := (Kept.drewN wr nq).cell w1 (fun f => f)
            generalize wr.drewN nq = V3 at *
            have u0 : V3.cell? ⟨g, y2, none⟩ = some (.int .i64 v) := HG3.out.at (is_get hv1)
            have hset := HG3.out.set y2 (.int .i64 (v + 1))
            rw [is_set] at hset
            have u1 := hset.2
            have HG4 := hideP hset.1
            have HF4 : Hid ((V3.setCell ⟨g, y2, none⟩ (.int .i64 (v + 1))).heap[fb]? = some (.cells #[.int .i64 x1, .int .i64 (x2 : Nat)] 100 (0, 0))) := hideP ((Kept.setCell V3 ⟨g, y2, none⟩ (.int .i64 (v + 1))).heap HF3.out hfg)
            clear hset hv1 HG3 HF3 HG2 HF2 v0 v1 w0 w1
            by_cases hz : v = 0
            · have hzb : (v == 0) = true := by rw [beq_iff_eq]; exact hz
              have HZ := hideP hz
              clear hz
              go_wp2
              go_roundw
              case rel => exact ⟨⟨s2.ins.set y2 (v + 1), if v = 0 then s2.met + 1 else s2.met, s2.en + 1⟩, by simp only; omega, by rw [if_pos HZ.out], by go_num, HIi, HBi, HG4, HF4⟩
              case measure => simp [intOf]; omega
            · have hzb : (v == 0) = false := by rw [beq_eq_false_iff_ne]; exact hz
              go_wp2
              go_roundw
              case rel => exact ⟨⟨s2.ins.set y2 (v + 1), if v = 0 then s2.met + 1 else s2.met, s2.en + 1⟩, by simp only; omega, by rw [if_neg hz], by go_num, HIi, HBi, HG4, HF4⟩
              case measure => simp [intOf]; omega
          · have hld : decide (y1 ≤ lim) = false := decide_eq_false hle
            have HSTOP : Hid (inn L lim (L.length - s.en) s = s2) := hideP (by rw [HI2.out]; exact inn_stop (.inr ⟨hel, by rw [← HY.out, ← HY1.out]; exact hle⟩))
            go_wp2_with fail
            go_quiet (fail)
            have HG3 := hideP (HG2.out.later (Kept.drewN wr nq))
            have v0' := (Kept.drewN wr nq).cell v0 (fun f => f)
            have v1' := (Kept.drewN wr nq).cell v1 (fun f => f)
            clear HG2 HF2 v0 v1 w0 w1
            generalize wr.drewN nq = V3 at *
            have HXI : Hid (L[i]? = some x) := hideP (by rw [List.getElem?_eq_getElem hil, HX.out])
            have HIS : Hid (inn L (x.1 + sl) (L.length - s.en) s = s2) := hideP (by rw [← HX1.out, ← HLIM.out]; exact HSTOP.out)
            by_cases hi0 : i = 0
            · have e0 : ((i : Int) == 0) = true := by rw [beq_iff_eq]; omega
              obtain ⟨fr, hfr⟩ : ∃ fr, fr = true := ⟨_, rfl⟩
              have HFR : Hid (fr = fre L i x) := hideP (by rw [hfr]; unfold fre; simp [hi0])
              go_wp2_with fail
              go_quiet (fail)
              have HG4 := hideP (HG3.out.later (Kept.drewN V3 nq))
              have w1 := (Kept.drewN V3 nq).cell v1' (fun f => f)
              generalize V3.drewN nq = V4 at *
              rw [← hfr]
              clear hfr HG3 v0' v1'
              have hvv := HB2.out.at hxw
              obtain ⟨v, hv⟩ : ∃ v, v = (s2.ins[x2]?).getD 0 := ⟨_, rfl⟩
              rw [← hv] at hvv
              have HV := hideP hv
              obtain ⟨hv1, hv2, hv3⟩ := hvv
              have u0 : V4.cell? ⟨g, x2, none⟩ = some (.int .i64 v) := HG4.out.at (is_get hv1)
              have hset := HG4.out.set x2 (.int .i64 (v - 1))
              rw [is_set] at hset
              have u1 := hset.2
              have HG5 := hideP hset.1
              have HBo := hideP (HB2.out.outer x2 hxw)
              rw [← hv] at HBo
              have HST := hideP (out_step HO.out HXI.out HIS.out)
              clear hv hset hv1
              obtain ⟨hmb1, hmb2⟩ := HB2.out.met
              have hmv : (s2.met == (wd : Int)) = decide (s2.met = (wd : Int)) := rfl
              by_cases hz : v - 1 = 0
              all_goals
                have hzb : (v - 1 == 0) = decide (v - 1 = 0) := rfl
                by_cases hm : s2.met = (wd : Int)
                all_goals
                  cases fr
                  all_goals
                    first | rw [decide_eq_true hz] at hzb | rw [decide_eq_false hz] at hzb
                    first | rw [decide_eq_true hm] at hmv | rw [decide_eq_false hm] at hmv
                    have HZ := hideP hz
                    have HM := hideP hm
                    clear hz hm
                    go_wp2
                    go_roundw
                    case rel =>
                      refine ⟨i + 1, ⟨s2.ins.set x2 (v - 1), if v - 1 = 0 then s2.met - 1 else s2.met, s2.en⟩, if fre L i x && decide (s2.met = (wd : Int)) then cn + 1 else cn, by omega, by split <;> omega, by go_num, ?_, rfl, ?_, hideP ?_, HBo, HG5⟩
                      · first | rw [if_pos HZ.out] | rw [if_neg HZ.out]
                      · first
                          | rw [if_pos (by rw [← HFR.out]; simp [HM.out])]; go_num
                          | rw [if_neg (by rw [← HFR.out]; simp [HM.out])]
                      · rw [HST.out, ← HX2.out, HV.out]
                    case measure => simp [intOf]; omega

            · obtain ⟨j, rfl⟩ : ∃ j, i = j + 1 := ⟨i - 1, by omega⟩
              have e0 : (((j + 1 : Nat) : Int) == 0) = false := by rw [beq_eq_false_iff_ne]; omega
              have e0' : ((j : Int) + 1 == 0) = false := by rw [beq_eq_false_iff_ne]; omega
              have hjl : j < L.length := by omega
              have jc := HG3.out.kept.cell (HC.out j hjl).1 (fun f => f)
              have hjn : (j : Int) < (n : Int) := by omega
              obtain ⟨pj, hpj⟩ : ∃ pj, pj = L[j].1 := ⟨_, rfl⟩
              rw [← hpj] at jc
              obtain ⟨fr, hfr⟩ : ∃ fr, fr = (pj != x1) := ⟨_, rfl⟩
              have HFR : Hid (fr = fre L (j + 1) x) := hideP (by rw [hfr, hpj]; unfold fre; rw [Nat.add_sub_cancel, List.getElem?_eq_getElem hjl, HX1.out]; simp [bne]; rfl)
              have HFQ := hideP hfr
              clear hpj hfr
              go_wp2_with fail
              go_quiet (fail)
              have HG4 := hideP (HG3.out.later (Kept.drewN V3 nq))
              have w1 := (Kept.drewN V3 nq).cell v1' (fun f => f)
              generalize V3.drewN nq = V4 at *
              rw [← HFQ.out]
              clear HG3 v0' v1' jc HFQ
              have hvv := HB2.out.at hxw
              obtain ⟨v, hv⟩ : ∃ v, v = (s2.ins[x2]?).getD 0 := ⟨_, rfl⟩
              rw [← hv] at hvv
              have HV := hideP hv
              obtain ⟨hv1, hv2, hv3⟩ := hvv
              have u0 : V4.cell? ⟨g, x2, none⟩ = some (.int .i64 v) := HG4.out.at (is_get hv1)
              have hset := HG4.out.set x2 (.int .i64 (v - 1))
              rw [is_set] at hset
              have u1 := hset.2
              have HG5 := hideP hset.1
              have HBo := hideP (HB2.out.outer x2 hxw)
              rw [← hv] at HBo
              have HST := hideP (out_step HO.out HXI.out HIS.out)
              clear hv hset hv1
              obtain ⟨hmb1, hmb2⟩ := HB2.out.met
              have hmv : (s2.met == (wd : Int)) = decide (s2.met = (wd : Int)) := rfl
              by_cases hz : v - 1 = 0
              all_goals
                have hzb : (v - 1 == 0) = decide (v - 1 = 0) := rfl
                by_cases hm : s2.met = (wd : Int)
                all_goals
                  cases fr
                  all_goals
                    first | rw [decide_eq_true hz] at hzb | rw [decide_eq_false hz] at hzb
                    first | rw [decide_eq_true hm] at hmv | rw [decide_eq_false hm] at hmv
                    have HZ := hideP hz
                    have HM := hideP hm
                    clear hz hm
                    go_wp2
                    go_roundw
                    case rel =>
                      refine ⟨j + 1 + 1, ⟨s2.ins.set x2 (v - 1), if v - 1 = 0 then s2.met - 1 else s2.met, s2.en⟩, if fre L (j + 1) x && decide (s2.met = (wd : Int)) then cn + 1 else cn, by omega, by split <;> omega, by go_num, ?_, rfl, ?_, hideP ?_, HBo, HG5⟩
                      · first | rw [if_pos HZ.out] | rw [if_neg HZ.out]
                      · first
                          | rw [if_pos (by rw [← HFR.out]; simp [HM.out])]; go_num
                          | rw [if_neg (by rw [← HFR.out]; simp [HM.out])]
                      · rw [HST.out, ← HX2.out, HV.out]
                    case measure => simp [intOf]; omega
        · have hen2 : s2.en = n := by omega
          have hee : decide ((s2.en : Int) < (n : Int)) = false := decide_eq_false (by omega)
          have HSTOP : Hid (inn L lim (L.length - s.en) s = s2) := hideP (by rw [HI2.out]; exact inn_stop (.inl (by rw [hen2, HN.out])))
          clear hen2
          go_wp2_with fail
          go_quiet (fail)
          have HG3 := hideP (HG2.out.later (Kept.drewN wr nq))
          have v0' := (Kept.drewN wr nq).cell v0 (fun f => f)
          have v1' := (Kept.drewN wr nq).cell v1 (fun f => f)
          clear HG2 HF2 v0 v1
          generalize wr.drewN nq = V3 at *
          have HXI : Hid (L[i]? = some x) := hideP (by rw [List.getElem?_eq_getElem hil, HX.out])
          have HIS : Hid (inn L (x.1 + sl) (L.length - s.en) s = s2) := hideP (by rw [← HX1.out, ← HLIM.out]; exact HSTOP.out)
          by_cases hi0 : i = 0
          · have e0 : ((i : Int) == 0) = true := by rw [beq_iff_eq]; omega
            obtain ⟨fr, hfr⟩ : ∃ fr, fr = true := ⟨_, rfl⟩
            have HFR : Hid (fr = fre L i x) := hideP (by rw [hfr]; unfold fre; simp [hi0])
            go_wp2_with fail
            go_quiet (fail)
            have HG4 := hideP (HG3.out.later (Kept.drewN V3 nq))
            have w1 := (Kept.drewN V3 nq).cell v1' (fun f => f)
            generalize V3.drewN nq = V4 at *
            rw [← hfr]
            clear hfr HG3 v0' v1'
            have hvv := HB2.out.at hxw
            obtain ⟨v, hv⟩ : ∃ v, v = (s2.ins[x2]?).getD 0 := ⟨_, rfl⟩
            rw [← hv] at hvv
            have HV := hideP hv
            obtain ⟨hv1, hv2, hv3⟩ := hvv
            have u0 : V4.cell? ⟨g, x2, none⟩ = some (.int .i64 v) := HG4.out.at (is_get hv1)
            have hset := HG4.out.set x2 (.int .i64 (v - 1))
            rw [is_set] at hset
            have u1 := hset.2
            have HG5 := hideP hset.1
            have HBo := hideP (HB2.out.outer x2 hxw)
            rw [← hv] at HBo
            have HST := hideP (out_step HO.out HXI.out HIS.out)
            clear hv hset hv1
            obtain ⟨hmb1, hmb2⟩ := HB2.out.met
            have hmv : (s2.met == (wd : Int)) = decide (s2.met = (wd : Int)) := rfl
            by_cases hz : v - 1 = 0
            all_goals
              have hzb : (v - 1 == 0) = decide (v - 1 = 0) := rfl
              by_cases hm : s2.met = (wd : Int)
              all_goals
                cases fr
                all_goals
                  first | rw [decide_eq_true hz] at hzb | rw [decide_eq_false hz] at hzb
                  first | rw [decide_eq_true hm] at hmv | rw [decide_eq_false hm] at hmv
                  have HZ := hideP hz
                  have HM := hideP hm
                  clear hz hm
                  go_wp2
                  go_roundw
                  case rel =>
                    refine ⟨i + 1, ⟨s2.ins.set x2 (v - 1), if v - 1 = 0 then s2.met - 1 else s2.met, s2.en⟩, if fre L i x && decide (s2.met = (wd : Int)) then cn + 1 else cn, by omega, by split <;> omega, by go_num, ?_, rfl, ?_, hideP ?_, HBo, HG5⟩
                    · first | rw [if_pos HZ.out] | rw [if_neg HZ.out]
                    · first
                        | rw [if_pos (by rw [← HFR.out]; simp [HM.out])]; go_num
                        | rw [if_neg (by rw [← HFR.out]; simp [HM.out])]
                    · rw [HST.out, ← HX2.out, HV.out]
                  case measure => simp [intOf]; omega

          · obtain ⟨j, rfl⟩ : ∃ j, i = j + 1 := ⟨i - 1, by omega⟩
            have e0 : (((j + 1 : Nat) : Int) == 0) = false := by rw [beq_eq_false_iff_ne]; omega
            have e0' : ((j : Int) + 1 == 0) = false := by rw [beq_eq_false_iff_ne]; omega
            have hjl : j < L.length := by omega
            have jc := HG3.out.kept.cell (HC.out j hjl).1 (fun f => f)
            have hjn : (j : Int) < (n : Int) := by omega
            obtain ⟨pj, hpj⟩ : ∃ pj, pj = L[j].1 := ⟨_, rfl⟩
            rw [← hpj] at jc
            obtain ⟨fr, hfr⟩ : ∃ fr, fr = (pj != x1) := ⟨_, rfl⟩
            have HFR : Hid (fr = fre L (j + 1) x) := hideP (by rw [hfr, hpj]; unfold fre; rw [Nat.add_sub_cancel, List.getElem?_eq_getElem hjl, HX1.out]; simp [bne]; rfl)
            have HFQ := hideP hfr
            clear hpj hfr
            go_wp2_with fail
            go_quiet (fail)
            have HG4 := hideP (HG3.out.later (Kept.drewN V3 nq))
            have w1 := (Kept.drewN V3 nq).cell v1' (fun f => f)
            generalize V3.drewN nq = V4 at *
            rw [← HFQ.out]
            clear HG3 v0' v1' jc HFQ
            have hvv := HB2.out.at hxw
            obtain ⟨v, hv⟩ : ∃ v, v = (s2.ins[x2]?).getD 0 := ⟨_, rfl⟩
            rw [← hv] at hvv
            have HV := hideP hv
            obtain ⟨hv1, hv2, hv3⟩ := hvv
            have u0 : V4.cell? ⟨g, x2, none⟩ = some (.int .i64 v) := HG4.out.at (is_get hv1)
            have hset := HG4.out.set x2 (.int .i64 (v - 1))
            rw [is_set] at hset
            have u1 := hset.2
            have HG5 := hideP hset.1
            have HBo := hideP (HB2.out.outer x2 hxw)
            rw [← hv] at HBo
            have HST := hideP (out_step HO.out HXI.out HIS.out)
            clear hv hset hv1
            obtain ⟨hmb1, hmb2⟩ := HB2.out.met
            have hmv : (s2.met == (wd : Int)) = decide (s2.met = (wd : Int)) := rfl
            by_cases hz : v - 1 = 0
            all_goals
              have hzb : (v - 1 == 0) = decide (v - 1 = 0) := rfl
              by_cases hm : s2.met = (wd : Int)
              all_goals
                cases fr
                all_goals
                  first | rw [decide_eq_true hz] at hzb | rw [decide_eq_false hz] at hzb
                  first | rw [decide_eq_true hm] at hmv | rw [decide_eq_false hm] at hmv
                  have HZ := hideP hz
                  have HM := hideP hm
                  clear hz hm
                  go_wp2
                  go_roundw
                  case rel =>
                    refine ⟨j + 1 + 1, ⟨s2.ins.set x2 (v - 1), if v - 1 = 0 then s2.met - 1 else s2.met, s2.en⟩, if fre L (j + 1) x && decide (s2.met = (wd : Int)) then cn + 1 else cn, by omega, by split <;> omega, by go_num, ?_, rfl, ?_, hideP ?_, HBo, HG5⟩
                    · first | rw [if_pos HZ.out] | rw [if_neg HZ.out]
                    · first
                        | rw [if_pos (by rw [← HFR.out]; simp [HM.out])]; go_num
                        | rw [if_neg (by rw [← HFR.out]; simp [HM.out])]
                    · rw [HST.out, ← HX2.out, HV.out]
                  case measure => simp [intOf]; omega
    · obtain rfl : i = n := by omega
      go_wp2
      go_ret
      refine ⟨?_, HG.out.kept⟩
      have h := HO.out
      unfold cbg
      rw [← HN.out, ← h]
      rfl
end Go.Proofs.YtidgofpmnlddaaaGreatDoor
