import Derived.Test.YtiebmmpnmklpnaaDoorPgm
import Derived.Test.YtiebmmpnmklpnaaDoorIza
import Derived.Test.YtiebmmpnmklpnaaDoorMnm
import Derived.Test.YtiebmmpnmklpnaaDoorIzb
import Derived.BigQuiet
import Derived.Deep.RegionWith
namespace Go.Proofs.YtiebmmpnmklpnaaDoor
open Go.ChangeShapes Go.WideShapes Go.ChangeAt Go.RowKit

/-! Which programs are good: the document's chapter 21 as plain maths. -/
def AvOk (l : List Int) : Prop := 1 ≤ l.length ∧ l.length ≤ 16 ∧ ∀ x ∈ l, 0 ≤ x
def CuOk (n : Nat) (c : Lf) : Prop := 0 ≤ c.f ∧ c.f < n ∧ c.t.size ≤ 64
def fdA (cu : List Lf) (i : Int) : Int := (cu[i.toNat]?.map Lf.f).getD 0
def CsOk (cu : List Lf) (c0 : Int) (i : Int) : Prop := 0 ≤ i ∧ i < cu.length ∧ fdA cu i = fdA cu c0
def OsOk (o : Int) : Prop := 0 ≤ o ∧ o < 2147483647
def NrOk (cu : List Lf) (n : Nr) : Prop := 1 ≤ n.cs.length ∧ n.os.length = n.cs.length ∧ OsOk n.sl ∧ (∀ i ∈ n.cs, CsOk cu (n.cs[0]?.getD 0) i) ∧ (∀ o ∈ n.os, OsOk o)
def laD (l : List Int) (k : Nat) : Int := if k = 0 then -1 else l[k - 1]?.getD 0
def DrOk (n : Nat) (l : List Int) : Prop := ∀ k, k < l.length → laD l k < l[k]?.getD 0 ∧ l[k]?.getD 0 < n
def TbOk (p : Pg) : Prop := AvOk p.av ∧ (∀ c ∈ p.cu, CuOk p.av.length c) ∧ (∀ n ∈ p.nr, NrOk p.cu n) ∧ (p.al = true → p.dr.length = 0) ∧ DrOk p.cu.length p.dr
/-- What an instruction takes; the height ahead of each instruction, by the way without skips. -/
def tkL : List Nat := [1, 0, 0, 0, 0, 0, 2, 2, 2, 2, 2, 1, 1, 1, 0, 1, 1]
def tkN (x : In) : Nat := if x.op = 14 then x.a else tkL.getD x.op.toNat 0
def hA (L : List In) : Nat → Nat
  | 0 => 0
  | k + 1 => hA L k + 1 - (L[k]?.map tkN).getD 0
def hL (L : List In) : List Int := (List.range L.length).map fun k => (hA L k : Int)
theorem hL_len (L : List In) : (hL L).length = L.length := by simp [hL]
theorem hL_at (L : List In) {k : Nat} (h : k < L.length) : (hL L)[k]? = some (hA L k : Int) := by simp [hL, h]
theorem hL_get (L : List In) {k : Nat} (h : k < (hL L).length) : (hL L)[k] = (hA L k : Int) := by simp [hL]
theorem hA_le (L : List In) : ∀ k, hA L k ≤ k
  | 0 => Nat.le_refl 0
  | k + 1 => by
    have := hA_le L k
    rw [hA]; omega
theorem hA_next {L : List In} {k : Nat} (h : k < L.length) : hA L (k + 1) = hA L k + 1 - tkN L[k] := by rw [hA, List.getElem?_eq_getElem h]; rfl
/-- What is asked of an instruction's operands, with m instructions behind it. -/
def OpOk (p : Pg) (x : In) (m : Nat) : Prop := (x.op = 3 → x.a < p.av.length) ∧ (x.op = 4 → x.a < p.cu.length) ∧ (x.op = 5 → x.a < p.nr.length) ∧ (x.op = 14 → 1 ≤ x.b ∧ x.b ≤ x.a) ∧ (x.op = 15 → x.a < m) ∧ (x.op = 16 → x.a < m)
def EnOk (L : List In) : Prop := 1 ≤ L.length ∧ ∀ k (h : k < L.length), L[k].op = 0 ↔ k = L.length - 1
def PaOk (p : Pg) (L : List In) : Prop := ∀ k (h : k < L.length), OpOk p L[k] (L.length - 1 - k)
def StOk (L : List In) : Prop := ∀ k (h : k < L.length), tkN L[k] ≤ hA L k
def SkOk (L : List In) : Prop := ∀ k (h : k < L.length), (L[k].op = 15 ∨ L[k].op = 16) → hA L (k + 1 + L[k].a) = hA L k
structure Gd (p : Pg) (L : List In) : Prop where
  en : EnOk L
  pa : PaOk p L
  st : StOk L
  sk : SkOk L
  one : hA L (L.length - 1) = 1
structure Vok (p : Pg) (L : List In) : Prop where
  tb : TbOk p
  dc : dcI p.co = some L
  gd : Gd p L
theorem Vok.uniq {p : Pg} {L M : List In} (h : Vok p L) (g : Vok p M) : L = M := Option.some.inj (h.dc.symm.trans g.dc)
/-- A proposition as a Bool. -/
theorem asB (P : Prop) : ∃ v : Bool, v = true ↔ P := ⟨@decide P (Classical.propDecidable P), by simp⟩
theorem asB_false {P : Prop} {v : Bool} (h : v = true ↔ P) : v = false ↔ ¬ P := by
  rw [← h]; simp
theorem isB_t {P : Prop} {v : Bool} (h : v = true ↔ P) (hp : P) : v = true := h.2 hp
theorem isB_f {P : Prop} {v : Bool} (h : v = true ↔ P) (hp : ¬ P) : v = false := (asB_false h).2 hp
/-- A Bool that says whether P, unseen by the walks. -/
def IsB (v : Bool) (P : Prop) : Prop := v = true ↔ P
theorem IsB.yes {P : Prop} (h : IsB true P) : P := Iff.mp h rfl
theorem IsB.no {P : Prop} (h : IsB false P) : ¬ P := fun p => by have := Iff.mpr h p; cases this
/-- The first OpEnd, or -1. -/
def fE (L : List In) : Int := match L.findIdx? (fun x => decide (x.op = 0)) with | some k => k | none => -1
theorem fE_none {L : List In} (h : ∀ k (hk : k < L.length), L[k].op ≠ 0) : fE L = -1 := by
  unfold fE
  rw [List.findIdx?_eq_none_iff.2 (fun x hx => by obtain ⟨k, hk, rfl⟩ := List.mem_iff_getElem.1 hx; simpa using h k hk)]
theorem fE_some {L : List In} {j : Nat} (hj : j < L.length) (h0 : L[j].op = 0) (h : ∀ k (hk : k < L.length), k < j → L[k].op ≠ 0) : fE L = j := by
  unfold fE
  rw [List.findIdx?_eq_some_iff_getElem.2 ⟨hj, by simpa using h0, fun k hk => by simpa using h k (by omega) hk⟩]
theorem fE_iff (L : List In) : (0 ≤ fE L ∧ fE L = (L.length : Int) - 1) ↔ EnOk L := by
  constructor
  · rintro ⟨h1, h2⟩
    unfold fE at h1 h2
    cases hq : L.findIdx? (fun x => decide (x.op = 0)) with
    | none => rw [hq] at h1; simp only at h1; omega
    | some j =>
      rw [hq] at h2
      simp only at h2
      obtain ⟨hj, h0, hf⟩ := List.findIdx?_eq_some_iff_getElem.1 hq
      refine ⟨by omega, fun k hk => ⟨fun e => ?_, fun e => ?_⟩⟩
      · by_cases hkj : k < j
        · have := hf k hkj; simp [e] at this
        · omega
      · have : k = j := by omega
        subst this
        simpa using h0
  · rintro ⟨h1, h2⟩
    have h3 := fE_some (L := L) (j := L.length - 1) (by omega) ((h2 _ (by omega)).2 rfl) (fun k hk hkl e => by have := (h2 k hk).1 e; omega)
    omega
end Go.Proofs.YtiebmmpnmklpnaaDoor
namespace Go.Proofs.YtiebmmpnmklpnaaDoor
open Go.ChangeShapes Go.WideShapes Go.ChangeAt Go.RowKit

/-! The project's tables. -/
def amB (i n : Int) : Bool := decide (0 ≤ i) && decide (i < n)
theorem amB_iff {i n : Int} : amB i n = true ↔ 0 ≤ i ∧ i < n := by simp [amB]
set_option maxRecDepth 20000 in
theorem among_any (i n : Int) (w : World) :
    Calls Tryd.prog 50 #[.int .i64 i, .int .i64 n] w fun e w' => e = .returned (.bool (amB i n)) ∧ w' = w := by
  unfold amB
  by_cases h0 : 0 ≤ i
  · by_cases h1 : i < n
    · go_enter Tryd.func50, Tryd.ntmps50
      go_wp2
      go_ret
      exact ⟨by simp [h0, h1], rfl⟩
    · go_enter Tryd.func50, Tryd.ntmps50
      go_wp2
      go_ret
      exact ⟨by simp [h1], rfl⟩
  · go_enter Tryd.func50, Tryd.ntmps50
    go_wp2
    go_ret
    exact ⟨by rw [decide_eq_false (by omega : ¬ 0 ≤ i)]; rfl, rfl⟩
set_option maxRecDepth 20000 in
set_option maxHeartbeats 1000000 in
theorem goodAvgs_any (l : List Int) (a : Option Addr) (c : Nat) (w : World) (h : IntsAt w a l) (hl : l.length ≤ 1099511627776) (v : Bool) (hv : v = true ↔ AvOk l) :
    Calls Tryd.prog 31 #[.slice a l.length c] w fun e w' => e = .returned (.bool v) ∧ w' = w := by
  by_cases h1 : 1 ≤ l.length
  · by_cases h2 : l.length ≤ 16
    · have HM := hideI (min_any l a c w h hl (by intro e; rw [e] at h1; simp at h1))
      have HV : Hid (v = !(l.any fun x => decide (x < 0))) := hideI (by
        rw [Bool.eq_iff_iff, hv]
        unfold AvOk
        simp [h1, h2])
      obtain ⟨nl, hnl⟩ : ∃ nl, nl = l.length := ⟨_, rfl⟩
      rw [← hnl] at HM h1 h2 ⊢
      have g1 : (1 : Int) ≤ (nl : Int) := by omega
      have g2 : (nl : Int) ≤ 16 := by omega
      clear hnl h hl hv
      go_enter Tryd.func31, Tryd.ntmps31
      go_wp2_with (go_at_call 49; refine HM.out.mono ?_; clear HM; rintro e W ⟨⟨m, rfl, hm⟩, rfl⟩; have HMM := hideI hm; clear hm)
      go_ret
      refine ⟨ret_bool ?_, rfl⟩
      rw [HV.out, ← HMM.out]
      by_cases hm : m < 0
      · rw [decide_eq_true hm, decide_eq_false (by omega)]; rfl
      · rw [decide_eq_false hm, decide_eq_true (by omega)]; rfl
    · have hf : v = false := isB_f hv (fun e => h2 e.2.1)
      subst hf
      obtain ⟨nl, hnl⟩ : ∃ nl, nl = l.length := ⟨_, rfl⟩
      rw [← hnl] at h1 h2 ⊢
      have g1 : (1 : Int) ≤ (nl : Int) := by omega
      have g2 : ¬ (nl : Int) ≤ 16 := by omega
      clear hnl h hl hv
      go_enter Tryd.func31, Tryd.ntmps31
      go_wp2
      go_ret
      exact ⟨rfl, rfl⟩
  · have hf : v = false := isB_f hv (fun e => h1 e.1)
    subst hf
    obtain ⟨nl, hnl⟩ : ∃ nl, nl = l.length := ⟨_, rfl⟩
    rw [← hnl] at h1 ⊢
    have g1 : ¬ (1 : Int) ≤ (nl : Int) := by omega
    clear hnl h hl hv
    go_enter Tryd.func31, Tryd.ntmps31
    go_wp2
    go_ret
    exact ⟨rfl, rfl⟩
theorem all_snoc {α : Type} {P : α → Prop} {l : List α} {j : Nat} (h : j < l.length) (ha : ∀ x ∈ l.take j, P x) (hf : P l[j]) : ∀ x ∈ l.take (j + 1), P x := by
  intro x hx
  rw [List.take_succ_eq_append_getElem h, List.mem_append] at hx
  rcases hx with e | e
  · exact ha x e
  · simp at e; rw [e]; exact hf
set_option maxRecDepth 20000 in
set_option maxHeartbeats 1000000 in
theorem goodOffs_any (l : List Int) (a : Option Addr) (c : Nat) (w : World) (h : IntsAt w a l) (hl : l.length ≤ 9223372036854775806) (v : Bool) (hv : v = true ↔ ∀ o ∈ l, OsOk o) :
    Calls Tryd.prog 52 #[.slice a l.length c] w fun e w' => e = .returned (.bool v) ∧ w' = w := by
  have HH := hideI h
  have HV := hideI hv
  have HA := fun (i : Int) (W : World) => hideI (among_any i 2147483647 W)
  obtain ⟨nl, hnl⟩ : ∃ nl, nl = l.length := ⟨_, rfl⟩
  rw [← hnl] at hl ⊢
  have HNL := hideI hnl
  clear h hv hnl
  go_enter Tryd.func52, Tryd.ntmps52
  go_wp2
  go_loop [7] (fun i => ∃ k : Nat, k ≤ nl ∧ i = .int .i64 k ∧ Hid (∀ o ∈ l.take k, OsOk o)) (fun i => nl - (intOf i).toNat)
  case atStart => exact ⟨0, Nat.zero_le _, rfl, hideI (by simp)⟩
  case round =>
    obtain ⟨k, hk, rfl, HK⟩ := hrel
    by_cases hlt : k < nl
    · have hkl : k < l.length := by rw [← HNL.out]; exact hlt
      have hki : (k : Int) < (nl : Int) := by omega
      obtain ⟨b, off, rfl, hc⟩ := HH.out.get hkl
      rw [List.getElem?_eq_getElem hkl, Option.getD_some] at hc
      have HS : Hid (OsOk l[k] → ∀ o ∈ l.take (k + 1), OsOk o) := hideI (fun e => all_snoc hkl HK.out e)
      have HB : Hid (¬ OsOk l[k] → v = false) := hideI (fun e => isB_f HV.out (fun f => e (f _ (List.getElem_mem hkl))))
      generalize l[k] = x at *
      have HAx := fun W => (HA x W)
      clear HA
      cases hb : amB x 2147483647 with
      | true =>
        rw [hb] at HAx
        have HS2 := hideI (HS.out (amB_iff.1 hb))
        clear hb HS HB HK
        go_wp2_with (go_at_call 50; refine (HAx _).out.mono ?_; rintro e W ⟨rfl, rfl⟩)
        go_round
        case rel => exact ⟨k + 1, hlt, by go_num, HS2⟩
        case measure => simp [intOf]; omega
      | false =>
        rw [hb] at HAx
        have hf := HB.out (fun e => by rw [amB_iff.2 e] at hb; cases hb)
        subst hf
        clear hb HS HB HK HV
        go_wp2_with (go_at_call 50; refine (HAx _).out.mono ?_; rintro e W ⟨rfl, rfl⟩)
        go_ret
        exact ⟨rfl, rfl⟩
    · have hki : ¬ (k : Int) < (nl : Int) := by omega
      have ht := isB_t HV.out (by have e := HK.out; rw [List.take_of_length_le (by rw [← HNL.out]; omega)] at e; exact e)
      subst ht
      clear HV
      go_wp2
      go_ret
      exact ⟨rfl, rfl⟩
end Go.Proofs.YtiebmmpnmklpnaaDoor
namespace Go.Proofs.YtiebmmpnmklpnaaDoor
open Go.ChangeShapes Go.WideShapes Go.ChangeAt Go.RowKit

theorem box6 {W : World} {g : Nat} {x0 x1 x2 x3 x4 x5 : Value} {t : TypeId} (z : W.heap[g]? = some (.cells #[x0, x1, x2, x3, x4, x5] t (0, 0))) : W.cell? ⟨g, 0, none⟩ = some x0 ∧ W.cell? ⟨g, 1, none⟩ = some x1 ∧ W.cell? ⟨g, 2, none⟩ = some x2 ∧ W.cell? ⟨g, 3, none⟩ = some x3 ∧ W.cell? ⟨g, 4, none⟩ = some x4 ∧ W.cell? ⟨g, 5, none⟩ = some x5 := by
  refine ⟨?_, ?_, ?_, ?_, ?_, ?_⟩ <;> simp [World.cell?, z]
set_option maxRecDepth 20000 in
set_option maxHeartbeats 4000000 in
theorem goodCursors_any (p : Pg) (aA aC aN aD aO : Option Addr) (cA cC cN cD cO : Nat) (w : World) (hP : PgAt w p aA aC aN aD aO) (hO : p.Ok) (v : Bool) (hv : v = true ↔ ∀ c ∈ p.cu, CuOk p.av.length c) :
    Calls Tryd.prog 32 #[.agg #[.slice aA p.av.length cA, .slice aC p.cu.length cC, .slice aN p.nr.length cN, .bool p.al, .slice aD p.dr.length cD, .slice aO p.co.length cO]] w fun e w' => e = .returned (.bool v) ∧ Kept (fun _ => False) w w' := by
  obtain ⟨l1, l2, l3, l4, l5⟩ := hO.len
  have KA := Kept.alloc w (.cells #[.slice aA p.av.length cA, .slice aC p.cu.length cC, .slice aN p.nr.length cN, .bool p.al, .slice aD p.dr.length cD, .slice aO p.co.length cO] 27)
  have HC := hideI (hP.kept KA).cu
  have HKA := hideI KA
  have HV := hideI hv
  have HA := fun (i n : Int) (W : World) => hideI (among_any i n W)
  have HBX : Hid ((w.alloc (.cells #[.slice aA p.av.length cA, .slice aC p.cu.length cC, .slice aN p.nr.length cN, .bool p.al, .slice aD p.dr.length cD, .slice aO p.co.length cO] 27)).heap[w.heap.size]? = some (.cells #[.slice aA p.av.length cA, .slice aC p.cu.length cC, .slice aN p.nr.length cN, .bool p.al, .slice aD p.dr.length cD, .slice aO p.co.length cO] 27 (0, 0))) := hideI (heap_alloc_new w _)
  clear KA hP hO hv
  obtain ⟨na, hna⟩ : ∃ na, na = p.av.length := ⟨_, rfl⟩
  obtain ⟨nC, hnC⟩ : ∃ nC, nC = p.cu.length := ⟨_, rfl⟩
  rw [← hna, ← hnC] at HKA HBX HC ⊢
  rw [← hna] at HV l1
  rw [← hnC] at l3
  have HNC := hideI hnC
  clear hna hnC l2 l4 l5
  go_enter Tryd.func32, Tryd.ntmps32
  go_wp2
  obtain ⟨V, hV⟩ : ∃ V, V = w.alloc (.cells #[.slice aA na cA, .slice aC nC cC, .slice aN p.nr.length cN, .bool p.al, .slice aD p.dr.length cD, .slice aO p.co.length cO] 27) := ⟨_, rfl⟩
  rw [← hV] at HKA HC HBX ⊢
  clear hV
  go_loopw [8] (fun v8 wr => ∃ (j : Nat), j ≤ nC ∧ v8 = .int .i64 j ∧ Hid (∀ c ∈ p.cu.take j, CuOk na c) ∧ Hid (Kept (fun _ => False) V wr)) (fun v8 _ => nC - (intOf v8).toNat)
  case atStart => exact ⟨0, by omega, rfl, hideI (by simp), hideI (Kept.refl _ _)⟩
  case round =>
    obtain ⟨j, hj, rfl, HAl, HK⟩ := hrel
    by_cases hlt : j < nC
    · have hjl : j < p.cu.length := by rw [← HNC.out]; exact hlt
      have hji : (j : Int) < (nC : Int) := by omega
      obtain ⟨fb, fo, ea, hc⟩ := HC.out (by intro e; rw [e] at hjl; simp at hjl)
      obtain ⟨x0, x1⟩ := hc j hjl
      subst ea
      have x0 := HK.out.cell x0 (fun f => f)
      have x1 := HK.out.cell x1 (fun f => f)
      have HS : Hid (CuOk na p.cu[j] → ∀ c ∈ p.cu.take (j + 1), CuOk na c) := hideI (fun e => all_snoc hjl HAl.out e)
      have HB : Hid (¬ CuOk na p.cu[j] → v = false) := hideI (fun e => isB_f HV.out (fun f => e (f _ (List.getElem_mem hjl))))
      generalize p.cu[j] = c at *
      obtain ⟨f, t⟩ := c
      simp only at x0 x1
      have HKx := hideI (HK.out.trans (Kept.alloc wr (.cells #[.int .i64 f, .string t] 49)) (fun _ f => f.elim))
      obtain ⟨y0, -, -, -, -, -⟩ := box6 (HKx.out.heap HBX.out (fun f => f))
      have HAx := fun W => (HA f na W)
      clear HA hc
      cases hb : amB f na with
      | false =>
        rw [hb] at HAx
        have hf := HB.out (fun e => by rw [amB_iff.2 ⟨e.1, e.2.1⟩] at hb; cases hb)
        subst hf
        clear hb HS HB HAl HV
        go_wp2_with (go_at_call 50; refine (HAx _).out.mono ?_; rintro e W ⟨rfl, rfl⟩)
        go_ret
        exact ⟨rfl, HKA.out.trans HKx.out (fun _ f => f.elim)⟩
      | true =>
        rw [hb] at HAx
        have ham := amB_iff.1 hb
        obtain ⟨sz, hsz⟩ : ∃ sz, sz = t.size := ⟨_, rfl⟩
        by_cases h64 : sz ≤ 64
        · have HS2 := hideI (HS.out ⟨ham.1, ham.2, by rw [← hsz]; exact h64⟩)
          have h64i : ¬ ((t.size : Nat) : Int) > 64 := by omega
          clear hb HS HB HAl ham
          go_wp2_with (go_at_call 50; refine (HAx _).out.mono ?_; rintro e W ⟨rfl, rfl⟩)
          go_roundw
          case rel => exact ⟨j + 1, hlt, by go_num, HS2, HKx⟩
          case measure => simp [intOf]; omega
        · have hf := HB.out (fun e => h64 (by rw [hsz]; exact e.2.2))
          subst hf
          have h64i : ((t.size : Nat) : Int) > 64 := by omega
          clear hb HS HB HAl HV ham
          go_wp2_with (go_at_call 50; refine (HAx _).out.mono ?_; rintro e W ⟨rfl, rfl⟩)
          go_ret
          exact ⟨rfl, HKA.out.trans HKx.out (fun _ f => f.elim)⟩
    · have hji : ¬ (j : Int) < (nC : Int) := by omega
      have ht := isB_t HV.out (by have e := HAl.out; rw [List.take_of_length_le (by rw [← HNC.out]; omega)] at e; exact e)
      subst ht
      clear HV
      go_wp2
      go_ret
      exact ⟨rfl, HKA.out.trans HK.out (fun _ f => f.elim)⟩
set_option maxRecDepth 20000 in
set_option maxHeartbeats 4000000 in
theorem goodDrive_any (p : Pg) (aA aC aN aD aO : Option Addr) (cA cC cN cD cO : Nat) (w : World) (hP : PgAt w p aA aC aN aD aO) (hO : p.Ok) (v : Bool) (hv : v = true ↔ (p.al = true → p.dr.length = 0) ∧ DrOk p.cu.length p.dr) :
    Calls Tryd.prog 34 #[.agg #[.slice aA p.av.length cA, .slice aC p.cu.length cC, .slice aN p.nr.length cN, .bool p.al, .slice aD p.dr.length cD, .slice aO p.co.length cO]] w fun e w' => e = .returned (.bool v) ∧ Kept (fun _ => False) w w' := by
  obtain ⟨l1, l2, l3, l4, l5⟩ := hO.len
  have KA := Kept.alloc w (.cells #[.slice aA p.av.length cA, .slice aC p.cu.length cC, .slice aN p.nr.length cN, .bool p.al, .slice aD p.dr.length cD, .slice aO p.co.length cO] 27)
  have HD := hideI (hP.kept KA).dr
  have HKA := hideI KA
  have HV := hideI hv
  have HBX : Hid ((w.alloc (.cells #[.slice aA p.av.length cA, .slice aC p.cu.length cC, .slice aN p.nr.length cN, .bool p.al, .slice aD p.dr.length cD, .slice aO p.co.length cO] 27)).heap[w.heap.size]? = some (.cells #[.slice aA p.av.length cA, .slice aC p.cu.length cC, .slice aN p.nr.length cN, .bool p.al, .slice aD p.dr.length cD, .slice aO p.co.length cO] 27 (0, 0))) := hideI (heap_alloc_new w _)
  clear KA hP hO hv
  obtain ⟨nC, hnC⟩ : ∃ nC, nC = p.cu.length := ⟨_, rfl⟩
  obtain ⟨nD, hnD⟩ : ∃ nD, nD = p.dr.length := ⟨_, rfl⟩
  obtain ⟨al, hal⟩ : ∃ al, al = p.al := ⟨_, rfl⟩
  rw [← hnD, ← hnC, ← hal] at HKA HBX HD HV ⊢
  rw [← hnC] at l3
  rw [← hnD] at l2
  have HND := hideI hnD
  clear hnD hnC l1 l4 l5 hal
  by_cases hbad : al = true ∧ ¬ nD = 0
  · obtain ⟨rfl, hn0⟩ := hbad
    have hf := isB_f HV.out (fun e => hn0 (e.1 rfl))
    subst hf
    have hn1 : (nD : Int) > 0 := by omega
    clear HV
    go_enter Tryd.func34, Tryd.ntmps34
    go_wp2
    go_ret
    exact ⟨rfl, HKA.out⟩
  · have hgd : al = true → nD = 0 := fun e => Classical.byContradiction (fun h => hbad ⟨e, h⟩)
    have HV2 : Hid (v = true ↔ DrOk nC p.dr) := hideI ⟨fun e => (HV.out.1 e).2, fun e => HV.out.2 ⟨hgd, e⟩⟩
    have hx : al = false ∨ (al = true ∧ ¬ (nD : Int) > 0) := by
      cases al with
      | false => exact .inl rfl
      | true => exact .inr ⟨rfl, by have := hgd rfl; omega⟩
    clear hbad hgd HV
    rcases hx with rfl | ⟨rfl, hng⟩
    case inl =>
      go_enter Tryd.func34, Tryd.ntmps34
      go_wp2
      obtain ⟨V, hV⟩ : ∃ V, V = w.alloc (.cells #[.slice aA p.av.length cA, .slice aC nC cC, .slice aN p.nr.length cN, .bool false, .slice aD nD cD, .slice aO p.co.length cO] 27) := ⟨_, rfl⟩
      rw [← hV] at HKA HD HBX ⊢
      clear hV
      go_loopw [3, 17] (fun v3 v17 wr => ∃ (j : Nat), j ≤ nD ∧ v3 = .int .i64 (laD p.dr j) ∧ v17 = .int .i64 j ∧ Hid (∀ k, k < j → laD p.dr k < p.dr[k]?.getD 0 ∧ p.dr[k]?.getD 0 < nC) ∧ Hid (Kept (fun _ => False) V wr)) (fun _ v17 _ => nD - (intOf v17).toNat)
      case atStart => exact ⟨0, by omega, rfl, rfl, hideI (fun k hk => by omega), hideI (Kept.refl _ _)⟩
      case round =>
        obtain ⟨j, hj, rfl, rfl, HAl, HW⟩ := hrel
        by_cases hlt : j < nD
        · have hjl : j < p.dr.length := by rw [← HND.out]; exact hlt
          have hji : (j : Int) < (nD : Int) := by omega
          obtain ⟨b, off, rfl, hc⟩ := HD.out.get hjl
          have hc := HW.out.cell hc (fun f => f)
          obtain ⟨-, y1, -, -, -, -⟩ := box6 (HW.out.heap HBX.out (fun f => f))
          have HN : Hid (laD p.dr (j + 1) = p.dr[j]?.getD 0) := hideI (by unfold laD; rw [if_neg (by omega)]; rfl)
          have HS : Hid (laD p.dr j < p.dr[j]?.getD 0 ∧ p.dr[j]?.getD 0 < nC → ∀ k, k < j + 1 → laD p.dr k < p.dr[k]?.getD 0 ∧ p.dr[k]?.getD 0 < nC) := hideI (fun e k hk => by
            by_cases hkj : k = j
            · subst hkj; exact e
            · exact HAl.out k (by omega))
          have HB : Hid (¬ (laD p.dr j < p.dr[j]?.getD 0 ∧ p.dr[j]?.getD 0 < nC) → v = false) := hideI (fun e => isB_f HV2.out (fun f => e (f j hjl)))
          obtain ⟨x, hx⟩ : ∃ x, x = p.dr[j]?.getD 0 := ⟨_, rfl⟩
          rw [← hx] at HS HB hc HN
          clear hx
          generalize laD p.dr j = la at *
          by_cases h1 : la < x
          · have h1' : ¬ x ≤ la := by omega
            by_cases h2 : x < (nC : Int)
            · have h2' : ¬ (nC : Int) ≤ x := by omega
              have HS2 := hideI (HS.out ⟨h1, h2⟩)
              clear HS HB HAl
              go_wp2
              go_roundw
              case rel => exact ⟨j + 1, hlt, congrArg (Value.int .i64) HN.out.symm, by go_num, HS2, HW⟩
              case measure => simp [intOf]; omega
            · have hf := HB.out (fun e => h2 e.2)
              subst hf
              have h2' : (nC : Int) ≤ x := by omega
              clear HS HB HAl HV2
              go_wp2
              go_ret
              exact ⟨rfl, HKA.out.trans HW.out (fun _ f => f.elim)⟩
          · have hf := HB.out (fun e => h1 e.1)
            subst hf
            have h1' : x ≤ la := by omega
            clear HS HB HAl HV2
            go_wp2
            go_ret
            exact ⟨rfl, HKA.out.trans HW.out (fun _ f => f.elim)⟩
        · have hji : ¬ (j : Int) < (nD : Int) := by omega
          have ht := isB_t HV2.out (fun k hk => HAl.out k (by have := HND.out; omega))
          subst ht
          clear HV2
          go_wp2
          go_ret
          exact ⟨rfl, HKA.out.trans HW.out (fun _ f => f.elim)⟩
    case inr =>
      have ht := isB_t HV2.out (fun k hk => by have := HND.out; omega)
      subst ht
      have hji : ¬ (0 : Int) < (nD : Int) := by omega
      clear HV2 HD HBX
      go_enter Tryd.func34, Tryd.ntmps34
      go_wp2
      obtain ⟨V, hV⟩ : ∃ V, V = w.alloc (.cells #[.slice aA p.av.length cA, .slice aC nC cC, .slice aN p.nr.length cN, .bool true, .slice aD nD cD, .slice aO p.co.length cO] 27) := ⟨_, rfl⟩
      rw [← hV] at HKA ⊢
      clear hV
      go_loopw [17] (fun v17 wr => v17 = .int .i64 0 ∧ Hid (Kept (fun _ => False) V wr)) (fun _ _ => 0)
      case atStart => exact ⟨rfl, hideI (Kept.refl _ _)⟩
      case round =>
        obtain ⟨rfl, HW⟩ := hrel
        go_wp2
        go_ret
        exact ⟨rfl, HKA.out.trans HW.out (fun _ f => f.elim)⟩
end Go.Proofs.YtiebmmpnmklpnaaDoor
namespace Go.Proofs.YtiebmmpnmklpnaaDoor
open Go.ChangeShapes Go.WideShapes Go.ChangeAt Go.RowKit

theorem LfAt.fd {w : World} {a : Option Addr} {cu : List Lf} (h : LfAt w a cu) {i : Nat} (hi : i < cu.length) : ∃ b off, a = some ⟨b, off, none⟩ ∧ w.cell? ⟨b, off + i * 2, none⟩ = some (.int .i64 (fdA cu i)) := by
  obtain ⟨b, off, e, hc⟩ := h (by intro e; rw [e] at hi; simp at hi)
  refine ⟨b, off, e, ?_⟩
  rw [(hc i hi).1]
  simp [fdA, hi]
set_option maxRecDepth 20000 in
set_option maxHeartbeats 8000000 in
theorem ofOne_any (cu : List Lf) (cs : List Int) (aC aL : Option Addr) (cC cL : Nat) (w : World) (hC : LfAt w aC cu) (hL : IntsAt w aL cs) (hll : cs.length ≤ 67108864) (v : Bool) (hv : v = true ↔ ∀ i ∈ cs, CsOk cu (cs[0]?.getD 0) i) :
    Calls Tryd.prog 51 #[.slice aC cu.length cC, .slice aL cs.length cL] w fun e w' => e = .returned (.bool v) ∧ Kept (fun _ => False) w w' := by
  have HC := hideI hC
  have HL := hideI hL
  have HV := hideI hv
  have HA := fun (i n : Int) (W : World) => hideI (among_any i n W)
  obtain ⟨nC, hnC⟩ : ∃ nC, nC = cu.length := ⟨_, rfl⟩
  obtain ⟨nl, hnl⟩ : ∃ nl, nl = cs.length := ⟨_, rfl⟩
  rw [← hnC, ← hnl]
  rw [← hnl] at hll
  have HNC := hideI hnC
  have HNL := hideI hnl
  obtain ⟨c0, hc0⟩ : ∃ c0, c0 = cs[0]?.getD 0 := ⟨_, rfl⟩
  rw [← hc0] at HV
  have HC0 := hideI hc0
  clear hC hL hv hnC hnl hc0
  go_enter Tryd.func51, Tryd.ntmps51
  go_wp2
  go_loopw [9] (fun v9 wr => ∃ k : Nat, k ≤ nl ∧ v9 = .int .i64 k ∧ Hid (∀ i ∈ cs.take k, CsOk cu c0 i) ∧ Hid (Kept (fun _ => False) w wr)) (fun v9 _ => nl - (intOf v9).toNat)
  case atStart => exact ⟨0, Nat.zero_le _, rfl, hideI (by simp), hideI (Kept.refl _ _)⟩
  case round =>
    obtain ⟨k, hk, rfl, HAl, HK⟩ := hrel
    by_cases hlt : k < nl
    · have hkl : k < cs.length := by rw [← HNL.out]; exact hlt
      have hki : (k : Int) < (nl : Int) := by omega
      obtain ⟨b, off, ea, hc⟩ := HL.out.get hkl
      obtain ⟨b', off', ea', hc1⟩ := HL.out.get (k := 0) (by omega)
      subst ea
      cases ea'
      rw [List.getElem?_eq_getElem hkl, Option.getD_some] at hc
      rw [← HC0.out, Nat.add_zero] at hc1
      have hc := HK.out.cell hc (fun f => f)
      have hc1 := HK.out.cell hc1 (fun f => f)
      have HS : Hid (CsOk cu c0 cs[k] → ∀ i ∈ cs.take (k + 1), CsOk cu c0 i) := hideI (fun e => all_snoc hkl HAl.out e)
      have HB : Hid (¬ CsOk cu c0 cs[k] → v = false) := hideI (fun e => isB_f HV.out (fun f => e (f _ (List.getElem_mem hkl))))
      have HZ : Hid (0 ≤ cs[k] ∧ cs[k] < cu.length → 0 ≤ c0 ∧ c0 < cu.length) := hideI (fun e => by
        by_cases hk0 : k = 0
        · subst hk0
          have : c0 = cs[0] := by rw [HC0.out, List.getElem?_eq_getElem hkl]; rfl
          rw [this]; exact e
        · have h0l : 0 < cs.length := by omega
          have e0 : c0 = cs[0] := by rw [HC0.out, List.getElem?_eq_getElem h0l]; rfl
          have := HAl.out cs[0] (by rw [List.mem_take_iff_getElem]; exact ⟨0, by omega, rfl⟩)
          rw [← e0] at this
          exact ⟨this.1, this.2.1⟩)
      generalize cs[k] = x at *
      have HAx := fun W => (HA x nC W)
      have HKd := fun W (h : Kept (fun _ => False) wr W) => (Kept.trans HK.out h (fun _ f => f.elim))
      clear HA
      cases hb : amB x nC with
      | false =>
        rw [hb] at HAx
        have hf := HB.out (fun e => by rw [amB_iff.2 ⟨e.1, by rw [HNC.out]; exact e.2.1⟩] at hb; cases hb)
        subst hf
        clear hb HS HB HAl HV HZ hc1
        go_wp2
        go_quiet ((go_at_call 50; exact Calls.quiet_of_same (HAx _).out))
        go_wp2
        go_ret
        exact ⟨rfl, HK.out.trans (Kept.drewN _ _) (fun _ f => f.elim)⟩
      | true =>
        rw [hb] at HAx
        have ham := amB_iff.1 hb
        rw [HNC.out] at ham
        obtain ⟨z1, z2⟩ := HZ.out ham
        obtain ⟨i, rfl⟩ : ∃ i : Nat, x = i := ⟨x.toNat, by omega⟩
        obtain ⟨i0, rfl⟩ : ∃ i0 : Nat, c0 = i0 := ⟨c0.toNat, by omega⟩
        obtain ⟨cb, co, ec, d1⟩ := HC.out.fd (i := i) (by omega)
        obtain ⟨cb', co', ec', d2⟩ := HC.out.fd (i := i0) (by omega)
        subst ec
        cases ec'
        have d1 := HK.out.cell d1 (fun f => f)
        have d2 := HK.out.cell d2 (fun f => f)
        have hin : i < nC := by rw [HNC.out]; omega
        have hin0 : i0 < nC := by rw [HNC.out]; omega
        have hii : (i : Int) < (nC : Int) := by omega
        have hii0 : (i0 : Int) < (nC : Int) := by omega
        have HS1 : Hid (fdA cu i = fdA cu i0 → ∀ i ∈ cs.take (k + 1), CsOk cu i0 i) := hideI (fun e => HS.out ⟨ham.1, ham.2, e⟩)
        have HB1 : Hid (¬ fdA cu i = fdA cu i0 → v = false) := hideI (fun e => HB.out (fun f => e f.2.2))
        clear hb HS HB HAl ham HZ z1 z2
        generalize fdA cu i = f1 at *
        generalize fdA cu i0 = f2 at *
        by_cases hff : f1 = f2
        · have HS2 := hideI (HS1.out hff)
          subst hff
          clear HS1 HB1
          have hne : ((f1 : Int) != f1) = false := by simp
          go_wp2
          go_quiet ((go_at_call 50; exact Calls.quiet_of_same (HAx _).out))
          go_wp2
          go_roundw
          case rel => exact ⟨k + 1, hlt, by go_num, HS2, hideI (HK.out.trans (Kept.drewN _ _) (fun _ f => f.elim))⟩
          case measure => simp [intOf]; omega
        · have hf := HB1.out hff
          subst hf
          have hne : (f1 != f2) = true := by rw [bne_iff_ne]; exact hff
          clear HS1 HB1 HV
          go_wp2
          go_quiet ((go_at_call 50; exact Calls.quiet_of_same (HAx _).out))
          go_wp2
          go_ret
          exact ⟨rfl, HK.out.trans (Kept.drewN _ _) (fun _ f => f.elim)⟩
    · have hki : ¬ (k : Int) < (nl : Int) := by omega
      have ht := isB_t HV.out (by have e := HAl.out; rw [List.take_of_length_le (by rw [← HNL.out]; omega)] at e; exact e)
      subst ht
      clear HV
      go_wp2
      go_ret
      exact ⟨rfl, HK.out⟩
end Go.Proofs.YtiebmmpnmklpnaaDoor
namespace Go.Proofs.YtiebmmpnmklpnaaDoor
open Go.ChangeShapes Go.WideShapes Go.ChangeAt Go.RowKit

set_option maxRecDepth 20000 in
set_option maxHeartbeats 8000000 in
theorem goodNears_any (p : Pg) (aA aC aN aD aO : Option Addr) (cA cC cN cD cO : Nat) (w : World) (hP : PgAt w p aA aC aN aD aO) (hO : p.Ok) (v : Bool) (hv : v = true ↔ ∀ n ∈ p.nr, NrOk p.cu n) :
    Calls Tryd.prog 33 #[.agg #[.slice aA p.av.length cA, .slice aC p.cu.length cC, .slice aN p.nr.length cN, .bool p.al, .slice aD p.dr.length cD, .slice aO p.co.length cO]] w fun e w' => e = .returned (.bool v) ∧ Kept (fun _ => False) w w' := by
  obtain ⟨l1, l2, l3, l4, l5⟩ := hO.len
  have KA := Kept.alloc w (.cells #[.slice aA p.av.length cA, .slice aC p.cu.length cC, .slice aN p.nr.length cN, .bool p.al, .slice aD p.dr.length cD, .slice aO p.co.length cO] 27)
  have HC := hideI (hP.kept KA).cu
  have HN := hideI (hP.kept KA).nr
  have HKA := hideI KA
  have HV := hideI hv
  have HO := hideI hO
  have HA := fun (i n : Int) (W : World) => hideI (among_any i n W)
  have HBX : Hid ((w.alloc (.cells #[.slice aA p.av.length cA, .slice aC p.cu.length cC, .slice aN p.nr.length cN, .bool p.al, .slice aD p.dr.length cD, .slice aO p.co.length cO] 27)).heap[w.heap.size]? = some (.cells #[.slice aA p.av.length cA, .slice aC p.cu.length cC, .slice aN p.nr.length cN, .bool p.al, .slice aD p.dr.length cD, .slice aO p.co.length cO] 27 (0, 0))) := hideI (heap_alloc_new w _)
  clear KA hP hO hv
  obtain ⟨nN, hnN⟩ : ∃ nN, nN = p.nr.length := ⟨_, rfl⟩
  rw [← hnN] at HKA HBX HN HC ⊢
  rw [← hnN] at l4
  have HNN := hideI hnN
  clear hnN l1 l2 l5
  go_enter Tryd.func33, Tryd.ntmps33
  go_wp2
  obtain ⟨V, hV⟩ : ∃ V, V = w.alloc (.cells #[.slice aA p.av.length cA, .slice aC p.cu.length cC, .slice aN nN cN, .bool p.al, .slice aD p.dr.length cD, .slice aO p.co.length cO] 27) := ⟨_, rfl⟩
  rw [← hV] at HKA HN HC HBX ⊢
  clear hV
  go_loopw [8] (fun v8 wr => ∃ (j : Nat), j ≤ nN ∧ v8 = .int .i64 j ∧ Hid (∀ c ∈ p.nr.take j, NrOk p.cu c) ∧ Hid (Kept (fun _ => False) V wr)) (fun v8 _ => nN - (intOf v8).toNat)
  case atStart => exact ⟨0, by omega, rfl, hideI (by simp), hideI (Kept.refl _ _)⟩
  case round =>
    obtain ⟨j, hj, rfl, HAl, HK⟩ := hrel
    by_cases hlt : j < nN
    · have hjl : j < p.nr.length := by rw [← HNN.out]; exact hlt
      have hji : (j : Int) < (nN : Int) := by omega
      obtain ⟨fb, fo, ea, hc⟩ := HN.out (by intro e; rw [e] at hjl; simp at hjl)
      obtain ⟨a1, c1, a2, c2, x0, x1, x2, i1, i2⟩ := hc j hjl
      subst ea
      have x0 := HK.out.cell x0 (fun f => f)
      have x1 := HK.out.cell x1 (fun f => f)
      have x2 := HK.out.cell x2 (fun f => f)
      have HS : Hid (NrOk p.cu p.nr[j] → ∀ c ∈ p.nr.take (j + 1), NrOk p.cu c) := hideI (fun e => all_snoc hjl HAl.out e)
      have HB : Hid (¬ NrOk p.cu p.nr[j] → v = false) := hideI (fun e => isB_f HV.out (fun f => e (f _ (List.getElem_mem hjl))))
      have hnl := HO.out.nlen (List.getElem_mem hjl)
      generalize p.nr[j] = nn at *
      obtain ⟨cs, os, sl⟩ := nn
      simp only at x0 x1 x2 i1 i2 hnl
      have HKx := hideI (HK.out.trans (Kept.alloc wr (.cells #[.slice a1 cs.length c1, .slice a2 os.length c2, .int .i64 sl] 51)) (fun _ f => f.elim))
      obtain ⟨-, y1, -, -, -, -⟩ := box6 (HKx.out.heap HBX.out (fun f => f))
      have HAx := fun W => (HA sl 2147483647 W)
      obtain ⟨b1, hb1⟩ := asB (∀ i ∈ cs, CsOk p.cu (cs[0]?.getD 0) i)
      obtain ⟨b2, hb2⟩ := asB (∀ o ∈ os, OsOk o)
      have HCa := hideI (ofOne_any p.cu cs aC a1 cC c1 _ (HC.out.kept HKx.out) (i1.keptI HKx.out) hnl.1 b1 hb1)
      have HI2 := hideI (i2.keptI HKx.out)
      have HOa := fun (W : World) (K : Kept (fun _ => False) (wr.alloc (.cells #[.slice a1 cs.length c1, .slice a2 os.length c2, .int .i64 sl] 51)) W) => hideI (goodOffs_any os a2 c2 W (HI2.out.keptI K) (by omega) b2 hb2)
      have HD : Hid (NrOk p.cu ⟨cs, os, sl⟩ ↔ 1 ≤ cs.length ∧ os.length = cs.length ∧ OsOk sl ∧ b1 = true ∧ b2 = true) := hideI (by rw [hb1, hb2]; exact Iff.rfl)
      clear hc i1 i2 HA hb1 hb2
      obtain ⟨n1, hn1⟩ : ∃ n1, n1 = cs.length := ⟨_, rfl⟩
      obtain ⟨n2, hn2⟩ : ∃ n2, n2 = os.length := ⟨_, rfl⟩
      rw [← hn1, ← hn2] at HD HKx HOa HCa y1 hnl
      rw [← hn1] at x0
      rw [← hn2] at x1
      clear hn1 hn2
      by_cases h1 : 1 ≤ n1
      · have g1 : ¬ (n1 : Int) = 0 := by omega
        have g1' : ((n1 : Int) == 0) = false := by rw [beq_eq_false_iff_ne]; exact g1
        by_cases h2 : n2 = n1
        · have g2 : ((n2 : Int) != (n1 : Int)) = false := by rw [h2]; simp
          have g2' : ((n2 : Int) == (n1 : Int)) = true := by rw [h2]; simp
          cases hb : amB sl 2147483647 with
          | true =>
            rw [hb] at HAx
            cases b1 with
            | true =>
              cases b2 with
              | true =>
                have HS2 := hideI (HS.out (HD.out.2 ⟨h1, h2, amB_iff.1 hb, rfl, rfl⟩))
                clear hb HS HB HAl HD h2
                go_wp2_with (first
                  | (go_at_call 50; refine (HAx _).out.mono ?_; rintro e W ⟨rfl, rfl⟩; clear HAx)
                  | (go_at_call 51; refine HCa.out.mono ?_; clear HCa; rintro e W1 ⟨rfl, K1⟩; have HOb := HOa W1 K1; have HK1 := hideI (HKx.out.trans K1 (fun _ f => f.elim)); have hbx := K1.cell (p := ⟨wr.heap.size, 1, none⟩) (v := .slice a2 n2 c2) (by rw [World.cell?_alloc_new]; rfl) (fun f => f); clear K1 HOa)
                  | (go_at_call 52; refine HOb.out.mono ?_; clear HOb; rintro e W2 ⟨rfl, rfl⟩))
                go_roundw
                case rel => exact ⟨j + 1, hlt, by go_num, HS2, HK1⟩
                case measure => simp [intOf]; omega
              | false =>
                have hf := HB.out (fun e => by have := (HD.out.1 e).2.2.2.2; cases this)
                subst hf
                clear hb HS HB HAl HD HV h2
                go_wp2_with (first
                  | (go_at_call 50; refine (HAx _).out.mono ?_; rintro e W ⟨rfl, rfl⟩; clear HAx)
                  | (go_at_call 51; refine HCa.out.mono ?_; clear HCa; rintro e W1 ⟨rfl, K1⟩; have HOb := HOa W1 K1; have HK1 := hideI (HKx.out.trans K1 (fun _ f => f.elim)); have hbx := K1.cell (p := ⟨wr.heap.size, 1, none⟩) (v := .slice a2 n2 c2) (by rw [World.cell?_alloc_new]; rfl) (fun f => f); clear K1 HOa)
                  | (go_at_call 52; refine HOb.out.mono ?_; clear HOb; rintro e W2 ⟨rfl, rfl⟩))
                go_ret
                exact ⟨rfl, HKA.out.trans HK1.out (fun _ f => f.elim)⟩
            | false =>
              have hf := HB.out (fun e => by have := (HD.out.1 e).2.2.2.1; cases this)
              subst hf
              clear hb HS HB HAl HD HV h2 HOa
              go_wp2_with (first
                | (go_at_call 50; refine (HAx _).out.mono ?_; rintro e W ⟨rfl, rfl⟩; clear HAx)
                | (go_at_call 51; refine HCa.out.mono ?_; clear HCa; rintro e W1 ⟨rfl, K1⟩; have HK1 := hideI (HKx.out.trans K1 (fun _ f => f.elim)); clear K1))
              go_ret
              exact ⟨rfl, HKA.out.trans HK1.out (fun _ f => f.elim)⟩
          | false =>
            rw [hb] at HAx
            have hf := HB.out (fun e => by rw [amB_iff.2 (HD.out.1 e).2.2.1] at hb; cases hb)
            subst hf
            clear hb HS HB HAl HD HV h2 HOa HCa
            go_wp2_with (go_at_call 50; refine (HAx _).out.mono ?_; rintro e W ⟨rfl, rfl⟩; clear HAx)
            go_ret
            exact ⟨rfl, HKA.out.trans HKx.out (fun _ f => f.elim)⟩
        · have hf := HB.out (fun e => h2 (HD.out.1 e).2.1)
          subst hf
          have g2 : ((n2 : Int) != (n1 : Int)) = true := by rw [bne_iff_ne]; omega
          have g2' : ((n2 : Int) == (n1 : Int)) = false := by rw [beq_eq_false_iff_ne]; omega
          clear HS HB HAl HD HV h2 HOa HCa HAx
          go_wp2
          go_ret
          exact ⟨rfl, HKA.out.trans HKx.out (fun _ f => f.elim)⟩
      · have hf := HB.out (fun e => h1 (HD.out.1 e).1)
        subst hf
        have g1 : (n1 : Int) = 0 := by omega
        have g1' : ((n1 : Int) == 0) = true := by rw [g1]; rfl
        clear HS HB HAl HD HV HOa HCa HAx
        go_wp2
        go_ret
        exact ⟨rfl, HKA.out.trans HKx.out (fun _ f => f.elim)⟩
    · have hji : ¬ (j : Int) < (nN : Int) := by omega
      have ht := isB_t HV.out (by have e := HAl.out; rw [List.take_of_length_le (by rw [← HNN.out]; omega)] at e; exact e)
      subst ht
      clear HV
      go_wp2
      go_ret
      exact ⟨rfl, HKA.out.trans HK.out (fun _ f => f.elim)⟩
end Go.Proofs.YtiebmmpnmklpnaaDoor
namespace Go.Proofs.YtiebmmpnmklpnaaDoor
open Go.ChangeShapes Go.WideShapes Go.ChangeAt Go.RowKit

set_option maxRecDepth 20000 in
set_option maxHeartbeats 8000000 in
theorem goodTables_any (p : Pg) (aA aC aN aD aO : Option Addr) (cA cC cN cD cO : Nat) (w : World) (hP : PgAt w p aA aC aN aD aO) (hO : p.Ok) (v : Bool) (hv : v = true ↔ TbOk p) :
    Calls Tryd.prog 18 #[.agg #[.slice aA p.av.length cA, .slice aC p.cu.length cC, .slice aN p.nr.length cN, .bool p.al, .slice aD p.dr.length cD, .slice aO p.co.length cO]] w fun e w' => e = .returned (.bool v) ∧ Kept (fun _ => False) w w' := by
  obtain ⟨l1, l2, l3, l4, l5⟩ := hO.len
  have KA := Kept.alloc w (.cells #[.slice aA p.av.length cA, .slice aC p.cu.length cC, .slice aN p.nr.length cN, .bool p.al, .slice aD p.dr.length cD, .slice aO p.co.length cO] 27)
  have HP := hideI (hP.kept KA)
  have HKA := hideI KA
  have HBX : Hid ((w.alloc (.cells #[.slice aA p.av.length cA, .slice aC p.cu.length cC, .slice aN p.nr.length cN, .bool p.al, .slice aD p.dr.length cD, .slice aO p.co.length cO] 27)).heap[w.heap.size]? = some (.cells #[.slice aA p.av.length cA, .slice aC p.cu.length cC, .slice aN p.nr.length cN, .bool p.al, .slice aD p.dr.length cD, .slice aO p.co.length cO] 27 (0, 0))) := hideI (heap_alloc_new w _)
  clear KA hP
  obtain ⟨b1, hb1⟩ := asB (AvOk p.av)
  obtain ⟨b2, hb2⟩ := asB (∀ c ∈ p.cu, CuOk p.av.length c)
  obtain ⟨b3, hb3⟩ := asB (∀ n ∈ p.nr, NrOk p.cu n)
  obtain ⟨b4, hb4⟩ := asB ((p.al = true → p.dr.length = 0) ∧ DrOk p.cu.length p.dr)
  have HV : Hid (v = (b1 && b2 && b3 && b4)) := hideI (by
    rw [Bool.eq_iff_iff, hv]
    simp only [Bool.and_eq_true]
    rw [hb1, hb2, hb3, hb4]
    unfold TbOk
    exact ⟨fun e => ⟨⟨⟨e.1, e.2.1⟩, e.2.2.1⟩, e.2.2.2⟩, fun e => ⟨e.1.1.1, e.1.1.2, e.1.2, e.2⟩⟩)
  clear hv
  obtain ⟨V, hV⟩ : ∃ V, V = w.alloc (.cells #[.slice aA p.av.length cA, .slice aC p.cu.length cC, .slice aN p.nr.length cN, .bool p.al, .slice aD p.dr.length cD, .slice aO p.co.length cO] 27) := ⟨_, rfl⟩
  rw [← hV] at HKA HP HBX
  have H1 := hideI (goodAvgs_any p.av aA cA V HP.out.av (by omega) b1 hb1)
  have H2 := hideI (goodCursors_any p aA aC aN aD aO cA cC cN cD cO V HP.out hO b2 hb2)
  have H3 := fun (W : World) (K : Kept (fun _ => False) V W) => hideI (goodNears_any p aA aC aN aD aO cA cC cN cD cO W (HP.out.kept K) hO b3 hb3)
  have H4 := fun (W : World) (K : Kept (fun _ => False) V W) => hideI (goodDrive_any p aA aC aN aD aO cA cC cN cD cO W (HP.out.kept K) hO b4 hb4)
  have HB6 := fun (W : World) (K : Kept (fun _ => False) V W) => hideI (box6 (K.heap HBX.out (fun f => f)))
  have HB0 := HB6 V (Kept.refl _ _)
  obtain ⟨z0, z1, z2, z3, z4, z5⟩ := HB0.out
  subst hV
  clear HP HBX hb1 hb2 hb3 hb4 hO l1 l2 l3 l4 l5 HB0
  generalize p.av.length = n1 at *
  generalize p.cu.length = n2 at *
  generalize p.nr.length = n3 at *
  generalize p.dr.length = n4 at *
  generalize p.co.length = n5 at *
  generalize p.al = al at *
  cases b1 with
  | false =>
    have hf : v = false := HV.out
    subst hf
    clear HV H2 H3 H4 HB6
    go_enter Tryd.func18, Tryd.ntmps18
    go_wp2_with (go_at_call 31; refine H1.out.mono ?_; clear H1; rintro e W ⟨rfl, rfl⟩)
    go_ret
    exact ⟨rfl, HKA.out⟩
  | true =>
    cases b2 with
    | false =>
      have hf : v = false := HV.out
      subst hf
      clear HV H3 H4 HB6
      go_enter Tryd.func18, Tryd.ntmps18
      go_wp2_with (first
        | (go_at_call 31; refine H1.out.mono ?_; clear H1; rintro e W ⟨rfl, rfl⟩)
        | (go_at_call 32; refine H2.out.mono ?_; clear H2; rintro e W2 ⟨rfl, K2⟩; have HK2 := hideI K2; clear K2))
      go_ret
      exact ⟨rfl, HKA.out.trans HK2.out (fun _ f => f.elim)⟩
    | true =>
      cases b3 with
      | false =>
        have hf : v = false := HV.out
        subst hf
        clear HV H4
        go_enter Tryd.func18, Tryd.ntmps18
        go_wp2_with (first
          | (go_at_call 31; refine H1.out.mono ?_; clear H1; rintro e W ⟨rfl, rfl⟩)
          | (go_at_call 32; refine H2.out.mono ?_; clear H2; rintro e W2 ⟨rfl, K2⟩; have HK2 := hideI K2; have HN := H3 W2 K2; obtain ⟨y0, y1, y2, y3, y4, y5⟩ := (HB6 W2 K2).out; clear K2 H3 HB6)
          | (go_at_call 33; refine HN.out.mono ?_; clear HN; rintro e W3 ⟨rfl, K3⟩; have HK3 := hideI (HK2.out.trans K3 (fun _ f => f.elim)); clear K3))
        go_ret
        exact ⟨rfl, HKA.out.trans HK3.out (fun _ f => f.elim)⟩
      | true =>
        have hf : v = b4 := HV.out
        subst hf
        clear HV
        go_enter Tryd.func18, Tryd.ntmps18
        go_wp2_with (first
          | (go_at_call 31; refine H1.out.mono ?_; clear H1; rintro e W ⟨rfl, rfl⟩)
          | (go_at_call 32; refine H2.out.mono ?_; clear H2; rintro e W2 ⟨rfl, K2⟩; have HK2 := hideI K2; have HN := H3 W2 K2; obtain ⟨y0, y1, y2, y3, y4, y5⟩ := (HB6 W2 K2).out; clear K2 H3)
          | (go_at_call 33; refine HN.out.mono ?_; clear HN; rintro e W3 ⟨rfl, K3⟩; have HK3 := hideI (HK2.out.trans K3 (fun _ f => f.elim)); have HD := H4 W3 HK3.out; obtain ⟨x0, x1, x2, x3, x4, x5⟩ := (HB6 W3 HK3.out).out; clear K3 H4 HB6)
          | (go_at_call 34; refine HD.out.mono ?_; clear HD; rintro e W4 ⟨rfl, K4⟩; have HK4 := hideI (HK3.out.trans K4 (fun _ f => f.elim)); clear K4))
        go_ret
        exact ⟨rfl, HKA.out.trans HK4.out (fun _ f => f.elim)⟩
end Go.Proofs.YtiebmmpnmklpnaaDoor
