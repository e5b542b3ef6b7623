import Derived.Test.YtohnkamobmkhkaaDoorPgm
import Derived.Test.YtohnkamobmkhkaaDoorIza
namespace Go.Proofs.YtohnkamobmkhkaaDoor
open Go.ChangeShapes Go.WideShapes Go.ChangeAt Go.RowKit

/-! Which programs are good: the document's chapter 21 as plain maths. -/
def AvOk (l : List Int) : Prop := 1 ≤ l.length ∧ l.length ≤ 16 ∧ ∀ x ∈ l, 0 ≤ x
def CuOk (n : Nat) (c : Lf) : Prop := 0 ≤ c.f ∧ c.f < n ∧ c.t.size ≤ 64
def fdA (cu : List Lf) (i : Int) : Int := (cu[i.toNat]?.map Lf.f).getD 0
def CsOk (cu : List Lf) (c0 : Int) (i : Int) : Prop := 0 ≤ i ∧ i < cu.length ∧ fdA cu i = fdA cu c0
def OsOk (o : Int) : Prop := 0 ≤ o ∧ o < 2147483647
def NrOk (cu : List Lf) (n : Nr) : Prop := 1 ≤ n.cs.length ∧ n.os.length = n.cs.length ∧ OsOk n.sl ∧ (∀ i ∈ n.cs, CsOk cu (n.cs[0]?.getD 0) i) ∧ (∀ o ∈ n.os, OsOk o)
def laD (l : List Int) (k : Nat) : Int := if k = 0 then -1 else l[k - 1]?.getD 0
def DrOk (n : Nat) (l : List Int) : Prop := ∀ k, k < l.length → laD l k < l[k]?.getD 0 ∧ l[k]?.getD 0 < n
def TbOk (p : Pg) : Prop := AvOk p.av ∧ (∀ c ∈ p.cu, CuOk p.av.length c) ∧ (∀ n ∈ p.nr, NrOk p.cu n) ∧ (p.al = true → p.dr.length = 0) ∧ DrOk p.cu.length p.dr
/-- What an instruction takes; the height ahead of each instruction, by the way without skips. -/
def tkL : List Nat := [1, 0, 0, 0, 0, 0, 2, 2, 2, 2, 2, 1, 1, 1, 0, 1, 1]
def tkN (x : In) : Nat := if x.op = 14 then x.a else tkL.getD x.op.toNat 0
def hA (L : List In) : Nat → Nat
  | 0 => 0
  | k + 1 => hA L k + 1 - (L[k]?.map tkN).getD 0
def hL (L : List In) : List Int := (List.range L.length).map fun k => (hA L k : Int)
theorem hL_len (L : List In) : (hL L).length = L.length := by simp [hL]
theorem hL_at (L : List In) {k : Nat} (h : k < L.length) : (hL L)[k]? = some (hA L k : Int) := by simp [hL, h]
theorem hL_get (L : List In) {k : Nat} (h : k < (hL L).length) : (hL L)[k] = (hA L k : Int) := by simp [hL]
theorem hA_le (L : List In) : ∀ k, hA L k ≤ k
  | 0 => Nat.le_refl 0
  | k + 1 => by
    have := hA_le L k
    rw [hA]; omega
theorem hA_next {L : List In} {k : Nat} (h : k < L.length) : hA L (k + 1) = hA L k + 1 - tkN L[k] := by rw [hA, List.getElem?_eq_getElem h]; rfl
/-- What is asked of an instruction's operands, with m instructions behind it. -/
def OpOk (p : Pg) (x : In) (m : Nat) : Prop := (x.op = 3 → x.a < p.av.length) ∧ (x.op = 4 → x.a < p.cu.length) ∧ (x.op = 5 → x.a < p.nr.length) ∧ (x.op = 14 → 1 ≤ x.b ∧ x.b ≤ x.a) ∧ (x.op = 15 → x.a < m) ∧ (x.op = 16 → x.a < m)
def EnOk (L : List In) : Prop := 1 ≤ L.length ∧ ∀ k (h : k < L.length), L[k].op = 0 ↔ k = L.length - 1
def PaOk (p : Pg) (L : List In) : Prop := ∀ k (h : k < L.length), OpOk p L[k] (L.length - 1 - k)
def StOk (L : List In) : Prop := ∀ k (h : k < L.length), tkN L[k] ≤ hA L k
def SkOk (L : List In) : Prop := ∀ k (h : k < L.length), (L[k].op = 15 ∨ L[k].op = 16) → hA L (k + 1 + L[k].a) = hA L k
structure Gd (p : Pg) (L : List In) : Prop where
  en : EnOk L
  pa : PaOk p L
  st : StOk L
  sk : SkOk L
  one : hA L (L.length - 1) = 1
structure Vok (p : Pg) (L : List In) : Prop where
  tb : TbOk p
  dc : dcI p.co = some L
  gd : Gd p L
theorem Vok.uniq {p : Pg} {L M : List In} (h : Vok p L) (g : Vok p M) : L = M := Option.some.inj (h.dc.symm.trans g.dc)
/-- A proposition as a Bool. -/
theorem asB (P : Prop) : ∃ v : Bool, v = true ↔ P := ⟨@decide P (Classical.propDecidable P), by simp⟩
theorem asB_false {P : Prop} {v : Bool} (h : v = true ↔ P) : v = false ↔ ¬ P := by
  rw [← h]; simp
theorem isB_t {P : Prop} {v : Bool} (h : v = true ↔ P) (hp : P) : v = true := h.2 hp
theorem isB_f {P : Prop} {v : Bool} (h : v = true ↔ P) (hp : ¬ P) : v = false := (asB_false h).2 hp
/-- A Bool that says whether P, unseen by the walks. -/
def IsB (v : Bool) (P : Prop) : Prop := v = true ↔ P
theorem IsB.yes {P : Prop} (h : IsB true P) : P := Iff.mp h rfl
theorem IsB.no {P : Prop} (h : IsB false P) : ¬ P := fun p => by have := Iff.mpr h p; cases this
/-- The first OpEnd, or -1. -/
def fE (L : List In) : Int := match L.findIdx? (fun x => decide (x.op = 0)) with | some k => k | none => -1
theorem fE_none {L : List In} (h : ∀ k (hk : k < L.length), L[k].op ≠ 0) : fE L = -1 := by
  unfold fE
  rw [List.findIdx?_eq_none_iff.2 (fun x hx => by obtain ⟨k, hk, rfl⟩ := List.mem_iff_getElem.1 hx; simpa using h k hk)]
theorem fE_some {L : List In} {j : Nat} (hj : j < L.length) (h0 : L[j].op = 0) (h : ∀ k (hk : k < L.length), k < j → L[k].op ≠ 0) : fE L = j := by
  unfold fE
  rw [List.findIdx?_eq_some_iff_getElem.2 ⟨hj, by simpa using h0, fun k hk => by simpa using h k (by omega) hk⟩]
theorem fE_iff (L : List In) : (0 ≤ fE L ∧ fE L = (L.length : Int) - 1) ↔ EnOk L := by
  constructor
  · rintro ⟨h1, h2⟩
    unfold fE at h1 h2
    cases hq : L.findIdx? (fun x => decide (x.op = 0)) with
    | none => rw [hq] at h1; simp only at h1; omega
    | some j =>
      rw [hq] at h2
      simp only at h2
      obtain ⟨hj, h0, hf⟩ := List.findIdx?_eq_some_iff_getElem.1 hq
      refine ⟨by omega, fun k hk => ⟨fun e => ?_, fun e => ?_⟩⟩
      · by_cases hkj : k < j
        · have := hf k hkj; simp [e] at this
        · omega
      · have : k = j := by omega
        subst this
        simpa using h0
  · rintro ⟨h1, h2⟩
    have h3 := fE_some (L := L) (j := L.length - 1) (by omega) ((h2 _ (by omega)).2 rfl) (fun k hk hkl e => by have := (h2 k hk).1 e; omega)
    omega
end Go.Proofs.YtohnkamobmkhkaaDoor
