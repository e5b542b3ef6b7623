import Derived.Test.YtedohkcoeebajaaDoorMrg11
import Derived.Test.YtedohkcoeebajaaDoorGro
import Derived.Test.YtedohkcoeebajaaDoorAnyz
import Derived.BigQuiet
namespace Go.Proofs.YtedohkcoeebajaaDoor
open Go.ChangeShapes Go.WideShapes Go.ChangeAt Go.RowKit

theorem hideP {p : Prop} (h : p) : Hid p := h
/-- A posting as it lies in memory. -/
structure Pg where
  d : Int
  a : Option Addr
  c : Nat
  ps : List Int
def Pg.po (g : Pg) : Po := ⟨g.d, g.ps⟩
def pol (L : List Pg) : List Po := L.map Pg.po
theorem pol_len (L : List Pg) : (pol L).length = L.length := by simp [pol]
def PsAt (w : World) (a : Option Addr) (L : List Pg) : Prop :=
  L ≠ [] → ∃ b off, a = some ⟨b, off, none⟩ ∧ ∀ k (h : k < L.length), w.cell? ⟨b, off + k * 2, none⟩ = some (.int .i64 L[k].d) ∧ w.cell? ⟨b, off + k * 2 + 1, none⟩ = some (.slice L[k].a L[k].ps.length L[k].c) ∧ IntsAt w L[k].a L[k].ps
theorem IntsAt.kept {w w' : World} {a : Option Addr} {l : List Int} (h : IntsAt w a l) (k : Kept (fun _ => False) w w') : IntsAt w' a l := h.of_same (fun _ _ hc _ => k.cell hc (fun f => f))
theorem PsAt.kept {w w' : World} {a : Option Addr} {L : List Pg} (h : PsAt w a L) (k : Kept (fun _ => False) w w') : PsAt w' a L := by
  intro hne
  obtain ⟨b, off, e, hc⟩ := h hne
  refine ⟨b, off, e, fun j hj => ?_⟩
  obtain ⟨x0, x1, x2⟩ := hc j hj
  exact ⟨k.cell x0 (fun f => f), k.cell x1 (fun f => f), x2.kept k⟩
/-- The number of what is wrong with a posting behind the document b: 0 nothing, 3 order, 7 range. -/
def flt (b : Int) (p : Po) : Nat :=
  if p.d < 0 ∨ 2147483646 < p.d then 7 else if p.d ≤ b then 3 else if p.ps = [] ∨ p.ps.any (fun x => decide (x < 0)) = true then 7 else if riseB p.ps = true then 0 else 3
def flts : Int → List Po → Nat
  | _, [] => 0
  | b, p :: r => if flt b p = 0 then flts p.d r else flt b p
def erN (a3 a7 : Addr) (k : Nat) : Value := if k = 0 then .nilIface else if k = 3 then errV a3 else errV a7
theorem flt_iff {b : Int} {p : Po} (hI : IsInts p.ps) : flt b p = 0 ↔ Gd1 b p := by
  unfold flt
  by_cases h1 : p.d < 0 ∨ 2147483646 < p.d
  · rw [if_pos h1]
    refine ⟨fun h => by omega, fun h => ?_⟩
    have := h.lo
    have := h.hi
    omega
  rw [if_neg h1]
  by_cases h2 : p.d ≤ b
  · rw [if_pos h2]
    refine ⟨fun h => by omega, fun h => ?_⟩
    have := h.up
    omega
  rw [if_neg h2]
  by_cases h3 : p.ps = [] ∨ p.ps.any (fun x => decide (x < 0)) = true
  · rw [if_pos h3]
    refine ⟨fun h => by omega, fun h => ?_⟩
    exfalso
    rcases h3 with h3 | h3
    · exact h.ne h3
    · rw [List.any_eq_true] at h3
      obtain ⟨x, hx, hn⟩ := h3
      have := (h.ri.mem x hx).1
      simp at hn
      omega
  rw [if_neg h3]
  have hne : p.ps ≠ [] := fun e => h3 (.inl e)
  have h0 : ∀ x ∈ p.ps, 0 ≤ x := by
    intro x hx
    rcases Int.lt_or_le x 0 with hn | hn
    · exact absurd (.inr (List.any_eq_true.2 ⟨x, hx, by simpa using hn⟩)) h3
    · exact hn
  by_cases h4 : riseB p.ps = true
  · rw [if_pos h4]
    exact ⟨fun _ => ⟨by omega, by omega, by omega, hne, ris_of hI h0 h4⟩, fun _ => rfl⟩
  · rw [if_neg h4]
    refine ⟨fun h => by omega, fun h => ?_⟩
    exact absurd h.ri.rise h4
theorem flts_iff : ∀ {L : List Po} {b : Int}, (∀ p ∈ L, IsInts p.ps) → (flts b L = 0 ↔ gdl b L)
  | [], _, _ => ⟨fun _ => trivial, fun _ => rfl⟩
  | p :: L, b, h => by
    have h1 := flt_iff (b := b) (h p (List.mem_cons_self ..))
    have h2 := flts_iff (L := L) (b := p.d) (fun q hq => h q (List.mem_cons_of_mem _ hq))
    rw [flts, gdl]
    by_cases h3 : flt b p = 0
    · rw [if_pos h3, h2]
      exact ⟨fun h => ⟨h1.1 h3, h⟩, fun h => h.2⟩
    · rw [if_neg h3]
      exact ⟨fun h => absurd h h3, fun h => absurd (h1.2 h.1) h3⟩
theorem flt_or (b : Int) (p : Po) : flt b p = 0 ∨ flt b p = 3 ∨ flt b p = 7 := by
  unfold flt
  split
  · exact .inr (.inr rfl)
  · split
    · exact .inr (.inl rfl)
    · split
      · exact .inr (.inr rfl)
      · split
        · exact .inl rfl
        · exact .inr (.inl rfl)
theorem flts_or : ∀ (L : List Po) (b : Int), flts b L = 0 ∨ flts b L = 3 ∨ flts b L = 7
  | [], _ => .inl rfl
  | p :: L, b => by
    rw [flts]
    split
    · exact flts_or L p.d
    · exact flt_or b p
theorem wpList_minP {P : Program} {W : World} {ops : Array Oper} {rest : List Oper} {o : Oper} {act : Act} {Q : Exit → Act → World → Prop} {ts : Array TypeId} (hgd : o.guard = none) (s t : Operand)
    (ho : o.op = .call { callee := .builtin .min, args := #[s, t], argTypes := ts }) (x y m : Int) (hs : act.eval s = .int .i64 x) (ht : act.eval t = .int .i64 y) (hm : m = if y < x then y else x)
    (h : wpList P ops Q rest (act.put o.dst (.int .i64 m)) W) : wpList P ops Q (o :: rest) act W := by
  refine wpList_plain hgd fun K hK => ?_
  have hr : ∀ ty, (Builtin.min_ ts ty #[.int .i64 x, .int .i64 y]).run P W = .ok (.int .i64 m) W := fun ty => by rw [hm]; simp [Builtin.min_, Builtin.min2]
  unfold Oper.wp execOp
  simp only [ho, resolve, invoke, builtin, Sem.run_bind, Sem.run_pure, Result.andThen_ok, List.map_toArray, List.map_cons, List.map_nil, hs, ht, hr]
  exact hK _ _ h
def pgO (d : Int) (a : Option Addr) (n c : Nat) : Obj := .cells #[.int .i64 d, .slice a n c] 59
end Go.Proofs.YtedohkcoeebajaaDoor
