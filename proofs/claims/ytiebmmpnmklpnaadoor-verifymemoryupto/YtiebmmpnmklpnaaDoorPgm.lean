import Derived.Test.YtiebmmpnmklpnaaDoorBkf
import Derived.Test.YtiebmmpnmklpnaaDoorWrG
namespace Go.Proofs.YtiebmmpnmklpnaaDoor
open Go.ChangeShapes Go.WideShapes Go.ChangeAt Go.RowKit

/-- A cursor's leaf, a phrase, a program. -/
structure Lf where
  f : Int
  t : ByteArray
structure Nr where
  cs : List Int
  os : List Int
  sl : Int
structure Pg where
  av : List Int
  cu : List Lf
  nr : List Nr
  al : Bool
  dr : List Int
  co : List Int
def LfAt (w : World) (a : Option Addr) (l : List Lf) : Prop :=
  l ≠ [] → ∃ b off, a = some ⟨b, off, none⟩ ∧ ∀ (k : Nat) (h : k < l.length), w.cell? ⟨b, off + k * 2, none⟩ = some (.int .i64 l[k].f) ∧ w.cell? ⟨b, off + k * 2 + 1, none⟩ = some (.string l[k].t)
def NrAt (w : World) (a : Option Addr) (l : List Nr) : Prop :=
  l ≠ [] → ∃ b off, a = some ⟨b, off, none⟩ ∧ ∀ (k : Nat) (h : k < l.length), ∃ a1 c1 a2 c2, w.cell? ⟨b, off + k * 3, none⟩ = some (.slice a1 l[k].cs.length c1) ∧ w.cell? ⟨b, off + k * 3 + 1, none⟩ = some (.slice a2 l[k].os.length c2) ∧ w.cell? ⟨b, off + k * 3 + 2, none⟩ = some (.int .i64 l[k].sl) ∧ IntsAt w a1 l[k].cs ∧ IntsAt w a2 l[k].os
theorem IntsAt.keptI {w w' : World} {a : Option Addr} {l : List Int} (h : IntsAt w a l) (k : Kept (fun _ => False) w w') : IntsAt w' a l := h.of_same (fun _ _ hc _ => k.cell hc (fun f => f))
theorem LfAt.kept {w w' : World} {a : Option Addr} {l : List Lf} (h : LfAt w a l) (k : Kept (fun _ => False) w w') : LfAt w' a l := fun hn => by
  obtain ⟨b, off, e, hc⟩ := h hn
  exact ⟨b, off, e, fun i hi => ⟨k.cell (hc i hi).1 (fun f => f), k.cell (hc i hi).2 (fun f => f)⟩⟩
theorem NrAt.kept {w w' : World} {a : Option Addr} {l : List Nr} (h : NrAt w a l) (k : Kept (fun _ => False) w w') : NrAt w' a l := fun hn => by
  obtain ⟨b, off, e, hc⟩ := h hn
  refine ⟨b, off, e, fun i hi => ?_⟩
  obtain ⟨a1, c1, a2, c2, x0, x1, x2, i1, i2⟩ := hc i hi
  exact ⟨a1, c1, a2, c2, k.cell x0 (fun f => f), k.cell x1 (fun f => f), k.cell x2 (fun f => f), i1.keptI k, i2.keptI k⟩
theorem BytesAt.keptI {w w' : World} {a : Option Addr} {l : List Int} (h : BytesAt w a l) (k : Kept (fun _ => False) w w') : BytesAt w' a l := fun hn => by
  obtain ⟨b, off, e, hc⟩ := h hn
  exact ⟨b, off, e, fun i hi => k.cell (hc i hi) (fun f => f)⟩
/-- How great a program is. -/
def psz (p : Pg) : Nat := p.av.length + p.dr.length + (p.cu.map fun c => c.t.size + 1).sum + (p.nr.map fun n => n.cs.length + n.os.length + 1).sum + p.co.length
/-- A program as it lies. -/
structure PgAt (w : World) (p : Pg) (aA aC aN aD aO : Option Addr) : Prop where
  av : IntsAt w aA p.av
  cu : LfAt w aC p.cu
  nr : NrAt w aN p.nr
  dr : IntsAt w aD p.dr
  co : BytesAt w aO p.co
theorem PgAt.kept {w w' : World} {p : Pg} {aA aC aN aD aO : Option Addr} (h : PgAt w p aA aC aN aD aO) (k : Kept (fun _ => False) w w') : PgAt w' p aA aC aN aD aO :=
  ⟨h.av.keptI k, h.cu.kept k, h.nr.kept k, h.dr.keptI k, h.co.keptI k⟩
structure Pg.Ok (p : Pg) : Prop where
  av : IsInts p.av
  dr : IsInts p.dr
  cu : ∀ c ∈ p.cu, -9223372036854775808 ≤ c.f ∧ c.f ≤ 9223372036854775807
  nr : ∀ n ∈ p.nr, IsInts n.cs ∧ IsInts n.os ∧ -9223372036854775808 ≤ n.sl ∧ n.sl ≤ 9223372036854775807
  co : IsBytes p.co
  sz : psz p ≤ 67108864
theorem sum_mem {α : Type} (f : α → Nat) : ∀ (l : List α) (x : α), x ∈ l → f x ≤ (l.map f).sum
  | y :: r, x, h => by
    rw [List.map_cons, List.sum_cons]
    rcases List.mem_cons.1 h with e | e
    · rw [e]; omega
    · have := sum_mem f r x e; omega
theorem sum_len {α : Type} (f : α → Nat) (hf : ∀ x, 1 ≤ f x) : ∀ (l : List α), l.length ≤ (l.map f).sum
  | [] => by simp
  | y :: r => by
    have := sum_len f hf r
    have := hf y
    rw [List.map_cons, List.sum_cons, List.length_cons]; omega
theorem Pg.Ok.len {p : Pg} (h : p.Ok) : p.av.length ≤ 67108864 ∧ p.dr.length ≤ 67108864 ∧ p.cu.length ≤ 67108864 ∧ p.nr.length ≤ 67108864 ∧ p.co.length ≤ 67108864 := by
  have h1 := h.sz
  have h2 := sum_len (fun c : Lf => c.t.size + 1) (fun _ => by omega) p.cu
  have h3 := sum_len (fun n : Nr => n.cs.length + n.os.length + 1) (fun _ => by omega) p.nr
  unfold psz at h1
  omega
theorem Pg.Ok.nlen {p : Pg} (h : p.Ok) {n : Nr} (hn : n ∈ p.nr) : n.cs.length ≤ 67108864 ∧ n.os.length ≤ 67108864 := by
  have h1 := h.sz
  have h3 := sum_mem (fun n : Nr => n.cs.length + n.os.length + 1) p.nr n hn
  unfold psz at h1
  omega
theorem all_take {α : Type} {f : α → Bool} {l : List α} {j : Nat} (h : j < l.length) (ha : (l.take j).all f = true) (hf : f l[j] = true) : (l.take (j + 1)).all f = true := by
  rw [List.take_succ_eq_append_getElem h, List.all_append, ha]; simp [hf]
theorem all_not {α : Type} {f : α → Bool} {l : List α} {x : α} (hx : x ∈ l) (hf : f x = false) : l.all f = false := by
  rw [List.all_eq_false]; exact ⟨x, hx, by simp [hf]⟩
end Go.Proofs.YtiebmmpnmklpnaaDoor
