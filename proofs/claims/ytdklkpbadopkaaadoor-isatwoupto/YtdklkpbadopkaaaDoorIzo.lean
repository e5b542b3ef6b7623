import Derived.Test.YtdklkpbadopkaaaDoorIzn
namespace Go.Proofs.YtdklkpbadopkaaaDoor
open Go.ChangeShapes Go.WideShapes Go.ChangeAt Go.RowKit

def tnl (l : List Int) : List Nat := l.map Int.toNat
theorem tnl_len (l : List Int) : (tnl l).length = l.length := List.length_map ..
theorem nz_tnl {l : List Int} (h : hbl l = false) : nzI (tnl l) = l := by
  unfold nzI tnl
  rw [List.map_map]
  have q : ∀ x ∈ l, 0 ≤ x := fun x hx => by
    unfold hbl at h
    rw [List.any_eq_false] at h
    have := h x hx
    simp at this
    omega
  conv => rhs; rw [← List.map_id l]
  exact List.map_congr_left (fun x hx => by have := q x hx; simp; omega)
theorem tnl_le {l : List Int} (h : IsInts l) : ∀ x ∈ tnl l, x ≤ 9223372036854775807 := by
  intro x hx
  obtain ⟨y, hy, rfl⟩ := List.mem_map.1 hx
  have := (h y hy).2
  omega
/-- The lines of cursors, of phrases, of code. -/
def cuL (l : List Lf) : List UInt8 := (l.map fun c => cuB c.f.toNat c.t.data.toList).flatten
def nrL (l : List Nr) : List UInt8 := (l.map fun n => nrB n.sl.toNat (tnl n.cs) (tnl n.os)).flatten
def cdL (l : List In) : List UInt8 := (l.map cdB).flatten
def avW : List UInt8 := [97, 118, 103, 115]
def evW : List UInt8 := [101, 118, 101, 114, 121]
def drW : List UInt8 := [100, 114, 105, 118, 101]
def evL (b : Bool) : List UInt8 := if b then lnB evW [] else []
def drL (l : List Int) : List UInt8 := if l = [] then [] else lnB drW (tnl l)
/-- A program's listing. -/
def txt (p : Pg) (m : List In) : List UInt8 := lnB avW (tnl p.av) ++ cuL p.cu ++ nrL p.nr ++ evL p.al ++ drL p.dr ++ cdL m
theorem flI_snoc {α : Type} {f : α → List UInt8} {l : List α} {j : Nat} (h : j < l.length) : ((l.take (j + 1)).map f).flatten = ((l.take j).map f).flatten ++ f l[j] := by
  rw [List.take_succ_eq_append_getElem h, List.map_append, List.flatten_append]; simp
theorem flI_len {α : Type} {f : α → List UInt8} {g : α → Nat} (c : Nat) : ∀ (l : List α), (∀ x ∈ l, (f x).length ≤ c * g x) → ((l.map f).flatten).length ≤ c * (l.map g).sum
  | [], _ => by simp
  | x :: r, h => by
    have h1 := h x List.mem_cons_self
    have h2 := flI_len (f := f) (g := g) c r (fun y hy => h y (List.mem_cons_of_mem _ hy))
    simp only [List.map_cons, List.flatten_cons, List.length_append, List.sum_cons, Nat.mul_add]
    omega
theorem sum_take {α : Type} (g : α → Nat) : ∀ (l : List α) (j : Nat), ((l.take j).map g).sum ≤ (l.map g).sum
  | [], j => by simp
  | x :: r, 0 => by simp
  | x :: r, j + 1 => by
    have := sum_take g r j
    simp only [List.take_succ_cons, List.map_cons, List.sum_cons]
    omega
theorem lnB_len (wd : List UInt8) (ns : List Nat) (h : ∀ x ∈ ns, x ≤ 9223372036854775807) : (lnB wd ns).length ≤ wd.length + 21 * ns.length + 1 := by
  have := nus_len ns (fun x hx => by have := h x hx; omega)
  simp only [lnB, List.length_append, List.length_cons, List.length_nil]
  omega
theorem Pg.Ok.cuLen {p : Pg} (h : p.Ok) (j : Nat) : (cuL (p.cu.take j)).length ≤ 31 * (p.cu.map fun c => c.t.size + 1).sum := by
  refine Nat.le_trans (flI_len (g := fun c : Lf => c.t.size + 1) 31 _ (fun c hc => ?_)) (Nat.mul_le_mul_left _ (sum_take _ _ _))
  have h1 := h.cu c (List.mem_of_mem_take hc)
  have h2 := cuB_len (f := c.f.toNat) c.t.data.toList (by omega)
  have h3 : c.t.data.toList.length = c.t.size := Array.length_toList
  omega
theorem nrB_len {sl : Nat} {cs os : List Nat} (h0 : sl ≤ 9223372036854775807) (h1 : ∀ x ∈ cs, x ≤ 9223372036854775807) (h2 : ∀ x ∈ os, x ≤ 9223372036854775807) : (nrB sl cs os).length ≤ 42 * cs.length + 26 := by
  have a1 := nuB_len (u := sl) (by omega)
  have a2 := prs_len cs os (List.zipWith prB cs os).length (fun x hx => by have := h1 x hx; omega) (fun x hx => by have := h2 x hx; omega)
  rw [List.take_length] at a2
  have a3 : (List.zipWith prB cs os).length ≤ cs.length := by rw [List.length_zipWith]; omega
  simp only [nrB, List.length_append, List.length_cons, List.length_nil]
  omega
theorem Pg.Ok.nrLen {p : Pg} (h : p.Ok) (j : Nat) : (nrL (p.nr.take j)).length ≤ 42 * (p.nr.map fun n => n.cs.length + n.os.length + 1).sum := by
  refine Nat.le_trans (flI_len (g := fun n : Nr => n.cs.length + n.os.length + 1) 42 _ (fun c hc => ?_)) (Nat.mul_le_mul_left _ (sum_take _ _ _))
  obtain ⟨h1, h2, h3, h4⟩ := h.nr c (List.mem_of_mem_take hc)
  have h5 := nrB_len (sl := c.sl.toNat) (by omega) (tnl_le h1) (tnl_le h2)
  rw [tnl_len] at h5
  omega
theorem cdL_len (m : List In) (h : ∀ x ∈ m, x.Ok) (j : Nat) : (cdL (m.take j)).length ≤ 49 * m.length := by
  refine Nat.le_trans (flI_len (g := fun _ : In => 1) 49 _ (fun c hc => ?_)) (Nat.mul_le_mul_left _ ?_)
  · have := cdB_len (h c (List.mem_of_mem_take hc)); omega
  · refine Nat.le_trans (sum_take _ _ _) ?_
    rw [List.map_const', List.sum_replicate_nat]; omega
theorem evL_len (b : Bool) : (evL b).length ≤ 6 := by cases b <;> simp [evL, lnB, evW]
theorem drL_len {l : List Int} (h : IsInts l) : (drL l).length ≤ 6 + 21 * l.length := by
  unfold drL
  split
  · simp
  · have := lnB_len drW (tnl l) (tnl_le h)
    rw [tnl_len] at this
    simp only [drW, List.length_cons, List.length_nil] at this
    exact Nat.le_trans this (by omega)
theorem dcI_count : ∀ (l : List In), l.length ≤ (ibL l).length
  | [] => by simp
  | x :: r => by
    have := dcI_count r
    rw [ibL_cons, List.length_append, List.length_cons]
    have : 1 ≤ (ib x).length := by simp [ib]
    omega
theorem bgK {W3 wr w' : World} {b : Nat} (h : Kept (fun _ => False) W3 wr) (k : Kept (BG wr b) wr w') (hb : W3.heap.size ≤ b) : Kept (fun _ => False) W3 w' :=
  h.trans k (fun i hi => .inr (by rcases hi with e | ⟨e, _⟩ <;> omega))
theorem ints_lt {w : World} {a : Option Addr} {l : List Int} (h : IntsAt w a l) (hn : l ≠ []) {q : Addr} (e : a = some q) : q.block < w.heap.size := by
  obtain ⟨b, off, ea, hc⟩ := h.get (k := 0) (List.length_pos_iff.2 hn)
  rw [ea] at e
  obtain rfl := Option.some.inj e
  exact World.block_lt_of_cell? w _ hc
theorem new_writer (w : World) : Bw (w.alloc (.cells #[.pointer none, .slice none 0 0] 56)) w.heap.size (.pointer none) (.slice none 0 0) [] :=
  ⟨heap_alloc_new w _, .inl rfl, ⟨rfl, .inl ⟨rfl, rfl⟩⟩, by simp [Value.ownBlock]⟩
/-- What Text answers. -/
def txP (w : World) (p : Pg) (T : Option (List In)) (ac : Addr) (e : Ending) (w' : World) : Prop :=
  ((T = none ∨ gdT p = false) → e = .returned (.tuple #[.string ⟨#[]⟩, errV ac])) ∧
  (∀ m, T = some m → gdT p = true → e = .returned (.tuple #[.string ⟨(txt p m).toArray⟩, .nilIface])) ∧ Kept (fun _ => False) w w'
end Go.Proofs.YtdklkpbadopkaaaDoor
