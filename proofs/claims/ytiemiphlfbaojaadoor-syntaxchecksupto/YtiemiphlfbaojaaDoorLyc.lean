import Derived.Test.YtiemiphlfbaojaaDoorLyb
import Derived.Deep.QuietTactic
import Derived.BigQuiet
namespace Go.Proofs.YtiemiphlfbaojaaDoor
open Go.ChangeShapes Go.WideShapes Go.ChangeAt Go.RowKit

theorem Kept.drewL (w : World) (n : Nat) : Kept (fun _ => False) w (w.drewN n) := ⟨rfl, rfl, rfl, Nat.le_refl _, fun _ _ _ => rfl⟩
def lv1 (x : Lx) : List Value := [.int .i64 (x.k : Int), .string (bq x.t), .int .i64 x.n, .int .i64 (x.a : Int), .int .i64 (x.e : Int)]
def lxv (L : List Lx) : List Value := L.flatMap lv1
theorem lxv_append (G H : List Lx) : lxv (G ++ H) = lxv G ++ lxv H := List.flatMap_append
theorem lxv_len (L : List Lx) : (lxv L).length = L.length * 5 := by
  induction L with
  | nil => rfl
  | cons x L ih =>
    have e : lxv (x :: L) = lv1 x ++ lxv L := rfl
    rw [e, List.length_append, ih, List.length_cons]
    show 5 + _ = _
    omega
/-- The scanner at its block: its text, its place, the token under way, the tokens read. -/
structure Sc (w0 w : World) (b : Nat) (l : List UInt8) (p k : Nat) (t : List UInt8) (n : Int) (a e : Nat) (v : Value) (m : Nat) (L : List Lx) : Prop where
  blk : w.heap[b]? = some (.cells #[.string (bq l), .int .i64 (p : Int), .int .i64 (k : Int), .string (bq t), .int .i64 n, .int .i64 (a : Int), .int .i64 (e : Int), v] 67 (0, 0))
  own : w.ownsRow w0.heap.size 59 5 v m (lxv L)
  len : m = L.length
  kept : Kept (fun _ => False) w0 w
  hb : w0.heap.size ≤ b
variable {w0 w w' : World} {b : Nat} {l : List UInt8} {p k : Nat} {t : List UInt8} {n : Int} {a e : Nat} {v : Value} {m : Nat} {L : List Lx}
theorem Sc.cells (h : Sc w0 w b l p k t n a e v m L) : w.cell? ⟨b, 0, none⟩ = some (.string (bq l)) ∧ w.cell? ⟨b, 1, none⟩ = some (.int .i64 (p : Int)) ∧ w.cell? ⟨b, 2, none⟩ = some (.int .i64 (k : Int)) ∧ w.cell? ⟨b, 3, none⟩ = some (.string (bq t)) ∧ w.cell? ⟨b, 4, none⟩ = some (.int .i64 n) ∧ w.cell? ⟨b, 5, none⟩ = some (.int .i64 (a : Int)) ∧ w.cell? ⟨b, 6, none⟩ = some (.int .i64 (e : Int)) ∧ w.cell? ⟨b, 7, none⟩ = some v := by
  have hc := fun j => cell_of_row w b j _ _ _ h.blk
  refine ⟨?_, ?_, ?_, ?_, ?_, ?_, ?_, ?_⟩ <;> (rw [hc]; rfl)
theorem Sc.free (h : Sc w0 w b l p k t n a e v m L) (j : Nat) : w.frozen? ⟨b, j, none⟩ = false := by simp [World.frozen?, h.blk]
theorem Sc.later (h : Sc w0 w b l p k t n a e v m L) (kk : Kept (fun _ => False) w w') : Sc w0 w' b l p k t n a e v m L :=
  ⟨kk.heap h.blk (fun f => f), kk.row h.own (fun _ _ f => f), h.len, h.kept.trans kk (fun _ f => f.elim), h.hb⟩
theorem Sc.ne (h : Sc w0 w b l p k t n a e v m L) : v.ownBlock ≠ some b := by
  intro x
  rcases h.own.2 with ⟨rfl, _⟩ | ⟨g, cap, cur, rfl, _, hg, _⟩
  · simp [Value.ownBlock] at x
  · simp [Value.ownBlock] at x
    subst x
    rw [h.blk] at hg
    simp at hg
theorem Sc.put (h : Sc w0 w b l p k t n a e v m L) (j : Nat) (u : Value) : w.cell? ⟨b, 0, none⟩ = some (.string (bq l)) ∧ (w.setCell ⟨b, j, none⟩ u).heap[b]? = some (.cells ((#[.string (bq l), .int .i64 (p : Int), .int .i64 (k : Int), .string (bq t), .int .i64 n, .int .i64 (a : Int), .int .i64 (e : Int), v] : Array Value).setIfInBounds j u) 67 (0, 0)) ∧ (w.setCell ⟨b, j, none⟩ u).ownsRow w0.heap.size 59 5 v m (lxv L) ∧ Kept (fun _ => False) w0 (w.setCell ⟨b, j, none⟩ u) :=
  ⟨h.cells.1, heap_setCell_same w b j _ _ u h.blk, ownsRow_setCell_other h.own h.ne _, h.kept.trans (Kept.setCell _ _ _) (fun i hi => .inr (by have := h.hb; simp only at hi; omega))⟩
theorem Sc.setP (h : Sc w0 w b l p k t n a e v m L) (p' : Nat) (z : Int) (hz : z = (p' : Int)) : Sc w0 (w.setCell ⟨b, 1, none⟩ (.int .i64 z)) b l p' k t n a e v m L := by
  subst hz
  obtain ⟨_, h1, h2, h3⟩ := h.put 1 (.int .i64 (p' : Int))
  exact ⟨h1, h2, h.len, h3, h.hb⟩
theorem Sc.setK (h : Sc w0 w b l p k t n a e v m L) (k' : Nat) (z : Int) (hz : z = (k' : Int)) : Sc w0 (w.setCell ⟨b, 2, none⟩ (.int .i64 z)) b l p k' t n a e v m L := by
  subst hz
  obtain ⟨_, h1, h2, h3⟩ := h.put 2 (.int .i64 (k' : Int))
  exact ⟨h1, h2, h.len, h3, h.hb⟩
theorem Sc.setT (h : Sc w0 w b l p k t n a e v m L) (t' : List UInt8) : Sc w0 (w.setCell ⟨b, 3, none⟩ (.string (bq t'))) b l p k t' n a e v m L := by
  obtain ⟨_, h1, h2, h3⟩ := h.put 3 (.string (bq t'))
  exact ⟨h1, h2, h.len, h3, h.hb⟩
theorem Sc.setN (h : Sc w0 w b l p k t n a e v m L) (n' : Int) : Sc w0 (w.setCell ⟨b, 4, none⟩ (.int .i64 n')) b l p k t n' a e v m L := by
  obtain ⟨_, h1, h2, h3⟩ := h.put 4 (.int .i64 n')
  exact ⟨h1, h2, h.len, h3, h.hb⟩
theorem Sc.setA (h : Sc w0 w b l p k t n a e v m L) (a' : Nat) (z : Int) (hz : z = (a' : Int)) : Sc w0 (w.setCell ⟨b, 5, none⟩ (.int .i64 z)) b l p k t n a' e v m L := by
  subst hz
  obtain ⟨_, h1, h2, h3⟩ := h.put 5 (.int .i64 (a' : Int))
  exact ⟨h1, h2, h.len, h3, h.hb⟩
theorem Sc.setE (h : Sc w0 w b l p k t n a e v m L) (e' : Nat) (z : Int) (hz : z = (e' : Int)) : Sc w0 (w.setCell ⟨b, 6, none⟩ (.int .i64 z)) b l p k t n a e' v m L := by
  subst hz
  obtain ⟨_, h1, h2, h3⟩ := h.put 6 (.int .i64 (e' : Int))
  exact ⟨h1, h2, h.len, h3, h.hb⟩
/-- The class at a place. -/
def clA : List UInt8 → Nat
  | [] => 105
  | c :: _ => cl c
theorem clA_le (r : List UInt8) : clA r ≤ 105 := by
  cases r with
  | nil => exact Nat.le_refl _
  | cons c r => have := cl_lt c; show cl c ≤ 105; omega
set_option maxRecDepth 20000 in
set_option maxHeartbeats 4000000 in
theorem class_any (h : Sc w0 w b l p k t n a e v m L) (hC : ClsAt w) (hp : p ≤ l.length) (hl : l.length ≤ 400000000000) :
    Calls Tryd.prog 47 #[.pointer (some ⟨b, 0, none⟩)] w fun e w' => e = .returned (.int .i64 (clA (l.drop p) : Nat)) ∧ Kept (fun _ => False) w w' := by
  obtain ⟨x0, x1, -, -, -, -, -, -⟩ := h.cells
  have hz : (bq l).size = l.length := bq_size l
  by_cases hlt : p < l.length
  · rw [List.drop_eq_getElem_cons hlt]
    show Calls _ _ _ _ fun e w' => e = .returned (.int .i64 (cl l[p] : Nat)) ∧ Kept (fun _ => False) w w'
    have C1 : Hid (∀ V, Kept (fun _ => False) w V → ∀ i, Calls Tryd.prog 68 #[.int .u8 (l[p].toNat : Int)] (V.drewN i) fun e w' => e = .returned (.int .i64 (cl l[p] : Nat)) ∧ ∃ m, w' = V.drewN m) := hideL (fun V hV i => (classOf_any l[p] _ (hC.later (hV.trans (Kept.drewL _ i) (fun _ f => f.elim)))).mono (fun _ _ q => ⟨q.1, i, q.2⟩))
    obtain ⟨s, hs⟩ : ∃ s, s = bq l := ⟨_, rfl⟩
    rw [← hs] at x0 hz
    have hps : p < s.size := by rw [hz]; exact hlt
    have y0 : s[p] = l[p] := by subst hs; rfl
    have y1 : s[p].toNat = l[p].toNat := by rw [y0]
    have e1 : ((p : Int) == (s.size : Int)) = false := by rw [beq_eq_false_iff_ne]; omega
    have e2 : (p : Int) < (s.size : Int) := by omega
    have hsb : s.size ≤ 400000000000 := by omega
    generalize l[p].toNat = z at *
    generalize cl l[p] = kk at *
    clear hs hC h y0 hz hlt hp
    go_enter Tryd.func47, Tryd.ntmps47
    go_wp2
    go_quiet (fail)
    have HV := hideL (Kept.drewL w nq)
    generalize w.drewN nq = V at *
    have x0' := HV.out.cell x0 (fun f => f)
    have x1' := HV.out.cell x1 (fun f => f)
    have C2 := hideL (C1.out V HV.out)
    clear x0 x1 C1
    go_wp2_with fail
    go_quiet ((exact C2.out _))
    go_wp2
    go_ret
    exact ⟨rfl, HV.out.trans (Kept.drewL _ _) (fun _ f => f.elim)⟩
  · have hpe : p = l.length := by omega
    rw [List.drop_of_length_le (by omega)]
    show Calls _ _ _ _ fun e w' => e = .returned (.int .i64 (105 : Nat)) ∧ Kept (fun _ => False) w w'
    generalize bq l = s at *
    have e1 : ((p : Int) == (s.size : Int)) = true := by rw [beq_iff_eq]; omega
    clear h hC
    go_enter Tryd.func47, Tryd.ntmps47
    go_wp2
    go_quiet (fail)
    go_wp2
    go_ret
    exact ⟨rfl, Kept.drewL _ _⟩
end Go.Proofs.YtiemiphlfbaojaaDoor
