import Derived.Test.YtiebmmpnmklpnaaDoorVso
namespace Go.Proofs.YtiebmmpnmklpnaaDoor
open Go.ChangeShapes Go.WideShapes Go.ChangeAt Go.RowKit

theorem Tryd.infoMI : (Tryd.prog.info? 3).map (fun i => (i.zero, i.size, i.bytes)) = some (some (.int .i64 0), 1, 8) := by kernel_rfl
theorem Tryd.infoML : (Tryd.prog.info? 49).map (fun i => (i.zero, i.size, i.bytes)) = some (some (.agg #[.int .i64 0, .string ByteArray.empty]), 2, 24) := by kernel_rfl
theorem Tryd.infoMN : (Tryd.prog.info? 51).map (fun i => (i.zero, i.size, i.bytes)) = some (some (.agg #[.slice none 0 0, .slice none 0 0, .int .i64 0]), 3, 56) := by kernel_rfl
/-- append of one to the averages of the copy, one to its cursors, one to its phrases. -/
theorem wpList_moA {w V2 : World} {base g : Nat} {p : Pg} {vA0 vC0 vN vD vO vC : Value} {av : List Int} {cu : List Lf} {W : World} {ops : Array Oper} {rest : List Oper} {o : Oper} {act : Act} {Q : Exit → Act → World → Prop} (hgd : o.guard = none) (s x : Operand)
    (ho : o.op = .call { callee := .builtin .append, args := #[s, x], argTypes := #[22, 22] }) (a : Option Addr) (c n : Nat) (hn : Hid (n = av.length)) (hs : act.eval s = .slice a n c) (hM : Hid (Mo w V2 base g p vA0 vC0 vN vD vO av cu (.slice a n c) vC W)) (b : Nat) (hbb : b = W.heap.size) (hB : Hid (base ≤ W.heap.size)) (hx : act.eval x = .slice (some ⟨b, 0, none⟩) 1 1) (y : Int) (hsm : n ≤ 67108864)
    (h : ∀ a' c' W', Hid (Mo w V2 base g p vA0 vC0 vN vD vO (av ++ [y]) cu (.slice a' (n + 1) c') vC (W'.setCell ⟨g, 0, none⟩ (.slice a' (n + 1) c'))) → W'.cell? ⟨g, 0, none⟩ = some (.slice a n c) → W'.frozen? ⟨g, 0, none⟩ = false → wpList Tryd.prog ops Q rest (act.put o.dst (.slice a' (n + 1) c')) W') : wpList Tryd.prog ops Q (o :: rest) act (W.alloc (.cells #[.int .i64 y] 3)) := by
  subst hbb
  obtain ⟨i0, hi, hz0, hz1, hz2⟩ := info_parts Tryd.infoMI
  have hM1 := hM.out.later (Kept.alloc W (.cells #[.int .i64 y] 3))
  have ha := hM1.av
  rw [← hn.out] at ha
  refine wpList_append_own_at _ hgd s x 22 ho base 3 i0 _ 1 8 Tryd.underlying22 hi hz0 hz1 hz2 rfl (by decide) (.slice a n c) n (is av) hs ha ⟨W.heap.size, 0, none⟩ 1 1 [.int .i64 y] hx rfl (row_news W [.int .i64 y] 3) (by intro u hu; simp at hu; subst hu; rfl) (by unfold maxLen; omega) (by omega) (by have := hB.out; simp; omega) ?_
  intro v' W' ho2 hg2 _ hb2
  obtain ⟨a', c', rfl⟩ := own_form ho2
  have ho3 := ho2
  rw [hn.out] at ho3
  obtain ⟨hm, q1, q2⟩ := hM1.pushA (by rw [hn.out] at ho2 ⊢; exact ho2) (Kept.grown hg2) hb2
  exact h a' c' W' (hideI hm) q1 q2
theorem wpList_moC {w V2 : World} {base g : Nat} {p : Pg} {vA0 vC0 vN vD vO vA : Value} {av : List Int} {cu : List Lf} {W : World} {ops : Array Oper} {rest : List Oper} {o : Oper} {act : Act} {Q : Exit → Act → World → Prop} (hgd : o.guard = none) (s x : Operand)
    (ho : o.op = .call { callee := .builtin .append, args := #[s, x], argTypes := #[23, 23] }) (a : Option Addr) (c n : Nat) (hn : Hid (n = cu.length)) (hs : act.eval s = .slice a n c) (hM : Hid (Mo w V2 base g p vA0 vC0 vN vD vO av cu vA (.slice a n c) W)) (b : Nat) (hbb : b = W.heap.size) (hB : Hid (base ≤ W.heap.size)) (hx : act.eval x = .slice (some ⟨b, 0, none⟩) 1 1) (f : Int) (t : ByteArray) (hsm : n ≤ 134217728)
    (h : ∀ a' c' W', Hid (Mo w V2 base g p vA0 vC0 vN vD vO av (cu ++ [⟨f, t⟩]) vA (.slice a' (n + 1) c') (W'.setCell ⟨g, 1, none⟩ (.slice a' (n + 1) c'))) → W'.cell? ⟨g, 1, none⟩ = some (.slice a n c) → W'.frozen? ⟨g, 1, none⟩ = false → wpList Tryd.prog ops Q rest (act.put o.dst (.slice a' (n + 1) c')) W') : wpList Tryd.prog ops Q (o :: rest) act (W.alloc (.cells #[.int .i64 f, .string t] 49)) := by
  subst hbb
  obtain ⟨i0, hi, hz0, hz1, hz2⟩ := info_parts Tryd.infoML
  have hM1 := hM.out.later (Kept.alloc W (.cells #[.int .i64 f, .string t] 49))
  have ha := hM1.cu
  rw [← hn.out] at ha
  refine wpList_append_own_at _ hgd s x 23 ho base 49 i0 _ 2 24 Tryd.underlying23 hi hz0 hz1 hz2 rfl (by decide) (.slice a n c) n (lfv cu) hs ha ⟨W.heap.size, 0, none⟩ 1 1 [.int .i64 f, .string t] hx rfl (row_news W [.int .i64 f, .string t] 49) (by intro u hu; simp at hu; rcases hu with rfl | rfl <;> rfl) (by unfold maxLen; omega) (by omega) (by have := hB.out; simp; omega) ?_
  intro v' W' ho2 hg2 _ hb2
  obtain ⟨a', c', rfl⟩ := own_form ho2
  obtain ⟨hm, q1, q2⟩ := hM1.pushC (c := ⟨f, t⟩) (by rw [hn.out] at ho2 ⊢; exact ho2) (Kept.grown hg2) hb2
  exact h a' c' W' (hideI hm) q1 q2
/-- Texts as they lie. -/
def TxAt (w : World) (a : Option Addr) (l : List ByteArray) : Prop := l ≠ [] → ∃ b off, a = some ⟨b, off, none⟩ ∧ ∀ (k : Nat) (h : k < l.length), w.cell? ⟨b, off + k, none⟩ = some (.string l[k])
theorem TxAt.kept {w w' : World} {a : Option Addr} {l : List ByteArray} (h : TxAt w a l) (k : Kept (fun _ => False) w w') : TxAt w' a l := fun hn => by
  obtain ⟨b, off, e, hc⟩ := h hn
  exact ⟨b, off, e, fun i hi => k.cell (hc i hi) (fun f => f)⟩
def szT (l : List ByteArray) : Nat := (l.map fun t => t.size + 1).sum
end Go.Proofs.YtiebmmpnmklpnaaDoor
