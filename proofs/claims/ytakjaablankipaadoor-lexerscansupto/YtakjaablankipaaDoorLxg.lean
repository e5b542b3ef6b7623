import Derived.Test.YtakjaablankipaaDoorLxf
namespace Go.Proofs.YtakjaablankipaaDoor
open Go.ChangeShapes Go.WideShapes Go.ChangeAt Go.RowKit

/-- 'append(s, p...)' of bytes. -/
theorem wpList_pushR {w0 W : World} {ops : Array Oper} {rest : List Oper} {o : Oper} {act : Act} {Q : Exit → Act → World → Prop} (hgd : o.guard = none) (s x : Operand)
    (ho : o.op = .call { callee := .builtin .append, args := #[s, x], argTypes := #[37, 37] }) (a : Option Addr) (c0 n : Nat) (l p : List UInt8) (q g : Nat) (hs : act.eval s = .slice a n c0) (hG : Hid (Gb w0 W a c0 n l)) (hx : act.eval x = .slice (some ⟨g, 0, none⟩) q q) (hq : Hid (q = p.length)) (hR : Hid (Rb W g p))
    (hn : n + q ≤ 1099511627776)
    (h : ∀ a' c' W', Hid (Gb w0 W' a' c' (n + q) (l ++ p)) → wpList Tryd.prog ops Q rest (act.put o.dst (.slice a' (n + q) c')) W') : wpList Tryd.prog ops Q (o :: rest) act W := by
  obtain ⟨i0, hi, hz0, hz1, hz2⟩ := info_partsL Tryd.infoB
  have e1 := hq.out
  subst e1
  have hplain : ∀ j, (⟨g, 0, none⟩ : Addr).add j = ⟨g, j, none⟩ := fun j => by unfold Addr.add; split <;> simp_all
  refine wpList_append_own _ hgd s x 37 ho w0.heap.size 5 i0 (.int .u8 0) 1 1 Tryd.underlying37 hi hz0 hz1 hz2 rfl (by decide) (.slice a n c0) n (bu l) hs hG.out.gro.own ⟨g, 0, none⟩ p.length p.length (bu p) hx (by rw [bu_len, Nat.mul_one]) (fun j u hu => by rw [hplain]; exact hR.out.at' j u hu) ?_ (by unfold maxLen; omega) (by omega) hG.out.gro.kept.size ?_
  · intro u hu
    obtain ⟨x, _, rfl⟩ := List.mem_map.1 hu
    rfl
  · intro v' W' ho2 hg2 _
    have q : Gro w0 W' 5 1 v' (n + p.length) (bu l ++ bu p) := ⟨ho2, hG.out.gro.kept.trans (Kept.grown hg2) (fun i hi => .inr (hG.out.gro.own.lt i hi).1)⟩
    obtain ⟨a', c', rfl⟩ := q.shape
    rw [← bu_append] at q
    exact h a' c' W' ⟨q, by rw [List.length_append, hG.out.len]⟩
theorem gb_empty (w : World) : Gb w (w.alloc (.cells #[] 5)) (some ⟨w.heap.size, 0, none⟩) 0 0 [] := ⟨gro_empty w w 5 1 (Kept.refl _ _), rfl⟩
theorem gb_34 (w : World) : Gb w (w.alloc (.cells #[.int .u8 34] 5)) (some ⟨w.heap.size, 0, none⟩) 1 1 [34] := by
  refine ⟨⟨⟨rfl, .inr ⟨w.heap.size, 1, #[.int .u8 34], rfl, Nat.le_refl _, heap_alloc_new w _, Nat.le_refl _, by decide, rfl, rfl⟩⟩, Kept.alloc _ _⟩, rfl⟩
theorem str_esc (l : List UInt8) : (⟨#[92]⟩ : ByteArray) ++ bq l = bq (92 :: l) := bq_append [92] l
end Go.Proofs.YtakjaablankipaaDoor
