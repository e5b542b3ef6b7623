import Derived.Test.YtmfdoohnladohaaRff
import Derived.Maps.AppendAt
namespace Go.Proofs.Ytmfdoohnladohaa
open Go.ChangeShapes Go.WideShapes Go.ChangeAt Go.RowKit

theorem Try.infoRu : (Try.prog.info? 37).map (fun i => (i.zero, i.size, i.bytes)) = some (some (.agg #[.string ⟨#[]⟩, .string ⟨#[]⟩]), 2, 32) := by kernel_rfl
theorem rulC_snoc (T : Tbl) (p : Rl) : rulC (T ++ [p]) = rulC T ++ [.string (bq p.1), .string (bq p.2)] := by
  unfold rulC; rw [List.flatMap_append]; rfl
/-- The list 'four' in the making. -/
structure Fou (w wr : World) (gs : Nat) (v : Value) (k : Nat) : Prop where
  g : Gro w wr 37 2 v k (rulC (tb4.take k))
  s : ∀ j (h : j < tb4.length), wr.cell? ⟨gs, j, none⟩ = some (.string (bq tb4[j].1))
  ne : v.ownBlock ≠ some gs
  lt : gs < wr.heap.size
theorem tb4_two : ∀ p ∈ tb4, p.2 = [] := by decide +kernel
theorem two_one (x y : ByteArray) : ∀ u ∈ [Value.string x, Value.string y], u.oneCell' = true := by
  intro u hu
  simp at hu
  rcases hu with rfl | rfl <;> rfl
theorem wpList_pushR {w W : World} {gs : Nat} {ops : Array Oper} {rest : List Oper} {o : Oper} {act : Act} {Q : Exit → Act → World → Prop} (hgd : o.guard = none) (s x : Operand)
    (ho : o.op = .call { callee := .builtin .append, args := #[s, x], argTypes := #[40, 40] }) (v : Value) (k : Nat) (e : ByteArray) (hs : act.eval s = v) (hF : Hid (Fou w W gs v k)) (hx : act.eval x = .slice (some ⟨W.heap.size, 0, none⟩) 1 1)
    (hk : k < 19) (he : Hid (∀ h : k < tb4.length, e = bq tb4[k].1))
    (h : ∀ a' c' W', Hid (Fou w W' gs (.slice a' (k + 1) c') (k + 1)) → wpList Try.prog ops Q rest (act.put o.dst (.slice a' (k + 1) c')) W') : wpList Try.prog ops Q (o :: rest) act (W.alloc (.cells #[.string e, .string ⟨#[]⟩] 37)) := by
  obtain ⟨i0, hi, hz0, hz1, hz2⟩ := info_parts Try.infoRu
  have hk4 : k < tb4.length := hk
  have hsz := hF.out.g.kept.size
  refine wpList_append_own_at _ hgd s x 40 ho w.heap.size 37 i0 _ 2 32 Try.underlying40 hi hz0 hz1 hz2 rfl (by decide) v k (rulC (tb4.take k)) hs (hF.out.g.own.alloc _) ⟨W.heap.size, 0, none⟩ 1 1 [.string e, .string ⟨#[]⟩] hx rfl (row_news W [.string e, .string ⟨#[]⟩] 37) (two_one _ _) (by unfold maxLen; omega) (by omega) (by simp; omega) ?_
  intro v' W' ho2 hg2 _ hat
  have kk : Kept (fun i => v.ownBlock = some i) W W' := ((Kept.alloc W _).mono (fun _ f => f.elim)).trans (Kept.grown hg2) (fun i hi => .inl hi)
  have q : Fou w W' gs v' (k + 1) := by
    refine ⟨⟨?_, ?_⟩, fun j hj => kk.cell (hF.out.s j hj) hF.out.ne, ?_, Nat.lt_of_lt_of_le hF.out.lt kk.size⟩
    · have e2 : rulC (tb4.take (k + 1)) = rulC (tb4.take k) ++ [.string e, .string ⟨#[]⟩] := by
        rw [List.take_succ_eq_append_getElem hk4, rulC_snoc, he.out hk4, tb4_two _ (List.getElem_mem hk4)]; rfl
      rw [e2]; exact ho2
    · exact hF.out.g.kept.trans kk (fun i hi => .inr (hF.out.g.own.lt i hi).1)
    · rcases hat with h1 | h1
      · rw [h1]; exact hF.out.ne
      · rw [h1]
        intro h2
        have := hF.out.lt
        simp at h2
        omega
  obtain ⟨a', c', rfl⟩ := q.g.shape
  exact h a' c' W' q
theorem gro_rules {w W : World} {g c n : Nat} {T : Tbl} (h : Gro w W 37 2 (.slice (some ⟨g, 0, none⟩) n c) n (rulC T)) : RulesAt W g T := fun k hk => ⟨h.at (rulC_at T k hk).1, h.at (rulC_at T k hk).2⟩
theorem st4_F (l : List UInt8) (o : Option Rl) (ho : o = lg tb4 l) : bq (st4 l) = if o.isSome && (decide ((bo o).1 = [105, 111, 110]) && (!sfx (cutE l (bo o).1) [115] && !sfx (cutE l (bo o).1) [116])) then bq l else bq (rep tb4 2 l) := by
  subst ho
  rw [st4_lg l, rep_lg tb4 tb4_k.1 tb4_k.2 2 l]
  cases lg tb4 l with
  | none => rfl
  | some p =>
    show bq (if p.1 = [105, 111, 110] ∧ sfx (cutE l p.1) [115] = false ∧ sfx (cutE l p.1) [116] = false then l else if meas (cutE l p.1) < 2 then l else cutE l p.1 ++ p.2) = if true && (decide (p.1 = [105, 111, 110]) && (!sfx (cutE l p.1) [115] && !sfx (cutE l p.1) [116])) then bq l else bq (if meas (cutE l p.1) < 2 then l else cutE l p.1 ++ p.2)
    by_cases e : p.1 = [105, 111, 110]
    · rw [decide_eq_true e]
      cases sfx (cutE l p.1) [115] <;> cases sfx (cutE l p.1) [116] <;> simp [e]
    · rw [decide_eq_false e, if_neg (fun h => e h.1)]; rfl
end Go.Proofs.Ytmfdoohnladohaa
