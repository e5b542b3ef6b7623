import Derived.Test.YtacmmclamkhpcaaDoorGro
import Derived.Test.YtacmmclamkhpcaaDoorShl
import Derived.Lib.Builder
import Derived.Lib.AppendStr
namespace Go.Proofs.YtacmmclamkhpcaaDoor
open Go.ChangeShapes Go.WideShapes Go.ChangeAt Go.RowKit

theorem hideB {p : Prop} (h : p) : Hid p := h
/-- A strings.Builder in the block b that holds the bytes l; p: what its first cell holds. -/
structure Bd (w : World) (b : Nat) (p v : Value) (l : List UInt8) : Prop where
  blk : w.heap[b]? = some (.cells #[p, v] 71 (0, 0))
  pp : p = .pointer none ∨ p = .pointer (some ⟨b, 0, none⟩)
  own : w.ownsRow b 5 1 v l.length (bu l)
  ne : v.ownBlock ≠ some b
theorem Bd.c0 {w : World} {b : Nat} {p v : Value} {l : List UInt8} (h : Bd w b p v l) : w.cell? ⟨b, 0, none⟩ = some p := by simp [World.cell?, h.blk]
theorem Bd.c1 {w : World} {b : Nat} {p v : Value} {l : List UInt8} (h : Bd w b p v l) : w.cell? ⟨b, 1, none⟩ = some v := by simp [World.cell?, h.blk]
theorem Bd.f0 {w : World} {b : Nat} {p v : Value} {l : List UInt8} (h : Bd w b p v l) : w.frozen? ⟨b, 0, none⟩ = false := by simp [World.frozen?, h.blk]
theorem Bd.f1 {w : World} {b : Nat} {p v : Value} {l : List UInt8} (h : Bd w b p v l) : w.frozen? ⟨b, 1, none⟩ = false := by simp [World.frozen?, h.blk]
theorem Bd.lt {w : World} {b : Nat} {p v : Value} {l : List UInt8} (h : Bd w b p v l) : b < w.heap.size := lt_of_block h.blk
/-- What a call on the Builder may write: its own box, and younger rows of bytes. -/
def BF (w : World) (b : Nat) : Nat → Prop := fun k => k = b ∨ (b ≤ k ∧ ∃ c fz, w.heap[k]? = some (.cells c 5 fz))
theorem BF.trans {w w1 w2 : World} {b : Nat} (h : Kept (BF w b) w w1) (k : Kept (BF w1 b) w1 w2) : Kept (BF w b) w w2 := by
  refine h.trans k (fun i hi => ?_)
  rcases hi with e | ⟨hb, c, fz, hc⟩
  · exact .inl (.inl e)
  · by_cases hlt : i < w.heap.size
    · by_cases hF : BF w b i
      · exact .inl hF
      · rw [h.block i hlt hF] at hc
        exact .inl (.inr ⟨hb, c, fz, hc⟩)
    · exact .inr (by omega)
theorem BF.quiet {w w1 : World} (b : Nat) (h : Kept (fun _ => False) w w1) : Kept (BF w b) w w1 := h.mono (fun _ f => f.elim)
theorem BF.below {w w1 : World} {b : Nat} (h : Kept (BF w b) w w1) {p : Addr} {u : Value} (hc : w.cell? p = some u) (hp : p.block < b) : w1.cell? p = some u :=
  h.cell hc (fun f => by rcases f with e | ⟨e, _⟩ <;> omega)
theorem BF.box {w w1 : World} {b : Nat} (h : Kept (BF w b) w w1) {k : Nat} {cs : Array Value} {t : TypeId} {fz : Nat × Nat} (hc : w.heap[k]? = some (.cells cs t fz)) (hk : k ≠ b) (ht : t ≠ 5) : w1.heap[k]? = some (.cells cs t fz) :=
  h.heap hc (fun f => by
    rcases f with e | ⟨_, c, fz', e⟩
    · exact hk e
    · rw [hc] at e
      simp only [Option.some.injEq, Obj.cells.injEq] at e
      exact ht e.2.1)
theorem Bd.later {w w' : World} {b : Nat} {p v : Value} {l : List UInt8} (h : Bd w b p v l) (k : Kept (fun _ => False) w w') : Bd w' b p v l :=
  ⟨k.heap h.blk (fun f => f), h.pp, k.row h.own (fun _ _ f => f), h.ne⟩
theorem Bd.slice {w : World} {b : Nat} {p v : Value} {l : List UInt8} (h : Bd w b p v l) : ∃ a c, v = .slice a l.length c := by
  rcases h.own.2 with ⟨rfl, e⟩ | ⟨g, cap, cur, rfl, _⟩
  · rw [e]; exact ⟨_, _, rfl⟩
  · exact ⟨_, _, rfl⟩
theorem Bd.rowlt {w : World} {b : Nat} {p v : Value} {l : List UInt8} (h : Bd w b p v l) (k : Nat) (e : v.ownBlock = some k) : b ≤ k ∧ k < w.heap.size := by
  rcases h.own.2 with ⟨rfl, _⟩ | ⟨g, cap, cur, rfl, hb, hg, _⟩
  · simp [Value.ownBlock] at e
  · simp [Value.ownBlock] at e
    subst e
    exact ⟨hb, lt_of_block hg⟩
theorem Tryd.infoBd0 : (Tryd.prog.info? 71).map (·.size) = some 2 := by kernel_rfl
theorem Tryd.infoBd : ∃ j, Tryd.prog.info? 71 = some j ∧ j.size ≠ 0 := by
  have h := Tryd.infoBd0
  cases e : Tryd.prog.info? 71 with
  | none => rw [e] at h; cases h
  | some j =>
    rw [e] at h
    simp only [Option.map_some, Option.some.injEq] at h
    exact ⟨j, rfl, by omega⟩
set_option maxRecDepth 20000 in
set_option maxHeartbeats 2000000 in
theorem copyCheck_any {w : World} {b : Nat} {p v : Value} {l : List UInt8} (h : Bd w b p v l) :
    Calls Tryd.prog 39 #[.pointer (some ⟨b, 0, none⟩)] w fun e w' => e = .returned (.tuple #[]) ∧ Bd w' b (.pointer (some ⟨b, 0, none⟩)) v l ∧ Kept (BF w b) w w' := by
  have c0 := h.c0
  have f0 := h.f0
  have HB := hideB h
  obtain ⟨j, hj, hj0⟩ := Tryd.infoBd
  rcases h.pp with e | e
  · subst e
    have hsh : w.shape? b = some (71, 2) := by simp [World.shape?, h.blk]
    have x1 := Lib.run_to_unsafe (P := Tryd.prog) (w := w) (src := 69) (dst := 95) ⟨b, 0, none⟩ Tryd.underlying69 Tryd.underlying95 hj hj0 hsh (by show (0 : Nat) < 2; decide)
    have x2 := Lib.run_from_unsafe (P := Tryd.prog) (w := w) (src := 95) (dst := 69) ⟨b, 0, none⟩ Tryd.underlying95 Tryd.underlying69 hj hsh (by kernel_rfl)
    clear h hj hj0 hsh
    go_enter Tryd.func39, Tryd.ntmps39
    go_wp2
    rw [run_callFunc_extern Tryd.func41 (by kernel_rfl) (by kernel_rfl) (by kernel_rfl) (e := Extern.AbiNoEscape.same) (by kernel_rfl)]
    rw [Lib.run_noEscape]
    simp only [Result.andThen]
    rw [Oper.upon_value]
    go_wp2
    go_end0
    refine ⟨rfl, ⟨?_, .inr rfl, ownsRow_setCell_other HB.out.own HB.out.ne _, HB.out.ne⟩, (Kept.setCell _ _ _).mono (fun i hi => .inl (.inl hi))⟩
    rw [Go.heap_setCell_same w b 0 _ _ _ HB.out.blk]
    rfl
  · subst e
    clear h
    go_enter Tryd.func39, Tryd.ntmps39
    go_wp2
    rw [Lib.run_neq_ptr_same w _ Tryd.underlying69 hj]
    go_wp2
    go_end0
    exact ⟨rfl, HB.out, Kept.refl _ _⟩
theorem own_slice {w : World} {base e sz n : Nat} {v : Value} {xs : List Value} (h : w.ownsRow base e sz v n xs) : ∃ a c, v = .slice a n c := by
  rcases h.2 with ⟨rfl, e⟩ | ⟨g, cap, cur, rfl, _⟩
  · rw [e]; exact ⟨_, _, rfl⟩
  · exact ⟨_, _, rfl⟩
/-- Behind an append to a Builder's bytes, and the store. -/
theorem bd_grown {w w0 W : World} {b : Nat} {p v v' : Value} {l l' : List UInt8} (h : Bd w b p v l) (k0 : Kept (fun _ => False) w w0) (hg : w0.grownBy W v.ownBlock) (ho : W.ownsRow b 5 1 v' l'.length (bu l')) :
    W.cell? ⟨b, 1, none⟩ = some v ∧ W.frozen? ⟨b, 1, none⟩ = false ∧ Bd (W.setCell ⟨b, 1, none⟩ v') b p v' l' ∧ Kept (BF w b) w (W.setCell ⟨b, 1, none⟩ v') := by
  have k1 : Kept (fun k => v.ownBlock = some k) w W := k0.mono (fun _ h => h.elim) |>.trans (Kept.grown hg) (fun i hi => .inl hi)
  have hb : W.heap[b]? = some (.cells #[p, v] 71 (0, 0)) := k1.heap h.blk h.ne
  have hn : v'.ownBlock ≠ some b := by
    intro e
    rcases ho.2 with ⟨rfl, _⟩ | ⟨g, cap, cur, rfl, _, hg, _⟩
    · simp [Value.ownBlock] at e
    · simp [Value.ownBlock] at e
      subst e
      rw [hb] at hg
      simp at hg
  refine ⟨by simp [World.cell?, hb], by simp [World.frozen?, hb], ⟨?_, h.pp, ownsRow_setCell_other ho hn _, hn⟩, ?_⟩
  · rw [Go.heap_setCell_same W b 1 _ _ _ hb]
    rfl
  · refine (k1.mono (fun i hi => ?_)).trans (Kept.setCell _ _ _) (fun i hi => .inl (.inl hi))
    rcases h.own.2 with ⟨rfl, _⟩ | ⟨g, cap, cur, rfl, hbg, hgg, _⟩
    · simp [Value.ownBlock] at hi
    · simp [Value.ownBlock] at hi
      subst hi
      exact .inl (.inr ⟨hbg, _, _, hgg⟩)
set_option maxRecDepth 20000 in
set_option maxHeartbeats 2000000 in
theorem wbyte_any {w : World} {b : Nat} {p v : Value} {l : List UInt8} (c : UInt8) (z : Int) (hz : z = (c.toNat : Int)) (h : Bd w b p v l) (hl : l.length + 1 ≤ 140737488355328) :
    Calls Tryd.prog 29 #[.pointer (some ⟨b, 0, none⟩), .int .u8 z] w fun e w' => e = .returned .nilIface ∧ ∃ v', Bd w' b (.pointer (some ⟨b, 0, none⟩)) v' (l ++ [c]) ∧ Kept (BF w b) w w' := by
  obtain ⟨i0, hi, hz0, hz1, hz2⟩ := info_parts Tryd.infoB
  have CC := hideB (copyCheck_any h)
  have HZ := hideB hz
  clear h hz
  go_enter Tryd.func29, Tryd.ntmps29
  go_wp2_with (first
    | (go_at_call 39; refine CC.out.mono ?_; clear CC; rintro e W ⟨rfl, hB, K⟩; have c1 := hB.c1; have HB := hideB hB; have HK := hideB K; clear hB K)
    | (at_builtin; refine wpList_append_own _ rfl _ _ 41 rfl b 5 i0 (.int .u8 0) 1 1 Tryd.underlying41 hi hz0 hz1 hz2 rfl (by decide) v l.length (bu l) rfl (HB.out.own.alloc _) ⟨W.heap.size, 0, none⟩ 1 1 [.int .u8 z] rfl rfl (row_news W [.int .u8 z] 5) (by intro u hu; simp at hu; subst hu; rfl) (by unfold maxLen; omega) (by omega) (by have := HB.out.lt; simp; omega) ?_; intro v' W' ho hg _; obtain ⟨a', c', rfl⟩ := own_slice ho; rw [HZ.out] at ho; have ho2 : W'.ownsRow b 5 1 (.slice a' _ c') (l ++ [c]).length (bu (l ++ [c])) := (by rw [bu_append, List.length_append]; exact ho); obtain ⟨y1, y2, y3, y4⟩ := bd_grown HB.out (Kept.alloc _ _) hg ho2; have Y := hideB (And.intro y3 y4); clear y3 y4 ho ho2 hg))
  go_ret
  exact ⟨rfl, _, Y.out.1, BF.trans HK.out Y.out.2⟩
/-- What the Builder holds, as a text. -/
theorem bstring_any {w : World} {b : Nat} {p v : Value} {l : List UInt8} (h : Bd w b p v l) :
    Calls Tryd.prog 30 #[.pointer (some ⟨b, 0, none⟩)] w fun e w' => e = .returned (.string ⟨l.toArray⟩) ∧ Below b w w' := by
  have hI : Lib.IsBuilder 71 5 b b (Lib.byteCells l) w := by
    have ho : w.ownsRow b 5 1 v (Lib.byteCells l).length (Lib.byteCells l) := by rw [Lib.byteCells_length]; exact h.own
    rcases h.pp with e | e
    · exact .inl ⟨Nat.le_refl _, v, by rw [← e]; exact h.blk, ho, h.ne⟩
    · exact .inr ⟨Nat.le_refl _, v, by rw [← e]; exact h.blk, ho, h.ne⟩
  refine (Tryd.Builder_String_any_k b b l w (Lib.IsBuilderF.of hI) (by have := h.lt; omega)).mono ?_
  rintro e w' ⟨rfl, _, hb, _⟩
  exact ⟨rfl, hb⟩
end Go.Proofs.YtacmmclamkhpcaaDoor
