import Derived.Test.YtdklkpbadopkaaaDoorGro
import Derived.Test.YtdklkpbadopkaaaDoorIzb
import Derived.Lib.UnsafeStr
import Derived.Lib.Builder
import Derived.Lib.AppendStr
namespace Go.Proofs.YtdklkpbadopkaaaDoor
open Go.ChangeShapes Go.WideShapes Go.ChangeAt Go.RowKit

/-- A strings.Builder in the block b that holds the bytes l; p: what its first cell holds. -/
structure Bw (w : World) (b : Nat) (p v : Value) (l : List UInt8) : Prop where
  blk : w.heap[b]? = some (.cells #[p, v] 56 (0, 0))
  pp : p = .pointer none ∨ p = .pointer (some ⟨b, 0, none⟩)
  own : w.ownsRow b 5 1 v l.length (bu l)
  ne : v.ownBlock ≠ some b
theorem Bw.c0 {w : World} {b : Nat} {p v : Value} {l : List UInt8} (h : Bw w b p v l) : w.cell? ⟨b, 0, none⟩ = some p := by simp [World.cell?, h.blk]
theorem Bw.c1 {w : World} {b : Nat} {p v : Value} {l : List UInt8} (h : Bw w b p v l) : w.cell? ⟨b, 1, none⟩ = some v := by simp [World.cell?, h.blk]
theorem Bw.f0 {w : World} {b : Nat} {p v : Value} {l : List UInt8} (h : Bw w b p v l) : w.frozen? ⟨b, 0, none⟩ = false := by simp [World.frozen?, h.blk]
theorem Bw.f1 {w : World} {b : Nat} {p v : Value} {l : List UInt8} (h : Bw w b p v l) : w.frozen? ⟨b, 1, none⟩ = false := by simp [World.frozen?, h.blk]
theorem Bw.lt {w : World} {b : Nat} {p v : Value} {l : List UInt8} (h : Bw w b p v l) : b < w.heap.size := lt_of_block h.blk
/-- What a call on the Builder may write: its own box, and younger rows of bytes. -/
def BG (w : World) (b : Nat) : Nat → Prop := fun k => k = b ∨ (b ≤ k ∧ ∃ c fz, w.heap[k]? = some (.cells c 5 fz))
theorem BG.trans {w w1 w2 : World} {b : Nat} (h : Kept (BG w b) w w1) (k : Kept (BG w1 b) w1 w2) : Kept (BG w b) w w2 := by
  refine h.trans k (fun i hi => ?_)
  rcases hi with e | ⟨hb, c, fz, hc⟩
  · exact .inl (.inl e)
  · by_cases hlt : i < w.heap.size
    · by_cases hF : BG w b i
      · exact .inl hF
      · rw [h.block i hlt hF] at hc
        exact .inl (.inr ⟨hb, c, fz, hc⟩)
    · exact .inr (by omega)
theorem BG.quiet {w w1 : World} (b : Nat) (h : Kept (fun _ => False) w w1) : Kept (BG w b) w w1 := h.mono (fun _ f => f.elim)
theorem BG.below {w w1 : World} {b : Nat} (h : Kept (BG w b) w w1) {p : Addr} {u : Value} (hc : w.cell? p = some u) (hp : p.block < b) : w1.cell? p = some u :=
  h.cell hc (fun f => by rcases f with e | ⟨e, _⟩ <;> omega)
theorem BG.box {w w1 : World} {b : Nat} (h : Kept (BG w b) w w1) {k : Nat} {cs : Array Value} {t : TypeId} {fz : Nat × Nat} (hc : w.heap[k]? = some (.cells cs t fz)) (hk : k ≠ b) (ht : t ≠ 5) : w1.heap[k]? = some (.cells cs t fz) :=
  h.heap hc (fun f => by
    rcases f with e | ⟨_, c, fz', e⟩
    · exact hk e
    · rw [hc] at e
      simp only [Option.some.injEq, Obj.cells.injEq] at e
      exact ht e.2.1)
theorem Bw.later {w w' : World} {b : Nat} {p v : Value} {l : List UInt8} (h : Bw w b p v l) (k : Kept (fun _ => False) w w') : Bw w' b p v l :=
  ⟨k.heap h.blk (fun f => f), h.pp, k.row h.own (fun _ _ f => f), h.ne⟩
theorem Bw.slice {w : World} {b : Nat} {p v : Value} {l : List UInt8} (h : Bw w b p v l) : ∃ a c, v = .slice a l.length c := by
  rcases h.own.2 with ⟨rfl, e⟩ | ⟨g, cap, cur, rfl, _⟩
  · rw [e]; exact ⟨_, _, rfl⟩
  · exact ⟨_, _, rfl⟩
theorem Bw.rowlt {w : World} {b : Nat} {p v : Value} {l : List UInt8} (h : Bw w b p v l) (k : Nat) (e : v.ownBlock = some k) : b ≤ k ∧ k < w.heap.size := by
  rcases h.own.2 with ⟨rfl, _⟩ | ⟨g, cap, cur, rfl, hb, hg, _⟩
  · simp [Value.ownBlock] at e
  · simp [Value.ownBlock] at e
    subst e
    exact ⟨hb, lt_of_block hg⟩
theorem Tryd.infoBw0 : (Tryd.prog.info? 54).map (·.size) = some 2 := by kernel_rfl
theorem Tryd.infoBw : ∃ j, Tryd.prog.info? 54 = some j ∧ j.size ≠ 0 := by
  have h := Tryd.infoBw0
  cases e : Tryd.prog.info? 54 with
  | none => rw [e] at h; cases h
  | some j =>
    rw [e] at h
    simp only [Option.map_some, Option.some.injEq] at h
    exact ⟨j, rfl, by omega⟩
set_option maxRecDepth 20000 in
set_option maxHeartbeats 2000000 in
theorem copyCheckI {w : World} {b : Nat} {p v : Value} {l : List UInt8} (h : Bw w b p v l) :
    Calls Tryd.prog 67 #[.pointer (some ⟨b, 0, none⟩)] w fun e w' => e = .returned (.tuple #[]) ∧ Bw w' b (.pointer (some ⟨b, 0, none⟩)) v l ∧ Kept (BG w b) w w' := by
  have c0 := h.c0
  have f0 := h.f0
  have HB := hideI h
  obtain ⟨j, hj, hj0⟩ := Tryd.infoBw
  rcases h.pp with e | e
  · subst e
    have hsh : w.shape? b = some (56, 2) := by simp [World.shape?, h.blk]
    have x1 := Lib.run_to_unsafe (P := Tryd.prog) (w := w) (src := 52) (dst := 149) ⟨b, 0, none⟩ Tryd.underlying52 Tryd.underlying149 hj hj0 hsh (by show (0 : Nat) < 2; decide)
    have x2 := Lib.run_from_unsafe (P := Tryd.prog) (w := w) (src := 149) (dst := 52) ⟨b, 0, none⟩ Tryd.underlying149 Tryd.underlying52 hj hsh (by kernel_rfl)
    clear h hj hj0 hsh
    go_enter Tryd.func67, Tryd.ntmps67
    go_wp2
    rw [run_callFunc_extern Tryd.func79 (by kernel_rfl) (by kernel_rfl) (by kernel_rfl) (e := Extern.AbiNoEscape.same) (by kernel_rfl)]
    rw [Lib.run_noEscape]
    simp only [Result.andThen]
    rw [Oper.upon_value]
    go_wp2
    go_end0
    refine ⟨rfl, ⟨?_, .inr rfl, ownsRow_setCell_other HB.out.own HB.out.ne _, HB.out.ne⟩, (Kept.setCell _ _ _).mono (fun i hi => .inl (.inl hi))⟩
    rw [Go.heap_setCell_same w b 0 _ _ _ HB.out.blk]
    rfl
  · subst e
    clear h
    go_enter Tryd.func67, Tryd.ntmps67
    go_wp2
    rw [Lib.run_neq_ptr_same w _ Tryd.underlying52 hj]
    go_wp2
    go_end0
    exact ⟨rfl, HB.out, Kept.refl _ _⟩
theorem own_sliceI {w : World} {base e sz n : Nat} {v : Value} {xs : List Value} (h : w.ownsRow base e sz v n xs) : ∃ a c, v = .slice a n c := by
  rcases h.2 with ⟨rfl, e⟩ | ⟨g, cap, cur, rfl, _⟩
  · rw [e]; exact ⟨_, _, rfl⟩
  · exact ⟨_, _, rfl⟩
/-- Behind an append to a Builder's bytes, and the store. -/
theorem bw_grown {w w0 W : World} {b : Nat} {p v v' : Value} {l l' : List UInt8} (h : Bw w b p v l) (k0 : Kept (fun _ => False) w w0) (hg : w0.grownBy W v.ownBlock) (ho : W.ownsRow b 5 1 v' l'.length (bu l')) :
    W.cell? ⟨b, 1, none⟩ = some v ∧ W.frozen? ⟨b, 1, none⟩ = false ∧ Bw (W.setCell ⟨b, 1, none⟩ v') b p v' l' ∧ Kept (BG w b) w (W.setCell ⟨b, 1, none⟩ v') := by
  have k1 : Kept (fun k => v.ownBlock = some k) w W := k0.mono (fun _ h => h.elim) |>.trans (Kept.grown hg) (fun i hi => .inl hi)
  have hb : W.heap[b]? = some (.cells #[p, v] 56 (0, 0)) := k1.heap h.blk h.ne
  have hn : v'.ownBlock ≠ some b := by
    intro e
    rcases ho.2 with ⟨rfl, _⟩ | ⟨g, cap, cur, rfl, _, hg, _⟩
    · simp [Value.ownBlock] at e
    · simp [Value.ownBlock] at e
      subst e
      rw [hb] at hg
      simp at hg
  refine ⟨by simp [World.cell?, hb], by simp [World.frozen?, hb], ⟨?_, h.pp, ownsRow_setCell_other ho hn _, hn⟩, ?_⟩
  · rw [Go.heap_setCell_same W b 1 _ _ _ hb]
    rfl
  · refine (k1.mono (fun i hi => ?_)).trans (Kept.setCell _ _ _) (fun i hi => .inl (.inl hi))
    rcases h.own.2 with ⟨rfl, _⟩ | ⟨g, cap, cur, rfl, hbg, hgg, _⟩
    · simp [Value.ownBlock] at hi
    · simp [Value.ownBlock] at hi
      subst hi
      exact .inl (.inr ⟨hbg, _, _, hgg⟩)
set_option maxRecDepth 20000 in
set_option maxHeartbeats 2000000 in
theorem wbyteI {w : World} {b : Nat} {p v : Value} {l : List UInt8} (c : UInt8) (z : Int) (hz : z = (c.toNat : Int)) (h : Bw w b p v l) (hl : l.length + 1 ≤ 140737488355328) :
    Calls Tryd.prog 43 #[.pointer (some ⟨b, 0, none⟩), .int .u8 z] w fun e w' => e = .returned .nilIface ∧ ∃ v', Bw w' b (.pointer (some ⟨b, 0, none⟩)) v' (l ++ [c]) ∧ Kept (BG w b) w w' := by
  obtain ⟨i0, hi, hz0, hz1, hz2⟩ := info_parts Tryd.infoB
  have CC := hideI (copyCheckI h)
  have HZ := hideI hz
  clear h hz
  go_enter Tryd.func43, Tryd.ntmps43
  go_wp2_with (first
    | (go_at_call 67; refine CC.out.mono ?_; clear CC; rintro e W ⟨rfl, hB, K⟩; have c1 := hB.c1; have HB := hideI hB; have HK := hideI K; clear hB K)
    | (at_builtin; refine wpList_append_own _ rfl _ _ 25 rfl b 5 i0 (.int .u8 0) 1 1 Tryd.underlying25 hi hz0 hz1 hz2 rfl (by decide) v l.length (bu l) rfl (HB.out.own.alloc _) ⟨W.heap.size, 0, none⟩ 1 1 [.int .u8 z] rfl rfl (row_news W [.int .u8 z] 5) (by intro u hu; simp at hu; subst hu; rfl) (by unfold maxLen; omega) (by omega) (by have := HB.out.lt; simp; omega) ?_; intro v' W' ho hg _; obtain ⟨a', c', rfl⟩ := own_sliceI ho; rw [HZ.out] at ho; have ho2 : W'.ownsRow b 5 1 (.slice a' _ c') (l ++ [c]).length (bu (l ++ [c])) := (by rw [bu_append, List.length_append]; exact ho); obtain ⟨y1, y2, y3, y4⟩ := bw_grown HB.out (Kept.alloc _ _) hg ho2; have Y := hideI (And.intro y3 y4); clear y3 y4 ho ho2 hg))
  go_ret
  exact ⟨rfl, _, Y.out.1, BG.trans HK.out Y.out.2⟩
set_option maxRecDepth 20000 in
set_option maxHeartbeats 2000000 in
theorem wstrI {w : World} {b : Nat} {p v : Value} {l : List UInt8} (s : ByteArray) (h : Bw w b p v l) (hl : l.length + s.size ≤ 140737488355328) :
    Calls Tryd.prog 41 #[.pointer (some ⟨b, 0, none⟩), .string s] w fun e w' => (∃ r, e = .returned r) ∧ ∃ v', Bw w' b (.pointer (some ⟨b, 0, none⟩)) v' (l ++ s.data.toList) ∧ Kept (BG w b) w w' := by
  obtain ⟨i0, hi, hz0, hz1, hz2⟩ := info_parts Tryd.infoB
  have CC := hideI (copyCheckI h)
  clear h
  go_enter Tryd.func41, Tryd.ntmps41
  go_wp2_with (first
    | (go_at_call 67; refine CC.out.mono ?_; clear CC; rintro e W ⟨rfl, hB, K⟩; have c1 := hB.c1; have HB := hideI hB; have HK := hideI K; clear hB K)
    | (at_builtin; refine Lib.wpList_append_own_string _ rfl _ _ 25 9 rfl b 5 i0 Tryd.underlying25 Tryd.underlying9 hi hz0 hz1 hz2 v l.length (bu l) rfl HB.out.own s rfl (by unfold maxLen; omega) hl (by have := HB.out.lt; omega) ?_; intro v' W' ho hg _; obtain ⟨a', c', rfl⟩ := own_sliceI ho; have ho2 : W'.ownsRow b 5 1 (.slice a' _ c') (l ++ s.data.toList).length (bu (l ++ s.data.toList)) := (by rw [bu_append, List.length_append, Array.length_toList]; exact ho); obtain ⟨y1, y2, y3, y4⟩ := bw_grown HB.out (Kept.refl _ _) hg ho2; have Y := hideI (And.intro y3 y4); clear y3 y4 ho ho2 hg))
  go_ret2
  exact ⟨⟨_, rfl⟩, _, Y.out.1, BG.trans HK.out Y.out.2⟩
theorem Tryd.cellsByI : Tryd.prog.cellsOf 5 = 1 := by kernel_rfl
theorem Kept.freezeI {w : World} {g n B : Nat} (h : B ≤ g) : Kept (fun i => B ≤ i) w (w.freeze ⟨g, 0, none⟩ n) := by
  have hb := Lib.below_freeze (Below.refl B w) (p := ⟨g, 0, none⟩) h n
  exact ⟨hb.os, hb.tape, hb.output, hb.size, fun k _ hF => hb.block k (by omega)⟩
set_option maxHeartbeats 2000000 in
set_option maxRecDepth 100000 in
/-- What the writer holds, as a text, where there is a byte at least. -/
theorem bstringI {w : World} {b : Nat} {p v : Value} {l : List UInt8} (h : Bw w b p v l) (h0 : l ≠ []) :
    Calls Tryd.prog 20 #[.pointer (some ⟨b, 0, none⟩)] w fun e w' => e = .returned (.string ⟨l.toArray⟩) ∧ Kept (fun i => b ≤ i) w w' := by
  have hl0 : l.length ≠ 0 := by simpa using h0
  have hbk := h.blk
  have hown := h.own
  obtain ⟨g, cap, cur, rfl, hbg, hg, hnc, hcm, hcs, htake⟩ : ∃ g cap cur, v = .slice (some ⟨g, 0, none⟩) l.length cap ∧ b ≤ g ∧ w.heap[g]? = some (.cells cur 5 (0, 0)) ∧ l.length ≤ cap ∧ cap ≤ maxLen ∧ cur.size = cap * 1 ∧ cur.toList.take (l.length * 1) = bu l := by
    rcases hown.2 with ⟨_, hz⟩ | ⟨g, cap, cur, hv, r⟩
    · exact absurd hz hl0
    · exact ⟨g, cap, cur, hv, r⟩
  have c1 : w.drew.cell? ⟨b, 1, none⟩ = some (.slice (some ⟨g, 0, none⟩) l.length cap) := by
    have : w.drew.heap[b]? = some (.cells #[p, .slice (some ⟨g, 0, none⟩) l.length cap] 56 (0, 0)) := hbk
    simp [World.cell?, this]
  have hSD : (Builtin.unsafeSliceData_ #[25] 108 #[.slice (some ⟨g, 0, none⟩) l.length cap]).run Tryd.prog w.drew = .ok (.pointer (some ⟨g, 0, none⟩)) w.drew :=
    Lib.run_unsafeSliceData_row _ _ _ _ _ _ (by omega)
  have hUS : (Builtin.unsafeString_ #[108, 3] 9 #[.pointer (some ⟨g, 0, none⟩), .int .i64 l.length]).run Tryd.prog w.drew = .ok (.string ⟨l.toArray⟩) (w.drew.freeze ⟨g, 0, none⟩ l.length) := by
    refine Lib.run_unsafeString_row w.drew 108 3 9 5 Tryd.underlying108 Tryd.cellsByI g cur.size (by have hg' : w.drew.heap[g]? = some (.cells cur 5 (0, 0)) := hg; simp [World.shape?, hg']) l h0 (by omega) (by unfold maxLen at hcm; omega) ?_
    intro j x hx
    have := hown.cells (g := g) rfl j (.int .u8 x.toNat) (by simp [bu, hx])
    exact this
  have HK : Hid (Kept (fun i => b ≤ i) w (w.drew.freeze ⟨g, 0, none⟩ l.length)) := hideI (((Kept.drew w).mono (fun _ f => f.elim)).trans (Kept.freezeI hbg) (fun _ f => .inl f))
  clear h hown hcm hcs htake hl0 h0 hg hbk
  have mixed : Tryd.prog.follows Departure.mixedOrders = true := by kernel_rfl
  go_enter Tryd.func20, Tryd.ntmps20
  go_wp2
  go_region_o
  all_goals go_wp2
  all_goals go_ret
  all_goals exact ⟨rfl, HK.out⟩
end Go.Proofs.YtdklkpbadopkaaaDoor
