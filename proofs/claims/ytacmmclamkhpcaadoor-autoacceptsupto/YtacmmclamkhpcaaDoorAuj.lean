import Derived.Test.YtacmmclamkhpcaaDoorAui
import Derived.Deep.RegionWith
import Derived.BigRegion
namespace Go.Proofs.YtacmmclamkhpcaaDoor
open Go.ChangeShapes Go.WideShapes Go.ChangeAt Go.RowKit

structure Stp2 (p : Prop) : Prop where
  out : p
theorem Stp2.go {p : Prop} (h : Stp2 p) : p := h.out
def StP (w w' : World) (e : Ending) : Prop := (∃ a n c, e = .returned (.slice a n c)) ∧ Kept (fun _ => False) w w'
theorem xstart_any (s : ByteArray) (w : World) : Calls Tryd.prog 83 #[.agg #[.string s]] w fun e w' => StP w w' e := by
  go_enter Tryd.func83, Tryd.ntmps83
  go_wp2
  go_ret
  exact ⟨⟨_, _, _, rfl⟩, (Kept.alloc _ _).trans (Kept.alloc _ _) (fun _ f => f.elim)⟩
theorem pstart_any (s : ByteArray) (w : World) : Calls Tryd.prog 72 #[.agg #[.string s]] w fun e w' => StP w w' e := by
  go_enter Tryd.func72, Tryd.ntmps72
  go_wp2
  go_ret
  exact ⟨⟨_, _, _, rfl⟩, (Kept.alloc _ _).trans (Kept.alloc _ _) (fun _ f => f.elim)⟩
theorem startOf_any (o i : Bool) (t : ByteArray) (w : World) : Calls Tryd.prog 79 #[.agg #[.bool o, .bool i, .string t]] w fun e w' => (∃ z, e = .returned (.int .i64 z)) ∧ Kept (fun _ => False) w w' := by
  cases o
  · go_enter Tryd.func79, Tryd.ntmps79
    go_wp2
    go_ret
    exact ⟨⟨_, rfl⟩, Kept.alloc _ _⟩
  · go_enter Tryd.func79, Tryd.ntmps79
    go_wp2
    go_ret
    exact ⟨⟨_, rfl⟩, Kept.alloc _ _⟩
theorem set_blockA {W : World} {b k : Nat} {cs : Array Value} {t : TypeId} {fr : Nat × Nat} {u : Value} (h : W.heap[b]? = some (.cells cs t fr)) : (W.setCell ⟨b, k, none⟩ u).heap[b]? = some (.cells (cs.setIfInBounds k u) t fr) := by
  have hlt : b < W.heap.size := (Array.getElem?_eq_some_iff.1 h).1
  have h' : W.heap[b] = .cells cs t fr := by simpa [Array.getElem?_eq_getElem hlt] using h
  show (W.heap.modify b _)[b]? = _
  rw [Array.getElem?_eq_getElem (by simpa using hlt), Array.getElem_modify_self, h']
  rfl

theorem bst {X : World} {b : Nat} {u0 u1 u2 : Value} (a0 a1 a2 : Value) (h : X.heap[b]? = some (.cells #[u0, u1, u2] 23 (0, 0))) :
    X.cell? ⟨b, 0, none⟩ = some u0 ∧ X.frozen? ⟨b, 0, none⟩ = false ∧ (X.setCell ⟨b, 0, none⟩ a0).cell? ⟨b, 1, none⟩ = some u1 ∧ (X.setCell ⟨b, 0, none⟩ a0).frozen? ⟨b, 1, none⟩ = false
    ∧ ((X.setCell ⟨b, 0, none⟩ a0).setCell ⟨b, 1, none⟩ a1).cell? ⟨b, 2, none⟩ = some u2 ∧ ((X.setCell ⟨b, 0, none⟩ a0).setCell ⟨b, 1, none⟩ a1).frozen? ⟨b, 2, none⟩ = false
    ∧ (((X.setCell ⟨b, 0, none⟩ a0).setCell ⟨b, 1, none⟩ a1).setCell ⟨b, 2, none⟩ a2).cell? ⟨b, 0, none⟩ = some a0 ∧ (((X.setCell ⟨b, 0, none⟩ a0).setCell ⟨b, 1, none⟩ a1).setCell ⟨b, 2, none⟩ a2).cell? ⟨b, 1, none⟩ = some a1 ∧ (((X.setCell ⟨b, 0, none⟩ a0).setCell ⟨b, 1, none⟩ a1).setCell ⟨b, 2, none⟩ a2).cell? ⟨b, 2, none⟩ = some a2 := by
  have h1 := set_blockA (k := 0) (u := a0) h
  have h2 := set_blockA (k := 1) (u := a1) h1
  have h3 := set_blockA (k := 2) (u := a2) h2
  refine ⟨by simp [World.cell?, h], by simp [World.frozen?, h], by simp [World.cell?, h1], by simp [World.frozen?, h1], by simp [World.cell?, h2], by simp [World.frozen?, h2], by simp [World.cell?, h3], by simp [World.cell?, h3], by simp [World.cell?, h3]⟩

theorem ownBound_any (o i : Bool) (t : ByteArray) (w : World) (ht : t.size ≤ 281474976710656) : Calls Tryd.prog 40 #[.agg #[.bool o, .bool i, .string t]] w fun e w' => (∃ i' t', e = .returned (.agg #[.bool o, .bool i', .string t']) ∧ t'.size ≤ t.size) ∧ Kept (fun _ => False) w w' := by
  cases o
  · have CC : ∀ W, Calls Tryd.prog 28 #[.string t] W fun e w' => e = .returned (.string t) ∧ Kept (fun _ => False) W w' := fun W => clone_any t W ht
    have A1 := Kept.alloc w (.cells #[.bool false, .bool i, .string t] 23)
    have A2 := Kept.alloc (w.alloc (.cells #[.bool false, .bool i, .string t] 23)) (.cells #[.bool false, .bool false, .string ⟨#[]⟩] 23)
    have h1 := A2.heap (heap_alloc_new w (.cells #[.bool false, .bool i, .string t] 23)) (fun f => f)
    have h2 := heap_alloc_new (w.alloc (.cells #[.bool false, .bool i, .string t] 23)) (.cells #[.bool false, .bool false, .string ⟨#[]⟩] 23)
    rw [World.size_alloc] at h2
    have HA := hideG (A1.trans A2 (fun _ f => f.elim))
    have H1 := hideG h1
    have H2 := hideG h2
    clear A1 A2 h1 h2
    go_enter Tryd.func40, Tryd.ntmps40
    go_wp2_with (go_at_call 28; refine (CC _).mono ?_; clear CC; rintro e W ⟨rfl, K1⟩; have g1 := K1.heap H1.out (fun f => f); have g2 := K1.heap H2.out (fun f => f); have x0 : W.cell? ⟨w.heap.size, 0, none⟩ = some (.bool false) := (by simp [World.cell?, g1]); have x1 : W.cell? ⟨w.heap.size, 1, none⟩ = some (.bool i) := (by simp [World.cell?, g1]); have x2 : W.cell? ⟨w.heap.size, 2, none⟩ = some (.string t) := (by simp [World.cell?, g1]); have f2 : W.frozen? ⟨w.heap.size, 2, none⟩ = false := (by simp [World.frozen?, g1]); have HK := hideG (HA.out.trans K1 (fun _ f => f.elim)); have G1 := hideG g1; have G2 := hideG g2; clear g1 g2 K1; have ks := Kept.setCell W ⟨w.heap.size, 2, none⟩ (.string t); have e1 := set_blockA (k := 2) (u := .string t) G1.out; have e2 := ks.heap G2.out (fun e => by simp only at e; omega); have y0 : (W.setCell ⟨w.heap.size, 2, none⟩ (.string t)).cell? ⟨w.heap.size, 0, none⟩ = some (.bool false) := (by simp [World.cell?, e1]); have y1 : (W.setCell ⟨w.heap.size, 2, none⟩ (.string t)).cell? ⟨w.heap.size, 1, none⟩ = some (.bool i) := (by simp [World.cell?, e1]); have y2 : (W.setCell ⟨w.heap.size, 2, none⟩ (.string t)).cell? ⟨w.heap.size, 2, none⟩ = some (.string t) := (by simp [World.cell?, e1]); obtain ⟨z0, z1, z2, z3, z4, z5, z6, z7, z8⟩ := bst (.bool false) (.bool i) (.string t) e2; have HKs := hideG (((ks.mono fun j hj => .inl (by simp only at hj; omega : w.heap.size ≤ j)).trans (Kept.setCell _ ⟨w.heap.size + 1, 0, none⟩ (.bool false)) (fun j hj => .inl (by simp only at hj; omega))).trans ((Kept.setCell _ ⟨w.heap.size + 1, 1, none⟩ (.bool i)).trans (Kept.setCell _ ⟨w.heap.size + 1, 2, none⟩ (.string t)) (fun j hj => .inl hj)) (fun j hj => .inl (by simp only at hj; omega))); clear e1 e2 ks)
    refine bodyPost_ret (v := .agg #[.bool false, .bool i, .string t]) (by simp [results, Tryd.results40, go_sem, z6, z7, z8]) rfl ⟨⟨_, _, rfl, Nat.le_refl _⟩, HK.out.trans HKs.out (fun j hj => .inr hj)⟩
  · go_enter Tryd.func40, Tryd.ntmps40
    go_wp2
    refine bodyPost_ret (v := .agg #[.bool true, .bool false, .string ⟨#[]⟩]) (by simp [results, Tryd.results40, go_sem]) rfl ⟨⟨_, _, rfl, Nat.zero_le _⟩, (Kept.alloc _ _).trans (Kept.alloc _ _) (fun _ f => f.elim)⟩

def RtB (w w' : World) (e : Ending) : Prop := (∃ b, e = .returned (.bool b)) ∧ Kept (fun _ => False) w w'
set_option maxRecDepth 20000 in
set_option maxHeartbeats 4000000 in
theorem isEmpty_any (o i O I : Bool) (t T : ByteArray) (w : World) (ht : t.size ≤ 1099511627776) : Calls Tryd.prog 74 #[.agg #[.bool o, .bool i, .string t, .bool O, .bool I, .string T]] w fun e w' => RtB w w' e := by
  have KB := hideG (Kept.alloc w (.cells #[.bool o, .bool i, .string t, .bool O, .bool I, .string T] 92))
  cases o <;> cases i <;> cases O
  · skip
    have hls : (t ++ ⟨#[0]⟩).size ≤ 1099511627777 := by first | omega | (rw [ByteArray.size_append]; have : (⟨#[0]⟩ : ByteArray).size = 1 := rfl; omega)
    cases hb : Op.bytesLess (t ++ ⟨#[0]⟩).toList T.toList
    · by_cases he : (t ++ ⟨#[0]⟩).toList = T.toList
      · skip
        go_enter Tryd.func74, Tryd.ntmps74
        go_wp2
        all_goals (go_ret; exact ⟨⟨_, rfl⟩, KB.out⟩)
      · skip
        go_enter Tryd.func74, Tryd.ntmps74
        go_wp2
        all_goals (go_ret; exact ⟨⟨_, rfl⟩, KB.out⟩)
    · skip
      go_enter Tryd.func74, Tryd.ntmps74
      go_wp2
      all_goals (go_ret; exact ⟨⟨_, rfl⟩, KB.out⟩)
  · skip
    have hls : (t ++ ⟨#[0]⟩).size ≤ 1099511627777 := by first | omega | (rw [ByteArray.size_append]; have : (⟨#[0]⟩ : ByteArray).size = 1 := rfl; omega)
    go_enter Tryd.func74, Tryd.ntmps74
    go_wp2
    all_goals (go_ret; exact ⟨⟨_, rfl⟩, KB.out⟩)
  · skip
    have hls : t.size ≤ 1099511627777 := by first | omega | (rw [ByteArray.size_append]; have : (⟨#[0]⟩ : ByteArray).size = 1 := rfl; omega)
    cases hb : Op.bytesLess t.toList T.toList
    · by_cases he : t.toList = T.toList
      · skip
        go_enter Tryd.func74, Tryd.ntmps74
        go_wp2
        all_goals (go_ret; exact ⟨⟨_, rfl⟩, KB.out⟩)
      · skip
        go_enter Tryd.func74, Tryd.ntmps74
        go_wp2
        all_goals (go_ret; exact ⟨⟨_, rfl⟩, KB.out⟩)
    · skip
      go_enter Tryd.func74, Tryd.ntmps74
      go_wp2
      all_goals (go_ret; exact ⟨⟨_, rfl⟩, KB.out⟩)
  · skip
    have hls : t.size ≤ 1099511627777 := by first | omega | (rw [ByteArray.size_append]; have : (⟨#[0]⟩ : ByteArray).size = 1 := rfl; omega)
    go_enter Tryd.func74, Tryd.ntmps74
    go_wp2
    all_goals (go_ret; exact ⟨⟨_, rfl⟩, KB.out⟩)
  · skip
    have hls : t.size ≤ 1099511627777 := by first | omega | (rw [ByteArray.size_append]; have : (⟨#[0]⟩ : ByteArray).size = 1 := rfl; omega)
    cases hb : Op.bytesLess t.toList T.toList
    · by_cases he : t.toList = T.toList
      · skip
        go_enter Tryd.func74, Tryd.ntmps74
        go_wp2
        all_goals (go_ret; exact ⟨⟨_, rfl⟩, KB.out⟩)
      · skip
        go_enter Tryd.func74, Tryd.ntmps74
        go_wp2
        all_goals (go_ret; exact ⟨⟨_, rfl⟩, KB.out⟩)
    · skip
      go_enter Tryd.func74, Tryd.ntmps74
      go_wp2
      all_goals (go_ret; exact ⟨⟨_, rfl⟩, KB.out⟩)
  · skip
    have hls : t.size ≤ 1099511627777 := by first | omega | (rw [ByteArray.size_append]; have : (⟨#[0]⟩ : ByteArray).size = 1 := rfl; omega)
    go_enter Tryd.func74, Tryd.ntmps74
    go_wp2
    all_goals (go_ret; exact ⟨⟨_, rfl⟩, KB.out⟩)
  · skip
    have hls : t.size ≤ 1099511627777 := by first | omega | (rw [ByteArray.size_append]; have : (⟨#[0]⟩ : ByteArray).size = 1 := rfl; omega)
    cases hb : Op.bytesLess t.toList T.toList
    · by_cases he : t.toList = T.toList
      · skip
        go_enter Tryd.func74, Tryd.ntmps74
        go_wp2
        all_goals (go_ret; exact ⟨⟨_, rfl⟩, KB.out⟩)
      · skip
        go_enter Tryd.func74, Tryd.ntmps74
        go_wp2
        all_goals (go_ret; exact ⟨⟨_, rfl⟩, KB.out⟩)
    · skip
      go_enter Tryd.func74, Tryd.ntmps74
      go_wp2
      all_goals (go_ret; exact ⟨⟨_, rfl⟩, KB.out⟩)
  · skip
    have hls : t.size ≤ 1099511627777 := by first | omega | (rw [ByteArray.size_append]; have : (⟨#[0]⟩ : ByteArray).size = 1 := rfl; omega)
    go_enter Tryd.func74, Tryd.ntmps74
    go_wp2
    all_goals (go_ret; exact ⟨⟨_, rfl⟩, KB.out⟩)
end Go.Proofs.YtacmmclamkhpcaaDoor
