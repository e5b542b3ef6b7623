import Derived.Test.YtcbhgpdookappaaDoorRows
import Derived.WalkKit
import Derived.ProofKit
import Derived.OpenShut
import Derived.WalkLawsBesides
import Derived.Deep.AppendLies
namespace Go.Proofs.YtcbhgpdookappaaDoor
open Go.ChangeShapes Go.WideShapes Go.ChangeAt Go.RowKit

/-- Outside F the world is as it was; new blocks may have come. -/
structure Kept (F : Nat → Prop) (w w' : World) : Prop where
  os : w'.os = w.os
  tape : w'.tape = w.tape
  output : w'.output = w.output
  size : w.heap.size ≤ w'.heap.size
  block : ∀ k, k < w.heap.size → ¬ F k → w'.heap[k]? = w.heap[k]?

theorem Kept.refl (F : Nat → Prop) (w : World) : Kept F w w := ⟨rfl, rfl, rfl, Nat.le_refl _, fun _ _ _ => rfl⟩
theorem Kept.trans {F G : Nat → Prop} {a b c : World} (h : Kept F a b) (k : Kept G b c) (hG : ∀ i, G i → F i ∨ a.heap.size ≤ i) : Kept F a c :=
  ⟨k.os.trans h.os, k.tape.trans h.tape, k.output.trans h.output, Nat.le_trans h.size k.size, fun i hi hF =>
    (k.block i (Nat.lt_of_lt_of_le hi h.size) (fun g => (hG i g).elim hF (fun g => by omega))).trans (h.block i hi hF)⟩
theorem Kept.mono {F G : Nat → Prop} {a b : World} (h : Kept F a b) (hG : ∀ i, F i → G i ∨ a.heap.size ≤ i) : Kept G a b :=
  ⟨h.os, h.tape, h.output, h.size, fun i hi hg => h.block i hi (fun f => (hG i f).elim hg (fun g => by omega))⟩
theorem Kept.alloc (w : World) (o : Obj) : Kept (fun _ => False) w (w.alloc o) := ⟨rfl, rfl, rfl, by simp, fun k hk _ => Below.heap_alloc _ _ _ hk⟩
theorem Kept.drew (w : World) : Kept (fun _ => False) w w.drew := ⟨rfl, rfl, rfl, Nat.le_refl _, fun _ _ _ => rfl⟩
theorem Kept.grown {w w' : World} {row : Option Nat} (hg : w.grownBy w' row) : Kept (fun k => row = some k) w w' :=
  ⟨hg.os, hg.tape, hg.output, hg.size, fun k hk hF => hg.block k hk (fun e => hF e.symm)⟩
theorem Kept.setCell (w : World) (p : Addr) (u : Value) : Kept (fun k => k = p.block) w (w.setCell p u) :=
  ⟨rfl, rfl, rfl, by simp [World.setCell], fun k _ hF => Below.heap_setCell _ _ _ _ hF⟩
theorem Kept.below {F : Nat → Prop} {w w' : World} (h : Kept F w w') {B : Nat} (hB : B ≤ w.heap.size) (hF : ∀ k, k < B → ¬ F k) : Below B w w' :=
  ⟨h.os, h.tape, h.output, h.size, fun k hk => h.block k (by omega) (hF k hk)⟩
theorem Kept.of_below {w w' : World} (h : Below w.heap.size w w') : Kept (fun _ => False) w w' := ⟨h.os, h.tape, h.output, h.size, fun k hk _ => h.block k hk⟩
theorem Kept.cell {F : Nat → Prop} {w w' : World} (h : Kept F w w') {p : Addr} {v : Value} (hc : w.cell? p = some v) (hF : ¬ F p.block) : w'.cell? p = some v :=
  (World.cell?_of_block (h.block p.block (World.block_lt_of_cell? w p hc) hF)).trans hc
theorem Kept.heap {F : Nat → Prop} {w w' : World} (h : Kept F w w') {b : Nat} {o : Obj} (hc : w.heap[b]? = some o) (hF : ¬ F b) : w'.heap[b]? = some o :=
  (h.block b (lt_of_block hc) hF).trans hc
theorem Kept.row {F : Nat → Prop} {w w' : World} (h : Kept F w w') {base : Nat} {e : TypeId} {size : Nat} {v : Value} {n : Nat} {xs : List Value} (ho : w.ownsRow base e size v n xs) (hF : ∀ k, v.ownBlock = some k → ¬ F k) : w'.ownsRow base e size v n xs := by
  refine ⟨ho.1, ?_⟩
  rcases ho.2 with hn | ⟨g, cap, cur, rfl, hb, hgg, rest⟩
  · exact .inl hn
  · exact .inr ⟨g, cap, cur, rfl, hb, h.heap hgg (hF g rfl), rest⟩

/-- Bytes as cells. -/
def bs (xs : List Int) : List Value := xs.map (Value.int .u8)
theorem bs_append (a b : List Int) : bs (a ++ b) = bs a ++ bs b := List.map_append
theorem bs_length (a : List Int) : (bs a).length = a.length := List.length_map ..
theorem bs_one (a : List Int) : ∀ u ∈ bs a, u.oneCell' = true := by
  intro u hu
  obtain ⟨x, _, rfl⟩ := List.mem_map.1 hu
  rfl

/-- The Writer at block bw: its field holds v, which owns the bytes xs. -/
structure Wr (w : World) (bw : Nat) (v : Value) (xs : List Int) : Prop where
  blk : w.heap[bw]? = some (.cells #[v] 98 (0, 0))
  own : w.ownsRow 0 5 1 v xs.length (bs xs)
/-- What a Writer may write. -/
def WF (bw : Nat) (v : Value) : Nat → Prop := fun k => k = bw ∨ v.ownBlock = some k
/-- A call on a Writer: from v to v'. -/
structure WStep (w w' : World) (bw : Nat) (v v' : Value) : Prop where
  kept : Kept (WF bw v) w w'
  new : ∀ k, v'.ownBlock = some k → v.ownBlock = some k ∨ w.heap.size ≤ k
theorem WStep.refl (w : World) (bw : Nat) (v : Value) : WStep w w bw v v := ⟨Kept.refl _ _, fun _ h => .inl h⟩
theorem WStep.trans {a b c : World} {bw : Nat} {v v1 v2 : Value} (h : WStep a b bw v v1) (k : WStep b c bw v1 v2) : WStep a c bw v v2 :=
  ⟨h.kept.trans k.kept (fun i hi => hi.elim (fun e => .inl (.inl e)) (fun e => (h.new i e).elim (fun x => .inl (.inr x)) .inr)),
   fun i hi => (k.new i hi).elim (fun x => h.new i x) (fun x => .inr (Nat.le_trans h.kept.size x))⟩

theorem Wr.ne {w : World} {bw : Nat} {v : Value} {xs : List Int} (h : Wr w bw v xs) : v.ownBlock ≠ some bw := by
  intro e
  rcases h.own.2 with ⟨rfl, _⟩ | ⟨g, cap, cur, rfl, _, hg, _⟩
  · simp [Value.ownBlock] at e
  · simp [Value.ownBlock] at e
    subst e
    rw [h.blk] at hg
    simp at hg
theorem Wr.cell {w : World} {bw : Nat} {v : Value} {xs : List Int} (h : Wr w bw v xs) : w.cell? ⟨bw, 0, none⟩ = some v := cell_of_one h.blk
theorem Wr.free {w : World} {bw : Nat} {v : Value} {xs : List Int} (h : Wr w bw v xs) : w.frozen? ⟨bw, 0, none⟩ = false := free_of_one h.blk
theorem Wr.lt {w : World} {bw : Nat} {v : Value} {xs : List Int} (h : Wr w bw v xs) : bw < w.heap.size := lt_of_block h.blk
theorem Wr.slice {w : World} {bw : Nat} {v : Value} {xs : List Int} (h : Wr w bw v xs) : ∃ a c, v = .slice a xs.length c := by
  rcases h.own.2 with ⟨rfl, e⟩ | ⟨g, cap, cur, rfl, _⟩
  · rw [e]; exact ⟨_, _, rfl⟩
  · exact ⟨_, _, rfl⟩
/-- A Writer that nobody has touched is as it was. -/
theorem Wr.kept {F : Nat → Prop} {w w' : World} {bw : Nat} {v : Value} {xs : List Int} (h : Wr w bw v xs) (k : Kept F w w') (hF : ∀ i, WF bw v i → ¬ F i) : Wr w' bw v xs :=
  ⟨k.heap h.blk (hF bw (.inl rfl)), k.row h.own (fun i hi => hF i (.inr hi))⟩

/-- What 'w.held = append(w.held, ..)' does, in two steps: w0 is the world as the append meets it (w and what was laid for the new bytes). -/
theorem wr_grown {w w0 w1 : World} {bw : Nat} {v : Value} {xs news : List Int} {g cap : Nat} (h : Wr w bw v xs) (k0 : Kept (fun _ => False) w w0)
    (hown : w1.ownsRow 0 5 1 (.slice (some ⟨g, 0, none⟩) (xs.length + news.length) cap) (xs.length + news.length) (bs xs ++ bs news))
    (hgrow : w0.grownBy w1 v.ownBlock) (hat : v.ownBlock = some g ∨ w.heap.size ≤ g) :
    w1.cell? ⟨bw, 0, none⟩ = some v ∧ w1.frozen? ⟨bw, 0, none⟩ = false ∧
    Wr (w1.setCell ⟨bw, 0, none⟩ (.slice (some ⟨g, 0, none⟩) (xs.length + news.length) cap)) bw (.slice (some ⟨g, 0, none⟩) (xs.length + news.length) cap) (xs ++ news) ∧
    WStep w (w1.setCell ⟨bw, 0, none⟩ (.slice (some ⟨g, 0, none⟩) (xs.length + news.length) cap)) bw v (.slice (some ⟨g, 0, none⟩) (xs.length + news.length) cap) := by
  have k1 : Kept (fun k => v.ownBlock = some k) w w1 := k0.mono (fun _ h => h.elim) |>.trans (Kept.grown hgrow) (fun i hi => .inl hi)
  have hb : w1.heap[bw]? = some (.cells #[v] 98 (0, 0)) := k1.heap h.blk h.ne
  have hne : g ≠ bw := by
    rcases hat with e | e
    · intro x; exact h.ne (by rw [e, x])
    · have := h.lt; omega
  refine ⟨cell_of_one hb, free_of_one hb, ⟨one_setCell hb, ?_⟩, ?_, ?_⟩
  · rw [List.length_append, bs_append]
    exact ownsRow_setCell_other hown (by simpa [Value.ownBlock] using hne) _
  · exact (k1.mono (fun i hi => .inl (.inr hi))).trans (Kept.setCell _ _ _) (fun i hi => .inl (.inl hi))
  · intro k hk
    simp [Value.ownBlock] at hk
    subst hk
    rcases hat with e | e
    · exact .inl e
    · exact .inr e
theorem Tryd.infoB : (Tryd.prog.info? 5).map (fun i => (i.zero, i.size, i.bytes)) = some (some (.int .u8 0), 1, 1) := by kernel_rfl
theorem one_new (w : World) (x : Value) (t : TypeId) : ∀ (j : Nat) (u : Value), [x][j]? = some u → (w.alloc (.cells #[x] t)).cell? ((⟨w.heap.size, 0, none⟩ : Addr).add j) = some u := by
  intro j u hj
  match j, hj with
  | 0, hj => simp at hj; subst hj; simp [Addr.add]
end Go.Proofs.YtcbhgpdookappaaDoor
