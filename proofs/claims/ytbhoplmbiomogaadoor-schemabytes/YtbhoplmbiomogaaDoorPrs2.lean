import Derived.Test.YtbhoplmbiomogaaDoorRfw2
namespace Go.Proofs.YtbhoplmbiomogaaDoor
open Go.ChangeShapes Go.WideShapes Go.ChangeAt Go.RowKit

theorem fcells_at : ∀ (F : List Fd) (k j : Nat) (h : k < F.length), j < 5 → (fcells F)[k * 5 + j]? = (F[k]).cells[j]?
  | f :: F, 0, j, _, hj => by
    have hl : f.cells.length = 5 := rfl
    rw [fcells, List.map_cons, List.flatten_cons, Nat.zero_mul, Nat.zero_add, List.getElem?_append_left (by omega)]; rfl
  | f :: F, k + 1, j, h, hj => by
    have hl : f.cells.length = 5 := rfl
    rw [fcells, List.map_cons, List.flatten_cons, List.getElem?_append_right (by omega), hl, show (k + 1) * 5 + j - 5 = k * 5 + j by omega]
    exact fcells_at F k j (by simpa using h) hj
theorem fs_of_own {w : World} {base : Nat} {a : Option Addr} {c : Nat} {F : List Fd} (h : w.ownsRow base 46 5 (.slice a F.length c) F.length (fcells F)) : FsAt w a F := by
  intro hne
  have hpos : 0 < F.length := List.length_pos_iff.2 hne
  have hcs := @World.ownsRow.cells
  rcases h.2 with ⟨e, e2⟩ | ⟨g, cap, cur, e, _⟩
  · omega
  · have ea : a = some ⟨g, 0, none⟩ := by injection e
    subst ea
    refine ⟨g, 0, rfl, fun k hk => ?_⟩
    have cell : ∀ j, j < 5 → ∀ u, (F[k]).cells[j]? = some u → w.cell? ⟨g, 0 + k * 5 + j, none⟩ = some u := by
      intro j hj u hu
      have := h.cells (g := g) rfl (k * 5 + j) u (by rw [fcells_at F k j hk hj]; exact hu)
      have hplain : (⟨g, 0, none⟩ : Addr).add (k * 5 + j) = ⟨g, 0 + k * 5 + j, none⟩ := by unfold Addr.add; split <;> simp_all
      rwa [hplain] at this
    exact ⟨by have := cell 0 (by omega) _ rfl; rwa [Nat.add_zero] at this, cell 1 (by omega) _ rfl, cell 2 (by omega) _ rfl, cell 3 (by omega) _ rfl, cell 4 (by omega) _ rfl⟩
theorem rin_ok {b : Nat} {l : List UInt8} {b' : Nat} {rest : List UInt8} (h : rin b l = some (b', some rest)) : rest.length ≤ l.length := by
  induction hn : l.length using Nat.strongRecOn generalizing b l with
  | ind n ih =>
    match l, h, hn with
    | [], h, hn => rw [rin_nil] at h; cases h
    | c :: r, h, hn =>
      by_cases h1 : c.toNat = 59
      · rw [rin_end h1] at h
        injection h with h
        injection h with _ h
        injection h with h
        subst h
        rw [← hn]; simp
      · by_cases h2 : rmN (c :: r) b = 0
        · rw [rin_bad h1 h2] at h; cases h
        · rw [rin_go h1 h2] at h
          have := ih ((c :: r).drop 5).length (by rw [← hn]; simp; omega) h rfl
          rw [List.length_drop] at this
          omega
theorem rout_ok : ∀ (n : Nat) (l : List UInt8) (F : List Fd), rout n l = some F → F ≠ [] ∧ F.length ≤ n ∧ ∀ f ∈ F, f.n.size ≤ l.length ∧ 0 ≤ f.k ∧ f.k ≤ 3
  | 0, l, F, h => by rw [rout] at h; cases h
  | n + 1, l, F, h => by
    have hone : ∀ i b, i < l.length → ((fdOf (bstr (l.take i)) b).n.size ≤ l.length ∧ 0 ≤ (fdOf (bstr (l.take i)) b).k ∧ (fdOf (bstr (l.take i)) b).k ≤ 3) := by
      intro i b hi
      refine ⟨?_, ?_, ?_⟩
      · show (bstr (l.take i)).size ≤ _
        rw [bstr_size, List.length_take]; omega
      · show (0 : Int) ≤ ((b % 4 : Nat) : Int)
        omega
      · show ((b % 4 : Nat) : Int) ≤ 3
        omega
    cases hc : ci l with
    | none => rw [rout_nocolon hc] at h; cases h
    | some i =>
      have hi := (index_some hc).2
      by_cases hk : rkN (l.drop (i + 1)) = 0
      · rw [rout_nokind hc hk] at h; cases h
      · cases hr : rin (rkN (l.drop (i + 1))) (rkR (l.drop (i + 1))) with
        | none => rw [rout_bad hc hk hr] at h; cases h
        | some q =>
          obtain ⟨b, o⟩ := q
          cases o with
          | none =>
            rw [rout_last hc hk hr] at h
            injection h with h
            subst h
            refine ⟨by simp, by simp, fun f hf => ?_⟩
            rw [List.mem_singleton] at hf
            subst hf
            exact hone i b hi
          | some rest =>
            rw [rout_more hc hk hr] at h
            cases hq : rout n rest with
            | none => rw [hq] at h; cases h
            | some G =>
              rw [hq] at h
              simp at h
              subst h
              obtain ⟨g1, g2, g3⟩ := rout_ok n rest G hq
              have hl := rin_ok hr
              have hl2 := rkR_le (l.drop (i + 1))
              rw [List.length_drop] at hl2
              refine ⟨by simp, by simp; omega, fun f hf => ?_⟩
              rcases List.mem_cons.1 hf with rfl | hf
              · exact hone i b hi
              · have := g3 f hf
                exact ⟨by omega, this.2⟩
/-- The schema of a text. -/
def prs (l : List UInt8) : Option (List Fd) := match rout 16 l with
  | none => none
  | some F => if gschema F then some F else none
theorem prs_none {l : List UInt8} (h : rout 16 l = none) : prs l = none := by rw [prs, h]
theorem prs_bad {l : List UInt8} {F : List Fd} (h : rout 16 l = some F) (h2 : gschema F = false) : prs l = none := by rw [prs, h]; simp [h2]
theorem prs_good {l : List UInt8} {F : List Fd} (h : rout 16 l = some F) (h2 : gschema F = true) : prs l = some F := by rw [prs, h]; simp [h2]

set_option maxRecDepth 20000 in
set_option maxHeartbeats 1000000 in
theorem parse_bad (s : ByteArray) (te : TypeId) (pe : Value) (w : World) (hs : s.size ≤ 281474976710656) (hW : Words w) (hE : w.cell? ⟨0, 0, none⟩ = some (.iface te pe)) (h : rout 16 s.data.toList = none) :
    Calls Tryd.prog 14 #[.string s] w fun e w' => e = .returned (.tuple #[.agg #[.slice none 0 0], .iface te pe]) ∧ Kept (fun _ => False) w w' := by
  have KA := Kept.alloc w (.cells #[.slice none 0 0] 24)
  have HR := hideW (readFields_any s (w.alloc (.cells #[.slice none 0 0] 24)) hs (hW.kept KA))
  have HN := hideW h
  clear hW h
  go_enter Tryd.func14, Tryd.ntmps14
  go_wp2_with (go_at_call 37; refine HR.out.mono ?_; clear HR; rintro e W1 (⟨-, rfl, hk1⟩ | ⟨F, v, hf, -⟩); rotate_left; (exfalso; rw [HN.out] at hf; cases hf); have hE1 := hk1.cell (KA.cell hE (fun f => f)) (fun f => f); have hB1 := hk1.heap (heap_alloc_new w _) (fun f => f))
  have hg1 := World.block_lt_of_cell? W1 _ hE1
  have hb1 : w.heap.size < W1.heap.size := lt_of_block hB1
  have hc1 := cell_of_one hB1
  have hf1 := free_of_one hB1
  have hg0 := World.block_lt_of_cell? w _ hE
  have hE2 : (W1.setCell ⟨w.heap.size, 0, none⟩ (.slice none 0 0)).cell? ⟨0, 0, none⟩ = some (.iface te pe) := (Kept.setCell _ _ _).cell hE1 (Nat.ne_of_lt hg0)
  have hc2 : (W1.setCell ⟨w.heap.size, 0, none⟩ (.slice none 0 0)).cell? ⟨w.heap.size, 0, none⟩ = some (.slice none 0 0) := cell_of_one (one_setCell hB1)
  clear hB1
  go_region
  go_wp2
  refine bodyPost_ret (v := .tuple #[.agg #[.slice none 0 0], .iface te pe]) (by simp [results, Tryd.results14, go_sem, hc2, hb1]) rfl ⟨rfl, ?_⟩
  exact (((KA.trans hk1 (fun _ f => f.elim)).trans (Kept.setCell _ _ _) (fun i hi => .inr (Nat.le_of_eq hi.symm))).trans (Kept.alloc _ _) (fun _ f => f.elim)).trans (Kept.drew _) (fun _ f => f.elim)
theorem own_base {w : World} {b b' e z n : Nat} {v : Value} {xs : List Value} (h : w.ownsRow b e z v n xs) (hb : b' ≤ b) : w.ownsRow b' e z v n xs := by
  refine ⟨h.1, ?_⟩
  rcases h.2 with hn | ⟨g, cap, cur, e1, h1, h2⟩
  · exact .inl hn
  · exact .inr ⟨g, cap, cur, e1, Nat.le_trans hb h1, h2⟩
theorem ok_of_rout {l : List UInt8} {F : List Fd} (hl : l.length ≤ 281474976710656) (h : rout 16 l = some F) : (∀ f ∈ F, f.Ok) ∧ F.length ≤ 16 := by
  obtain ⟨_, h2, h3⟩ := rout_ok 16 l F h
  exact ⟨fun f hf => ⟨by have := (h3 f hf).1; unfold maxLen; omega, by have := (h3 f hf).2.1; omega, by have := (h3 f hf).2.2; omega⟩, h2⟩
set_option maxRecDepth 20000 in
set_option maxHeartbeats 1000000 in
theorem parse_some (s : ByteArray) (F : List Fd) (te : TypeId) (pe : Value) (w : World) (hs : s.size ≤ 281474976710656) (hW : Words w) (hE : w.cell? ⟨0, 0, none⟩ = some (.iface te pe)) (h : rout 16 s.data.toList = some F) :
    Calls Tryd.prog 14 #[.string s] w fun e w' => (gschema F = false ∧ e = .returned (.tuple #[.agg #[.slice none 0 0], .iface te pe]) ∧ Kept (fun _ => False) w w') ∨ (gschema F = true ∧ ∃ v, e = .returned (.tuple #[.agg #[v], .nilIface]) ∧ Own5 w w' v F) := by
  have KA := Kept.alloc w (.cells #[.slice none 0 0] 24)
  have HR := hideW (readFields_any s (w.alloc (.cells #[.slice none 0 0] 24)) hs (hW.kept KA))
  have HN := hideW h
  have HF := hideW (ok_of_rout (by rw [Array.length_toList]; exact hs) h)
  clear hW h
  cases hG : gschema F with
  | false =>
    go_enter Tryd.func14, Tryd.ntmps14
    go_wp2_with (first
      | (go_at_call 37; refine HR.out.mono ?_; clear HR; rintro e W1 (⟨hf, -⟩ | ⟨F', v, hf, rfl, hO⟩); (exfalso; rw [HN.out] at hf; cases hf); obtain rfl : F = F' := (by rw [HN.out] at hf; injection hf); obtain ⟨a, c, rfl⟩ := hO.shape; have hE1 := hO.kept.cell (KA.cell hE (fun f => f)) (fun f => f); have hB1 := hO.kept.heap (heap_alloc_new w _) (fun f => f); have HO1 := hideW hO; clear hO)
      | (go_at_call 12; refine (check_any F a c te pe _ ((fs_of_own HO1.out.own).kept (Kept.alloc _ _)) HF.out.1 (by have := HF.out.2; omega) ((Kept.alloc _ _).cell hE1 (fun f => f))).mono ?_; rw [chk_bad _ hG]; rintro e W2 ⟨rfl, hk2⟩; have hE2 := hk2.cell ((Kept.alloc _ _).cell hE1 (fun f => f)) (fun f => f); have hB2 := hk2.heap ((Kept.alloc _ _).heap hB1 (fun f => f)) (fun f => f)))
    have hg2 := World.block_lt_of_cell? W2 _ hE2
    have hb2 : w.heap.size < W2.heap.size := lt_of_block hB2
    have hc2 := cell_of_one hB2
    have hf2 := free_of_one hB2
    have hg0 := World.block_lt_of_cell? w _ hE
    have hE3 : (W2.setCell ⟨w.heap.size, 0, none⟩ (.slice none 0 0)).cell? ⟨0, 0, none⟩ = some (.iface te pe) := (Kept.setCell _ _ _).cell hE2 (Nat.ne_of_lt hg0)
    have hc3 : (W2.setCell ⟨w.heap.size, 0, none⟩ (.slice none 0 0)).cell? ⟨w.heap.size, 0, none⟩ = some (.slice none 0 0) := cell_of_one (one_setCell hB2)
    clear hB1 hB2
    go_region
    go_wp2
    refine bodyPost_ret (v := .tuple #[.agg #[.slice none 0 0], .iface te pe]) (by simp [results, Tryd.results14, go_sem, hc3]) rfl ⟨rfl, ?_⟩
    exact (((((KA.trans HO1.out.kept (fun _ f => f.elim)).trans (Kept.alloc _ _) (fun _ f => f.elim)).trans hk2 (fun _ f => f.elim)).trans (Kept.setCell _ _ _) (fun i hi => .inr (Nat.le_of_eq hi.symm))).trans (Kept.drew _) (fun _ f => f.elim))
  | true =>
    go_enter Tryd.func14, Tryd.ntmps14
    go_wp2_with (first
      | (go_at_call 37; refine HR.out.mono ?_; clear HR; rintro e W1 (⟨hf, -⟩ | ⟨F', v, hf, rfl, hO⟩); (exfalso; rw [HN.out] at hf; cases hf); obtain rfl : F = F' := (by rw [HN.out] at hf; injection hf); obtain ⟨a, c, rfl⟩ := hO.shape; have hE1 := hO.kept.cell (KA.cell hE (fun f => f)) (fun f => f); have hB1 := hO.kept.heap (heap_alloc_new w _) (fun f => f); have HO1 := hideW hO; clear hO)
      | (go_at_call 12; refine (check_any F a c te pe _ ((fs_of_own HO1.out.own).kept (Kept.alloc _ _)) HF.out.1 (by have := HF.out.2; omega) ((Kept.alloc _ _).cell hE1 (fun f => f))).mono ?_; rw [chk_good _ hG]; rintro e W2 ⟨rfl, hk2⟩; have hB2 := hk2.heap ((Kept.alloc _ _).heap hB1 (fun f => f)) (fun f => f); have hC2 := hk2.heap (heap_alloc_new W1 _) (fun f => f); have hc6 := cell_of_one hC2; have hc2 := cell_of_one hB2; have hf2 := free_of_one hB2; have hc3 : (W2.setCell ⟨w.heap.size, 0, none⟩ (.slice a F.length c)).cell? ⟨w.heap.size, 0, none⟩ = some (.slice a F.length c) := cell_of_one (one_setCell hB2)))
    refine bodyPost_ret (v := .tuple #[.agg #[.slice a F.length c], .nilIface]) (by simp [results, Tryd.results14, go_sem, hc3]) rfl (Or.inr ⟨trivial, _, rfl, ?_⟩)
    have q1 : Own5 (w.alloc (.cells #[.slice none 0 0] 24)) W2 (.slice a F.length c) F := (HO1.out.later (Kept.alloc _ _)).later hk2
    refine ⟨?_, ?_, a, c, rfl⟩
    · have hown := q1.own
      refine own_base (ownsRow_setCell_other hown ?_ _) (by simp)
      intro e
      have := (hown.lt _ e).1
      simp at this
      omega
    · exact ((KA.trans q1.kept (fun _ f => f.elim)).trans (Kept.setCell _ _ _) (fun i hi => .inr (Nat.le_of_eq hi.symm)))
end Go.Proofs.YtbhoplmbiomogaaDoor
