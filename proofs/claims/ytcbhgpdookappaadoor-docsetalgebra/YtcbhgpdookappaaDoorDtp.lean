import Derived.Test.YtcbhgpdookappaaDoorDto
import Derived.Test.YtcbhgpdookappaaDoorDtm
import Derived.Stop.RegionWithIn
namespace Go.Proofs.YtcbhgpdookappaaDoor.Ds
open Go.ChangeShapes Go.WideShapes Go.ChangeAt Go.RowKit Go.Shelf
attribute [local go_sem] Oper.semAt_some

theorem blist_len (b : Nat → Nat) : (blist b).length = psum b 4 := by
  rw [blist_eq]
  simp only [List.length_append, List.length_map, bl_count, psum]
  omega
theorem blist_lt {b : Nat → Nat} {x : Nat} (h : x ∈ blist b) : x < 256 := by
  unfold blist mlist at h
  rw [List.mem_filter, List.mem_range] at h
  omega
theorem EcAt.keptN {s : Nat} {A B : World} {e : Nat} {L : List Nat} (h : EcAt A e L) (k : KeptN s A B) : EcAt B e L := by
  obtain ⟨C, h1, h2⟩ := h
  exact ⟨C, k.cells h1, h2⟩
/-- What lies there between two numbers of a list. -/
structure PlI (w : World) (e pb bx : Nat) (b : Nat → Nat) (L pre : List Nat) (A : World) : Prop where
  ec : EcAt A e (L ++ pre)
  pc : A.heap[pb]? = some (.cells #[.pointer (some ⟨e, 0, none⟩)] 110 (0, 0))
  bc : A.heap[bx]? = some (.cells (bw b) 73 (0, 0))
  db : DbAt A
  k : Kept (fun i => i = e) w A
theorem keptF_keptN {F : Nat → Prop} {w A B : World} {s : Nat} (h : Kept F w A) (k : KeptN s A B) (hs : w.heap.size ≤ s) : Kept F w B :=
  ⟨k.os.trans h.os, k.tape.trans h.tape, k.output.trans h.output, Nat.le_trans h.size k.size, fun i hi hF => by
    have h1 := h.block i hi hF
    have h2 : w.heap[i]? = some w.heap[i] := Array.getElem?_eq_getElem hi
    rw [h2] at h1 ⊢
    exact k.low (by omega) h1⟩
theorem PlI.keptN {w : World} {e pb bx : Nat} {b : Nat → Nat} {L pre : List Nat} {A B : World} {s : Nat} (h : PlI w e pb bx b L pre A) (k : KeptN s A B) (hs : w.heap.size ≤ s) : PlI w e pb bx b L pre B :=
  ⟨h.ec.keptN k, k.cells h.pc, k.cells h.bc, fun i x hx => k.cell (h.db i x hx), keptF_keptN h.k k hs⟩
set_option maxRecDepth 100000 in
set_option maxHeartbeats 4000000 in
theorem putList_any (e : Nat) (b : Nat → Nat) (hb : BOk b) (L : List Nat) (hc1 : 1 ≤ psum b 4) (hcap : L.length + 1 + psum b 4 ≤ 33) (w : World) (h : EcAt w e L) (hD : DbAt w) (he : e ≠ 24) :
    Calls Tryd.prog 69 #[.pointer (some ⟨e, 0, none⟩), .agg (bw b)] w fun r w' => (∃ v, r = .returned v) ∧ EcAt w' e (L ++ [psum b 4 - 1] ++ blist b) ∧ Kept (fun i => i = e) w w' := by
  refine (callsIn_wide (n := 9)).1 ?_
  have hcle := psum_le b 4
  have BC := hideD (fun W => bcount_any b hb W)
  obtain ⟨c, hc⟩ : ∃ c, c = psum b 4 := ⟨_, rfl⟩
  rw [← hc] at BC hc1 hcle hcap ⊢
  have HC := hideD hc
  have e1 : IntKind.u8.wrap (IntKind.i64.wrap ((c : Int) - 1)) = ((c - 1 : Nat) : Int) := by rw [IntKind.wrap_u8, IntKind.wrap_i64]; omega
  obtain ⟨c', hc'⟩ : ∃ c', c' = c - 1 := ⟨_, rfl⟩
  rw [← hc'] at e1 ⊢
  have HC' := hideD hc'
  clear hc'
  have PT := hideD (fun (L' : List Nat) (x : Nat) (W : World) (h : EcAt W e L') (hl : L'.length < 33) => put_any e x L' W h hl)
  have BA := hideD (fun w => ball_any b w)
  have HE := hideD h
  have HD := hideD hD
  obtain ⟨W, hW⟩ : ∃ W, W = (w.alloc (.cells #[.pointer (some ⟨e, 0, none⟩)] 110)).alloc (.cells (bw b) 73) := ⟨_, rfl⟩
  have kW : Kept (fun _ => False) w W := by rw [hW]; exact (Kept.alloc _ _).trans (Kept.alloc _ _) (fun _ f => f.elim)
  have sW : W.heap.size = w.heap.size + 2 := by rw [hW]; simp
  have p0 : W.heap[w.heap.size]? = some (.cells #[.pointer (some ⟨e, 0, none⟩)] 110 (0, 0)) := by rw [hW]; exact (Kept.alloc _ _).heap (heap_alloc_new w _) (fun f => f)
  have p1 : W.heap[w.heap.size + 1]? = some (.cells (bw b) 73 (0, 0)) := by
    rw [hW]
    have := heap_alloc_new (w.alloc (.cells #[.pointer (some ⟨e, 0, none⟩)] 110)) (.cells (bw b) 73)
    rw [World.size_alloc] at this
    exact this
  have HP0 := hideD p0
  have HP1 := hideD p1
  have HKW := hideD kW
  have HSW := hideD sW
  have HW := hideD hW
  clear h hD hc kW sW p0 p1 hW
  refine callsIn_of_wp_marks Tryd.func69 rfl trivial ?_ rfl
  simp only [Tryd.ntmps69, List.size_toArray, List.length_cons, List.length_nil, Nat.reduceAdd, Nat.reduceSub, Array.replicate_succ, Array.replicate_zero, List.push_toArray, List.append_toArray, List.nil_append, List.cons_append]
  gi_wp2
  rw [← HW.out]
  have c0 := cell_of_one HP0.out
  obtain ⟨d0, d1, d2, d3⟩ := bw_cells b HP1.out
  have HL33 : L.length < 33 := by omega
  have HE1 := hideD e1
  have NX := hideD (fun (W2 : World) (K2 : Kept (fun _ => False) W.drew W2) => show W2.cell? ⟨w.heap.size, 0, none⟩ = some (.pointer (some ⟨e, 0, none⟩)) ∧ Hid (EcAt W2 e L) from by
    have k2 : Kept (fun _ => False) W W2 := (Kept.drew W).trans K2 (fun _ f => f.elim)
    exact ⟨cell_of_one (k2.heap HP0.out (fun f => f)), HE.out.kept (HKW.out.trans k2 (fun _ f => f.elim)) (fun f => f)⟩)
  refine wpIn_mono (Q := NoPanic _) ?_ NoPanic.imp
  gi_region_with (first
    | (refine ⟨trivial, ?_⟩; gi_at_call 52; refine (callsIn_wide.2 (BC.out _)).mono ?_; rintro r W2 ⟨rfl, K2⟩; obtain ⟨x1, X2⟩ := NX.out _ K2; have HK2 := hideD K2; clear K2)
    | (refine ⟨trivial, ?_⟩; gi_at_call 68; (try rw [e1]); refine (callsIn_wide.2 (PT.out L c' _ X2.out HL33)).mono ?_; rintro r W3 ⟨⟨v, rfl⟩, E3, K3⟩; have HE3 := hideD E3; have HK3 := hideD K3; clear E3 K3))
  all_goals
    refine NoPanic.normal ?_
    have hew : e < w.heap.size := HE.out.lt
    have k3 : Kept (fun i => i = e) W W3 := (((Kept.drew W).trans HK2.out (fun _ f => f.elim)).mono (fun _ f => f.elim)).trans HK3.out (fun i hi => .inl hi)
    have k03 : Kept (fun i => i = e) w W3 := (HKW.out.mono (fun _ f => f.elim)).trans k3 (fun i hi => .inl hi)
    have p3 := k3.heap HP0.out (by omega)
    have p4 := k3.heap HP1.out (by omega)
    have hs3 : w.heap.size + 2 ≤ W3.heap.size := by have := k3.size; have := HSW.out; omega
    have hdb3 : DbAt W3 := fun i x hx => k03.cell (HD.out i x hx) (fun f => he f.symm)
    obtain ⟨f0, f1, f2, f3⟩ := bw_cells b p4
    have R0 := hideD (show PlI w e w.heap.size W3.heap.size b (L ++ [c']) [] (W3.alloc (.cells (bw b) 73)) from
      ⟨by rw [List.append_nil]; exact HE3.out.kept (Kept.alloc _ _) (fun f => f), (Kept.alloc _ _).heap p3 (fun f => f), heap_alloc_new W3 _, fun i x hx => (Kept.alloc _ _).cell (hdb3 i x hx) (fun f => f), k03.trans (Kept.alloc _ _) (fun _ f => f.elim)⟩)
    clear x1 X2 p3 p4 hdb3 k03 k3 c0 d0 d1 d2 d3
    gi_wp2_with (refine ⟨trivial, ?_⟩; gi_at_call 72; refine (callsIn_wide.2 (BA.out _)).mono ?_; rintro r W5 ⟨rfl, rfl⟩)
    obtain ⟨V, hV⟩ : ∃ V, V = W3.alloc (.cells (bw b) 73) := ⟨_, rfl⟩
    have sV : V.heap.size = W3.heap.size + 1 := by rw [hV]; simp
    obtain ⟨G, hG⟩ : ∃ G : Value, G = .agg #[.int .u64 (b 0 : Nat), .int .u64 (b 1 : Nat), .int .u64 (b 2 : Nat), .int .u64 (b 3 : Nat)] := ⟨_, rfl⟩
    rw [← hV] at R0 ⊢
    obtain ⟨u8, hu8⟩ : ∃ u : Value, u = .int .i64 (IntKind.i64.wrap ((c : Int) - 1)) := ⟨_, rfl⟩
    rw [← hG, ← hu8]
    have HSV := hideD sV
    clear hV hG hu8 sV f0 f1 f2 f3 HE3 HK3 HK2
    refine range_n (α := Nat) rfl (by decide) (gf := 80) (lb := #[.pointer (some ⟨W3.heap.size, 0, none⟩)]) rfl trivial (enters_of Tryd.func80 (by kernel_rfl) rfl) (ball_seq 8 (by decide) b hb W3.heap.size (fun _ => False)) (fun _ => rfl)
      (fun pre A => PlI w e w.heap.size W3.heap.size b (L ++ [c']) pre A) (fun _ _ _ => False)
      (fun pre A h => ⟨h.db, h.bc⟩) ?_ ?_ ?_
      (fun x a' _ => a' = { tmps := #[.pointer (some ⟨e, 0, none⟩), .agg (bw b), .pointer (some ⟨w.heap.size, 0, none⟩), .pointer (some ⟨w.heap.size + 1, 0, none⟩), .int .i64 x, .pointer (some ⟨e, 0, none⟩), G, .int .i64 c, u8, .int .u8 c', v, G, .func (.func 80) #[] #[.pointer (some ⟨W3.heap.size, 0, none⟩)], .int .i64 x, undef, undef, undef, undef], defers := [] })
      (fun _ _ _ _ h _ => h) ?_ ?_ ?_ ?_
    · intro pre A B h k
      exact h.keptN k (by have := HSV.out; omega)
    · intro c pre A B h
      exact h.elim
    · intro r
      exact R0.out.keptN (s := w.heap.size) (.of_kept ((Kept.alloc _ _).trans (Kept.alloc _ _) (fun _ f => f.elim))) (Nat.le_refl _)
    · intro l2 x B K hs hK2
      simp only [encN]
      gi_wp2
      exact hK2 _ _ (Kept.refl _ _) rfl
    · rintro l2 pre x a' B hmx hI hs hD ⟨r, hr⟩ rfl
      have hlen : (L ++ [c'] ++ pre).length < 33 := by
        have h1 := hmx.length_le
        rw [blist_len, ← HC.out, List.length_append] at h1
        simp only [List.length_append, List.length_cons, List.length_nil] at h1 ⊢
        omega
      have hx4 : x < 256 := blist_lt (hmx.mem (show x ∈ pre ++ [x] by simp))
      have hxw : IntKind.u8.wrap (x : Int) = (x : Int) := by rw [IntKind.wrap_u8]; omega
      have P2 := hideD (PT.out _ x B hI.ec hlen)
      have y0 := cell_of_one hI.pc
      have HII := hideD hI
      have HDD := hideD hD
      have HRR := hideD hr
      clear hI hD hr hmx
      gi_wp2_with (refine ⟨trivial, ?_⟩; gi_at_call 68; (try rw [hxw]); refine (callsIn_wide.2 P2.out).mono ?_; rintro r W6 ⟨⟨v2, rfl⟩, E6, K6⟩)
      refine ⟨fun i hi => ?_, Above.of_kept K6 (fun i hi => ?_), ⟨by rw [← List.append_assoc]; exact E6, K6.heap HII.out.pc (by omega), K6.heap HII.out.bc (by have := HSW.out; omega), fun i y hy => K6.cell (HII.out.db i y hy) (fun f => he f.symm), HII.out.k.trans K6 (fun i hi => .inl hi)⟩⟩
      · have h1 : i < B.heap.size := by omega
        exact K6.block i h1 (fun f => by have := HSV.out; omega)
      · have := HSV.out; omega
    · rintro xs W' rfl hI hab hs hD
      have HII := hideD hI
      have HDD := hideD hD
      clear hI hD hab
      gi_wp2
      refine leaves_marks (s := V.heap.size) [V.heap.size] W' (by simp) (fun D hD => by rw [List.mem_singleton] at hD; subst hD; exact ⟨Nat.le_refl _, HDD.out⟩) fun W'' k' => ⟨_, results_none rfl _ _ _, ⟨_, rfl⟩, HII.out.ec.keptN k', keptF_keptN HII.out.k k' (by have := HSV.out; omega)⟩
    · intro c pre W' h
      exact h.elim
end Go.Proofs.YtcbhgpdookappaaDoor.Ds
