import Derived.Test.YtcbhgpdookappaaDoorDtm
import Derived.Test.YtcbhgpdookappaaDoorDtk
import Derived.Test.YtcbhgpdookappaaDoorWrB
namespace Go.Proofs.YtcbhgpdookappaaDoor.Ds
open Go.ChangeShapes Go.WideShapes Go.ChangeAt Go.RowKit Go.Shelf
attribute [local go_sem] Oper.semAt_some

theorem Tryd.infoIn : (Tryd.prog.info? 3).map (fun i => (i.zero, i.size, i.bytes)) = some (some (.int .i64 0), 1, 8) := by kernel_rfl
def isN (l : List Nat) : List Value := l.map (fun (x : Nat) => Value.int .i64 (x : Int))
theorem isN_len (l : List Nat) : (isN l).length = l.length := by simp [isN]
theorem isN_snoc (l : List Nat) (x : Nat) : isN (l ++ [x]) = isN l ++ [.int .i64 (x : Int)] := by simp [isN]
theorem Tryd.one_newI (w : World) (x : Value) (t : TypeId) : ∀ (j : Nat) (u : Value), [x][j]? = some u → (w.alloc (.cells #[x] t)).cell? ((⟨w.heap.size, 0, none⟩ : Addr).add j) = some u := one_new w x t
/-- What lies there between two members, as Members collects them. -/
structure MlI (w : World) (p rb n cap lb g bk C : Nat) (ws : Nat → Nat) (pre : List Nat) (A : World) : Prop where
  set : SetAt A p rb n cap ws
  db : DbAt A
  bx : A.heap[bk]? = some (.cells #[.slice (some ⟨rb, 0, none⟩) (nbOf n) cap] 69 (0, 0))
  lc : A.heap[lb]? = some (.cells #[.slice (some ⟨g, 0, none⟩) pre.length C] 38 (0, 0))
  own : A.ownsRow w.heap.size 3 1 (.slice (some ⟨g, 0, none⟩) pre.length C) pre.length (isN pre)
  k : Kept (fun _ => False) w A
theorem own_keptN {s : Nat} {A B : World} {base : Nat} {e : TypeId} {size : Nat} {v : Value} {n : Nat} {xs : List Value} (h : A.ownsRow base e size v n xs) (k : KeptN s A B) : B.ownsRow base e size v n xs := by
  refine ⟨h.1, ?_⟩
  rcases h.2 with hn | ⟨g, cap, cur, e1, hb, hg, rest⟩
  · exact .inl hn
  · exact .inr ⟨g, cap, cur, e1, hb, k.cells hg, rest⟩
theorem kept_keptN {w A B : World} {s : Nat} (h : Kept (fun _ => False) w A) (k : KeptN s A B) (hs : w.heap.size ≤ s) : Kept (fun _ => False) w B :=
  ⟨k.os.trans h.os, k.tape.trans h.tape, k.output.trans h.output, Nat.le_trans h.size k.size, fun i hi _ => by
    have h1 := h.block i hi (fun f => f)
    have h2 : w.heap[i]? = some w.heap[i] := Array.getElem?_eq_getElem hi
    rw [h2] at h1 ⊢
    exact k.low (by omega) h1⟩
theorem RowAt.keptN {s : Nat} {A B : World} {rb nb : Nat} {ws : Nat → Nat} (h : RowAt A rb nb ws) (k : KeptN s A B) : RowAt B rb nb ws := by
  obtain ⟨C, h1, h2⟩ := h
  exact ⟨C, k.cells h1, h2⟩
theorem SetAt.keptN2 {s : Nat} {A B : World} {p rb n cap : Nat} {ws : Nat → Nat} (h : SetAt A p rb n cap ws) (k : KeptN s A B) : SetAt B p rb n cap ws :=
  ⟨k.cells h.box, h.row.keptN k, h.ok, h.small, h.cap, h.tight⟩
theorem MlI.keptN {w : World} {p rb n cap lb g bk C : Nat} {ws : Nat → Nat} {pre : List Nat} {A B : World} {s : Nat} (h : MlI w p rb n cap lb g bk C ws pre A) (k : KeptN s A B) (hs : w.heap.size ≤ s) : MlI w p rb n cap lb g bk C ws pre B :=
  ⟨h.set.keptN2 k, fun i x hx => k.cell (h.db i x hx), k.cells h.bx, k.cells h.lc, own_keptN h.own k, kept_keptN h.k k hs⟩
/-- One member more. -/
theorem ml_step {w : World} {p rb n cap lb g bk C : Nat} {ws : Nat → Nat} {pre : List Nat} {B w' : World} {x : Nat} (h : MlI w p rb n cap lb g bk C ws pre B) (hne : lb ≠ g) (hg : w.heap.size ≤ g) (hlw : w.heap.size ≤ lb) (hgp : g ≠ p ∧ g ≠ rb ∧ g ≠ bk) (hlp : lb ≠ p ∧ lb ≠ rb ∧ lb ≠ bk) (hdb : 24 < w.heap.size)
    (h1 : w'.ownsRow w.heap.size 3 1 (.slice (some ⟨g, 0, none⟩) (pre.length + 1) C) (pre.length + 1) (isN pre ++ [.int .i64 (x : Int)])) (h2 : (B.alloc (.cells #[.int .i64 (x : Int)] 3)).grownBy w' (some g)) :
    w'.cell? ⟨lb, 0, none⟩ = some (.slice (some ⟨g, 0, none⟩) pre.length C) ∧ w'.frozen? ⟨lb, 0, none⟩ = false ∧
    Hid (MlI w p rb n cap lb g bk C ws (pre ++ [x]) (w'.setCell ⟨lb, 0, none⟩ (.slice (some ⟨g, 0, none⟩) (pre.length + 1) C))) ∧ Hid (Kept (fun i => i = g ∨ i = lb) B (w'.setCell ⟨lb, 0, none⟩ (.slice (some ⟨g, 0, none⟩) (pre.length + 1) C))) := by
  have k1 : Kept (fun i => i = g) B w' := ((Kept.alloc B _).mono (fun _ f => f.elim)).trans ((Kept.grown h2).mono (fun i e => .inl (Option.some.inj e).symm)) (fun i e => .inl e)
  have hl := k1.heap h.lc hne
  have k2 : Kept (fun i => i = g ∨ i = lb) B (w'.setCell ⟨lb, 0, none⟩ (.slice (some ⟨g, 0, none⟩) (pre.length + 1) C)) := (k1.mono (fun i e => .inl (.inl e))).trans (Kept.setCell _ _ _) (fun i e => .inl (.inr e))
  refine ⟨cell_of_one hl, free_of_one hl, ⟨h.set.kept k2 (fun f => ?_) (fun f => ?_), fun i y hy => k2.cell (h.db i y hy) (fun f => ?_), k2.heap h.bx (fun f => ?_), ?_, ?_, ?_⟩, k2⟩
  · rcases f with f | f
    · exact hgp.1 f.symm
    · exact hlp.1 f.symm
  · rcases f with f | f
    · exact hgp.2.1 f.symm
    · exact hlp.2.1 f.symm
  · simp only at f; omega
  · rcases f with f | f
    · exact hgp.2.2 f.symm
    · exact hlp.2.2 f.symm
  · rw [List.length_append]
    exact one_setCell hl
  · rw [List.length_append, isN_snoc]
    exact ownsRow_setCell_other h1 (by simp [Value.ownBlock]; omega) _
  · exact h.k.trans k2 (fun i e => .inr (by omega))
set_option maxRecDepth 100000 in
set_option maxHeartbeats 4000000 in
theorem members_set (p rb n cap : Nat) (ws : Nat → Nat) (w : World) (h : SetAt w p rb n cap ws) (hD : DbAt w) :
    Calls Tryd.prog 19 #[.pointer (some ⟨p, 0, none⟩)] w fun e w' => ∃ g, e = .returned (.slice (some ⟨g, 0, none⟩) (cnt ws n) (cnt ws n)) ∧ w'.ownsRow w.heap.size 3 1 (.slice (some ⟨g, 0, none⟩) (cnt ws n) (cnt ws n)) (cnt ws n) (isN (members ws n)) ∧ Kept (fun _ => False) w w' := by
  refine (callsIn_wide (n := 9)).1 ?_
  have CN := hideD (count_any p rb n cap ws w h)
  have hle := cnt_le ws n
  have hsm := h.small
  obtain ⟨C, hC⟩ : ∃ C, C = cnt ws n := ⟨_, rfl⟩
  rw [← hC] at CN hle ⊢
  have HS := hideD h
  have HD := hideD hD
  have HC := hideD hC
  obtain ⟨i0, hi, hz0, hz1, hz2⟩ := info_parts Tryd.infoIn
  have MK := hideD (fun (W : World) => run_make_own (P := Tryd.prog) (w := W) W.heap.size 38 3 i0 (.int .i64 0) 1 Tryd.underlying38 hi hz0 hz1 .i64 .i64 C (by rw [hz2]; omega) (by unfold maxLen; omega) (Nat.le_refl _))
  have NX := hideD (fun (W1 W2 : World) (K1 : Kept (fun _ => False) w W1) (hg : W1.grownBy W2 none) => show (W2.alloc (.cells #[.slice (some ⟨W1.heap.size, 0, none⟩) 0 C] 38)).cell? ⟨p, 1, none⟩ = some (.slice (some ⟨rb, 0, none⟩) (nbOf n) cap) from by
    have k2 : Kept (fun _ => False) W1 W2 := (Kept.grown hg).mono (fun _ e => by cases e)
    have h2 := ((HS.out.same K1).same k2).same (Kept.alloc W2 (.cells #[.slice (some ⟨W1.heap.size, 0, none⟩) 0 C] 38))
    exact (cell_of_row _ _ _ _ _ _ h2.box).trans rfl)
  have MB := hideD (fun (W : World) => members_any (.slice (some ⟨rb, 0, none⟩) (nbOf n) cap) W rfl _ _ _ rfl)
  clear h hD hC
  refine callsIn_of_wp_marks Tryd.func19 rfl trivial ?_ rfl
  simp only [Tryd.ntmps19, List.size_toArray, List.length_cons, List.length_nil, Nat.reduceAdd, Nat.reduceSub, Array.replicate_succ, Array.replicate_zero, List.push_toArray, List.append_toArray, List.nil_append, List.cons_append]
  gi_wp2_with (first | (refine ⟨trivial, ?_⟩; gi_at_call 51; refine (callsIn_wide.2 (MB.out _)).mono ?_; rintro e W3 ⟨rfl, rfl⟩) | (refine ⟨trivial, ?_⟩; gi_at_call 20; refine (callsIn_wide.2 CN.out).mono ?_; rintro e W1 ⟨rfl, K1⟩; obtain ⟨W2, hrun, hown, hgrow⟩ := MK.out W1; have q1 := NX.out W1 W2 K1 hgrow; have HO := hideD hown; have HG := hideD hgrow; have HK1 := hideD K1; clear hown hgrow K1))
  obtain ⟨V, hV⟩ : ∃ V, V = (W2.alloc (.cells #[.slice (some ⟨W1.heap.size, 0, none⟩) 0 C] 38)).alloc (.cells #[.slice (some ⟨rb, 0, none⟩) (nbOf n) cap] 69) := ⟨_, rfl⟩
  have kg : Kept (fun _ => False) W1 W2 := (Kept.grown HG.out).mono (fun _ e => by cases e)
  have kV : Kept (fun _ => False) W2 V := by rw [hV]; exact (Kept.alloc _ _).trans (Kept.alloc _ _) (fun _ f => f.elim)
  have hW21 : W1.heap.size < W2.heap.size := by
    rcases HO.out.2 with ⟨e, _⟩ | ⟨g, cp, cur, e, _, hg, _⟩
    · cases e
    · have : W1.heap.size = g := by simp at e; exact e.1
      rw [this]
      exact lt_of_block hg
  have sV : V.heap.size = W2.heap.size + 2 := by rw [hV]; simp
  have kk : Kept (fun _ => False) w V := (HK1.out.trans kg (fun _ f => f.elim)).trans kV (fun _ f => f.elim)
  have hdb : 24 < w.heap.size := World.block_lt_of_cell? w _ (HD.out 0 0 rfl)
  have hpw : p < w.heap.size := lt_of_block HS.out.box
  have hrw : rb < w.heap.size := HS.out.row.lt
  have R0 := hideD (show MlI w p rb n cap W2.heap.size W1.heap.size (W2.heap.size + 1) C ws [] V from by
    refine ⟨HS.out.same kk, fun i x hx => kk.cell (HD.out i x hx) (fun f => f), ?_, ?_, ?_, kk⟩
    · rw [hV]
      have := heap_alloc_new (W2.alloc (.cells #[.slice (some ⟨W1.heap.size, 0, none⟩) 0 C] 38)) (.cells #[.slice (some ⟨rb, 0, none⟩) (nbOf n) cap] 69)
      rw [World.size_alloc] at this
      exact this
    · rw [hV]
      exact (Kept.alloc _ _).heap (heap_alloc_new W2 _) (fun f => f)
    · refine ⟨HO.out.1, ?_⟩
      rcases HO.out.2 with ⟨e, _⟩ | ⟨g, cp, cur, e, hb, hg, rest⟩
      · cases e
      · exact .inr ⟨g, cp, cur, e, Nat.le_trans HK1.out.size hb, kV.heap hg (fun f => f), rest⟩)
  have hw1 := HK1.out.size
  rw [← hV]
  have HSV := hideD sV
  clear hV kg kV kk q1 hrun sV
  have hnb : nbOf n ≤ 4096 := by unfold nbOf; omega
  refine range_n (α := Nat) rfl (by decide) (gf := 71) (lb := #[.pointer (some ⟨W2.heap.size + 1, 0, none⟩)]) rfl trivial (enters_of Tryd.func71 (by kernel_rfl) rfl) (mem_seq 8 (by decide) ws HS.out.ok (W2.heap.size + 1) rb (nbOf n) cap hnb (fun _ => False) (fun f => f) (fun f => f) (fun f => f)) (fun _ => rfl)
    (fun pre A => MlI w p rb n cap W2.heap.size W1.heap.size (W2.heap.size + 1) C ws pre A) (fun _ _ _ => False)
    (fun pre A h => ⟨h.db, h.bx, h.set.row⟩) ?_ ?_ ?_
    (fun x a' _ => a' = { tmps := #[.pointer (some ⟨p, 0, none⟩), undef, .slice none 0 0, .pointer (some ⟨W2.heap.size, 0, none⟩), .int .i64 x, .pointer (some ⟨p, 0, none⟩), .int .i64 C, .slice (some ⟨W1.heap.size, 0, none⟩) 0 C, .pointer (some ⟨p, 0, none⟩), .pointer (some ⟨p, 0, none⟩), .pointer (some ⟨p, 1, none⟩), .slice (some ⟨rb, 0, none⟩) (nbOf n) cap, .func (.func 71) #[] #[.pointer (some ⟨W2.heap.size + 1, 0, none⟩)], .int .i64 x, undef, undef, undef, undef, undef], defers := [] })
    (fun _ _ _ _ h _ => h) ?_ ?_ ?_ ?_
  · intro pre A B h k
    exact h.keptN k (by have := HSV.out; omega)
  · intro c pre A B h
    exact h.elim
  · intro r
    exact R0.out.keptN (s := w.heap.size) (.of_kept ((Kept.alloc _ _).trans (Kept.alloc _ _) (fun _ f => f.elim))) (Nat.le_refl _)
  · intro l2 x B K hs hK2
    simp only [encN]
    gi_wp2
    exact hK2 _ _ (Kept.refl _ _) rfl
  · rintro l2 pre x a' B hmx hI hs hD ⟨r, hr⟩ rfl
    have hlen : pre.length + 1 ≤ C := by
      have h1 := hmx.length_le
      rw [← members_eq HS.out.tight, members_len, ← HC.out] at h1
      simpa using h1
    have y0 := cell_of_one hI.lc
    have y0' : (B.alloc (.cells #[.int .i64 (x : Int)] 3)).cell? ⟨W2.heap.size, 0, none⟩ = some (.slice (some ⟨W1.heap.size, 0, none⟩) pre.length C) := (Kept.alloc B _).cell y0 (fun f => f)
    have O1 := hideD ((Kept.alloc B (.cells #[.int .i64 (x : Int)] 3)).row hI.own (fun _ _ f => f))
    have ST := hideD (fun w' => ml_step (x := x) (w' := w') hI (by omega) (by omega) (by omega) ⟨by omega, by omega, by omega⟩ ⟨by omega, by omega, by omega⟩ hdb)
    have hN := hideD (one_new B (.int .i64 (x : Int)) 3)
    obtain ⟨d, hd⟩ : ∃ d, d = pre.length := ⟨_, rfl⟩
    rw [← hd] at y0 y0' O1 ST hlen
    have HDD := hideD hD
    have HRR := hideD hr
    clear hI hD hr hmx hd
    gi_wp2_with (gi_at_builtin; refine wpListIn_append_fits _ rfl _ _ 38 rfl w.heap.size 3 i0 1 Tryd.underlying38 hi hz1 W1.heap.size d C (isN pre) rfl O1.out ⟨B.heap.size, 0, none⟩ 1 1 [.int .i64 (x : Int)] rfl rfl hN.out (by simp [Value.oneCell']) hlen ?_; intro w' ho1 hg1; obtain ⟨u1, u2, U3, U4⟩ := ST.out w' ho1 hg1; clear ho1 hg1)
    refine ⟨fun i hi => ?_, Above.of_kept U4.out (fun i hi => ?_), U3.out⟩
    · have h1 : i < B.heap.size := by omega
      exact U4.out.block i h1 (fun f => by have := HSV.out; omega)
    · have := HSV.out; omega
  · rintro xs W' rfl hI hab hs hD
    have y0 := cell_of_one hI.lc
    have hxl : (mlist ws (4 * nbOf n)).length = C := by rw [← members_eq HS.out.tight, members_len, HC.out]
    have HO2 := hideD hI.own
    have HK2 := hideD hI.k
    rw [← members_eq HS.out.tight] at HO2 y0 hxl
    rw [hxl] at HO2 y0
    have HDD := hideD hD
    clear hI hD hab hxl
    gi_wp2
    refine leaves_marks (s := V.heap.size) [V.heap.size] W' (by simp) (fun D hD => by rw [List.mem_singleton] at hD; subst hD; exact ⟨Nat.le_refl _, HDD.out⟩) fun W'' k' => ⟨_, results_tmp rfl _ _ _, W1.heap.size, rfl, own_keptN HO2.out k', kept_keptN HK2.out k' (by have := HSV.out; omega)⟩
  · intro c pre W' h
    exact h.elim
end Go.Proofs.YtcbhgpdookappaaDoor.Ds
