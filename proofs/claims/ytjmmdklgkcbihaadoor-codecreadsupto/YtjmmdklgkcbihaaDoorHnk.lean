import Derived.Test.YtjmmdklgkcbihaaDoorHic
namespace Go.Proofs.YtjmmdklgkcbihaaDoor
open Go.ChangeShapes Go.WideShapes Go.ChangeAt Go.RowKit

/-- A book of lists of bytes and lists of numbers. -/
structure Bk2 (base : Nat) (W : World) (kb : Nat) (vB vI : Value) (V I : List Value) : Prop where
  obj : W.heap[kb]? = some (.cells #[vB, vI, .slice none 0 0] 32 (0, 0))
  rowB : W.ownsRow base 26 1 vB V.length V
  rowI : W.ownsRow base 35 1 vI I.length I
  neB : vB.ownBlock ≠ some kb
  neI : vI.ownBlock ≠ some kb
  apart : ∀ k, vB.ownBlock = some k → vI.ownBlock ≠ some k
theorem Bk2.kept {F : Nat → Prop} {base : Nat} {W W' : World} {kb : Nat} {vB vI : Value} {V I : List Value} (h : Bk2 base W kb vB vI V I) (k : Kept F W W') (h1 : ¬ F kb) (h2 : ∀ q, vB.ownBlock = some q → ¬ F q) (h3 : ∀ q, vI.ownBlock = some q → ¬ F q) : Bk2 base W' kb vB vI V I :=
  ⟨k.heap h.obj h1, k.row h.rowB h2, k.row h.rowI h3, h.neB, h.neI, h.apart⟩
theorem Bk2.start (W : World) : Bk2 (W.heap.size + 1) (W.alloc (.cells #[.slice none 0 0, .slice none 0 0, .slice none 0 0] 32)) W.heap.size (.slice none 0 0) (.slice none 0 0) [] [] :=
  ⟨heap_alloc_new W _, ⟨rfl, .inl ⟨rfl, rfl⟩⟩, ⟨rfl, .inl ⟨rfl, rfl⟩⟩, fun e => (by cases e), fun e => (by cases e), fun k e => (by cases e)⟩
set_option maxRecDepth 20000 in
set_option maxHeartbeats 4000000 in
theorem book2_bytes (base kb n : Nat) (vB vI : Value) (V I : List Value) (a : Option Addr) (m c : Nat) (w : World) (h : Bk2 base w kb vB vI V I) (hn : n = V.length) (hnb : n ≤ 1099511627776) (hb : base ≤ w.heap.size) :
    Calls Tryd.prog 9 #[.pointer (some ⟨kb, 0, none⟩), .slice a m c] w fun e w' => e = .returned (.tuple #[]) ∧ ∃ v', Bk2 base w' kb (v') vI (V ++ [.slice a m c]) I ∧ Kept (fun k => k = kb ∨ vB.ownBlock = some k) w w' ∧ ∀ k, v'.ownBlock = some k → vB.ownBlock = some k ∨ w.heap.size ≤ k := by
  obtain ⟨j0, hj0, hy0, hy1, hy2⟩ := info_parts Tryd.infoSlH
  obtain ⟨aB, cB, eB⟩ := row_shapeH h.rowB
  subst eB
  have ka := Kept.alloc w (.cells #[.slice a m c] 26)
  have c0 : w.cell? ⟨kb, 0, none⟩ = some (.slice aB V.length cB) := by rw [cell_of_row _ _ 0 _ _ _ h.obj]; rfl
  have hr := ka.row h.rowB (fun _ _ f => f)
  rw [← hn] at c0 hr h ⊢
  have HH := hideH h
  have HR := hideH hr
  have HC : Hid (∀ j u, [Value.slice a m c][j]? = some u → (w.alloc (.cells #[.slice a m c] 26)).cell? ((⟨w.heap.size, 0, none⟩ : Addr).add j) = some u) := hideH (one_new w (.slice a m c) 26)
  have HN := hideH hn
  have HKA := hideH ka
  clear h hr hn ka
  go_enter Tryd.func9, Tryd.ntmps9
  go_wp2_with (at_builtin; refine StpH.go ?_)
  refine ⟨?_⟩
  refine wpList_append_own_at _ rfl _ _ 27 rfl base 26 j0 (.slice none 0 0) 1 24 Tryd.underlying27 hj0 hy0 hy1 hy2 rfl (by decide) (.slice aB n cB) n V rfl HR.out ⟨w.heap.size, 0, none⟩ 1 1 [.slice a m c] rfl rfl HC.out (by intro u hu; simp only [List.mem_singleton] at hu; rw [hu]; rfl) (by unfold maxLen; omega) (by omega) (by simp; omega) ?_
  intro v' w1 ho1 hg1 _ hat
  have hobj := HH.out.obj
  have hk1 : Kept (fun k => (Value.slice aB n cB).ownBlock = some k) w w1 := (HKA.out.mono (fun _ f => f.elim)).trans (Kept.grown hg1) (fun i hi => .inl hi)
  have hne : ∀ k, (Value.slice aB n cB).ownBlock = some k → k ≠ kb := fun k e f => HH.out.neB (by rw [← f]; exact e)
  have hobj1 := hk1.heap hobj (fun e => hne kb e rfl)
  have hkl : kb < w.heap.size := lt_of_block hobj
  have hnew : ∀ k, v'.ownBlock = some k → (Value.slice aB n cB).ownBlock = some k ∨ w.heap.size ≤ k := fun k hk => by
    rcases hat with e | e
    · exact .inl (by rw [← e]; exact hk)
    · rw [e] at hk
      have e2 := Option.some.inj hk
      have e3 : (w.alloc (.cells #[.slice a m c] 26)).heap.size = w.heap.size + 1 := by simp
      exact .inr (by omega)
  have hne' : v'.ownBlock ≠ some kb := fun e => by
    rcases hnew kb e with q | q
    · exact hne kb q rfl
    · omega
  have x0 : w1.cell? ⟨kb, 0, none⟩ = some (.slice aB n cB) := by rw [cell_of_row _ _ 0 _ _ _ hobj1]; rfl
  have f0 : w1.frozen? ⟨kb, 0, none⟩ = false := by simp [World.frozen?, hobj1]
  have hro : w1.ownsRow base 35 1 vI I.length I := hk1.row HH.out.rowI (fun k e f => HH.out.apart k f e)
  have hvo : ∀ k, vI.ownBlock = some k → k < w.heap.size := fun k e => (HH.out.rowI.lt k e).2
  have hap : ∀ k, v'.ownBlock = some k → vI.ownBlock ≠ some k := fun k e f => by
    rcases hnew k e with q | q
    · exact HH.out.apart k q f
    · have := hvo k f; omega
  obtain ⟨a', c', ea⟩ := row_shapeH ho1
  subst ea
  have ks := Kept.setCell w1 ⟨kb, 0, none⟩ (.slice a' (n + 1) c')
  have hmine : (w1.setCell ⟨kb, 0, none⟩ (.slice a' (n + 1) c')).ownsRow base 26 1 (.slice a' (n + 1) c') (V ++ [Value.slice a m c]).length (V ++ [Value.slice a m c]) := by rw [List.length_append, List.length_singleton, ← HN.out]; exact ks.row ho1 (fun k e f => hne' (by have f2 : k = kb := f; rw [← f2]; exact e))
  have hoth := ks.row hro (fun k e f => HH.out.neI (by have f2 : k = kb := f; rw [← f2]; exact e))
  have hfin : Bk2 base (w1.setCell ⟨kb, 0, none⟩ (.slice a' (n + 1) c')) kb (.slice a' (n + 1) c') vI (V ++ [.slice a m c]) I := ⟨heap_setCell_same w1 kb 0 _ _ _ hobj1, hmine, hoth, hne', HH.out.neI, hap⟩
  have HF := hideH hfin
  have HNW := hideH hnew
  have HKF : Hid (Kept (fun k => k = kb ∨ (Value.slice aB n cB).ownBlock = some k) w (w1.setCell ⟨kb, 0, none⟩ (.slice a' (n + 1) c'))) := hideH ((hk1.mono (fun _ e => .inl (.inr e))).trans ks (fun i e => .inl (.inl e)))
  clear ks hfin hnew hne' hne hobj hobj1 hk1 ho1 hg1 hat HR HC HKA hmine hoth hro hvo hap
  go_wp2_with fail
  go_end0
  exact ⟨rfl, _, HF.out, HKF.out, HNW.out⟩
set_option maxRecDepth 20000 in
set_option maxHeartbeats 4000000 in
theorem book2_ints (base kb n : Nat) (vB vI : Value) (V I : List Value) (a : Option Addr) (m c : Nat) (w : World) (h : Bk2 base w kb vB vI V I) (hn : n = I.length) (hnb : n ≤ 1099511627776) (hb : base ≤ w.heap.size) :
    Calls Tryd.prog 52 #[.pointer (some ⟨kb, 0, none⟩), .slice a m c] w fun e w' => e = .returned (.tuple #[]) ∧ ∃ v', Bk2 base w' kb vB (v') V (I ++ [.slice a m c]) ∧ Kept (fun k => k = kb ∨ vI.ownBlock = some k) w w' ∧ ∀ k, v'.ownBlock = some k → vI.ownBlock = some k ∨ w.heap.size ≤ k := by
  obtain ⟨j0, hj0, hy0, hy1, hy2⟩ := info_parts Tryd.infoSlHI
  obtain ⟨aB, cB, eB⟩ := row_shapeH h.rowI
  subst eB
  have ka := Kept.alloc w (.cells #[.slice a m c] 35)
  have c0 : w.cell? ⟨kb, 1, none⟩ = some (.slice aB I.length cB) := by rw [cell_of_row _ _ 1 _ _ _ h.obj]; rfl
  have hr := ka.row h.rowI (fun _ _ f => f)
  rw [← hn] at c0 hr h ⊢
  have HH := hideH h
  have HR := hideH hr
  have HC : Hid (∀ j u, [Value.slice a m c][j]? = some u → (w.alloc (.cells #[.slice a m c] 35)).cell? ((⟨w.heap.size, 0, none⟩ : Addr).add j) = some u) := hideH (one_new w (.slice a m c) 35)
  have HN := hideH hn
  have HKA := hideH ka
  clear h hr hn ka
  go_enter Tryd.func52, Tryd.ntmps52
  go_wp2_with (at_builtin; refine StpH.go ?_)
  refine ⟨?_⟩
  refine wpList_append_own_at _ rfl _ _ 29 rfl base 35 j0 (.slice none 0 0) 1 24 Tryd.underlying29 hj0 hy0 hy1 hy2 rfl (by decide) (.slice aB n cB) n I rfl HR.out ⟨w.heap.size, 0, none⟩ 1 1 [.slice a m c] rfl rfl HC.out (by intro u hu; simp only [List.mem_singleton] at hu; rw [hu]; rfl) (by unfold maxLen; omega) (by omega) (by simp; omega) ?_
  intro v' w1 ho1 hg1 _ hat
  have hobj := HH.out.obj
  have hk1 : Kept (fun k => (Value.slice aB n cB).ownBlock = some k) w w1 := (HKA.out.mono (fun _ f => f.elim)).trans (Kept.grown hg1) (fun i hi => .inl hi)
  have hne : ∀ k, (Value.slice aB n cB).ownBlock = some k → k ≠ kb := fun k e f => HH.out.neI (by rw [← f]; exact e)
  have hobj1 := hk1.heap hobj (fun e => hne kb e rfl)
  have hkl : kb < w.heap.size := lt_of_block hobj
  have hnew : ∀ k, v'.ownBlock = some k → (Value.slice aB n cB).ownBlock = some k ∨ w.heap.size ≤ k := fun k hk => by
    rcases hat with e | e
    · exact .inl (by rw [← e]; exact hk)
    · rw [e] at hk
      have e2 := Option.some.inj hk
      have e3 : (w.alloc (.cells #[.slice a m c] 35)).heap.size = w.heap.size + 1 := by simp
      exact .inr (by omega)
  have hne' : v'.ownBlock ≠ some kb := fun e => by
    rcases hnew kb e with q | q
    · exact hne kb q rfl
    · omega
  have x0 : w1.cell? ⟨kb, 1, none⟩ = some (.slice aB n cB) := by rw [cell_of_row _ _ 1 _ _ _ hobj1]; rfl
  have f0 : w1.frozen? ⟨kb, 1, none⟩ = false := by simp [World.frozen?, hobj1]
  have hro : w1.ownsRow base 26 1 vB V.length V := hk1.row HH.out.rowB (fun k e f => HH.out.apart k e f)
  have hvo : ∀ k, vB.ownBlock = some k → k < w.heap.size := fun k e => (HH.out.rowB.lt k e).2
  have hap : ∀ k, v'.ownBlock = some k → vB.ownBlock ≠ some k := fun k e f => by
    rcases hnew k e with q | q
    · exact HH.out.apart k f q
    · have := hvo k f; omega
  obtain ⟨a', c', ea⟩ := row_shapeH ho1
  subst ea
  have ks := Kept.setCell w1 ⟨kb, 1, none⟩ (.slice a' (n + 1) c')
  have hmine : (w1.setCell ⟨kb, 1, none⟩ (.slice a' (n + 1) c')).ownsRow base 35 1 (.slice a' (n + 1) c') (I ++ [Value.slice a m c]).length (I ++ [Value.slice a m c]) := by rw [List.length_append, List.length_singleton, ← HN.out]; exact ks.row ho1 (fun k e f => hne' (by have f2 : k = kb := f; rw [← f2]; exact e))
  have hoth := ks.row hro (fun k e f => HH.out.neB (by have f2 : k = kb := f; rw [← f2]; exact e))
  have hfin : Bk2 base (w1.setCell ⟨kb, 1, none⟩ (.slice a' (n + 1) c')) kb vB (.slice a' (n + 1) c') V (I ++ [.slice a m c]) := ⟨heap_setCell_same w1 kb 1 _ _ _ hobj1, hoth, hmine, HH.out.neB, hne', fun k e f => hap k f e⟩
  have HF := hideH hfin
  have HNW := hideH hnew
  have HKF : Hid (Kept (fun k => k = kb ∨ (Value.slice aB n cB).ownBlock = some k) w (w1.setCell ⟨kb, 1, none⟩ (.slice a' (n + 1) c'))) := hideH ((hk1.mono (fun _ e => .inl (.inr e))).trans ks (fun i e => .inl (.inl e)))
  clear ks hfin hnew hne' hne hobj hobj1 hk1 ho1 hg1 hat HR HC HKA hmine hoth hro hvo hap
  go_wp2_with fail
  go_end0
  exact ⟨rfl, _, HF.out, HKF.out, HNW.out⟩
set_option maxRecDepth 20000 in
set_option maxHeartbeats 4000000 in
/-- No two lists of the book share memory. -/
theorem unshared2 (bm im : Nat → Nat → Int) (hbm : BmI bm) (him : BmII im) (base kb : Nat) (vB vI : Value) (V I : List Value) (L LI : Nat → List Int) (o oI : Nat → Nat) (w : World) (h : Bk2 base w kb vB vI V I) (hB : Bkv w o V L) (hI : BkvI w oI I LI)
    (h1 : V.length ≤ o kb ∧ I.length ≤ oI kb) (h2 : ∀ k, vB.ownBlock = some k → V.length ≤ o k ∧ I.length ≤ oI k) (h3 : ∀ k, vI.ownBlock = some k → V.length ≤ o k ∧ I.length ≤ oI k) (h4 : ∀ t (ht : t < I.length) k, I[t].ownBlock = some k → V.length ≤ o k)
    (hNb : V.length ≤ 1099511627776) (hIb : I.length ≤ 1099511627776) (hL : ∀ t, t < V.length → (L t).length ≤ 35184372088832) (hLI : ∀ t, t < I.length → (LI t).length ≤ 4398046511104) :
    Calls Tryd.prog 12 #[.pointer (some ⟨kb, 0, none⟩)] w fun e w' => e = .returned (.bool true) ∧ Kept (fun k => o k < V.length ∨ oI k < I.length) w w' := by
  obtain ⟨aB, cB, eB⟩ := row_shapeH h.rowB
  obtain ⟨aI, cI, eI⟩ := row_shapeH h.rowI
  subst eB eI
  have vat : ∀ {W : World} {a : Option Addr} {n c : Nat} {e : TypeId} {X : List Value}, W.ownsRow base e 1 (.slice a n c) X.length X → VAt W a X := by
    intro W a n c e X hr hne
    have hpos : 0 < X.length := List.length_pos_iff.2 hne
    rcases hr.2 with ⟨_, e2⟩ | ⟨g, cap, cur, e1, _⟩
    · omega
    · simp only [Value.slice.injEq] at e1
      obtain ⟨rfl, rfl, rfl⟩ := e1
      refine ⟨g, 0, rfl, fun k hk => ?_⟩
      have hc := hr.cells (g := g) rfl k X[k] (List.getElem?_eq_getElem hk)
      rw [Go.WideShapes.add_plain] at hc
      exact hc
  have c0 : w.cell? ⟨kb, 0, none⟩ = some (.slice aB V.length cB) := by rw [cell_of_row _ _ _ _ _ _ h.obj]; rfl
  have c1 : w.cell? ⟨kb, 1, none⟩ = some (.slice aI I.length cI) := by rw [cell_of_row _ _ _ _ _ _ h.obj]; rfl
  have c2 : w.cell? ⟨kb, 2, none⟩ = some (.slice none 0 0) := by rw [cell_of_row _ _ _ _ _ _ h.obj]; rfl
  have CB := hideH (unsharedB_any bm hbm kb aB V.length cB V L o w c0 (vat h.rowB) rfl hB h1.1 (fun p e => (h2 p.block (by rw [e]; rfl)).1) hNb hL)
  have CI : Hid (∀ W, Kept (fun k => o k < V.length) w W → Calls Tryd.prog 42 #[.pointer (some ⟨kb, 0, none⟩)] W fun e w' => e = .returned (.bool true) ∧ Kept (fun k => oI k < I.length) W w') := hideH (fun W k =>
    unsharedB_anyI im him kb aI I.length cI I LI oI W (k.cell c1 (fun f => by have := h1.1; simp only at f; omega)) ((vat h.rowI).kept k (fun p e f => by have := (h3 p.block (by rw [e]; rfl)).1; omega)) rfl ⟨fun t ht => (hI.lib t ht).kept k (fun q e f => by have := h4 t ht q e; omega), hI.own⟩ h1.2 (fun p e => (h3 p.block (by rw [e]; rfl)).2) hIb hLI)
  have H2 : Hid (∀ W, Kept (fun k => o k < V.length ∨ oI k < I.length) w W → W.cell? ⟨kb, 2, none⟩ = some (.slice none 0 0)) := hideH (fun W k => k.cell c2 (fun f => by have := h1; simp only at f; omega))
  clear h hB hI h1 h2 h3 h4 hL hLI hbm him c0 c1 c2 vat
  go_enter Tryd.func12, Tryd.ntmps12
  go_wp2_with (first
    | (go_at_call 41; refine CB.out.mono ?_; clear CB; rintro e W1 ⟨rfl, k1⟩; have CI1 := hideH (CI.out W1 k1); have HK1 := hideH k1; clear k1 CI)
    | (go_at_call 42; refine CI1.out.mono ?_; clear CI1; rintro e W2 ⟨rfl, k2⟩; have hk2 : Kept (fun k => o k < V.length ∨ oI k < I.length) w W2 := (HK1.out.mono (fun _ e => .inl (.inl e))).trans k2 (fun _ e => .inl (.inr e)); have CT := hideH (unsharedT_nil kb W2 (H2.out W2 hk2)); have HK2 := hideH hk2; clear k2 hk2)
    | (go_at_call 43; refine CT.out.mono ?_; clear CT; rintro e W3 ⟨rfl, k3⟩; have HK3 := hideH (HK2.out.trans k3 (fun _ f => f.elim)); clear k3))
  go_ret
  exact ⟨rfl, HK3.out⟩
end Go.Proofs.YtjmmdklgkcbihaaDoor
