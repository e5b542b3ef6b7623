import Derived.Test.YtjmmdklgkcbihaaDoorHnc
namespace Go.Proofs.YtjmmdklgkcbihaaDoor
open Go.ChangeShapes Go.WideShapes Go.ChangeAt Go.RowKit

set_option maxRecDepth 20000 in
set_option maxHeartbeats 4000000 in
/-- A book without lists of numbers. -/
theorem unsharedI_nil (kb : Nat) (w : World) (hK : w.cell? ⟨kb, 1, none⟩ = some (.slice none 0 0)) :
    Calls Tryd.prog 42 #[.pointer (some ⟨kb, 0, none⟩)] w fun e w' => e = .returned (.bool true) ∧ Kept (fun _ => False) w w' := by
  have ka := Kept.alloc w (.cells #[] 35)
  have xa := ka.cell hK (fun f => f)
  have HKa := hideH ka
  clear ka
  go_enter Tryd.func42, Tryd.ntmps42
  go_wp2
  go_loopw [24] (fun s wr => s = .int .i64 0 ∧ wr = w) (fun _ _ => 0)
  case atStart => exact ⟨rfl, rfl⟩
  case round =>
  obtain ⟨rfl, rfl⟩ := hrel
  go_wp2
  go_loopw [6, 48] (fun s6 s wx => s6 = .slice (some ⟨wr.heap.size, 0, none⟩) 0 0 ∧ s = .int .i64 0 ∧ wx = wr.alloc (.cells #[] 35)) (fun _ _ _ => 0)
  case atStart => exact ⟨rfl, rfl, rfl⟩
  case round =>
  obtain ⟨rfl, rfl, rfl⟩ := hrel
  go_wp2
  go_loopw [91] (fun s wx => s = .int .i64 0 ∧ wx = wr.alloc (.cells #[] 35)) (fun _ _ => 0)
  case atStart => exact ⟨rfl, rfl⟩
  case round =>
  obtain ⟨rfl, rfl⟩ := hrel
  go_wp2
  go_loopw [116] (fun s wx => s = .int .i64 0 ∧ wx = wr.alloc (.cells #[] 35)) (fun _ _ => 0)
  case atStart => exact ⟨rfl, rfl⟩
  case round =>
  obtain ⟨rfl, rfl⟩ := hrel
  go_wp2
  go_ret
  exact ⟨rfl, HKa.out⟩
set_option maxRecDepth 20000 in
set_option maxHeartbeats 4000000 in
/-- A book without lists of texts. -/
theorem unsharedT_nil (kb : Nat) (w : World) (hK : w.cell? ⟨kb, 2, none⟩ = some (.slice none 0 0)) :
    Calls Tryd.prog 43 #[.pointer (some ⟨kb, 0, none⟩)] w fun e w' => e = .returned (.bool true) ∧ Kept (fun _ => False) w w' := by
  have ka := Kept.alloc w (.cells #[] 33)
  have xa := ka.cell hK (fun f => f)
  have HKa := hideH ka
  clear ka
  go_enter Tryd.func43, Tryd.ntmps43
  go_wp2
  go_loopw [24] (fun s wr => s = .int .i64 0 ∧ wr = w) (fun _ _ => 0)
  case atStart => exact ⟨rfl, rfl⟩
  case round =>
  obtain ⟨rfl, rfl⟩ := hrel
  go_wp2
  go_loopw [6, 48] (fun s6 s wx => s6 = .slice (some ⟨wr.heap.size, 0, none⟩) 0 0 ∧ s = .int .i64 0 ∧ wx = wr.alloc (.cells #[] 33)) (fun _ _ _ => 0)
  case atStart => exact ⟨rfl, rfl, rfl⟩
  case round =>
  obtain ⟨rfl, rfl, rfl⟩ := hrel
  go_wp2
  go_loopw [91] (fun s wx => s = .int .i64 0 ∧ wx = wr.alloc (.cells #[] 33)) (fun _ _ => 0)
  case atStart => exact ⟨rfl, rfl⟩
  case round =>
  obtain ⟨rfl, rfl⟩ := hrel
  go_wp2
  go_loopw [116] (fun s wx => s = .int .i64 0 ∧ wx = wr.alloc (.cells #[] 33)) (fun _ _ => 0)
  case atStart => exact ⟨rfl, rfl⟩
  case round =>
  obtain ⟨rfl, rfl⟩ := hrel
  go_wp2
  go_ret
  exact ⟨rfl, HKa.out⟩
set_option maxRecDepth 20000 in
set_option maxHeartbeats 4000000 in
/-- A book of lists of bytes alone. -/
theorem unshared_bytes (bm : Nat → Nat → Int) (hbm : BmI bm) (kb : Nat) (ga : Option Addr) (N gc : Nat) (V : List Value) (L : Nat → List Int) (o : Nat → Nat) (w : World) (hK : w.cell? ⟨kb, 0, none⟩ = some (.slice ga N gc)) (hK1 : w.cell? ⟨kb, 1, none⟩ = some (.slice none 0 0)) (hK2 : w.cell? ⟨kb, 2, none⟩ = some (.slice none 0 0)) (hV : VAt w ga V) (hN : N = V.length) (hB : Bkv w o V L) (hok : N ≤ o kb) (hog : ∀ p : Addr, ga = some p → N ≤ o p.block) (hNb : N ≤ 1099511627776) (hL : ∀ t, t < N → (L t).length ≤ 35184372088832) :
    Calls Tryd.prog 12 #[.pointer (some ⟨kb, 0, none⟩)] w fun e w' => e = .returned (.bool true) ∧ Kept (fun k => o k < N) w w' := by
  have CB := hideH (unsharedB_any bm hbm kb ga N gc V L o w hK hV hN hB hok hog hNb hL)
  have H1 : Hid (∀ W, Kept (fun k => o k < N) w W → W.cell? ⟨kb, 1, none⟩ = some (.slice none 0 0)) := hideH (fun W k => k.cell hK1 (fun f => by simp only at f; omega))
  have H2 : Hid (∀ W, Kept (fun k => o k < N) w W → W.cell? ⟨kb, 2, none⟩ = some (.slice none 0 0)) := hideH (fun W k => k.cell hK2 (fun f => by simp only at f; omega))
  clear hK hK1 hK2 hV hN hB hok hog hL hbm
  go_enter Tryd.func12, Tryd.ntmps12
  go_wp2_with (first
    | (go_at_call 41; refine CB.out.mono ?_; clear CB; rintro e W1 ⟨rfl, k1⟩; have CI := hideH (unsharedI_nil kb W1 (H1.out W1 k1)); have HK1 := hideH k1; clear k1)
    | (go_at_call 42; refine CI.out.mono ?_; clear CI; rintro e W2 ⟨rfl, k2⟩; have hk2 := HK1.out.trans k2 (fun _ f => f.elim); have CT := hideH (unsharedT_nil kb W2 (H2.out W2 hk2)); have HK2 := hideH hk2; clear k2 hk2)
    | (go_at_call 43; refine CT.out.mono ?_; clear CT; rintro e W3 ⟨rfl, k3⟩; have HK3 := hideH (HK2.out.trans k3 (fun _ f => f.elim)); clear k3))
  go_ret
  exact ⟨rfl, HK3.out⟩
/-- A book of lists of bytes. -/
structure Bok (base : Nat) (W : World) (kb : Nat) (vB : Value) (V : List Value) : Prop where
  obj : W.heap[kb]? = some (.cells #[vB, .slice none 0 0, .slice none 0 0] 32 (0, 0))
  row : W.ownsRow base 26 1 vB V.length V
  ne : vB.ownBlock ≠ some kb
theorem Bok.kept {F : Nat → Prop} {base : Nat} {W W' : World} {kb : Nat} {vB : Value} {V : List Value} (h : Bok base W kb vB V) (k : Kept F W W') (h1 : ¬ F kb) (h2 : ∀ q, vB.ownBlock = some q → ¬ F q) : Bok base W' kb vB V :=
  ⟨k.heap h.obj h1, k.row h.row h2, h.ne⟩
set_option maxRecDepth 20000 in
set_option maxHeartbeats 4000000 in
/-- One list more. -/
theorem book_bytes (base kb n : Nat) (vB : Value) (V : List Value) (a : Option Addr) (m c : Nat) (w : World) (h : Bok base w kb vB V) (hn : n = V.length) (hnb : n ≤ 1099511627776) (hb : base ≤ w.heap.size) :
    Calls Tryd.prog 9 #[.pointer (some ⟨kb, 0, none⟩), .slice a m c] w fun e w' => e = .returned (.tuple #[]) ∧ ∃ vB', Bok base w' kb vB' (V ++ [.slice a m c]) ∧ Kept (fun k => k = kb ∨ vB.ownBlock = some k) w w' ∧ ∀ k, vB'.ownBlock = some k → vB.ownBlock = some k ∨ w.heap.size ≤ k := by
  obtain ⟨j0, hj0, hy0, hy1, hy2⟩ := info_parts Tryd.infoSlH
  obtain ⟨aB, cB, rfl⟩ := row_shapeH h.row
  have ka := Kept.alloc w (.cells #[.slice a m c] 26)
  have c0 : w.cell? ⟨kb, 0, none⟩ = some (.slice aB V.length cB) := by rw [cell_of_row _ _ 0 _ _ _ h.obj]; rfl
  have hr := ka.row h.row (fun _ _ f => f)
  rw [← hn] at c0 hr h ⊢
  have HH := hideH h
  have HR := hideH hr
  have HC : Hid (∀ j u, [Value.slice a m c][j]? = some u → (w.alloc (.cells #[.slice a m c] 26)).cell? ((⟨w.heap.size, 0, none⟩ : Addr).add j) = some u) := hideH (one_new w (.slice a m c) 26)
  have HN := hideH hn
  have HKA := hideH ka
  clear h hr hn ka
  go_enter Tryd.func9, Tryd.ntmps9
  go_wp2_with (at_builtin; refine StpH.go ?_)
  refine ⟨?_⟩
  refine wpList_append_own_at _ rfl _ _ 27 rfl base 26 j0 (.slice none 0 0) 1 24 Tryd.underlying27 hj0 hy0 hy1 hy2 rfl (by decide) (.slice aB n cB) n V rfl HR.out ⟨w.heap.size, 0, none⟩ 1 1 [.slice a m c] rfl rfl HC.out (by intro u hu; simp only [List.mem_singleton] at hu; rw [hu]; rfl) (by unfold maxLen; omega) (by omega) (by simp; omega) ?_
  intro v' w1 ho1 hg1 _ hat
  have hobj := HH.out.obj
  have hk1 : Kept (fun k => (Value.slice aB n cB).ownBlock = some k) w w1 := (HKA.out.mono (fun _ f => f.elim)).trans (Kept.grown hg1) (fun i hi => .inl hi)
  have hne : ∀ k, (Value.slice aB n cB).ownBlock = some k → k ≠ kb := fun k e f => HH.out.ne (by rw [← f]; exact e)
  have hobj1 := hk1.heap hobj (fun e => hne kb e rfl)
  have hkl : kb < w.heap.size := lt_of_block hobj
  have hnew : ∀ k, v'.ownBlock = some k → (Value.slice aB n cB).ownBlock = some k ∨ w.heap.size ≤ k := fun k hk => by
    rcases hat with e | e
    · exact .inl (by rw [← e]; exact hk)
    · rw [e] at hk
      have e2 := Option.some.inj hk
      have e3 : (w.alloc (.cells #[.slice a m c] 26)).heap.size = w.heap.size + 1 := by simp
      exact .inr (by omega)
  have hne' : v'.ownBlock ≠ some kb := fun e => by
    rcases hnew kb e with q | q
    · exact hne kb q rfl
    · omega
  have x0 : w1.cell? ⟨kb, 0, none⟩ = some (.slice aB n cB) := by rw [cell_of_row _ _ 0 _ _ _ hobj1]; rfl
  have f0 : w1.frozen? ⟨kb, 0, none⟩ = false := by simp [World.frozen?, hobj1]
  obtain ⟨a', c', rfl⟩ := row_shapeH ho1
  have ks := Kept.setCell w1 ⟨kb, 0, none⟩ (.slice a' (n + 1) c')
  have hfin : Bok base (w1.setCell ⟨kb, 0, none⟩ (.slice a' (n + 1) c')) kb (.slice a' (n + 1) c') (V ++ [.slice a m c]) := ⟨heap_setCell_same w1 kb 0 _ _ _ hobj1, by rw [List.length_append, List.length_singleton, ← HN.out]; exact ks.row ho1 (fun k e f => hne' (by have f2 : k = kb := f; rw [← f2]; exact e)), hne'⟩
  have HF := hideH hfin
  have HNW := hideH hnew
  have HKF : Hid (Kept (fun k => k = kb ∨ (Value.slice aB n cB).ownBlock = some k) w (w1.setCell ⟨kb, 0, none⟩ (.slice a' (n + 1) c'))) := hideH ((hk1.mono (fun _ e => .inl (.inr e))).trans ks (fun i e => .inl (.inl e)))
  clear ks hfin hnew hne' hne hobj hobj1 hk1 ho1 hg1 hat HR HC HKA
  go_wp2_with fail
  go_end0
  exact ⟨rfl, _, HF.out, HKF.out, HNW.out⟩
end Go.Proofs.YtjmmdklgkcbihaaDoor
