import Derived.Test.YtcanbhbhdgogoaaDoorDre
import Derived.Defers
import Derived.Recover
namespace Go.Proofs.YtcanbhbhdgogoaaDoor
open Go.ChangeShapes Go.WideShapes Go.ChangeAt Go.RowKit

/-- The deferred closure, of a frame that panics. -/
theorem catch_pan (p q : Nat) (x y : Value) (a : Addr) (b : Addr) (w : World) (hp : w.cell? ⟨p, 0, none⟩ = some x) (hpz : w.frozen? ⟨p, 0, none⟩ = false) (hq : w.cell? ⟨q, 0, none⟩ = some y) (hqz : w.frozen? ⟨q, 0, none⟩ = false) (hpq : ¬ p = q) (hc : w.cell? ⟨9, 0, none⟩ = some (errV a)) :
    CallsD Tryd.prog 27 #[.pointer (some ⟨p, 0, none⟩), .pointer (some ⟨q, 0, none⟩)] (.panicking [{ v := errV b, recovered := false }]) w fun e u' w' =>
      e = .returned (.tuple #[]) ∧ u' = .panicking [{ v := errV b, recovered := true }] ∧ w' = (w.setCell ⟨p, 0, none⟩ (.pointer none)).setCell ⟨q, 0, none⟩ (errV a) := by
  refine callsD_of_wpS Tryd.func27 rfl fun c₀ cs hu => ?_
  have hqp : ¬ q = p := fun e => hpq e.symm
  apply wpS_seq
  apply wpS_region
  simp [wpOpsS, go_sem, recoverD, hu, Tryd.ntmps27, Exit.thenS, errV]
  refine wpS_cond (t := true) (by simp [Act.eval, Array.replicate]) ?_
  simp only [if_true]
  apply wpS_region
  unfold errV at hc
  simp [wpOpsS, go_sem, hc, hp, hpz, hq, hqz, bodyPostS, results, Tryd.results27]
theorem catch_idle (p q : Nat) (w : World) :
    CallsD Tryd.prog 27 #[.pointer (some ⟨p, 0, none⟩), .pointer (some ⟨q, 0, none⟩)] .returning w fun e u' w' => e = .returned (.tuple #[]) ∧ u' = .returning ∧ w' = w := by
  refine callsD_of_wpS Tryd.func27 rfl fun c₀ cs hu => ?_
  apply wpS_seq
  apply wpS_region
  simp [wpOpsS, go_sem, recoverD, hu, Tryd.ntmps27, Exit.thenS]
  refine wpS_cond (t := false) (by simp [Act.eval, Array.replicate]) ?_
  simp only [Bool.false_eq_true, if_false]
  refine wpS_of_wp (wp_skip ?_)
  cases c₀
  simp_all [bodyPostS, results, Tryd.results27]
/-- A Dict at block bd with the entries E. -/
structure Dct (w : World) (ws bd : Nat) (va : Value) (E : List En) : Prop where
  blk : w.heap[bd]? = some (.cells #[va] 68 (0, 0))
  own : w.ownsRow ws 31 5 va E.length (ecs E)
  new : ws ≤ bd
def opPost (ws : Nat) (a : Addr) (x : Option (List En)) (e : Ending) (w' : World) : Prop := match x with
  | none => e = .returned (.tuple #[.pointer none, errV a])
  | some E => ∃ bd va, e = .returned (.tuple #[.pointer (some ⟨bd, 0, none⟩), .nilIface]) ∧ Dct w' ws bd va E
/-- The errors. -/
structure ErO (w : World) (ad : Nat → Addr) : Prop where
  s0 : w.cell? ⟨2, 0, none⟩ = some (errV (ad 0))
  s1 : w.cell? ⟨3, 0, none⟩ = some (errV (ad 1))
  s2 : w.cell? ⟨0, 0, none⟩ = some (errV (ad 2))
  s4 : w.cell? ⟨4, 0, none⟩ = some (errV (ad 4))
  s9 : w.cell? ⟨9, 0, none⟩ = some (errV (ad 9))
theorem ErO.kept {w w' : World} {ad : Nat → Addr} (h : ErO w ad) (k : Kept (fun _ => False) w w') : ErO w' ad :=
  ⟨k.cell h.s0 (fun f => f), k.cell h.s1 (fun f => f), k.cell h.s2 (fun f => f), k.cell h.s4 (fun f => f), k.cell h.s9 (fun f => f)⟩
theorem ErO.lt {w : World} {ad : Nat → Addr} (h : ErO w ad) : 2 < w.heap.size ∧ 3 < w.heap.size ∧ 0 < w.heap.size ∧ 4 < w.heap.size ∧ 9 < w.heap.size :=
  ⟨World.block_lt_of_cell? w _ h.s0, World.block_lt_of_cell? w _ h.s1, World.block_lt_of_cell? w _ h.s2, World.block_lt_of_cell? w _ h.s4, World.block_lt_of_cell? w _ h.s9⟩
theorem ErO.at {w : World} {br : Nat} {ad : Nat → Addr} (h : ErO w ad) (hn : ¬ 2 = br ∧ ¬ 3 = br ∧ ¬ 0 = br ∧ ¬ 4 = br ∧ ¬ 9 = br) : ErD w br ad := ⟨h.s0, h.s1, h.s2, h.s4, h.s9, hn⟩
theorem BytesAt.keptO {w w' : World} {a : Option Addr} {l : List Int} (h : BytesAt w a l) (k : Kept (fun _ => False) w w') : BytesAt w' a l := by
  intro hne
  obtain ⟨b, off, e, hc⟩ := h hne
  exact ⟨b, off, e, fun j hj => k.cell (hc j hj) (fun f => f)⟩
theorem opn_none {l : List Int} (h : par l = none) : opn l = none := by unfold opn; rw [h]
theorem opn_tail {l : List Int} {E : List En} {r : Nat} (h : par l = some (E, r)) (hr : r < l.length) : opn l = none := by unfold opn; rw [h]; simp only [if_pos hr]
theorem opn_some {l : List Int} {E : List En} {r : Nat} (h : par l = some (E, r)) (hr : ¬ r < l.length) : opn l = some E := by unfold opn; rw [h]; simp only [if_neg hr]
set_option maxRecDepth 20000 in
set_option maxHeartbeats 8000000 in
theorem open_any (l : List Int) (a : Option Addr) (c : Nat) (ad : Nat → Addr) (w : World) (hB : BytesAt w a l) (hI : IsBytes l) (hl : l.length ≤ 1099511627776) (hE : ErO w ad) :
    Calls Tryd.prog 11 #[.slice a l.length c] w fun e w' => opPost w.heap.size (ad 9) (opn l) e w' ∧ Kept (fun _ => False) w w' := by
  have hmf : ∀ (fn : Fn) (first cap : Array Value) (w : World), (Instr.makeFunc fn first cap).run Tryd.prog w = .ok (.func fn first cap) w := fun _ _ _ _ => rfl
  have KA := (Kept.alloc w (.cells #[.pointer none] 38)).trans (Kept.alloc (w.alloc (.cells #[.pointer none] 38)) (.cells #[.nilIface] 27)) (fun _ f => f.elim)
  have CN := hideQ (newr_any l a c _ (hB.keptO KA) hI (by omega))
  have HX : Hid (((w.alloc (.cells #[.pointer none] 38)).alloc (.cells #[.nilIface] 27)).heap[w.heap.size]? = some (.cells #[.pointer none] 38 (0, 0))) := hideQ ((Kept.alloc (w.alloc (.cells #[.pointer none] 38)) (.cells #[.nilIface] 27)).heap (heap_alloc_new w _) (fun f => f))
  have HY : Hid (((w.alloc (.cells #[.pointer none] 38)).alloc (.cells #[.nilIface] 27)).heap[w.heap.size + 1]? = some (.cells #[.nilIface] 27 (0, 0))) := hideQ (by
    have h9 := heap_alloc_new (w.alloc (.cells #[.pointer none] 38)) (.cells #[.nilIface] 27)
    simpa using h9)
  have HK := hideQ KA
  have HEr := hideQ (hE.kept KA)
  have HG := hideQ hE.lt
  have HSz : Hid (((w.alloc (.cells #[.pointer none] 38)).alloc (.cells #[.nilIface] 27)).heap.size = w.heap.size + 2) := hideQ (by simp)
  clear KA hB hI hE
  obtain ⟨nl, hnl⟩ : ∃ nl, nl = l.length := ⟨_, rfl⟩
  rw [← hnl] at CN ⊢
  have HNL := hideQ hnl
  clear hnl
  go_enter_defers Tryd.func11, Tryd.ntmps11
  go_wp2_with fail
  go_at_call 28
  refine CN.out.mono ?_
  rintro e W1 ⟨br, v, rfl, hR1, hbr, hv1, K1⟩
  rw [HSz.out] at hbr
  have HR1 := hideQ hR1
  have HE1 := hideQ ((HEr.out.kept K1).at (br := br) (by have := HG.out; omega))
  have HK1 := hideQ (HK.out.trans K1 (fun _ f => f.elim))
  have HX1 := hideQ (K1.heap HX.out (fun f => f))
  have HY1 := hideQ (K1.heap HY.out (fun f => f))
  clear hR1 K1 hv1 CN HX HY HK HEr HSz
  have CR := hideQ (readEntries_any l br v ad W1 HR1.out HE1.out hl)
  have hs1 : w.heap.size ≤ W1.heap.size := HK1.out.size
  have hs1b : w.heap.size + 1 < W1.heap.size := lt_of_block HY1.out
  generalize (w.alloc (.cells #[.pointer none] 38)).alloc (.cells #[.nilIface] 27) = W0 at *
  go_wp2_with fail
  go_at_call 29
  refine CR.out.mono ?_
  rintro e W2 ⟨hp, K2⟩
  clear CR
  have HE2 := hideQ (HE1.out.kept K2)
  have HK2 := hideQ (HK1.out.trans K2 (fun i hi => .inr (by omega)))
  have HX2 := hideQ (K2.heap HX1.out (by omega))
  have HY2 := hideQ (K2.heap HY1.out (by omega))
  clear K2 HX1 HY1 HK1 HE1 HR1
  cases hP : par l with
  | none =>
    rw [hP] at hp
    obtain rfl : e = pan (ad 9) := hp
    have HO := hideQ (opn_none hP)
    have HX3 := hideQ (one_setCell (u := .pointer none) HX2.out)
    have HY3 : Hid ((W2.setCell ⟨w.heap.size, 0, none⟩ (.pointer none)).heap[w.heap.size + 1]? = some (.cells #[.nilIface] 27 (0, 0))) := hideQ ((ksetD W2 w.heap.size 0 _).heap HY2.out (by omega))
    have HX4 : Hid (((W2.setCell ⟨w.heap.size, 0, none⟩ (.pointer none)).setCell ⟨w.heap.size + 1, 0, none⟩ (errV (ad 9))).heap[w.heap.size]? = some (.cells #[.pointer none] 38 (0, 0))) := hideQ ((ksetD _ (w.heap.size + 1) 0 _).heap HX3.out (by omega))
    have HY4 := hideQ (one_setCell (u := errV (ad 9)) HY3.out)
    have HK4 := hideQ ((HK2.out.trans (ksetD W2 w.heap.size 0 (.pointer none)) (fun i hi => .inr (by omega))).trans (ksetD _ (w.heap.size + 1) 0 (errV (ad 9))) (fun i hi => .inr (by omega)))
    have x4 := cell_of_one HX4.out
    have y4 := cell_of_one HY4.out
    refine leaves_cons (f := 27) (args := #[.pointer (some ⟨w.heap.size, 0, none⟩), .pointer (some ⟨w.heap.size + 1, 0, none⟩)]) (by simp) (by simp [go_sem]) ?_
    refine (catch_pan w.heap.size (w.heap.size + 1) _ _ (ad 9) (ad 9) _ (cell_of_one HX2.out) (free_of_one HX2.out) (cell_of_one HY2.out) (free_of_one HY2.out) (by omega) HE2.out.s9).mono ?_
    rintro e u' w'' ⟨rfl, rfl, rfl⟩
    simp [Leaves, settle, results, Tryd.results11, go_sem, x4, y4]
    exact ⟨by rw [HO.out]; rfl, HK4.out⟩
  | some Er =>
    obtain ⟨E, r⟩ := Er
    rw [hP] at hp
    obtain ⟨va, rfl, ho, hR⟩ := hp
    by_cases hr : r < l.length
    · have HO := hideQ (opn_tail hP hr)
      have CD := hideQ (done_n W2 hR HE2.out hr)
      clear hP ho hR
      go_wp2_with (go_at_call 31; refine CD.out.mono ?_; rintro e W3 ⟨rfl, n3, rfl⟩; unfold errV)
      replace HE2 := hideQ (HE2.out.keptF (Kept.drewN W2 n3))
      replace HK2 := hideQ (HK2.out.trans (Kept.drewN W2 n3) (fun _ f => f.elim))
      replace HX2 := hideQ ((Kept.drewN W2 n3).heap HX2.out (fun f => f))
      replace HY2 := hideQ ((Kept.drewN W2 n3).heap HY2.out (fun f => f))
      clear CD
      generalize W2.drewN n3 = W2 at *
      go_at_call 30
      refine (need_no (ad 9) _ HE2.out.s9).mono ?_
      rintro e W2 ⟨rfl, rfl⟩
      have HX3 := hideQ (one_setCell (u := .pointer none) HX2.out)
      have HY3 : Hid ((W2.setCell ⟨w.heap.size, 0, none⟩ (.pointer none)).heap[w.heap.size + 1]? = some (.cells #[.nilIface] 27 (0, 0))) := hideQ ((ksetD W2 w.heap.size 0 _).heap HY2.out (by omega))
      have HX4 : Hid (((W2.setCell ⟨w.heap.size, 0, none⟩ (.pointer none)).setCell ⟨w.heap.size + 1, 0, none⟩ (errV (ad 9))).heap[w.heap.size]? = some (.cells #[.pointer none] 38 (0, 0))) := hideQ ((ksetD _ (w.heap.size + 1) 0 _).heap HX3.out (by omega))
      have HY4 := hideQ (one_setCell (u := errV (ad 9)) HY3.out)
      have HK4 := hideQ ((HK2.out.trans (ksetD W2 w.heap.size 0 (.pointer none)) (fun i hi => .inr (by omega))).trans (ksetD _ (w.heap.size + 1) 0 (errV (ad 9))) (fun i hi => .inr (by omega)))
      have x4 := cell_of_one HX4.out
      have y4 := cell_of_one HY4.out
      refine leaves_cons (f := 27) (args := #[.pointer (some ⟨w.heap.size, 0, none⟩), .pointer (some ⟨w.heap.size + 1, 0, none⟩)]) (by simp) (by simp [go_sem]) ?_
      refine (catch_pan w.heap.size (w.heap.size + 1) _ _ (ad 9) (ad 9) _ (cell_of_one HX2.out) (free_of_one HX2.out) (cell_of_one HY2.out) (free_of_one HY2.out) (by omega) HE2.out.s9).mono ?_
      rintro e u' w'' ⟨rfl, rfl, rfl⟩
      simp [Leaves, settle, results, Tryd.results11, go_sem, x4, y4]
      exact ⟨by rw [HO.out]; rfl, HK4.out⟩
    · have HO := hideQ (opn_some hP hr)
      have CD := hideQ (done_s W2 hR hr)
      have HOw := hideQ ho
      obtain ⟨aE, cE, hva⟩ := row_shape ho
      have HNv : Hid (∀ k, va.ownBlock = some k → w.heap.size + 2 ≤ k ∧ k < W2.heap.size) := hideQ (fun k hk => by have := ho.lt k hk; omega)
      clear hP ho hR
      go_wp2_with (go_at_call 31; refine CD.out.mono ?_; rintro e W3 ⟨rfl, n3, rfl⟩)
      have HD := hideQ (Kept.drewN W2 n3)
      replace HK2 := hideQ (HK2.out.trans HD.out (fun _ f => f.elim))
      replace HX2 := hideQ (HD.out.heap HX2.out (fun f => f))
      replace HY2 := hideQ (HD.out.heap HY2.out (fun f => f))
      replace HOw := hideQ (HD.out.row HOw.out (fun _ _ f => f))
      clear CD HD HE2
      generalize W2.drewN n3 = W3 at *
      subst hva
      obtain ⟨nE, hnE⟩ : ∃ nE, nE = E.length := ⟨_, rfl⟩
      rw [← hnE] at HOw HNv ⊢
      have HNE := hideQ hnE
      clear hnE
      have KA := Kept.alloc W3 (.cells #[.slice aE nE cE] 68)
      have HXa := hideQ (KA.heap HX2.out (fun f => f))
      have HYa := hideQ (KA.heap HY2.out (fun f => f))
      have HDa : Hid ((W3.alloc (.cells #[.slice aE nE cE] 68)).heap[W3.heap.size]? = some (.cells #[.slice aE nE cE] 68 (0, 0))) := hideQ (heap_alloc_new W3 _)
      have HOa := hideQ (KA.row HOw.out (fun _ _ f => f))
      have HKa := hideQ (HK2.out.trans KA (fun _ f => f.elim))
      have hxl : w.heap.size < W3.heap.size := lt_of_block HX2.out
      have hyl : w.heap.size + 1 < W3.heap.size := lt_of_block HY2.out
      have x2 := cell_of_one HX2.out
      have y2 := cell_of_one HY2.out
      have fx := free_of_one HX2.out
      have fy := free_of_one HY2.out
      have xa := cell_of_one HXa.out
      have ya := cell_of_one HYa.out
      have fxa := free_of_one HXa.out
      have fya := free_of_one HYa.out
      clear KA
      go_wp2_with (go_at_call 30; refine (need_ok _).mono ?_; rintro e W4 ⟨rfl, rfl⟩)
      refine leaves_cons (f := 27) (args := #[.pointer (some ⟨w.heap.size, 0, none⟩), .pointer (some ⟨w.heap.size + 1, 0, none⟩)]) (by simp) (by simp [go_sem]) ?_
      refine (catch_idle w.heap.size (w.heap.size + 1) _).mono ?_
      rintro e u' w'' ⟨rfl, rfl, rfl⟩
      have HKs : Hid (Kept (fun i => i = w.heap.size ∨ i = w.heap.size + 1) W4 ((W4.setCell ⟨w.heap.size, 0, none⟩ (.pointer (some ⟨W4.heap.size, 0, none⟩))).setCell ⟨w.heap.size + 1, 0, none⟩ .nilIface)) := hideQ (((ksetD W4 w.heap.size 0 _).mono (fun _ h => .inl (.inl h))).trans (ksetD _ (w.heap.size + 1) 0 _) (fun _ h => .inl (.inr h)))
      have HXs : Hid (((W4.setCell ⟨w.heap.size, 0, none⟩ (.pointer (some ⟨W4.heap.size, 0, none⟩))).setCell ⟨w.heap.size + 1, 0, none⟩ .nilIface).heap[w.heap.size]? = some (.cells #[.pointer (some ⟨W4.heap.size, 0, none⟩)] 38 (0, 0))) := hideQ ((ksetD _ (w.heap.size + 1) 0 _).heap (one_setCell HX2.out) (by omega))
      have HYs : Hid (((W4.setCell ⟨w.heap.size, 0, none⟩ (.pointer (some ⟨W4.heap.size, 0, none⟩))).setCell ⟨w.heap.size + 1, 0, none⟩ .nilIface).heap[w.heap.size + 1]? = some (.cells #[.nilIface] 27 (0, 0))) := hideQ (one_setCell ((ksetD W4 w.heap.size 0 _).heap HY2.out (by omega)))
      have HZs : Hid (((W4.setCell ⟨w.heap.size, 0, none⟩ (.pointer (some ⟨W4.heap.size, 0, none⟩))).setCell ⟨w.heap.size + 1, 0, none⟩ .nilIface).heap.size = W4.heap.size) := hideQ (by simp [World.setCell])
      have HOs := hideQ (HKs.out.row HOw.out (fun k hk f => by have := HNv.out k hk; omega))
      generalize (W4.setCell ⟨w.heap.size, 0, none⟩ (.pointer (some ⟨W4.heap.size, 0, none⟩))).setCell ⟨w.heap.size + 1, 0, none⟩ .nilIface = Ws at *
      have KB := Kept.alloc Ws (.cells #[.slice aE nE cE] 68)
      have HDf : Hid ((Ws.alloc (.cells #[.slice aE nE cE] 68)).heap[W4.heap.size]? = some (.cells #[.slice aE nE cE] 68 (0, 0))) := hideQ (by rw [← HZs.out]; exact heap_alloc_new Ws _)
      have c1 := cell_of_one (KB.heap HXs.out (fun f => f))
      have c2 := cell_of_one (KB.heap HYs.out (fun f => f))
      have HOf := hideQ (KB.row HOs.out (fun _ _ f => f))
      have HKf := hideQ ((HK2.out.trans HKs.out (fun i hi => .inr (by omega))).trans KB (fun _ f => f.elim))
      generalize Ws.alloc (.cells #[.slice aE nE cE] 68) = Wf at *
      clear x2 y2 fx fy xa ya fxa fya HXa HYa HDa HOa HKa
      simp [Leaves, settle, results, Tryd.results11, go_sem, c1, c2]
      rw [HO.out]
      refine ⟨⟨W4.heap.size, _, rfl, HDf.out, ?_, by omega⟩, HKf.out⟩
      rw [← HNE.out]
      exact own_lowerD HOf.out (by omega)
end Go.Proofs.YtcanbhbhdgogoaaDoor
