import Derived.Test.YtbdhmibiggpomaaDoorPoe
import Derived.Test.YtbdhmibiggpomaaDoorPof
import Derived.Shelf.Abstract
import Derived.Shelf.RegionOpen
import Derived.TacticsInMore
import Derived.LoopNIn
import Derived.LoopIn
namespace Go.Proofs.YtbdhmibiggpomaaDoor
open Go.ChangeShapes Go.WideShapes Go.ChangeAt Go.RowKit Go.Shelf
attribute [local go_sem] Oper.semAt_some

set_option maxRecDepth 20000 in
set_option maxHeartbeats 2000000 in
theorem positionsIn_any (L : List Pg) (a : Option Addr) (c : Nat) (w : World) (h : PsAt w a L) (hl : L.length ≤ 1099511627776) (ht : tot (pol L) ≤ 1099511627776) :
    Calls Tryd.prog 43 #[.slice a L.length c] w fun e w' => e = .returned (.int .i64 ((tot (pol L) : Nat) : Int)) ∧ Kept (fun _ => False) w w' := by
  have HP := hideP h
  obtain ⟨nl, hnl⟩ : ∃ nl, nl = L.length := ⟨_, rfl⟩
  rw [← hnl] at hl ⊢
  have HNL := hideP hnl
  obtain ⟨T, hT⟩ : ∃ T, T = tot (pol L) := ⟨_, rfl⟩
  rw [← hT] at ht ⊢
  have HT := hideP hT
  clear h hnl hT
  go_enter Tryd.func43, Tryd.ntmps43
  go_wp2
  go_loopw [3, 8] (fun v3 v8 wr => ∃ (j s : Nat), j ≤ nl ∧ s ≤ T ∧ v8 = .int .i64 j ∧ v3 = .int .i64 s ∧ Hid (s = tot (pol (L.take j))) ∧ Hid (Kept (fun _ => False) w wr)) (fun _ v8 _ => nl - (intOf v8).toNat)
  case atStart => exact ⟨0, 0, by omega, by omega, rfl, rfl, hideP rfl, hideP (Kept.refl _ _)⟩
  case round =>
    obtain ⟨j, s, hj, hs, rfl, rfl, HS, HK⟩ := hrel
    by_cases hlt : j < nl
    · have hjj : (j : Int) < (nl : Int) := by omega
      have hjl : j < L.length := by rw [← HNL.out]; exact hlt
      obtain ⟨bl, off, rfl, hc⟩ := (HP.out.kept HK.out) (by intro e; rw [e] at hjl; simp at hjl)
      obtain ⟨x0, x1, -⟩ := hc j hjl
      have h2 : s + L[j].ps.length = tot (pol (L.take (j + 1))) := by rw [pol_step hjl, tot_append, ← HS.out]; simp [tot]
      have h3 : s + L[j].ps.length ≤ T := by
        rw [h2, pol_take, HT.out]
        exact tot_take_le _ _
      have HS2 := hideP h2
      clear h2 hc HS
      generalize L[j] = en at *
      obtain ⟨d, pa, pc, ps⟩ := en
      simp only at x0 x1 h3 HS2
      generalize ps.length = n at *
      have HK2 := hideP (HK.out.trans (Kept.alloc wr (.cells #[.int .i64 d, .slice pa n pc] 42)) (fun _ f => f.elim))
      go_wp2
      go_roundw
      case rel => exact ⟨j + 1, s + n, by omega, h3, by go_num, by go_num, HS2, HK2⟩
      case measure => simp [intOf]; omega
    · have hjj : ¬ (j : Int) < (nl : Int) := by omega
      have HE : Hid (s = T) := hideP (by rw [HS.out, HT.out, List.take_of_length_le (by have := HNL.out; omega)])
      go_wp2
      go_ret
      exact ⟨by rw [← HE.out]; rfl, HK.out⟩
/-- What Chunk's function reads. -/
structure ChK (a : Option Addr) (n c b1 b2 : Nat) (W : World) : Prop where
  s : W.cell? ⟨b1, 0, none⟩ = some (.slice a n c)
  i : W.cell? ⟨b2, 0, none⟩ = some (.int .i64 16)
theorem ChK.kept {a : Option Addr} {n c b1 b2 : Nat} {W W' : World} (h : ChK a n c b1 b2 W) (k : Kept (fun _ => False) W W') : ChK a n c b1 b2 W' := ⟨k.cell h.s (fun f => f), k.cell h.i (fun f => f)⟩
def ChM (n : Nat) (pre : List Nat) (x : Nat) (_ : Nat) (_ : World) : Prop := x = pre.length ∧ 16 * x < n
/-- A block's number of documents. -/
def chn (n x : Nat) : Nat := if n - 16 * x < 16 then n - 16 * x else 16
def encC (b off n : Nat) (x : Nat) : Array Value := #[.slice (some ⟨b, off + 16 * x * 2, none⟩) (chn n x) (chn n x)]
theorem chunk_any (a : Option Addr) (n c : Nat) (w : World) : Calls Tryd.prog 59 #[.slice a n c, .int .i64 16] w fun e w' => (∃ b1 b2, e = .returned (.func (.func 85) #[] #[.pointer (some ⟨b1, 0, none⟩), .pointer (some ⟨b2, 0, none⟩)]) ∧ ChK a n c b1 b2 w' ∧ w.heap.size ≤ b1 ∧ w.heap.size ≤ b2) ∧ Kept (fun _ => False) w w' := by
  have hmf : ∀ (fn : Fn) (first cap : Array Value) (w : World), (Instr.makeFunc fn first cap).run Tryd.prog w = .ok (.func fn first cap) w := fun _ _ _ _ => rfl
  have K1 := Kept.alloc w (.cells #[.slice a n c] 24)
  have K2 := Kept.alloc (w.alloc (.cells #[.slice a n c] 24)) (.cells #[.int .i64 16] 3)
  have HK := hideP (K1.trans K2 (fun _ f => f.elim))
  have s1 : (w.alloc (.cells #[.slice a n c] 24)).cell? ⟨w.heap.size, 0, none⟩ = some (.slice a n c) := by simp
  have H1 := hideP (K2.cell s1 (fun f => f))
  clear K1 K2 s1
  go_enter Tryd.func59, Tryd.ntmps59
  go_wp2
  go_ret
  exact ⟨⟨w.heap.size, w.heap.size + 1, rfl, ⟨H1.out, by simp⟩, Nat.le_refl _, by omega⟩, HK.out⟩
set_option maxRecDepth 20000 in
set_option maxHeartbeats 4000000 in
theorem chunk_seq (m : Nat) (a : Option Addr) (b off n c b1 b2 : Nat) (ha : 0 < n → a = some ⟨b, off, none⟩) (hn : n ≤ 1099511627776) (hc : n ≤ c) :
    SeqM Fence.wide m Tryd.prog 85 #[.pointer (some ⟨b1, 0, none⟩), .pointer (some ⟨b2, 0, none⟩)] (encC b off n) (ChK a n c b1 b2) (ChM n) (fun xs => xs.length = nbp n) := by
  intro l J Jx W hK hY h0
  have HY := hideP hY
  have HK := hideP hK
  have H0 := hideP h0
  clear hY hK h0
  refine callsIn_of_wp Tryd.func85 rfl trivial ?_ rfl
  simp only [Tryd.ntmps85, List.size_toArray, List.length_cons, List.length_nil, Nat.reduceAdd, Nat.reduceSub, Array.replicate_succ, Array.replicate_zero, List.push_toArray, List.append_toArray, List.nil_append, List.cons_append]
  gi_wp2
  gi_loopw [4] (fun at_ wr => ∃ (q : Nat) (pre : List Nat) (A : World), at_ = .int .i64 q ∧ q ≤ n + 16 ∧ Hid (q = 16 * pre.length) ∧ Hid (pre.length = 0 ∨ 16 * (pre.length - 1) < n) ∧ Hid (J pre A) ∧ Hid (Kept (fun _ => False) A wr)) (fun at_ _ => n + 16 - (intOf at_).toNat)
  case atStart => exact ⟨0, [], W, rfl, by omega, hideP rfl, hideP (.inl rfl), H0, hideP (Kept.refl _ _)⟩
  case round =>
    obtain ⟨q, pre, A, rfl, hq, HQ, HP, HJ, HA⟩ := hrel
    have hkn := (HK.out pre A HJ.out).kept HA.out
    have c1 := hkn.s
    have c2 := hkn.i
    have HKN := hideP hkn
    clear H0 hkn
    by_cases hlt : q < n
    · have ha' := ha (by omega)
      subst ha'
      clear ha
      have hpp : (q : Int) < (n : Int) := by omega
      obtain ⟨k, hk⟩ : ∃ k, k = n - q := ⟨_, rfl⟩
      obtain ⟨m', hm'⟩ : ∃ m' : Nat, m' = if k < 16 then k else 16 := ⟨_, rfl⟩
      have hmi : (m' : Int) = if (k : Int) < 16 then (k : Int) else 16 := by rw [hm']; split <;> split <;> omega
      have hm0 : 1 ≤ m' ∧ m' ≤ 16 ∧ q + m' ≤ n := by rw [hm']; split <;> omega
      obtain ⟨hm1, hm2, hm3⟩ := hm0
      have HMI := hideP hmi
      have HM' := hideP hm'
      have HKQ := hideP hk
      gi_wp2
      have hS : Kept (fun _ => False) wr wr.drew := Kept.drewN wr 1
      refine held_wide (S := fun W' => Kept (fun _ => False) wr W') (by kernel_rfl) ?_
      change wpAnyH _ _ _ _ _ _ _ _ (World.drew _)
      refine takeZ (i := 0) (d := 13) (v := .int .i64 16) rfl rfl (by kernel_rfl) (by kernel_rfl) (by kernel_rfl) (fun _ _ _ h => h) (Or.inl ⟨by rfl, fun W hW => ?_⟩) hS ?_
      · (have z1 := hW.cell c2 (fun f => f); go_simp)
      simp only [Act.put, List.setIfInBounds_toArray, List.set_cons_zero, List.set_cons_succ]
      refine takeZ (i := 1) (d := 14) (v := .slice (some ⟨b, off, none⟩) n c) rfl rfl (by kernel_rfl) (by kernel_rfl) (by kernel_rfl) (fun _ _ _ h => h) (Or.inl ⟨by rfl, fun W hW => ?_⟩) hS ?_
      · (have z1 := hW.cell c1 (fun f => f); go_simp)
      simp only [Act.put, List.setIfInBounds_toArray, List.set_cons_zero, List.set_cons_succ]
      refine takeZ (i := 2) (d := 15) (v := .int .i64 q) rfl rfl (by kernel_rfl) (by kernel_rfl) (by kernel_rfl) (fun _ _ _ h => h) (Or.inl ⟨by rfl, fun W hW => ?_⟩) hS ?_
      · go_simp
      simp only [Act.put, List.setIfInBounds_toArray, List.set_cons_zero, List.set_cons_succ]
      refine takeZ (i := 3) (d := 16) (v := .slice (some ⟨b, off + q * 2, none⟩) k (c - q)) rfl rfl (by kernel_rfl) (by kernel_rfl) (by kernel_rfl) (fun _ _ _ h => h) (Or.inl ⟨by rfl, fun W hW => ?_⟩) hS ?_
      · (have hkk := HKQ.out
         go_simp
         rw [if_pos (by omega), if_neg (by omega)])
      simp only [Act.put, List.setIfInBounds_toArray, List.set_cons_zero, List.set_cons_succ]
      refine takeZ (i := 4) (d := 17) (v := .int .i64 k) rfl rfl (by kernel_rfl) (by kernel_rfl) (by kernel_rfl) (fun _ _ _ h => h) (Or.inl ⟨by rfl, fun W hW => ?_⟩) hS ?_
      · (clear hk; go_simp)
      simp only [Act.put, List.setIfInBounds_toArray, List.set_cons_zero, List.set_cons_succ]
      refine takeZ (i := 5) (d := 18) (v := .int .i64 m') rfl rfl (by kernel_rfl) (by kernel_rfl) (by kernel_rfl) (fun _ _ _ h => h) (Or.inl ⟨by rfl, fun W hW => ?_⟩) hS ?_
      · (clear hk hm' hmi; rw [HMI.out]; go_simp)
      simp only [Act.put, List.setIfInBounds_toArray, List.set_cons_zero, List.set_cons_succ]
      refine takeZ (i := 6) (d := 5) (v := .int .i64 m') rfl rfl (by kernel_rfl) (by kernel_rfl) (by kernel_rfl) (fun _ _ _ h => h) (Or.inl ⟨by rfl, fun W hW => ?_⟩) hS ?_
      · (clear hk hm' hmi; go_simp)
      simp only [Act.put, List.setIfInBounds_toArray, List.set_cons_zero, List.set_cons_succ]
      refine wpAnyH_done (by kernel_rfl) ?_ _
      have d1 := hS.cell c1 (fun f => f)
      have d2 := hS.cell c2 (fun f => f)
      have YY : YieldAt Fence.wide (m - 1) Tryd.prog l #[.slice (some ⟨b, off + q * 2, none⟩) m' m'] wr.drew fun e C => (e = .returned (.bool true) ∧ Hid (J (pre ++ [pre.length]) C)) ∨ (e = .returned (.bool false) ∧ Hid (Jx (pre ++ [pre.length]) C)) := by
        have r := HY.out pre pre.length A wr.drew HJ.out (HA.out.trans hS (fun _ f => f.elim)) ⟨rfl, by have := HQ.out; omega⟩
        have e1 : chn n pre.length = m' := by unfold chn; rw [← HQ.out, HM'.out, HKQ.out]
        unfold encC at r
        rw [e1, ← HQ.out] at r
        exact r
      obtain ⟨fn, tmps, assign, body', hy, hR⟩ := YY
      have HR := hideP hR
      clear hR hk hm' hmi
      generalize wr.drew = W2 at *
      have f1 : q ≤ q + m' := by omega
      have f2 : q + m' ≤ c := by omega
      have f3 : ¬ m' = 0 := by omega
      have f4 : ¬ q + m' = q := by omega
      gi_wp2
      refine ⟨fun h => by simp [Fence.wide] at h, HR.out.mono ?_⟩
      rintro e W5 (⟨rfl, HJ5⟩ | ⟨rfl, HX5⟩)
      · have d5 := (HK.out _ _ HJ5.out).i
        have HQ5 : Hid (q + 16 = 16 * (pre ++ [pre.length]).length) := hideP (by rw [List.length_append, HQ.out]; simp; omega)
        have HP5 : Hid ((pre ++ [pre.length]).length = 0 ∨ 16 * ((pre ++ [pre.length]).length - 1) < n) := hideP (.inr (by rw [List.length_append]; simp; have := HQ.out; omega))
        clear HR hy d1 d2 hS HA c1 c2
        gi_wp2
        go_roundw
        case rel => exact ⟨q + 16, _, W5, by go_num, by omega, HQ5, HP5, HJ5, hideP (Kept.refl _ _)⟩
        case measure => simp [intOf]; omega
      · gi_wp2
        refine bodyPost_ret (results_none rfl _ _ _) rfl ?_
        exact ⟨⟨_, rfl⟩, .inr ⟨_, W5, HX5.out, Kept.refl _ _⟩⟩
    · have hpp : ¬ (q : Int) < (n : Int) := by omega
      have HF : Hid (pre.length = nbp n) := hideP (by have := HQ.out; have := HP.out; unfold nbp; omega)
      gi_wp2
      refine bodyPost_end (results_none rfl _ _ _) rfl ?_
      exact ⟨⟨_, rfl⟩, .inl ⟨pre, HF.out, A, HJ.out, HA.out⟩⟩
end Go.Proofs.YtbdhmibiggpomaaDoor
