import Derived.Test.YtcbhgpdookappaaDoorDtg
import Derived.Test.YtcbhgpdookappaaDoorDtn
import Derived.Test.YtcbhgpdookappaaDoorDti
namespace Go.Proofs.YtcbhgpdookappaaDoor.Ds
open Go.ChangeShapes Go.WideShapes Go.ChangeAt Go.RowKit

theorem DbAt.keptW {F : Nat → Prop} {w w' : World} (h : DbAt w) (k : Kept F w w') (hF : ¬ F 24) : DbAt w' := fun i x hx => k.cell (h i x hx) hF
theorem nb_pos {n k : Nat} (h : k < n) : 0 < n := by omega
/-- Add of any number: the set may change, in its own blocks. -/
theorem add_all (p rb n cap : Nat) (ws : Nat → Nat) (i : Int) (w : World) {ad : Nat → Addr} (h : SetAt w p rb n cap ws) (hE : Errs14 w ad) :
    Calls Tryd.prog 16 #[.pointer (some ⟨p, 0, none⟩), .int .i64 i] w fun e w' => (∃ v, e = .returned v) ∧ ∃ ws', SetAt w' p rb n cap ws' ∧ Kept (fun j => j = rb) w w' := by
  by_cases hi : 0 ≤ i ∧ i < n
  · obtain ⟨k, rfl⟩ : ∃ k : Nat, i = k := ⟨i.toNat, by omega⟩
    refine (add_in p rb n cap ws k (by omega) w h).mono ?_
    rintro e w' ⟨rfl, hS, hK⟩
    exact ⟨⟨_, rfl⟩, _, hS, hK⟩
  · refine (add_out p rb n cap ws i hi w h hE).mono ?_
    rintro e w' ⟨rfl, hK⟩
    exact ⟨⟨_, rfl⟩, ws, h.kept hK (fun f => f) (fun f => f), hK.mono (fun _ f => f.elim)⟩
/-- Remove of any number. -/
theorem remove_all (p rb n cap : Nat) (ws : Nat → Nat) (i : Int) (w : World) {ad : Nat → Addr} (h : SetAt w p rb n cap ws) (hE : Errs14 w ad) :
    Calls Tryd.prog 15 #[.pointer (some ⟨p, 0, none⟩), .int .i64 i] w fun e w' => (∃ v, e = .returned v) ∧ ∃ ws', SetAt w' p rb n cap ws' ∧ Kept (fun j => j = rb) w w' := by
  by_cases hi : 0 ≤ i ∧ i < n
  · obtain ⟨k, rfl⟩ : ∃ k : Nat, i = k := ⟨i.toNat, by omega⟩
    refine (remove_in p rb n cap ws k (by omega) w h).mono ?_
    rintro e w' ⟨rfl, hS, hK⟩
    exact ⟨⟨_, rfl⟩, _, hS, hK⟩
  · refine (remove_out p rb n cap ws i hi w h hE).mono ?_
    rintro e w' ⟨rfl, hK⟩
    exact ⟨⟨_, rfl⟩, ws, h.kept hK (fun f => f) (fun f => f), hK.mono (fun _ f => f.elim)⟩
def flatW (ws : Nat → Nat) (nb : Nat) : List Value := (List.range (4 * nb)).map (fun k => Value.int .u64 (ws k : Nat))
theorem flatW_len (ws : Nat → Nat) (nb : Nat) : (flatW ws nb).length = nb * 4 := by simp [flatW]; omega
theorem flatW_at (ws : Nat → Nat) (nb k : Nat) (hk : k < 4 * nb) : (flatW ws nb)[k]? = some (.int .u64 (ws k : Nat)) := by simp [flatW, List.getElem?_range hk]
set_option maxRecDepth 20000 in
set_option maxHeartbeats 2000000 in
theorem cloneB_any (rb nb cap : Nat) (ws : Nat → Nat) (hnb : nb ≤ 4096) (w : World) (h : RowAt w rb nb ws) :
    Calls Tryd.prog 45 #[.slice (some ⟨rb, 0, none⟩) nb cap] w fun e w' => ∃ g c, e = .returned (.slice (some ⟨g, 0, none⟩) nb c) ∧ w.heap.size ≤ g ∧ nb ≤ c ∧ RowAt w' g nb ws ∧ Kept (fun _ => False) w w' := by
  have qe : ∀ (w : World) (a : Option Addr) (n c n' c' : Nat), (binOp .eql 69 (.slice a n c) (.slice none n' c')).run Tryd.prog w = .ok (.bool a.isNone) w := fun w a n c n' c' => Lib.run_eql_slice_nil w _ _ a n c n' c' Tryd.underlying69
  obtain ⟨i0, hi, hz0, hz1, hz2⟩ := info_parts Tryd.infoBl
  have ho0 := hideD (show (w.alloc (.cells #[] 73)).ownsRow w.heap.size 73 4 (.slice (some ⟨w.heap.size, 0, none⟩) 0 0) 0 [] from ⟨rfl, .inr ⟨_, _, _, rfl, Nat.le_refl _, heap_alloc_new w _, Nat.le_refl _, Nat.zero_le _, rfl, rfl⟩⟩)
  have HC := hideD (show ∀ j u, (flatW ws nb)[j]? = some u → (w.alloc (.cells #[] 73)).cell? ((⟨rb, 0, none⟩ : Addr).add j) = some u from by
    intro j u hu
    have hj : j < 4 * nb := by
      have := (List.getElem?_eq_some_iff.1 hu).1
      rw [flatW_len] at this; omega
    rw [flatW_at ws nb j hj] at hu
    obtain ⟨C, h1, h2⟩ := h.kept (Kept.alloc w (.cells #[] 73)) (fun f => f)
    rw [show ((⟨rb, 0, none⟩ : Addr).add (j : Nat)) = ⟨rb, j, none⟩ from by simp only [Addr.add]; split <;> simp_all, cell_of_row _ _ _ _ _ _ h1, h2 j hj]
    exact hu)
  have H1 := hideD (show ∀ u ∈ flatW ws nb, u.oneCell' = true from by
    intro u hu
    obtain ⟨k, _, rfl⟩ := List.mem_map.1 hu
    rfl)
  have HN := hideD hnb
  clear h hnb
  go_enter Tryd.func45, Tryd.ntmps45
  go_wp2_with (at_builtin; refine wpList_append_own _ rfl _ _ 69 rfl w.heap.size 73 i0 _ 4 32 Tryd.underlying69 hi hz0 hz1 hz2 rfl (by decide) (.slice (some ⟨w.heap.size, 0, none⟩) 0 0) 0 [] rfl ho0.out ⟨rb, 0, none⟩ nb cap (flatW ws nb) rfl (flatW_len ws nb) HC.out H1.out (by have := HN.out; unfold maxLen; omega) (by have := HN.out; omega) (by simp) ?_; intro v' w' ho hg hnil; have HO := hideD ho; have HG := hideD hg; have HL := hideD hnil; clear ho hg hnil)
  go_ret
  rcases HO.out.2 with ⟨e1, _⟩ | ⟨g, c, cur, e1, hb, hgc, hc, -, hs, ht⟩
  · have := (HL.out.1 e1).1
    cases this
  · rw [Nat.zero_add] at e1 hc ht
    refine ⟨g, c, by rw [e1]; rfl, hb, hc, ⟨cur, hgc, fun k hk => ?_⟩, (Kept.alloc w _).trans (Kept.grown HG.out) (fun i e => .inr (by simp only [Value.ownBlock, Option.some.injEq] at e; omega))⟩
    have h9 := flatW_at ws nb k hk
    rw [List.nil_append] at ht
    rw [← ht, List.getElem?_take, if_pos (by omega), Array.getElem?_toList] at h9
    exact h9
set_option maxRecDepth 20000 in
set_option maxHeartbeats 2000000 in
/-- All: an iterator over blocks of its own. -/
theorem all_any (p rb n cap : Nat) (ws : Nat → Nat) (w : World) (h : SetAt w p rb n cap ws) (hD : DbAt w) :
    Calls Tryd.prog 31 #[.pointer (some ⟨p, 0, none⟩)] w fun e w' => ∃ bk cb c, e = .returned (.func (.func 71) #[] #[.pointer (some ⟨bk, 0, none⟩)]) ∧ w.heap.size ≤ bk ∧ w.heap.size ≤ cb ∧ MsK bk cb (nbOf n) c ws w' ∧ Kept (fun _ => False) w w' := by
  have c1 : w.cell? ⟨p, 1, none⟩ = some (.slice (some ⟨rb, 0, none⟩) (nbOf n) cap) := (cell_of_row _ _ _ _ _ _ h.box).trans rfl
  have hnb : nbOf n ≤ 4096 := by have := h.small; unfold nbOf; omega
  have CB := hideD (cloneB_any rb (nbOf n) cap ws hnb w h.row)
  have HD := hideD hD
  clear h hnb hD
  obtain ⟨nb, hn⟩ : ∃ nb, nb = nbOf n := ⟨_, rfl⟩
  rw [← hn] at c1 CB ⊢
  clear hn
  go_enter Tryd.func31, Tryd.ntmps31
  go_wp2_with (first
    | (go_at_call 45; refine CB.out.mono ?_; rintro e W1 ⟨g, c, rfl, hg, hc, R1, K1⟩; have HR := hideD R1; have HK := hideD K1; clear R1 K1)
    | (go_at_call 51; refine (members_any _ _ rfl _ _ _ rfl).mono ?_; rintro e W2 ⟨rfl, rfl⟩))
  go_ret
  have kA := Kept.alloc W1 (.cells #[.slice (some ⟨g, 0, none⟩) nb c] 69)
  exact ⟨W1.heap.size, g, c, rfl, HK.out.size, hg, ⟨DbAt.keptW (DbAt.keptW HD.out HK.out (fun f => f)) kA (fun f => f), heap_alloc_new W1 _, HR.out.kept kA (fun f => f)⟩, HK.out.trans kA (fun _ f => f.elim)⟩
end Go.Proofs.YtcbhgpdookappaaDoor.Ds
