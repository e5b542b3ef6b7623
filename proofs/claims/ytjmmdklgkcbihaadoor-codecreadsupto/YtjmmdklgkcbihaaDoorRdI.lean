import Derived.Test.YtjmmdklgkcbihaaDoorRdH
namespace Go.Proofs.YtjmmdklgkcbihaaDoor
open Go.ChangeShapes Go.WideShapes Go.ChangeAt Go.RowKit

set_option maxRecDepth 20000 in
set_option maxHeartbeats 1000000 in
theorem rtext_ok (br : Nat) (v : Value) (l : List Int) (p n k : Nat) (most : Int) (a0 a1 : Addr) (w : World) (h : Rd w br v l p) (hr : rdu 0 0 (l.drop p) = .ok (n, k)) (hm : (n : Int) ≤ most) (hm2 : most ≤ 9223372036854775807) (hn : p + k + n ≤ l.length)
    (g0 : w.cell? ⟨1, 0, none⟩ = some (errV a0)) (g1 : w.cell? ⟨3, 0, none⟩ = some (errV a1)) :
    Calls Tryd.prog 50 #[.pointer (some ⟨br, 0, none⟩), .int .i64 most] w fun e w' => e = .returned (.tuple #[.string (strOfNums ((l.drop (p + k)).take n)), .nilIface]) ∧ Rd w' br v l (p + k + n) ∧ Kept (fun i => i = br) w w' := by
  have hc := h.cell1
  have hc0 := h.cell0
  have hf := h.free1
  have hs := h.sm
  have HH := hide h
  obtain ⟨a, c, hv, hb, _⟩ := bytes_of_own h.own
  have hne := h.ne
  obtain ⟨g, rfl⟩ := h.frm
  simp only [Value.slice.injEq, true_and] at hv
  obtain ⟨rfl, rfl⟩ := hv
  have hgb : g ≠ br := by intro e; exact hne (by rw [e]; rfl)
  have c1 : ∀ n', Calls Tryd.prog 80 #[.slice (some ⟨g, 0, none⟩) l.length l.length, .int .i64 p, .int .i64 most] (w.drewN n') fun e w' => e = .returned (.tuple #[.int .i64 n, .int .i64 ((p + k : Nat) : Int), .nilIface]) ∧ ∃ m, w' = w.drewN m := by
    intro n'
    refine (upat_ok l _ l.length p n k most a0 a1 (w.drewN n') hb h.isb h.le (by omega) g0 g1 hr hm hm2).mono ?_
    rintro e w' ⟨rfl, m, rfl⟩
    exact ⟨by simp, n' + m, by rw [World.drewN_drewN]⟩
  obtain ⟨q, hq⟩ : ∃ q, q = p + k := ⟨_, rfl⟩
  rw [← hq] at c1 hn ⊢
  have hcl : ∀ i, i < l.length → w.cell? ⟨g, i, none⟩ = some (.int .u8 (l[i]?.getD 0)) := by
    intro i hi
    obtain ⟨b, off, e, hcc⟩ := hb (by intro e; rw [e] at hi; simp at hi)
    cases e
    have := hcc i hi
    rwa [Nat.zero_add] at this
  have cv : ∀ (c : Nat) (off : Nat) (W : World), (∀ i, W.cell? ⟨g, i, none⟩ = w.cell? ⟨g, i, none⟩) → (off = q ∨ n = 0) → (convert 26 9 (.slice (some ⟨g, off, none⟩) n c)).run Tryd.prog W = .ok (.string (strOfNums ((l.drop q).take n))) W := by
    intro c off W hW ho
    refine run_convert_bytes_arg W 26 5 Tryd.underlying26 Tryd.underlying5 g off n c _ (by rw [List.length_take, List.length_drop]; omega) (fun i hi => ?_) 9 Tryd.underlying9
    rcases ho with rfl | rfl
    · rw [hW, hcl (off + i) (by omega)]
      simp [List.getD, hi, List.getElem?_drop]
    · omega
  have hsame : ∀ (m : Nat) (x : Value) i, ((w.drewN m).setCell ⟨br, 1, none⟩ x).cell? ⟨g, i, none⟩ = w.cell? ⟨g, i, none⟩ := by
    intro m x i
    exact World.cell?_of_block (w := w) (Below.heap_setCell (w.drewN m) ⟨br, 1, none⟩ x g hgb)
  obtain ⟨st, hst⟩ : ∃ st, st = strOfNums ((l.drop q).take n) := ⟨_, rfl⟩
  rw [← hst] at cv ⊢
  have C1 := hide c1
  clear h hb g0 g1 hr c1 hcl hst hgb hne
  have fin : ∀ m, Rd ((w.drewN m).setCell ⟨br, 1, none⟩ (.int .i64 ((q : Int) + n))) br (.slice (some ⟨g, 0, none⟩) l.length l.length) l (q + n) ∧ Kept (fun i => i = br) w ((w.drewN m).setCell ⟨br, 1, none⟩ (.int .i64 ((q : Int) + n))) := by
    intro m
    rw [show (q : Int) + n = ((q + n : Nat) : Int) by omega]
    exact ⟨(HH.out.drewN m).move hn, RKept m _⟩
  have FIN := hide fin
  clear fin
  by_cases hlq : l.length = q
  · have hn0 : n = 0 := by omega
    subst hn0
    have hcv : ∀ (m : Nat) (x : Value), (convert 26 9 (.slice (some ⟨g, 0, none⟩) 0 0)).run Tryd.prog ((w.drewN m).setCell ⟨br, 1, none⟩ x) = .ok (.string st) ((w.drewN m).setCell ⟨br, 1, none⟩ x) := fun m x => cv 0 0 _ (hsame m x) (.inr rfl)
    clear cv hsame
    have hq2 : q = l.length := hlq.symm
    subst hq2
    clear hlq hq
    go_enter Tryd.func50, Tryd.ntmps50
    go_wp2_with fail
    go_quiet ((exact C1.out _))
    go_wp2
    go_ret2
    have z := FIN.out nq
    simp only [Int.natCast_zero, Int.add_zero, Nat.add_zero] at z ⊢
    exact ⟨rfl, z.1, z.2⟩
  · have hcv : ∀ (m : Nat) (x : Value), (convert 26 9 (.slice (some ⟨g, q, none⟩) n (l.length - q))).run Tryd.prog ((w.drewN m).setCell ⟨br, 1, none⟩ x) = .ok (.string st) ((w.drewN m).setCell ⟨br, 1, none⟩ x) := fun m x => cv _ q _ (hsame m x) (.inl rfl)
    clear cv hsame hq
    go_enter Tryd.func50, Tryd.ntmps50
    go_wp2_with fail
    go_quiet ((exact C1.out _))
    go_wp2
    go_ret2
    exact ⟨rfl, (FIN.out nq).1, (FIN.out nq).2⟩
end Go.Proofs.YtjmmdklgkcbihaaDoor
