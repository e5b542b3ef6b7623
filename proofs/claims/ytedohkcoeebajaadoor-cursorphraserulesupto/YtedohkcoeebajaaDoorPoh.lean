import Derived.Test.YtedohkcoeebajaaDoorPog
import Derived.Test.YtedohkcoeebajaaDoorCcd
namespace Go.Proofs.YtedohkcoeebajaaDoor
open Go.ChangeShapes Go.WideShapes Go.ChangeAt Go.RowKit Go.Shelf
attribute [local go_sem] Oper.semAt_some

theorem PsAt.cut {w : World} {b off : Nat} {L : List Pg} (h : PsAt w (some ⟨b, off, none⟩) L) (m n : Nat) : PsAt w (some ⟨b, off + m * 2, none⟩) ((L.drop m).take n) := by
  intro hne
  have hL : L ≠ [] := by intro e; rw [e] at hne; simp at hne
  obtain ⟨b', off', e, hc⟩ := h hL
  simp only [Option.some.injEq, Addr.mk.injEq, and_true] at e
  obtain ⟨rfl, rfl⟩ := e
  refine ⟨b, off + m * 2, rfl, fun k hk => ?_⟩
  have hk2 : m + k < L.length := by rw [List.length_take, List.length_drop] at hk; omega
  have e2 : ((L.drop m).take n)[k] = L[m + k] := by rw [List.getElem_take, List.getElem_drop]
  rw [e2]
  have := hc (m + k) hk2
  rw [show off + (m + k) * 2 = off + m * 2 + k * 2 by omega] at this
  exact this
theorem PsAt.lows {w : World} {a : Option Addr} {L : List Pg} (h : PsAt w a L) (hne : L ≠ []) {b off : Nat} (ha : a = some ⟨b, off, none⟩) : b < w.heap.size := by
  obtain ⟨b', off', e, hc⟩ := h hne
  rw [ha] at e
  simp only [Option.some.injEq, Addr.mk.injEq, and_true] at e
  obtain ⟨rfl, rfl⟩ := e
  exact World.block_lt_of_cell? w _ (hc 0 (List.length_pos_iff.2 hne)).1
theorem lastd_end : ∀ {F : List Pg} {b : Int} (h : 0 < F.length), lastd b (pol F) = (F[F.length - 1]'(by omega)).d
  | [p], b, _ => rfl
  | p :: q :: F, b, _ => by
    have := lastd_end (F := q :: F) (b := p.d) (by simp)
    simp only [List.length_cons, Nat.add_sub_cancel] at this ⊢
    rw [show pol (p :: q :: F) = p.po :: pol (q :: F) by rfl, lastd]
    exact this
theorem uvb_le10P (n : Nat) (h : n < 18446744073709551616) : (uvb n).length ≤ 10 := by
  rw [uvb_length]
  exact (ulen_le n (by omega)).2
theorem blk_le {F : List Po} {b : Int} (hg : gdl b F) (hb : -1 ≤ b) (hl : F.length ≤ 16) : (blk b F).length ≤ 400 + 10 * tot F := by
  have gi := gps_ints hg hb
  have mi := mos_intsG hg
  have p1 : (packed (gps b F)).length ≤ 200 := packed_le (fun x hx => (gi x hx).1) (fun x hx => by have := gi x hx; omega) (by rw [gps_length]; exact hl)
  have p2 : (packed (mos F)).length ≤ 200 := packed_le (fun x hx => (mi x hx).1) (fun x hx => by have := mi x hx; omega) (by rw [mos_length]; exact hl)
  have p3 := psb_le (F := F) (fun p hp => (gdl_pos hg p hp).2)
  rw [blk, List.length_append, List.length_append]
  omega
theorem bkb_le : ∀ {m : Nat} {L : List Po} {b : Int}, gdl b L → -1 ≤ b → tot L ≤ 1099511627776 → (bkb b (chp m L)).length ≤ 400 * m + 10 * tot L ∧ (skb b (chp m L)).length ≤ 20 * m
  | 0, _, _, _, _, _ => ⟨Nat.zero_le _, Nat.zero_le _⟩
  | m + 1, L, b, hg, hb, ht => by
    obtain ⟨g1, g2⟩ := gdl_split hg
    have h3 := tot_append (L.take 16) (L.drop 16)
    rw [List.take_append_drop] at h3
    have q := (gdl_last _ _ g1).1
    have q2 : lastd b (L.take 16) ≤ 2147483646 ∨ L.take 16 = [] := by
      by_cases e : L.take 16 = []
      · exact .inr e
      · exact .inl ((gdl_last _ _ g1).2 e).2
    have i := bkb_le (m := m) g2 (by omega) (by omega)
    have j := blk_le g1 hb (by rw [List.length_take]; omega)
    have u1 := uvb_le10P (lastd b (L.take 16) - 1 - b).toNat (by
      rcases q2 with q2 | q2
      · omega
      · rw [q2, lastd]; omega)
    have u2 := uvb_le10P (blk b (L.take 16)).length (by omega)
    rw [chp, bkb, skb, List.length_append, List.length_append, List.length_append]
    omega
end Go.Proofs.YtedohkcoeebajaaDoor
