import Derived.Test.YtnchamenhpppdaaDoorSdf
namespace Go.Proofs.YtnchamenhpppdaaDoor
open Go.ChangeShapes Go.WideShapes Go.ChangeAt Go.RowKit

theorem decimals_any (v n at_ c : Int) (w : World) (h0 : -9223372036854775808 ≤ v) (h1 : v ≤ 9223372036854775807) (ha0 : -9223372036854775808 ≤ at_) (ha1 : at_ ≤ 9223372036854775807) (hc0 : 0 ≤ c) (hc1 : c ≤ 255) (ev0 ev1 : Value)
    (v0 : w.cell? ⟨0, 0, none⟩ = some ev0) (i0 : ∃ te pe, ev0 = .iface te pe) (v1 : w.cell? ⟨1, 0, none⟩ = some ev1) (i1 : ∃ te pe, ev1 = .iface te pe) :
    Calls Tryd.prog 4 #[.int .i64 v, .int .i64 n, .int .i64 at_, .int .u8 c] w fun e w' => e = .returned (.bool true) ∧ Kept (fun _ => False) w w' := by
  have cD : Calls Tryd.prog 11 #[.int .i64 v] w fun e w' => e = .returned (.string ⟨⟨dl v⟩⟩) ∧ Below w.heap.size w w' := by
    refine (decimal_any v w h0 h1).mono ?_
    rintro e w' ⟨S, rfl, hS, hb⟩
    obtain ⟨⟨l⟩⟩ := S
    simp only at hS
    subst hS
    exact ⟨rfl, hb⟩
  have hP : ∀ (s : ByteArray) (w1 : World), s.size ≤ 4000 → Below w.heap.size w w1 → Calls Tryd.prog 5 #[.string s] w1 fun e w' => e = .returned (.tuple #[.int .i64 (decV s.data.toList), .bool (decB s.data.toList)]) ∧ Below w.heap.size w w' := by
    intro s w1 hs hb
    have k := Kept.of_below hb
    refine (parse_any s w1 (by omega) ev0 ev1 (k.cell v0 (fun f => f)) i0 (k.cell v1 (fun f => f)) i1).mono ?_
    rintro e w' ⟨rfl, hb2⟩
    exact ⟨rfl, (k.trans (Kept.of_below hb2) (fun _ f => f.elim)).below (Nat.le_refl _) (fun _ _ f => f)⟩
  have cP : PnOk w := by
    intro s x w1 hd hs hb
    have := hP s w1 hs hb
    rwa [decV_some hd, decB_some hd] at this
  have cN : PnNo w := by
    intro s w1 hd hs hb
    have := hP s w1 hs hb
    rwa [decV_none hd, decB_none hd] at this
  have hl := dl_len v h0 h1
  have hsz : (ByteArray.mk ⟨dl v⟩).size = (dl v).length := rfl
  by_cases hn : n < 0 ∨ 2000 < n
  · refine (decimals_out v n at_ c ⟨⟨dl v⟩⟩ w (hideQ (by have := dec_ll v 0 h0 h1; rw [ll_zero] at this; exact this)) (by omega) hn cD cP).mono ?_
    exact fun _ _ h => ⟨h.1, Kept.of_below h.2⟩
  · obtain ⟨m, rfl⟩ : ∃ m : Nat, n = m := ⟨n.toNat, by omega⟩
    by_cases hv : v < 0
    · have h2 : 2 ≤ (dl v).length := by
        rw [dl, if_neg (show ¬ v = 0 by omega), if_pos hv, List.length_cons]
        have hp : 0 < (dds v.natAbs).length := List.length_pos_iff.2 (dds_ne (by omega))
        omega
      refine (decimals_neg v at_ c m ⟨⟨dl v⟩⟩ w (hideQ rfl) (by omega) (by omega) (by omega) hv h0 ha0 ha1 hc0 hc1 cD cP cN).mono ?_
      exact fun _ _ h => ⟨h.1, Kept.of_below h.2⟩
    · refine (decimals_in v at_ c m ⟨⟨dl v⟩⟩ w (hideQ rfl) (by omega) (by omega) (by omega) (by omega) h1 ha0 ha1 hc0 hc1 cD cP cN).mono ?_
      exact fun _ _ h => ⟨h.1, Kept.of_below h.2⟩
end Go.Proofs.YtnchamenhpppdaaDoor
