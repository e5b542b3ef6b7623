import Derived.Test.YtbhoplmbiomogaaDoorRfm2
import Derived.Deep.LoopGhost
namespace Go.Proofs.YtbhoplmbiomogaaDoor
open Go.ChangeShapes Go.WideShapes Go.ChangeAt Go.RowKit

theorem Tryd.infoF : (Tryd.prog.info? 46).map (fun i => (i.zero, i.size, i.bytes)) = some (some (.agg #[.string ⟨#[]⟩, .int .i64 0, .bool false, .bool false, .bool false]), 5, 32) := by kernel_rfl
/-- The cells of a list of fields. -/
def fcells (F : List Fd) : List Value := (F.map Fd.cells).flatten
theorem fcells_snoc (F : List Fd) (f : Fd) : fcells (F ++ [f]) = fcells F ++ f.cells := by simp [fcells]
def slLen : Value → Nat
  | .slice _ n _ => n
  | _ => 0
theorem five_new (w : World) (f : Fd) (t : TypeId) : ∀ (j : Nat) (u : Value), f.cells[j]? = some u → (w.alloc (.cells #[.string f.n, .int .i64 f.k, .bool f.fo, .bool f.st, .bool f.se] t)).cell? ((⟨w.heap.size, 0, none⟩ : Addr).add j) = some u := by
  intro j u hj
  have h5 : j < 5 := by
    have := (List.getElem?_eq_some_iff.1 hj).1
    exact this
  have hk : j = 0 ∨ j = 1 ∨ j = 2 ∨ j = 3 ∨ j = 4 := by omega
  rcases hk with rfl | rfl | rfl | rfl | rfl <;> (simp [Fd.cells] at hj; subst hj; simp [Addr.add])
theorem five_one (f : Fd) : ∀ u ∈ f.cells, u.oneCell' = true := by
  intro u hu
  simp [Fd.cells] at hu
  rcases hu with rfl | rfl | rfl | rfl | rfl <;> rfl
/-- The fields read so far, in their own memory. -/
structure Own5 (w0 w : World) (v : Value) (F : List Fd) : Prop where
  own : w.ownsRow w0.heap.size 46 5 v F.length (fcells F)
  kept : Kept (fun _ => False) w0 w
  shape : ∃ a c, v = .slice a F.length c
theorem Own5.start (w : World) : Own5 w w (.slice none 0 0) [] := ⟨World.ownsRow_nil _ _ _ _, Kept.refl _ _, none, 0, rfl⟩
theorem Own5.later {w0 w w' : World} {v : Value} {F : List Fd} (h : Own5 w0 w v F) (k : Kept (fun _ => False) w w') : Own5 w0 w' v F :=
  ⟨k.row h.own (fun _ _ f => f), h.kept.trans k (fun _ f => f.elim), h.shape⟩
theorem Own5.added {w0 w w' : World} {v v' : Value} {F : List Fd} {f : Fd} {o : Obj} (h : Own5 w0 w v F) (ho : w'.ownsRow w0.heap.size 46 5 v' (F.length + 1) (fcells F ++ f.cells)) (hg : (w.alloc o).grownBy w' v.ownBlock) : Own5 w0 w' v' (F ++ [f]) := by
  refine ⟨by rw [List.length_append, fcells_snoc]; exact ho, ?_, ?_⟩
  · refine (h.kept.trans (Kept.alloc w o) (fun _ f => f.elim)).trans (Kept.grown hg) (fun i hi => .inr ?_)
    exact (h.own.lt i hi).1
  · rcases ho.2 with ⟨rfl, e⟩ | ⟨g, cap, cur, rfl, _⟩
    · omega
    · exact ⟨_, _, by rw [List.length_append]; rfl⟩
theorem ext_l (L : ByteArray) (a b : Nat) : (L.extract a b).data.toList = (L.data.toList.take b).drop a := by
  rw [ByteArray.data_extract, Array.toList_extract, List.extract_eq_take_drop, List.drop_take]
theorem rkR_le (l : List UInt8) : (rkR l).length ≤ l.length := by
  unfold rkR
  split
  · rw [List.length_drop]; omega
  · split
    · rw [List.length_drop]; omega
    · split
      · rw [List.length_drop]; omega
      · simp
theorem head_at (P : ByteArray) (h : 0 < P.size) : ∃ r, P.data.toList = P[0] :: r := by
  obtain ⟨⟨l⟩⟩ := P
  match l, h with
  | c :: r, _ => exact ⟨r, rfl⟩
theorem own_shape {w : World} {b e z n : Nat} {u : Value} {xs : List Value} (h : w.ownsRow b e z u n xs) : ∃ a c, u = .slice a n c := by
  obtain ⟨_, ⟨rfl, rfl⟩ | ⟨g, cap, cur, rfl, _⟩⟩ := h
  · exact ⟨_, _, rfl⟩
  · exact ⟨_, _, rfl⟩

set_option maxRecDepth 20000 in
set_option maxHeartbeats 2000000 in
theorem readFields_any (s : ByteArray) (w : World) (hs : s.size ≤ 281474976710656) (hW : Words w) :
    Calls Tryd.prog 37 #[.string s] w fun e w' => (rout 16 s.data.toList = none ∧ e = .returned (.tuple #[.slice none 0 0, .bool false]) ∧ Kept (fun _ => False) w w') ∨
      ∃ F v, rout 16 s.data.toList = some F ∧ e = .returned (.tuple #[v, .bool true]) ∧ Own5 w w' v F := by
  obtain ⟨i0, hi, hz0, hz1, hz2⟩ := info_parts Tryd.infoF
  have HW := hideW hW
  clear hW
  go_enter Tryd.func37, Tryd.ntmps37
  go_wp2
  go_step3
  go_wp2
  go_step3
  go_wp2
  go_loopg [4, 5] 16 (fun g f r wx => ∃ (F : List Fd) (R : ByteArray), F.length + g = 16 ∧ r = .string R ∧ R.size ≤ 281474976710656 ∧ Hid (Own5 w wx f F) ∧ Hid (Rst s.data.toList F R.data.toList))
  case atStart => exact ⟨[], s, by simp, rfl, hs, hideW (Own5.start w), hideW (Rst.start _)⟩
  case round =>
    obtain ⟨F, R, hF, rfl, hR, hO, hT⟩ := hrel
    obtain ⟨fa, fc, rfl⟩ := hO.out.shape
    cases gk with
    | zero =>
      have hz : ¬ ((F.length : Int) < 16) := by omega
      have HX := hideW (hT.out.none (by rw [show 16 - F.length = 0 by omega]; rfl))
      have KX := hideW hO.out.kept
      go_wp2
      try rw [Exit.noGoto_ret]
      go_ret2
      exact .inl ⟨HX.out, rfl, KX.out⟩
    | succ g =>
      have hz : (F.length : Int) < 16 := by omega
      have hnn : 16 - F.length = g + 1 := by omega
      cases hci : ci R.data.toList with
      | none =>
        have HX := hideW (hT.out.none (by rw [hnn]; exact rout_nocolon hci))
        have HC := hideW (cut_no R wr (index_none hci))
        clear hnn hci
        go_wp2_with (go_at_call 50; refine HC.out.mono ?_; rintro e W1 ⟨rfl, hk1⟩)
        have KX := hideW (hO.out.kept.trans hk1 (fun _ f => f.elim))
        try rw [Exit.noGoto_ret]
        go_ret2
        exact .inl ⟨HX.out, rfl, KX.out⟩
      | some i =>
        obtain ⟨hix, hil⟩ := index_some hci
        have hil : i < R.size := by rw [Array.length_toList] at hil; exact hil
        have HC := hideW (cut_yes R i wr (by unfold maxLen; omega) hix hil)
        obtain ⟨N, hN⟩ : ∃ N, R.extract 0 i = N := ⟨_, rfl⟩
        obtain ⟨P0, hP0⟩ : ∃ P0, R.extract (i + 1) R.size = P0 := ⟨_, rfl⟩
        have hNl : N = bstr (R.data.toList.take i) := bytes_inj (by rw [← hN, ext_l, List.drop_zero]; rfl)
        have hPl : P0.data.toList = R.data.toList.drop (i + 1) := by rw [← hP0, ext_l, List.take_of_length_le (by rw [Array.length_toList]; exact Nat.le_refl _)]
        have hNs : N.size ≤ 281474976710656 := by rw [← hN, ByteArray.size_extract]; omega
        have hPs : P0.size ≤ 281474976710656 := by rw [← hP0, ByteArray.size_extract]; omega
        rw [hN, hP0] at HC
        have HNl := hideW hNl
        have HPl := hideW hPl
        have HCI := hideW hci
        have HNN := hideW hnn
        clear hix hil hN hP0 hNl hPl hci hnn
        cases hkn : rkN P0.data.toList with
        | zero =>
          have HX := hideW (hT.out.none (by rw [HNN.out]; exact rout_nokind HCI.out (by rw [← HPl.out]; exact hkn)))
          go_wp2_with (first
            | (go_at_call 50; refine HC.out.mono ?_; rintro e W1 ⟨rfl, hk1⟩)
            | (go_at_call 51; refine (rkind_any P0 _ ((HW.out.kept hO.out.kept).kept hk1)).mono ?_; rw [hkn]; rintro e W2 ⟨rfl, e2⟩; subst e2))
          have KX := hideW (hO.out.kept.trans hk1 (fun _ f => f.elim))
          try rw [Exit.noGoto_ret]
          go_ret2
          exact .inl ⟨HX.out, rfl, KX.out⟩
        | succ b0 =>
          have hb1 : ((b0 + 1 : Nat) : Int) = (b0 : Int) + 1 := by omega
          have hbk : b0 + 1 < 4 := by rw [← hkn]; exact rk_lt _
          have hk0 : ¬ ((b0 + 1 : Nat) : Int) = 0 := by omega
          have hRs := rkR_le P0.data.toList
          obtain ⟨P1, hP1⟩ : ∃ P1, bstr (rkR P0.data.toList) = P1 := ⟨_, rfl⟩
          have hP1l : P1.data.toList = rkR P0.data.toList := by rw [← hP1]; rfl
          have hP1s : P1.size ≤ P0.size := by rw [← hP1, bstr_size]; rw [Array.length_toList] at hRs; exact hRs
          have HK0 := hideW (show rkN (R.data.toList.drop (i + 1)) ≠ 0 by rw [← HPl.out, hkn]; omega)
          have HR0 := hideW (show rin (rkN (R.data.toList.drop (i + 1))) (rkR (R.data.toList.drop (i + 1))) = rin (b0 + 1) P1.data.toList by rw [← HPl.out, hkn, hP1l])
          have HCK := hideW (show ∀ W, Words W → Calls Tryd.prog 51 #[.string P0] W fun e w' => e = .returned (.tuple #[.int .u8 ((b0 + 1 : Nat) : Int), .string P1]) ∧ w' = W by
            intro W hw
            have := rkind_any P0 W hw
            rwa [hkn, hP1] at this)
          clear hkn hRs hP1 hP1l hb1
          go_wp2_with (first
            | (go_at_call 50; refine HC.out.mono ?_; rintro e W1 ⟨rfl, hk1⟩)
            | (go_at_call 51; refine (HCK.out _ ((HW.out.kept hO.out.kept).kept hk1)).mono ?_; rintro e W2 ⟨rfl, e2⟩; subst e2))
          have HO2 := hideW (hO.out.later hk1)
          have HW2 := hideW ((HW.out.kept hO.out.kept).kept hk1)
          go_loopg [4, 7, 9] P1.size (fun g2 s4 s7 s9 wy => ∃ (b : Nat) (P : ByteArray), P.size ≤ g2 ∧ s4 = .slice fa F.length fc ∧ s7 = .string P ∧ s9 = .int .u8 b ∧ b < 32 ∧ P.size ≤ 281474976710656 ∧ Hid (rin b P.data.toList = rin (b0 + 1) P1.data.toList) ∧ W2 = wy)
          case atStart => exact ⟨b0 + 1, P1, Nat.le_refl _, rfl, rfl, by go_num, by omega, by omega, rfl, rfl⟩
          case round =>
            obtain ⟨b, P, hPg, rfl, rfl, rfl, hb, hPz, HI, rfl⟩ := hrel
            by_cases hp0 : P.size = 0
            · have hE : P.toList.isEmpty = true := by rw [empty_of]; exact decide_eq_true hp0
              have HX : Hid (rout 16 s.data.toList = some (F ++ [fdOf N b])) := hideW (by
                refine hT.out.last ?_
                rw [HNN.out, HNl.out]
                refine rout_last HCI.out HK0.out ?_
                rw [HR0.out, ← HI.out, List.eq_nil_of_length_eq_zero (l := P.data.toList) (by rw [Array.length_toList]; exact hp0), rin_nil])
              go_wp2_with (first
                | (go_at_call 52; refine (clone_any N _ hNs).mono ?_; rintro e W3 ⟨rfl, hk3⟩)
                | (go_at_call 43; refine (fieldOf_any N b _ (by omega)).mono ?_; rintro e W4 ⟨rfl, hk4⟩; have HO4 := hideW ((HO2.out.later hk3).later hk4))
                | (at_builtin; refine wpList_append_own _ rfl _ _ 22 rfl w.heap.size 46 i0 (.agg #[.string ⟨#[]⟩, .int .i64 0, .bool false, .bool false, .bool false]) 5 32 Tryd.underlying22 hi hz0 hz1 hz2 rfl (by decide) _ _ _ rfl (HO4.out.own.alloc _) ⟨W4.heap.size, 0, none⟩ 1 1 (fdOf N b).cells rfl rfl (five_new _ _ _) (five_one _) ?da1 ?da2 ?da3 ?_))
              case da1 => unfold maxLen; omega
              case da2 => omega
              case da3 => have := HO4.out.kept.size; simp; omega
              intro v' W5 hown5 hgrow5 hnil5
              have HO5 := hideW (HO4.out.added hown5 hgrow5)
              clear hown5 hgrow5 hnil5
              go_wp2
              try rw [Exit.noGoto_ret]
              go_ret2
              exact .inr ⟨_, v', HX.out, rfl, HO5.out⟩
            · have hp1 : 0 < P.size := by omega
              have hE : P.toList.isEmpty = false := by rw [empty_of]; exact decide_eq_false hp0
              obtain ⟨r, hr⟩ := head_at P hp1
              by_cases h59 : P[0].toNat = 59
              · have h59' : ((P[0].toNat : Nat) : Int) = 59 := by omega
                obtain ⟨Q, hQ⟩ : ∃ Q, P.extract 1 P.size = Q := ⟨_, rfl⟩
                have hQl : Q.data.toList = r := by rw [← hQ, ext_l, List.take_of_length_le (by rw [Array.length_toList]; exact Nat.le_refl _), hr]; rfl
                have hQs : Q.size ≤ 281474976710656 := by rw [← hQ, ByteArray.size_extract]; omega
                have HX : Hid (Rst s.data.toList (F ++ [fdOf N b]) Q.data.toList) := hideW (by
                  refine hT.out.more HNN.out ?_
                  rw [HNl.out]
                  refine rout_more HCI.out HK0.out ?_
                  rw [HR0.out, ← HI.out, hr, rin_end h59, hQl])
                clear hr hQl h59
                go_wp2_with (first
                  | (go_at_call 52; refine (clone_any N _ hNs).mono ?_; rintro e W3 ⟨rfl, hk3⟩)
                  | (go_at_call 43; refine (fieldOf_any N b _ (by omega)).mono ?_; rintro e W4 ⟨rfl, hk4⟩; have HO4 := hideW ((HO2.out.later hk3).later hk4))
                  | (at_builtin; refine wpList_append_own _ rfl _ _ 22 rfl w.heap.size 46 i0 (.agg #[.string ⟨#[]⟩, .int .i64 0, .bool false, .bool false, .bool false]) 5 32 Tryd.underlying22 hi hz0 hz1 hz2 rfl (by decide) _ _ _ rfl (HO4.out.own.alloc _) ⟨W4.heap.size, 0, none⟩ 1 1 (fdOf N b).cells rfl rfl (five_new _ _ _) (five_one _) ?db1 ?db2 ?db3 ?_))
                case db1 => unfold maxLen; omega
                case db2 => omega
                case db3 => have := HO4.out.kept.size; simp; omega
                intro v' W5 hown5 hgrow5 hnil5
                have HO5 := hideW (HO4.out.added hown5 hgrow5)
                clear hown5 hgrow5 hnil5
                go_wp2
                go_roundg g
                case measure => omega
                case rel => exact ⟨F ++ [fdOf N b], Q, by rw [List.length_append]; simp; omega, rfl, hQs, HO5, HX⟩
              · have h59' : ¬ ((P[0].toNat : Nat) : Int) = 59 := by omega
                have HRM := hideW (rmark_any P b W2 HW2.out (by omega))
                rcases rm_cases P.data.toList b with ⟨k0, k1⟩ | hk
                · have HX := hideW (hT.out.none (by
                    rw [HNN.out]
                    refine rout_bad HCI.out HK0.out ?_
                    rw [HR0.out, ← HI.out, hr, rin_bad h59 (by rw [← hr]; exact k0)]))
                  have KX := hideW HO2.out.kept
                  rw [k0, k1] at HRM
                  clear hr h59 k0 k1
                  go_wp2_with (go_at_call 53; refine HRM.out.mono ?_; clear HRM; rintro e W3 ⟨rfl, e3⟩; subst e3)
                  try rw [Exit.noGoto_ret]
                  go_ret2
                  exact .inl ⟨HX.out, rfl, KX.out⟩
                · have hk2 : ∃ K : Nat, rmN P.data.toList b = K ∧ K ≠ 0 ∧ b + K < 32 ∧ rmR P.data.toList b = P.data.toList.drop 5 ∧ bits .or .u8 (b : Int) (K : Int) = ((b + K : Nat) : Int) := by
                    rcases hk with ⟨q1, q2, q3⟩ | ⟨q1, q2, q3⟩ | ⟨q1, q2, q3⟩
                    · exact ⟨4, q1, by omega, by omega, q3, or_bit b 4 (.inl ⟨rfl, q2⟩)⟩
                    · exact ⟨8, q1, by omega, by omega, q3, or_bit b 8 (.inr (.inl ⟨rfl, q2⟩))⟩
                    · exact ⟨16, q1, by omega, by omega, q3, or_bit b 16 (.inr (.inr ⟨rfl, q2⟩))⟩
                  obtain ⟨K, q1, q2, q3, q4, hor⟩ := hk2
                  have q2' : ¬ (K : Int) = 0 := by omega
                  obtain ⟨Q, hQ⟩ : ∃ Q, bstr (P.data.toList.drop 5) = Q := ⟨_, rfl⟩
                  have hQl : Q.data.toList = P.data.toList.drop 5 := by rw [← hQ]; rfl
                  have hQs : Q.size = P.size - 5 := by rw [← hQ, bstr_size, List.length_drop, Array.length_toList]; rfl
                  have HX : Hid (rin (b + K) Q.data.toList = rin (b0 + 1) P1.data.toList) := hideW (by
                    rw [← HI.out, hQl, hr, rin_go h59 (by rw [← hr, q1]; exact q2), ← hr, q1])
                  rw [q1, q4, hQ] at HRM
                  have hQz : Q.size < P.size := by omega
                  clear hr h59 hk q1 q4 hQ hQl hQs
                  go_wp2_with (go_at_call 53; refine HRM.out.mono ?_; clear HRM; rintro e W3 ⟨rfl, e3⟩; subst e3)
                  go_roundg Q.size
                  case measure => omega
                  case rel => exact ⟨b + K, Q, Nat.le_refl _, rfl, rfl, by go_num, q3, by omega, HX, rfl⟩
end Go.Proofs.YtbhoplmbiomogaaDoor
