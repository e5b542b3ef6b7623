import Derived.Test.YtkgcafomlhfonaaTku
namespace Go.Proofs.Ytkgcafomlhfonaa.Tk
open Go.ChangeShapes Go.WideShapes Go.ChangeAt Go.RowKit

def sln : Value → Nat
  | .slice _ n _ => n
  | _ => 0
set_option maxRecDepth 20000 in
set_option maxHeartbeats 8000000 in
theorem pages_walk (l : List Ht) (a : Option Addr) (c : Nat) (k : Int) (w : World) (ha : HsAt w a l) (hcap : l.length ≤ c) (hlim : l.length ≤ 8796093021952) : Calls Try.prog 6 #[.slice a l.length c, .int .i64 k] w fun e w' => e = .returned (.bool true) ∧ Kept (fun _ => False) w w' := by
  have HA := hideT ha
  obtain ⟨n, hn⟩ : ∃ n, n = l.length := ⟨_, rfl⟩
  have HN := hideT hn
  rw [← hn] at hlim hcap ⊢
  have FX := hideT (fixed_any w)
  obtain ⟨K1, hK1⟩ : ∃ K1, K1 = (k % 18446744073709551616).toNat % (n + 1) := ⟨_, rfl⟩
  have HK1 := hideT hK1
  have eK : (IntKind.u64.wrap k).tmod ((n : Int) + 1) = (K1 : Int) := by
    have hb : 0 ≤ k % 18446744073709551616 := Int.emod_nonneg _ (by decide)
    rw [IntKind.wrap_u64, Int.tmod_eq_emod_of_nonneg hb, hK1]
    obtain ⟨z, hz⟩ : ∃ z : Nat, k % 18446744073709551616 = z := ⟨(k % 18446744073709551616).toNat, by omega⟩
    rw [hz, Int.toNat_natCast]
    rfl
  have hK1n : K1 ≤ n := by rw [hK1]; have := Nat.mod_lt (k % 18446744073709551616).toNat (show 0 < n + 1 by omega); omega
  clear ha hn hK1
  go_enter Try.func6, Try.ntmps6
  go_upto_region 3 with (go_at_call 9; refine FX.out.mono ?_; rintro e W1 ⟨rfl, q1⟩)
  have Q1 := hideT q1
  clear q1
  go_wp2
  go_loopw [13] (fun s13 wr => ∃ j : Nat, j ≤ n ∧ s13 = .int .i64 j ∧ Hid (∀ i (_ : i < l.length), i < j → cnt (l[i]) (l.drop (i + 1)) = 0) ∧ Hid (Kept (fun _ => False) w wr)) (fun s13 _ => n - (intOf s13).toNat)
  case atStart => exact ⟨0, by omega, by go_num, hideT (fun i _ h => by omega), Q1⟩
  case round =>
    obtain ⟨j, hj, rfl, HC0, HW⟩ := hrel
    by_cases hlt : j < n
    · have hjl : j < l.length := by rw [← HN.out]; exact hlt
      have hji : (j : Int) < (n : Int) := by omega
      obtain ⟨x, hx⟩ : ∃ x, x = l[j] := ⟨_, rfl⟩
      obtain ⟨a6, c6, hs6', hd6⟩ := cut_hits (k := j + 1) HA.out HN.out hcap (by omega)
      obtain ⟨gb, go, rfl, hc⟩ := HA.out (by intro e; rw [e] at hjl; simp at hjl)
      obtain ⟨x0, x1⟩ := hc j hjl
      rw [← hx] at x0 x1
      have x0 := HW.out.cell x0 (fun f => f)
      have x1 := HW.out.cell x1 (fun f => f)
      obtain ⟨n6, hn6⟩ : ∃ n6, n6 = n - (j + 1) := ⟨_, rfl⟩
      rw [← hn6] at hs6'
      have hs6 : ∀ V, (Instr.sliceAt 26 (.slice (some ⟨gb, go, none⟩) n c) (some (.int .i64 ((j : Int) + 1))) none none).run Try.prog V = .ok (.slice a6 n6 c6) V := fun V => by have := hs6' V; rwa [show ((j + 1 : Nat) : Int) = (j : Int) + 1 from rfl] at this
      obtain ⟨b6, hb6⟩ : ∃ b, b = wr.heap.size := ⟨_, rfl⟩
      obtain ⟨V, hV⟩ : ∃ V, V = wr.alloc (.cells #[.int .i64 x.1, .int .u64 x.2] 29) := ⟨_, rfl⟩
      have kV : Kept (fun _ => False) wr V := by rw [hV]; exact Kept.alloc _ _
      have bV : V.heap[b6]? = some (.cells #[.int .i64 x.1, .int .u64 x.2] 29 (0, 0)) := by rw [hV, hb6]; exact heap_alloc_new wr _
      have HX := hideT (And.intro ((cell_of_row _ _ _ _ _ _ bV : V.cell? ⟨b6, 0, none⟩ = _).trans rfl : V.cell? ⟨b6, 0, none⟩ = some (.int .i64 x.1)) ((cell_of_row _ _ _ _ _ _ bV : V.cell? ⟨b6, 1, none⟩ = _).trans rfl : V.cell? ⟨b6, 1, none⟩ = some (.int .u64 x.2)))
      have HKV := hideT (HW.out.trans kV (fun _ f => f.elim))
      have hdl : (l.drop (j + 1)).length = n6 := by rw [List.length_drop, hn6]; have := HN.out; omega
      have CN := hideT (fun W (hW : Gw V W) => count_any (l.drop (j + 1)) x a6 c6 W (hd6.same (HKV.out.trans (gw_kept hW) (fun _ f => f.elim))) (by rw [hdl]; omega))
      rw [hdl] at CN
      have hcl := cnt_le x (l.drop (j + 1))
      rw [hdl] at hcl
      obtain ⟨z, hz⟩ : ∃ z, z = cnt x (l.drop (j + 1)) := ⟨_, rfl⟩
      have HZ := hideT hz
      rw [← hz] at CN hcl
      have HXJ := hideT hx
      have HS6 := hideT hs6
      have hjj : IntKind.i64.wrap ((j : Int) + 1) = (j : Int) + 1 := by simp [IntKind.wrap, IntKind.bits, IntKind.signed]; omega
      clear hs6 hs6' hd6 hdl hz hc hx kV bV hn6
      go_upto_region 6 with fail
      rw [← hV, ← hb6]
      clear hV hb6
      have S0 : Gw V V.drew := (Gw.refl V).drew
      refine wp_region_held (S := fun W' => Gw V W') (by kernel_rfl) ?_
      change wpAnyH _ _ _ _ _ _ _ _ (World.drew _)
      refine wpAnyH_take (i := 0) (v := .slice (some ⟨gb, go, none⟩) n c) rfl (by kernel_rfl) (by kernel_rfl) (by kernel_rfl) (fun _ _ _ h => h) (Or.inl ⟨by kernel_rfl, fun W' hW => ?_⟩) S0 ?_
      · go_simp
      refine wpAnyH_take (i := 1) (v := .int .i64 (j : Nat)) rfl (by kernel_rfl) (by kernel_rfl) (by kernel_rfl) (fun _ _ _ h => h) (Or.inl ⟨by kernel_rfl, fun W' hW => ?_⟩) S0 ?_
      · go_simp
      refine wpAnyH_take (i := 2) (v := .int .i64 ((j : Int) + 1)) rfl (by kernel_rfl) (by kernel_rfl) (by kernel_rfl) (fun _ _ _ h => h) (Or.inl ⟨by kernel_rfl, fun W' hW => ?_⟩) S0 ?_
      · go_simp
      refine wpAnyH_take (i := 3) (v := .slice a6 n6 c6) rfl (by kernel_rfl) (by kernel_rfl) (by kernel_rfl) (fun _ _ _ h => h) (Or.inl ⟨by kernel_rfl, fun W' hW => ?_⟩) S0 ?_
      · have e := HS6.out W'
        go_simp
      refine wpAnyH_take (i := 4) (v := .agg #[.int .i64 x.1, .int .u64 x.2]) rfl (by kernel_rfl) (by kernel_rfl) (by kernel_rfl) (fun _ _ _ h => h) (Or.inl ⟨by kernel_rfl, fun W' hW => ?_⟩) S0 ?_
      · exact load_hit (x := .tmp 6) (b := b6) (off := 0) (y := x) rfl (by go_simp) ((gw_kept hW).cell HX.out.1 (fun f => f)) ((gw_kept hW).cell HX.out.2 (fun f => f))
      refine wpAnyH_all (rs := [5]) (by kernel_rfl) (by simp) ?_
      intro i hi
      obtain rfl : i = 5 := by simpa using hi
      have E5 := hideT (CN.out _ S0)
      unfold wpOp
      go_simp
      first | refine E5.out.mono ?_ | refine Or.inl (E5.out.mono ?_)
      rintro e W5 ⟨rfl, h5⟩
      have h5 := S0.trans h5
      first | refine ⟨h5, ?_⟩ | refine Or.inl ⟨h5, ?_⟩
      refine wpAnyH_all (rs := [6]) (by kernel_rfl) (by simp) ?_
      intro i hi
      obtain rfl : i = 6 := by simpa using hi
      unfold wpOp
      go_simp
      first | (change wpAnyH _ _ _ _ _ _ _ _ _) | (refine Or.inl ?_; change wpAnyH _ _ _ _ _ _ _ _ _) | refine Or.inl ⟨h5, ?_⟩ | refine ⟨h5, ?_⟩
      refine wpAnyH_done (by kernel_rfl) ?_ _
      have HW5 := hideT (HKV.out.trans (gw_kept h5) (fun _ f => f.elim))
      clear h5 S0
      by_cases hz0 : z = 0
      · have hz1 : ¬ (0 : Int) < (z : Int) := by omega
        have HC1 := hideT (show ∀ i (_ : i < l.length), i < j + 1 → cnt (l[i]) (l.drop (i + 1)) = 0 from fun i hi hij => by
          rcases Nat.lt_or_ge i j with h | h
          · exact HC0.out i hi h
          · obtain rfl : i = j := by omega
            rw [← HXJ.out, ← HZ.out, hz0])
        clear hz0
        go_wp2
        go_round
        case rel => exact ⟨j + 1, by omega, by go_num, HC1, HW5⟩
        case measure => simp [intOf]; omega
      · have hz1 : (0 : Int) < (z : Int) := by omega
        go_wp2
        go_ret
        exact ⟨rfl, HW5.out⟩
    · obtain rfl : j = n := by omega
      have HND := hideT (nodup_of (l := l) (fun i hi => HC0.out i hi (by rw [HN.out]; exact hi)))
      obtain ⟨K, hK⟩ : ∃ K, K = K1 + 1 := ⟨_, rfl⟩
      have hKt : (1 + (K1 : Int)).toNat = K := by omega
      have SE := hideT (select_any l a c (1 + (K1 : Int)) wr (HA.out.same HW.out) (by have := HN.out; omega))
      unfold Ans at SE
      rw [hKt, page_zero, ← HN.out] at SE
      have AF := hideT (fun (x : Ht) W (hW : Kept (fun _ => False) w W) => after_any l x a c (1 + (K1 : Int)) W (HA.out.same hW) (by have := HN.out; omega))
      unfold Ans at AF
      rw [hKt, ← HN.out] at AF
      have HKE := hideT hK
      clear hKt hK hK1n
      have hK1n : K1 ≤ j := by rw [HK1.out]; have := Nat.mod_lt (k % 18446744073709551616).toNat (show 0 < j + 1 by omega); omega
      go_upto_region 12 with (go_at_call 15; refine SE.out.mono ?_; rintro e W2 ⟨a2, c2, rfl, r2, k2⟩)
      obtain ⟨m0, hm0⟩ : ∃ m0, m0 = (page K l 0).length := ⟨_, rfl⟩
      rw [← hm0]
      have HM0 := hideT hm0
      rw [← hm0] at r2
      have HP0 := hideT r2.hs
      have HW2 := hideT (HW.out.trans k2 (fun _ f => f.elim))
      clear r2 k2 hm0
      go_loopw [7, 8] (fun s7 s8 wr => ∃ (p m : Nat) (a7 a8 : Option Addr) (c7 c8 : Nat), p ≤ j ∧ s7 = .slice a7 p c7 ∧ s8 = .slice a8 m c8 ∧ Hid (m = (page K l p).length) ∧ Hid (RowH w.heap.size wr (.slice a7 p c7) ((srt l).take p)) ∧ Hid (HsAt wr a8 (page K l p)) ∧ Hid (∀ b off, a8 = some ⟨b, off, none⟩ → (Value.slice a7 p c7).ownBlock ≠ some b) ∧ Hid (Kept (fun _ => False) w wr)) (fun s7 _ _ => j - sln s7)
      case atStart => exact ⟨0, m0, none, a2, 0, c2, by omega, rfl, rfl, HM0, hideT ⟨rfl, .inl ⟨rfl, rfl⟩⟩, HP0, hideT (fun _ _ _ e => by cases e), HW2⟩
      case round =>
        obtain ⟨p, m, a7, a8, c7, c8, hp, rfl, rfl, HM, HRA, HPG, HFAR, HW3⟩ := hrel
        have hpl := page_len K l p
        rw [← HM.out, ← HN.out] at hpl
        by_cases hlt : p < j
        · have hm0 : 0 < m := by have := HKE.out; omega
          have hmI : (0 : Int) < (m : Int) := by omega
          have hpI : (p : Int) ≤ (j : Int) := by omega
          have hmK : ¬ (1 : Int) + (K1 : Int) < (m : Int) := by have := HKE.out; omega
          have hsum : (m : Int) < 1 + (K1 : Int) → (p : Int) + (m : Int) = (j : Int) := by have := HKE.out; omega
          have hpm : p + m ≤ j := by omega
          obtain ⟨x, hx⟩ : ∃ x, (page K l p)[m - 1]? = some x := by rw [List.getElem?_eq_getElem (by rw [← HM.out]; omega)]; exact ⟨_, rfl⟩
          have HNX := hideT (page_next HND.out (show 0 < K by have := HKE.out; omega) (show p < l.length by rw [← HN.out]; exact hlt) x (by rw [← HM.out]; exact hx))
          rw [← HM.out] at HNX
          have hne : page K l p ≠ [] := by intro e; have := HM.out; rw [e] at this; simp at this; omega
          obtain ⟨b8, o8, rfl, hc8⟩ := HPG.out hne
          have hm1 : m - 1 < (page K l p).length := by rw [← HM.out]; omega
          obtain ⟨x0, x1⟩ := hc8 (m - 1) hm1
          rw [show (page K l p)[m - 1] = x by rw [List.getElem?_eq_getElem hm1] at hx; exact Option.some.inj hx] at x0 x1
          obtain ⟨q, hq⟩ : ∃ q, q = m - 1 := ⟨_, rfl⟩
          rw [← hq] at x0 x1
          have HX := hideT (And.intro x0 x1)
          have HLIM := hideT (show ((srt l).take p).length + m ≤ 8796093022208 by rw [List.length_take, srt_len, ← HN.out]; omega)
          have HBW := hideT HW3.out.size
          have hpt : ((srt l).take p).length = p := by rw [List.length_take, srt_len, ← HN.out]; omega
          have HCAT : Hid (∀ (ops : Array Oper) (rest : List Oper) (o : Oper) (act : Act) (Q : Exit → Act → World → Prop) (_ : o.guard = none) (s x : Operand) (_ : o.op = .call { callee := .builtin .append, args := #[s, x], argTypes := #[26, 26] }) (_ : act.eval s = .slice a7 p c7) (_ : act.eval x = .slice (some ⟨b8, o8, none⟩) m c8)
              (_ : ∀ g c' W', Hid (RowH w.heap.size W' (.slice (some ⟨g, 0, none⟩) (p + m) c') ((srt l).take (p + m))) → Hid (HsAt W' (some ⟨b8, o8, none⟩) (page K l p)) → Hid (Kept (fun _ => False) w W') → wpList Try.prog ops Q rest (act.put o.dst (.slice (some ⟨g, 0, none⟩) (p + m) c')) W'), wpList Try.prog ops Q (o :: rest) act wr) := hideT (by
            intro ops rest o act Q hgd s x ho hs hx h
            refine wpList_catT hgd s x ho _ _ _ hs HRA _ m c8 hx HPG HM hm0 HBW HLIM ?_
            intro g c' W' hR hK hg
            rw [hpt] at hR ⊢
            refine h g c' W' (hideT (by have := hR.out; rwa [page_app K l p, ← HM.out] at this)) (hideT (HPG.out.kept hK.out (fun b off e => HFAR.out b off e))) (hideT (HW3.out.trans hK.out (fun i hi => .inr (World.ownsRow.lt HRA.out i hi).1))))
          have HPL := hideT hpl
          have HAT := hideT (show ∀ W', HsAt W' (some ⟨b8, o8, none⟩) (page K l p) → W'.cell? ⟨b8, o8 + q * 2, none⟩ = some (.int .i64 x.1) ∧ W'.cell? ⟨b8, o8 + q * 2 + 1, none⟩ = some (.int .u64 x.2) from fun W' hW' => by
            obtain ⟨b, o, e, hcc⟩ := hW' hne
            simp only [Option.some.injEq, Addr.mk.injEq, and_true] at e
            obtain ⟨rfl, rfl⟩ := e
            have := hcc (m - 1) hm1
            rw [show (page K l p)[m - 1] = x by rw [List.getElem?_eq_getElem hm1] at hx; exact Option.some.inj hx, ← hq] at this
            exact this)
          have eq1 : (m : Int) - 1 = (q : Int) := by omega
          have hqm : (q : Int) < (m : Int) := by omega
          have hqb : q ≤ 8796093021952 := by omega
          clear hpl hc8 x0 x1 hx hne hpt hm1 hq
          by_cases hmk : (m : Int) < 1 + (K1 : Int)
          · have hs := hsum hmk
            clear hsum
            go_upto_region 15 with fail
            go_upto_region 16 with (refine HCAT.out _ _ _ _ _ rfl _ _ rfl rfl rfl ?_; intro g c' W' hR2 hP2 hW4)
            obtain ⟨z0, z1⟩ := HAT.out W' hP2.out
            have A1 := hideT (AF.out x W' hW4.out)
            rw [HNX.out] at A1
            obtain ⟨m9, hm9⟩ : ∃ m9, m9 = (page K l (p + m)).length := ⟨_, rfl⟩
            rw [← hm9] at A1
            have HM9 := hideT hm9
            clear hm9
            go_wp2_with (go_at_call 17; refine A1.out.mono ?_; rintro e W9 ⟨a9, c9, rfl, r9, k9⟩)
            have HP9 := hideT r9.hs
            have HR9 := hideT (show RowH w.heap.size W9 (.slice (some ⟨g, 0, none⟩) (p + m) c') ((srt l).take (p + m)) from hR2.out.same k9 (fun _ _ f => f))
            have HF9 := hideT (show ∀ b off, a9 = some ⟨b, off, none⟩ → (Value.slice (some ⟨g, 0, none⟩) (p + m) c').ownBlock ≠ some b from fun b off e hg => by
              have h1 := (World.ownsRow.lt hR2.out b hg).2
              rw [e] at r9
              have h2 := World.ownsRow.lt r9 b rfl
              omega)
            have HW9 := hideT (hW4.out.trans k9 (fun _ f => f.elim))
            clear r9 k9 z0 z1
            go_wp2
            go_round
            case rel => exact ⟨p + m, m9, some ⟨g, 0, none⟩, a9, c', c9, hpm, rfl, rfl, HM9, HR9, HP9, HF9, HW9⟩
            case measure => simp [sln]; omega
          · clear hsum
            go_upto_region 15 with fail
            go_upto_region 16 with (refine HCAT.out _ _ _ _ _ rfl _ _ rfl rfl rfl ?_; intro g c' W' hR2 hP2 hW4)
            obtain ⟨z0, z1⟩ := HAT.out W' hP2.out
            have A1 := hideT (AF.out x W' hW4.out)
            rw [HNX.out] at A1
            obtain ⟨m9, hm9⟩ : ∃ m9, m9 = (page K l (p + m)).length := ⟨_, rfl⟩
            rw [← hm9] at A1
            have HM9 := hideT hm9
            clear hm9
            go_wp2_with (go_at_call 17; refine A1.out.mono ?_; rintro e W9 ⟨a9, c9, rfl, r9, k9⟩)
            have HP9 := hideT r9.hs
            have HR9 := hideT (show RowH w.heap.size W9 (.slice (some ⟨g, 0, none⟩) (p + m) c') ((srt l).take (p + m)) from hR2.out.same k9 (fun _ _ f => f))
            have HF9 := hideT (show ∀ b off, a9 = some ⟨b, off, none⟩ → (Value.slice (some ⟨g, 0, none⟩) (p + m) c').ownBlock ≠ some b from fun b off e hg => by
              have h1 := (World.ownsRow.lt hR2.out b hg).2
              rw [e] at r9
              have h2 := World.ownsRow.lt r9 b rfl
              omega)
            have HW9 := hideT (hW4.out.trans k9 (fun _ f => f.elim))
            clear r9 k9 z0 z1
            go_wp2
            go_round
            case rel => exact ⟨p + m, m9, some ⟨g, 0, none⟩, a9, c', c9, hpm, rfl, rfl, HM9, HR9, HP9, HF9, HW9⟩
            case measure => simp [sln]; omega
        · obtain rfl : p = j := by omega
          have hmz : m = 0 := by omega
          subst hmz
          have hS : (srt l).take p = srt l := List.take_of_length_le (by rw [srt_len, HN.out]; exact Nat.le_refl _)
          have hSl : (srt l).length = p := by rw [srt_len]; exact HN.out.symm
          rw [hS] at HRA
          have SO := hideT (fun W (hW : Kept (fun _ => False) wr W) => sorted_any (srt l) a7 c7 W (HRA.out.hs.same hW) (srt_srt l) (by omega))
          have EQ := hideT (fun W b d (hW : Kept (fun _ => False) wr W) (hb : HsAt W b (srt l)) => equal_same (srt l) a7 b c7 d W (HRA.out.hs.same hW) hb (by omega))
          have SL := hideT (fun W (hW : Kept (fun _ => False) wr W) => select_any l a c (p : Int) W (HA.out.same (HW3.out.trans hW (fun _ f => f.elim))) (by have := HN.out; omega))
          unfold Ans at SL
          have hbl : best (p : Int).toNat l = srt l := by unfold best; rw [Int.toNat_natCast]; exact hS
          rw [hbl, hSl, ← HN.out] at SL
          rw [hSl] at SO EQ
          clear hS hSl hbl hpl
          go_wp2_with (first
            | (go_at_call 24; refine (SO.out _ (Kept.refl _ _)).mono ?_; rintro e W6 ⟨rfl, k6⟩)
            | (go_at_call 15; refine (SL.out W6 k6).mono ?_; rintro e W7 ⟨a9, c9, rfl, r9, k7⟩)
            | (go_at_call 12; refine (EQ.out W7 a9 c9 (k6.trans k7 (fun _ f => f.elim)) (by have := r9.hs; exact this)).mono ?_; rintro e W8 ⟨rfl, k8⟩))
          go_ret
          exact ⟨rfl, HW3.out.trans (k6.trans (k7.trans k8 (fun _ f => f.elim)) (fun _ f => f.elim)) (fun _ f => f.elim)⟩
end Go.Proofs.Ytkgcafomlhfonaa.Tk
