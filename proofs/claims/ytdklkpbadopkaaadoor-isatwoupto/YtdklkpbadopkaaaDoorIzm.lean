import Derived.Test.YtdklkpbadopkaaaDoorIzl
namespace Go.Proofs.YtdklkpbadopkaaaDoor
open Go.ChangeShapes Go.WideShapes Go.ChangeAt Go.RowKit

/-- A pair of a phrase, its line. -/
def prB (c o : Nat) : List UInt8 := nuB c ++ [43] ++ Lib.decDigits o
def nrB (sl : Nat) (cs os : List Nat) : List UInt8 := [110, 101, 97, 114] ++ nuB sl ++ (List.zipWith prB cs os).flatten ++ [10]
theorem prB_len {c o : Nat} (hc : c < 18446744073709551616) (ho : o < 18446744073709551616) : (prB c o).length ≤ 42 := by
  have h1 := nuB_len hc
  have h2 := nDig_le ho
  simp only [prB, List.length_append, List.length_cons, List.length_nil]
  omega
theorem pr_snoc {cs os : List Nat} {j : Nat} (h1 : j < cs.length) (h2 : j < os.length) : ((List.zipWith prB cs os).take (j + 1)).flatten = ((List.zipWith prB cs os).take j).flatten ++ prB cs[j] os[j] := by
  rw [List.take_succ_eq_append_getElem (by rw [List.length_zipWith]; omega), List.flatten_append, List.getElem_zipWith]; simp
theorem prs_len : ∀ (cs os : List Nat) (j : Nat), (∀ x ∈ cs, x < 18446744073709551616) → (∀ x ∈ os, x < 18446744073709551616) → ((List.zipWith prB cs os).take j).flatten.length ≤ 42 * j
  | [], os, j, _, _ => by simp
  | c :: cs, [], j, _, _ => by simp
  | c :: cs, o :: os, 0, _, _ => by simp
  | c :: cs, o :: os, j + 1, h1, h2 => by
    have a1 := prB_len (h1 c List.mem_cons_self) (h2 o List.mem_cons_self)
    have a2 := prs_len cs os j (fun x hx => h1 x (List.mem_cons_of_mem _ hx)) (fun x hx => h2 x (List.mem_cons_of_mem _ hx))
    simp only [List.zipWith_cons_cons, List.take_succ_cons, List.flatten_cons, List.length_append]
    omega
theorem itoa_any (u : Nat) (hu : u ≤ 9223372036854775807) (w : World) (hT : Pw w) :
    Calls Tryd.prog 45 #[.int .i64 (u : Int)] w fun e w' => e = .returned (.string ⟨(Lib.decDigits u).toArray⟩) ∧ Kept (fun _ => False) w w' := by
  refine (Tryd.strconv_Itoa (u : Int) (by omega) (by omega) w hT).mono ?_
  rintro e w' ⟨rfl, k, os, rfl⟩
  rw [Lib.itoa_nonneg]
  exact ⟨rfl, Kept.grow0 w os k⟩
set_option maxRecDepth 20000 in
set_option maxHeartbeats 4000000 in
theorem near_any {w : World} {b : Nat} {p v : Value} {l : List UInt8} (sl : Nat) (cs os : List Nat) (a1 a2 : Option Addr) (c1 c2 : Nat) (hsl : sl ≤ 9223372036854775807) (hlen : os.length = cs.length) (hI1 : IntsAt w a1 (nzI cs)) (hI2 : IntsAt w a2 (nzI os)) (hN1 : ∀ x ∈ cs, x ≤ 9223372036854775807) (hN2 : ∀ x ∈ os, x ≤ 9223372036854775807) (hb1 : cs ≠ [] → ∀ q, a1 = some q → q.block < b) (hb2 : os ≠ [] → ∀ q, a2 = some q → q.block < b) (h : Bw w b p v l) (hl : l.length + 42 * cs.length + 80 ≤ 140737488355328) (hP : Pw w) (hg : 26 < b) :
    Calls Tryd.prog 18 #[.pointer (some ⟨b, 0, none⟩), .agg #[.slice a1 cs.length c1, .slice a2 cs.length c2, .int .i64 sl]] w fun e w' => e = .returned (.tuple #[]) ∧ ∃ p' v', Bw w' b p' v' (l ++ nrB sl cs os) ∧ Kept (BG w b) w w' := by
  have HNR := hideI (show nrB sl cs os = [110, 101, 97, 114] ++ nuB sl ++ (List.zipWith prB cs os).flatten ++ [10] from rfl)
  have HL0 : Hid (∀ j, j ≤ cs.length → ((l ++ [110, 101, 97, 114] ++ nuB sl) ++ ((List.zipWith prB cs os).take j).flatten).length + 50 ≤ l.length + 42 * j + 80) := hideI (fun j _ => by
    have h1 := prs_len cs os j (fun x hx => by have := hN1 x hx; omega) (fun x hx => by have := hN2 x hx; omega)
    have h3 : (nuB sl).length ≤ 21 := nuB_len (by omega)
    simp only [List.length_append, List.length_cons, List.length_nil] at *
    omega)
  have HZL : Hid ((List.zipWith prB cs os).length = cs.length) := hideI (by rw [List.length_zipWith]; omega)
  have HLO := hideI hlen
  have HI1 := hideI hI1
  have HI2 := hideI hI2
  have HN1 := hideI hN1
  have HN2 := hideI hN2
  have HD1 := hideI hb1
  have HD2 := hideI hb2
  obtain ⟨n, hn⟩ : ∃ n, n = cs.length := ⟨_, rfl⟩
  rw [← hn] at hl ⊢
  have HNL := hideI hn
  have hws : IntKind.u64.wrap (sl : Int) = sl := by rw [IntKind.wrap_u64]; omega
  have KA := Kept.alloc w (.cells #[.slice a1 n c1, .slice a2 n c2, .int .i64 sl] 62)
  have HBX : Hid ((w.alloc (.cells #[.slice a1 n c1, .slice a2 n c2, .int .i64 sl] 62)).heap[w.heap.size]? = some (.cells #[.slice a1 n c1, .slice a2 n c2, .int .i64 sl] 62 (0, 0))) := hideI (heap_alloc_new w _)
  have hbw := h.lt
  have HS := hideI (wstrI ⟨#[110, 101, 97, 114]⟩ (h.later KA) (by show l.length + 4 ≤ _; omega))
  have HPA := hideI (hP.kept KA)
  have HP0 := hideI hP
  have HKA := hideI (BG.quiet b KA)
  clear h KA hP hn hI1 hI2 hN1 hN2 hb1 hb2 hlen
  go_enter Tryd.func18, Tryd.ntmps18
  go_wp2_with (first
    | (go_at_call 41; refine HS.out.mono ?_; clear HS; rintro e W1 ⟨⟨r, rfl⟩, v1, hB1, K1⟩; have HB1 := hideI hB1; have HK1 := hideI (BG.trans HKA.out K1); have HX1 := hideI (BG.box K1 HBX.out (by omega) (by decide)); obtain ⟨y0, y1, y2, -⟩ := cell_row3 HX1.out; have HP1 := hideI (BG.pw K1 hg HPA.out); clear hB1 K1; have HN := hideI (number_any sl (by omega) HB1.out (by simp; omega) HP1.out hg))
    | (go_at_call 42; refine HN.out.mono ?_; clear HN; rintro e W2 ⟨rfl, p2, v2, hB2, K2⟩; have HB2 := hideI hB2; have HK2 := hideI (BG.trans HK1.out K2); have HX2 := hideI (BG.box K2 HX1.out (by omega) (by decide)); obtain ⟨y0, y1, y2, -⟩ := cell_row3 HX2.out; clear hB2 K2))
  clear y0 y1 y2 HB1 HX1 HK1 HP1 HPA HBX HKA
  go_loopw [18] (fun v18 wr => ∃ (j : Nat) (pp vv : Value), j ≤ n ∧ v18 = .int .i64 j ∧ Hid (Bw wr b pp vv ((l ++ [110, 101, 97, 114] ++ nuB sl) ++ ((List.zipWith prB cs os).take j).flatten)) ∧ Hid (Kept (BG W2 b) W2 wr)) (fun v18 _ => n - (intOf v18).toNat)
  case atStart => exact ⟨0, _, v2, by omega, rfl, hideI (by simpa using HB2.out), hideI (Kept.refl _ _)⟩
  case round =>
    obtain ⟨j, pp, vv, hj, rfl, HB, HK⟩ := hrel
    have HL := hideI (HL0.out j (by rw [← HNL.out]; exact hj))
    by_cases hlt : j < n
    · have hji : (j : Int) < (n : Int) := by omega
      have hjc : j < cs.length := by rw [← HNL.out]; exact hlt
      have hjo : j < os.length := by rw [HLO.out]; exact hjc
      obtain ⟨f1, o1, e1, d1⟩ := HI1.out.get (k := j) (by simpa [nzI] using hjc)
      obtain ⟨f2, o2, e2, d2⟩ := HI2.out.get (k := j) (by simpa [nzI] using hjo)
      rw [nzI_at hjc] at d1
      rw [nzI_at hjo] at d2
      have hf1 := HD1.out (by intro e; rw [e] at hjc; simp at hjc) _ e1
      have hf2 := HD2.out (by intro e; rw [e] at hjo; simp at hjo) _ e2
      simp only at hf1 hf2
      subst e1 e2
      have HKr := hideI (BG.trans HK2.out HK.out)
      have d1 := BG.below HKr.out d1 hf1
      have HD2c := hideI (BG.below HKr.out d2 hf2)
      have HXr := hideI (BG.box HK.out HX2.out (by omega) (by decide))
      have hc1 := HN1.out cs[j] (List.getElem_mem hjc)
      have hc2 := HN2.out os[j] (List.getElem_mem hjo)
      have HSN := hideI (pr_snoc hjc hjo)
      have HPB := hideI (show ∀ u v, prB u v = nuB u ++ [43] ++ Lib.decDigits v from fun _ _ => rfl)
      generalize cs[j] = u at *
      generalize os[j] = z at *
      have hw : IntKind.u64.wrap (u : Int) = u := by rw [IntKind.wrap_u64]; omega
      have HPr := hideI (BG.pw HKr.out hg HP0.out)
      have HNu := hideI (number_any u (by omega) HB.out (by have := HL.out; omega) HPr.out hg)
      have hnu : (nuB u).length ≤ 21 := nuB_len (by omega)
      have hzd := nDig_le (u := z) (by omega)
      obtain ⟨zs, hzs⟩ : ∃ s : ByteArray, s = ⟨(Lib.decDigits z).toArray⟩ := ⟨_, rfl⟩
      have HSz : Hid (zs.size ≤ 20 ∧ zs.data.toList = Lib.decDigits z) := hideI (by rw [hzs]; exact ⟨by show (Lib.decDigits z).toArray.size ≤ 20; simpa using hzd, by simp⟩)
      have HIt := fun W (h : Pw W) => hideI (itoa_any z hc2 W h)
      rw [← hzs] at HIt
      clear d2 hzs hzd hjc hjo
      go_wp2_with (first
        | (go_at_call 42; refine HNu.out.mono ?_; clear HNu; rintro e W3 ⟨rfl, p3, v3, hB3, K3⟩; have HB3 := hideI hB3; have HK3 := hideI K3; have HWb := hideI (wbyteI 43 43 rfl hB3 (by have := HL.out; simp only [List.length_append] at *; omega)); clear hB3 K3)
        | (go_at_call 43; refine HWb.out.mono ?_; clear HWb; rintro e W4 ⟨rfl, v4, hB4, K4⟩; have HB4 := hideI hB4; have HK4 := hideI (BG.trans HK3.out K4); clear hB4 K4))
      have HKd := hideI (BG.trans HK4.out (BG.quiet b (Kept.drew W4)))
      have z2 : W4.drew.cell? ⟨f2, o2 + j, none⟩ = some (.int .i64 (z : Int)) := BG.below HKd.out HD2c.out hf2
      obtain ⟨y0, y1, y2, -⟩ := cell_row3 (BG.box HKd.out HXr.out (by omega) (by decide))
      have HPd := hideI (BG.pw HKd.out hg HPr.out)
      have HId := HIt _ HPd.out
      have HBd := hideI (HB4.out.later (Kept.drew W4))
      go_region_with (first
        | (go_at_call 45; refine HId.out.mono ?_; rintro e W5 ⟨rfl, K5⟩; have HB5 := hideI (HBd.out.later K5); have HK5 := hideI K5; clear K5)
        | (go_at_call 41; refine (wstrI zs HB5.out (by have h1 := HSz.out.1; have h2 := HL.out; simp only [List.length_append, List.length_cons, List.length_nil] at *; omega)).mono ?_; rintro e W6 ⟨⟨r6, rfl⟩, v6, hB6, K6⟩; have HB6 := hideI hB6; have HK6 := hideI K6; clear hB6 K6))
      have HKz := hideI (BG.trans (BG.trans (BG.trans HK.out HKd.out) (BG.quiet b HK5.out)) HK6.out)
      have HBz : Hid (Bw W6 b (.pointer (some ⟨b, 0, none⟩)) v6 ((l ++ [110, 101, 97, 114] ++ nuB sl) ++ ((List.zipWith prB cs os).take (j + 1)).flatten)) := hideI (by
        have := HB6.out
        rw [HSz.out.2] at this
        rw [HSN.out, HPB.out]
        simpa [List.append_assoc] using this)
      go_wp2
      go_roundw
      case rel => exact ⟨j + 1, _, _, hlt, by go_num, HBz, HKz⟩
      case measure => simp [intOf]; omega
    · obtain rfl : j = n := by omega
      have hT : (List.zipWith prB cs os).take j = List.zipWith prB cs os := List.take_of_length_le (by rw [HZL.out, HNL.out]; exact Nat.le_refl _)
      rw [hT] at HB HL
      have HWb := hideI (wbyteI 10 10 rfl HB.out (by have := HL.out; omega))
      go_wp2_with (go_at_call 43; refine HWb.out.mono ?_; clear HWb; rintro e W7 ⟨rfl, v7, hB7, K7⟩)
      go_end0
      refine ⟨rfl, .pointer (some ⟨b, 0, none⟩), v7, ?_, BG.trans (BG.trans HK2.out HK.out) K7⟩
      rw [HNR.out]
      simpa [List.append_assoc] using hB7
end Go.Proofs.YtdklkpbadopkaaaDoor
