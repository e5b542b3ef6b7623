import Derived.Test.YtkgcafomlhfonaaTkl
namespace Go.Proofs.Ytkgcafomlhfonaa.Tk
open Go.ChangeShapes Go.WideShapes Go.ChangeAt Go.RowKit

/-- A list of hits as a value: where it begins, its room. -/
structure Hl where
  a : Option Addr
  c : Nat
  l : List Ht
/-- Lists of hits as they lie. -/
def LsAt (w : World) (a : Option Addr) (L : List Hl) : Prop := L ≠ [] → ∃ b off, a = some ⟨b, off, none⟩ ∧ ∀ k (_ : k < L.length), w.cell? ⟨b, off + k, none⟩ = some (.slice L[k].a L[k].l.length L[k].c) ∧ HsAt w L[k].a L[k].l
theorem LsAt.same {w w' : World} {a : Option Addr} {L : List Hl} (h : LsAt w a L) (k : Kept (fun _ => False) w w') : LsAt w' a L := by
  intro hne
  obtain ⟨b, off, e, hc⟩ := h hne
  exact ⟨b, off, e, fun j hj => ⟨k.cell (hc j hj).1 (fun f => f), (hc j hj).2.same k⟩⟩
/-- All their hits. -/
def allH (L : List Hl) : List Ht := L.flatMap (·.l)
theorem allH_take (L : List Hl) (k : Nat) (h : k < L.length) : allH (L.take (k + 1)) = allH (L.take k) ++ L[k].l := by
  unfold allH
  rw [List.take_succ_eq_append_getElem h, List.flatMap_append]
  simp
theorem best_le (k : Nat) (l : List Ht) : (best k l).length ≤ l.length := by rw [best_len]; exact Nat.min_le_right _ _
/-- Everything that a keeper changes is younger than W. -/
theorem KStep.young {W w w' : World} {p : Nat} {v v' : Value} (h : KStep w w' p v v') (k : Kept (fun _ => False) W w) (hp : W.heap.size ≤ p) (hv : ∀ i, v.ownBlock = some i → W.heap.size ≤ i) : Kept (fun _ => False) W w' :=
  k.trans h.kept (fun i hi => .inr (hi.elim (fun e => by rw [e]; exact hp) (hv i)))
theorem RowH.older {B B' : Nat} {w : World} {v : Value} {L : List Ht} (h : RowH B w v L) (hB : B' ≤ B) : RowH B' w v L := by
  refine ⟨h.1, ?_⟩
  rcases h.2 with q | ⟨g, cap, cur, e1, hg, r⟩
  · exact .inl q
  · exact .inr ⟨g, cap, cur, e1, Nat.le_trans hB hg, r⟩
set_option maxRecDepth 20000 in
set_option maxHeartbeats 8000000 in
theorem join_any (L : List Hl) (a : Option Addr) (c : Nat) (k : Int) (w : World) (h : LsAt w a L) (hlim : (allH L).length ≤ 8796093022207) (hl2 : L.length ≤ 4611686018427387904) : Calls Try.prog 21 #[.slice a L.length c, .int .i64 k] w fun e w' => ∃ a' c', e = .returned (.slice a' (best k.toNat (allH L)).length c') ∧ RowH w.heap.size w' (.slice a' (best k.toNat (allH L)).length c') (best k.toNat (allH L)) ∧ Kept (fun _ => False) w w' := by
  have HL := hideT h
  have NW := hideT (new_any k w)
  obtain ⟨m, hm⟩ : ∃ m, m = L.length := ⟨_, rfl⟩
  have HM := hideT hm
  have HLIM := hideT hlim
  rw [← hm] at hl2 ⊢
  clear h hm hlim
  go_enter Try.func21, Try.ntmps21
  obtain ⟨p, hp⟩ : ∃ p, p = w.heap.size := ⟨_, rfl⟩
  have HP := hideT hp
  rw [← hp] at NW
  clear hp
  go_upto_region 2 with (go_at_call 10; refine NW.out.mono ?_; rintro e W1 ⟨rfl, n1, n2⟩)
  have N1 := hideT n1
  have N2 := hideT n2
  clear n1 n2
  go_wp2
  go_loopw [14] (fun s14 wr => ∃ (i : Nat) (v : Value), i ≤ m ∧ s14 = .int .i64 i ∧ Hid (Keep p wr p k v (best k.toNat (allH (L.take i)))) ∧ Hid (Kept (fun _ => False) w wr)) (fun s14 _ => m - (intOf s14).toNat)
  case atStart => exact ⟨0, .slice none 0 0, by omega, by go_num, hideT (by rw [List.take_zero]; simp only [allH, List.flatMap_nil, best_nil]; exact N1.out), N2⟩
  case round =>
    obtain ⟨i, v, hi, rfl, HKP, HKW⟩ := hrel
    by_cases hlt : i < m
    · have hil : i < L.length := by rw [← HM.out]; exact hlt
      obtain ⟨b, off, rfl, hc⟩ := HL.out (by intro e; rw [e] at hil; simp at hil)
      obtain ⟨y, hy⟩ : ∃ y, y = L[i] := ⟨_, rfl⟩
      obtain ⟨z0, z1⟩ := hc i hil
      rw [← hy] at z0 z1
      have hAT : Hid (allH (L.take (i + 1)) = allH (L.take i) ++ y.l) := hideT (by rw [hy]; exact allH_take L i hil)
      have hALL : Hid ((allH (L.take i)).length + y.l.length ≤ 8796093022207) := hideT (by
        have h1 : (allH (L.take (i + 1))).length ≤ (allH L).length := by
          unfold allH
          conv => rhs; rw [← List.take_append_drop (i + 1) L, List.flatMap_append, List.length_append]
          omega
        rw [hAT.out, List.length_append] at h1
        have := HLIM.out
        omega)
      have y0 := HKW.out.cell z0 (fun f => f)
      have HY := hideT z1
      have hii : (i : Int) < (m : Int) := by omega
      obtain ⟨yn, hyn⟩ : ∃ yn, yn = y.l.length := ⟨_, rfl⟩
      rw [← hyn] at y0 hALL
      have HYN := hideT hyn
      have hynb : yn ≤ 8796093022207 := by have := hALL.out; omega
      have HC := hideT hc
      clear z0 z1 hy hyn hc
      generalize y.a = ya at *
      generalize y.c = yc at *
      obtain ⟨Y, hYl⟩ : ∃ Y, Y = y.l := ⟨_, rfl⟩
      rw [← hYl] at HY HYN hAT
      clear hYl
      go_wp2
      go_loopw [20] (fun s20 w2 => ∃ (j : Nat) (v2 : Value), j ≤ yn ∧ s20 = .int .i64 j ∧ Hid (Keep p w2 p k v2 (best k.toNat (allH (L.take i) ++ Y.take j))) ∧ Hid (Kept (fun _ => False) w w2)) (fun s20 _ => yn - (intOf s20).toNat)
      case atStart => exact ⟨0, v, by omega, by go_num, by rw [List.take_zero, List.append_nil]; exact HKP, HKW⟩
      case round =>
        obtain ⟨j, v2, hj, rfl, HK2, HW2⟩ := hrel
        by_cases hjl : j < yn
        · have hjy : j < Y.length := by rw [← HYN.out]; exact hjl
          obtain ⟨gb, go, rfl, hyc⟩ := (HY.out.same HW2.out) (by intro e; rw [e] at hjy; simp at hjy)
          obtain ⟨x0, x1⟩ := hyc j hjy
          obtain ⟨x, hx⟩ : ∃ x, x = Y[j] := ⟨_, rfl⟩
          rw [← hx] at x0 x1
          have hxx : Hid (Y.take (j + 1) = Y.take j ++ [x]) := hideT (by rw [hx]; exact List.take_succ_eq_append_getElem hjy)
          have ka := Kept.alloc wr (.cells #[.int .i64 x.1, .int .u64 x.2] 29)
          have OF := hideT (offer_any x (HK2.out.same ka) (by have h1 := best_le k.toNat (allH (L.take i) ++ Y.take j); rw [List.length_append, List.length_take] at h1; have := hALL.out; omega))
          have hjj : (j : Int) < (yn : Int) := by omega
          have HYY := hideT hyc
          have HKA := hideT ka
          clear hx hyc ka
          go_wp2_with (go_at_call 23; refine OF.out.mono ?_; rintro e W5 ⟨rfl, v5, k5, s5⟩)
          have HK5 := hideT (show Keep p W5 p k v5 (best k.toNat (allH (L.take i) ++ Y.take (j + 1))) from by rw [hxx.out, ← List.append_assoc, best_snoc]; exact k5)
          have HS5 := hideT (s5.young (HW2.out.trans HKA.out (fun _ f => f.elim)) (by rw [HP.out]; exact Nat.le_refl _) (fun q hq => by have := (HK2.out.lt.2 q hq).1; rw [HP.out] at this; exact this))
          clear k5 s5
          go_wp2
          go_round
          case rel => exact ⟨j + 1, v5, by omega, by go_num, HK5, HS5⟩
          case measure => simp [intOf]; omega
        · obtain rfl : j = yn := by omega
          have HK3 := hideT (show Keep p wr p k v2 (best k.toNat (allH (L.take (i + 1)))) from by rw [hAT.out]; have := HK2.out; rwa [show Y.take j = Y from List.take_of_length_le (by rw [HYN.out]; exact Nat.le_refl _)] at this)
          go_wp2
          go_round
          case rel => exact ⟨i + 1, v2, by omega, by go_num, HK3, HW2⟩
          case measure => simp [intOf]; omega
    · obtain rfl : i = m := by omega
      have HK3 := hideT (show Keep p wr p k v (best k.toNat (allH L)) from by have := HKP.out; rwa [show L.take i = L from List.take_of_length_le (by rw [HM.out]; exact Nat.le_refl _)] at this)
      have HT := hideT (hits_any HK3.out (by have := best_le k.toNat (allH L); have := HLIM.out; omega))
      have HPW := hideT (show w.heap.size ≤ wr.heap.size from HKW.out.size)
      go_wp2_with (go_at_call 13; refine HT.out.mono ?_; rintro e W5 ⟨a', c', rfl, r5, k5⟩)
      go_ret
      exact ⟨a', c', rfl, r5.older HPW.out, HKW.out.trans k5 (fun _ f => f.elim)⟩
end Go.Proofs.Ytkgcafomlhfonaa.Tk
