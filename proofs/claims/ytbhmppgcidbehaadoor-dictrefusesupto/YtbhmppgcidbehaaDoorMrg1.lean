import Derived.Test.YtbhmppgcidbehaaDoorDbe
import Derived.Test.YtbhmppgcidbehaaDoorShs
import Derived.Sort.OwnSorted
namespace Go.Proofs.YtbhmppgcidbehaaDoor
open Go.ChangeShapes Go.WideShapes Go.ChangeAt Go.RowKit Go.Sort

/-- A list of texts. -/
def KsAt (w : World) (a : Option Addr) (K : List (List UInt8)) : Prop :=
  K ≠ [] → ∃ b off, a = some ⟨b, off, none⟩ ∧ ∀ j (h : j < K.length), w.cell? ⟨b, off + j, none⟩ = some (.string ⟨(K[j]).toArray⟩)
theorem KsAt.kept {w w' : World} {a : Option Addr} {K : List (List UInt8)} (h : KsAt w a K) (k : Kept (fun _ => False) w w') : KsAt w' a K := by
  intro hne
  obtain ⟨b, off, e, hc⟩ := h hne
  exact ⟨b, off, e, fun j hj => k.cell (hc j hj) (fun f => f)⟩
def okK (x : List UInt8) : Prop := 1 ≤ x.length ∧ x.length ≤ 65
/-- Strictly rising. -/
def StrictK (T : List (List UInt8)) : Prop := ∀ i (h : i + 1 < T.length), Op.bytesLess T[i] T[i + 1] = true
theorem Tryd.infoS : (Tryd.prog.info? 9).map (fun i => (i.zero, i.size, i.bytes)) = some (some (.string ⟨#[]⟩), 1, 16) := by kernel_rfl
theorem own_set1 {w : World} {base g c n : Nat} {e : TypeId} {xs : List Value} (h : w.ownsRow base e 1 (.slice (some ⟨g, 0, none⟩) n c) n xs) (k : Nat) (u : Value) :
    (w.setCell ⟨g, k, none⟩ u).ownsRow base e 1 (.slice (some ⟨g, 0, none⟩) n c) n (xs.set k u) ∧ w.frozen? ⟨g, k, none⟩ = false := by
  rcases h.2 with ⟨e1, e2⟩ | ⟨g', cap, cur, e1, hg, hh, hn, hm, hs, ht⟩
  · cases e1
  · simp only [Value.slice.injEq, Option.some.injEq, Addr.mk.injEq, and_true, true_and] at e1
    obtain ⟨rfl, rfl⟩ := e1
    refine ⟨⟨by rw [List.length_set]; exact h.1, .inr ⟨g, c, cur.setIfInBounds k u, rfl, hg, heap_setCell_same w g k cur e u hh, hn, hm, by rw [Array.size_setIfInBounds]; exact hs, ?_⟩⟩, ?_⟩
    · rw [Array.toList_setIfInBounds, List.take_set, ht]
    · simp [World.frozen?, hh]
theorem own_cellK {w : World} {base g c n : Nat} {e : TypeId} {R : List (List UInt8)} (h : w.ownsRow base e 1 (.slice (some ⟨g, 0, none⟩) n c) n (R.map encStr)) {j : Nat} (hj : j < R.length) : w.cell? ⟨g, j, none⟩ = some (.string ⟨(R[j]).toArray⟩) := by
  have := h.cells (g := g) rfl j (.string ⟨(R[j]).toArray⟩) (by rw [List.getElem?_map, List.getElem?_eq_getElem hj]; rfl)
  have hplain : (⟨g, 0, none⟩ : Addr).add j = ⟨g, j, none⟩ := by unfold Addr.add; split <;> simp_all
  rwa [hplain] at this
theorem own_shorter {w : World} {base g c n m : Nat} {e : TypeId} {xs : List Value} (h : w.ownsRow base e 1 (.slice (some ⟨g, 0, none⟩) n c) n xs) (hm : m ≤ n) : w.ownsRow base e 1 (.slice (some ⟨g, 0, none⟩) m c) m (xs.take m) := by
  rcases h.2 with ⟨e1, e2⟩ | ⟨g', cap, cur, e1, hg, hh, hn, hmx, hs, ht⟩
  · cases e1
  · simp only [Value.slice.injEq, Option.some.injEq, Addr.mk.injEq, and_true, true_and] at e1
    obtain ⟨rfl, rfl⟩ := e1
    have hl := h.1
    refine ⟨by rw [List.length_take]; omega, .inr ⟨g, c, cur, rfl, hg, hh, by omega, hmx, hs, ?_⟩⟩
    rw [← ht, List.take_take]
    congr 1
    omega
/-- What lies in the row while doubles are dropped: T in front, the sorted rest behind. -/
structure Ddp (S R T : List (List UInt8)) (i : Nat) : Prop where
  len : R.length = S.length
  le : T.length ≤ i
  hd : R.take T.length = T
  tl : R.drop i = S.drop i
  str : StrictK T
  last : ∀ m, i = m + 1 → ∃ t, T.length = t + 1 ∧ T[t]? = S[m]?
  mem : ∀ x ∈ T, x ∈ S
theorem Ddp.start (S : List (List UInt8)) : Ddp S S [] 0 := ⟨rfl, Nat.le_refl _, rfl, rfl, fun i h => by simp at h, fun m h => by omega, fun x h => by cases h⟩
theorem Ddp.skip {S R T : List (List UInt8)} {i : Nat} (h : Ddp S R T i) {t : Nat} (ht : T.length = t + 1) (he : T[t]? = S[i]?) : Ddp S R T (i + 1) :=
  ⟨h.len, by have := h.le; omega, h.hd, by rw [← List.drop_drop, h.tl, List.drop_drop], h.str, fun m hm => ⟨t, ht, by rw [he]; congr 1; omega⟩, h.mem⟩
theorem strict_snoc {T : List (List UInt8)} {x : List UInt8} (h : StrictK T) (hx : ∀ t, T.length = t + 1 → ∀ y, T[t]? = some y → Op.bytesLess y x = true) : StrictK (T ++ [x]) := by
  intro i hi
  rw [List.length_append, List.length_singleton] at hi
  by_cases h1 : i + 1 < T.length
  · rw [List.getElem_append_left (by omega), List.getElem_append_left h1]
    exact h i h1
  · have e : T.length = i + 1 := by omega
    rw [List.getElem_append_left (by omega), List.getElem_append_right (by omega)]
    simp only [e, Nat.sub_self, List.getElem_cons_zero]
    exact hx i e _ (List.getElem?_eq_getElem (by omega))
theorem Ddp.put {S R T : List (List UInt8)} {i : Nat} (h : Ddp S R T i) (hi : i < S.length) (hlt : ∀ t, T.length = t + 1 → ∀ y, T[t]? = some y → Op.bytesLess y S[i] = true) : Ddp S (R.set T.length S[i]) (T ++ [S[i]]) (i + 1) := by
  have hl := h.le
  have hR := h.len
  refine ⟨by rw [List.length_set, h.len], by rw [List.length_append, List.length_singleton]; omega, ?_, ?_, strict_snoc h.str hlt, fun m hm => ?_, fun x hx => ?_⟩
  · rw [List.length_append, List.length_singleton, List.take_succ_eq_append_getElem (by rw [List.length_set]; omega), List.take_set]
    rw [List.set_eq_of_length_le (by rw [List.length_take]; omega), h.hd, List.getElem_set_self]
  · rw [List.drop_set_of_lt (by omega), ← List.drop_drop, h.tl, List.drop_drop]
  · obtain rfl : i = m := by omega
    refine ⟨T.length, by simp, ?_⟩
    rw [List.getElem?_append_right (Nat.le_refl _), Nat.sub_self, List.getElem?_eq_getElem hi]
    rfl
  · rcases List.mem_append.1 hx with hx | hx
    · exact h.mem x hx
    · simp only [List.mem_cons, List.not_mem_nil, or_false] at hx
      rw [hx]
      exact List.getElem_mem hi
theorem Ddp.at {S R T : List (List UInt8)} {i : Nat} (h : Ddp S R T i) (hi : i < S.length) : ∃ hr : i < R.length, R[i] = S[i] := by
  have hr : i < R.length := by rw [h.len]; exact hi
  refine ⟨hr, ?_⟩
  have h1 := h.tl
  rw [List.drop_eq_getElem_cons hr, List.drop_eq_getElem_cons hi] at h1
  injection h1
theorem bl_lt {x y : List UInt8} (h : x ≤ y) (hne : ¬ x = y) : Op.bytesLess x y = true := by
  have h1 := bl_total x y
  have hb : (x == y) = false := beq_eq_false_iff_ne.2 hne
  rw [hb, Bool.or_false] at h1
  rw [h1, bytesLess_eq]
  simp only [Bool.not_eq_true', decide_eq_false_iff_not]
  exact List.not_lt.2 h
theorem own_capS {w : World} {base n c : Nat} {e : TypeId} {sz : Nat} {a : Option Addr} {xs : List Value} (h : w.ownsRow base e sz (.slice a n c) n xs) : n ≤ c := by
  rcases h.2 with ⟨e1, e2⟩ | ⟨g, cap, cur, e1, _, _, hn, _⟩
  · omega
  · injection e1 with _ _ e3
    omega
theorem sorted_le (L : List (List UInt8)) : (L.mergeSort (fun x y => decide (x ≤ y))).Pairwise (fun x y => x ≤ y) := by
  have h := List.pairwise_mergeSort (le := fun (x y : List UInt8) => decide (x ≤ y)) (fun a b c h1 h2 => by simp only [decide_eq_true_eq] at h1 h2 ⊢; exact List.le_trans h1 h2) (fun a b => by simp only [Bool.or_eq_true, decide_eq_true_eq]; exact List.le_total a b) L
  exact h.imp (fun hx => of_decide_eq_true hx)
end Go.Proofs.YtbhmppgcidbehaaDoor
namespace Go.Proofs.YtbhmppgcidbehaaDoor
open Go.ChangeShapes Go.WideShapes Go.ChangeAt Go.RowKit Go.Sort

theorem neqS (t : TypeId) (a b : ByteArray) : binOp .neq t (.string a) (.string b) = pure (.bool !(a.toList == b.toList)) := by simp [binOp, Op.stringOp]
theorem eqS (x y : List UInt8) : ((⟨x.toArray⟩ : ByteArray).toList == (⟨y.toArray⟩ : ByteArray).toList) = decide (x = y) := by
  rw [ByteArray.toList_eq, ByteArray.toList_eq]
  by_cases h : x = y
  · subst h; simp
  · rw [decide_eq_false h, beq_eq_false_iff_ne]
    simpa using h
/-- The keys of 'sorted', as they lie. -/
def KsOut (w : World) (base : Nat) (v : Value) (T : List (List UInt8)) : Prop := w.ownsRow base 9 1 v T.length (T.map encStr)
set_option maxRecDepth 20000 in
set_option maxHeartbeats 8000000 in
theorem sorted_any (K : List (List UInt8)) (a : Option Addr) (c : Nat) (w : World) (h : KsAt w a K) (hl : K.length ≤ 1048576) :
    Calls Tryd.prog 5 #[.slice a K.length c] w fun e w' => (∃ v T, e = .returned v ∧ KsOut w' w.heap.size v T ∧ StrictK T ∧ (∀ x ∈ T, okK x) ∧ T.length ≤ K.length) ∧ Kept (fun _ => False) w w' := by
  have HA := hideQ h
  obtain ⟨i0, hi0, hz0, hz1, hz2⟩ := info_parts Tryd.infoS
  obtain ⟨nK, hnK⟩ : ∃ nK, nK = K.length := ⟨_, rfl⟩
  rw [← hnK] at hl ⊢
  have HNK := hideQ hnK
  clear h hnK
  go_enter Tryd.func5, Tryd.ntmps5
  go_wp2_with fail
  go_loopw [3, 11] (fun v3 v11 wr => ∃ (j : Nat) (va : Value) (L : List (List UInt8)) (nL : Nat), j ≤ nK ∧ v11 = .int .i64 j ∧ v3 = va ∧ nL ≤ j ∧ Hid (wr.ownsRow w.heap.size 9 1 va nL (L.map encStr)) ∧ Hid (nL = L.length ∧ ∀ x ∈ L, okK x) ∧ Hid (Kept (fun _ => False) w wr)) (fun _ v11 _ => nK - (intOf v11).toNat)
  case atStart => exact ⟨0, _, [], 0, by omega, rfl, rfl, by omega, hideQ ⟨rfl, .inl ⟨rfl, rfl⟩⟩, hideQ ⟨rfl, fun x hx => by cases hx⟩, Kept.refl _ _⟩
  case round =>
    obtain ⟨j, va, L, nL, hj, rfl, rfl, hnL, HO, HL, HK⟩ := hrel
    by_cases hlt : j < nK
    · have hjj : (j : Int) < (nK : Int) := by omega
      have hjl : j < K.length := by rw [← HNK.out]; exact hlt
      obtain ⟨b, off, rfl, hc⟩ := HA.out.kept HK.out (by intro e; rw [e] at hjl; simp at hjl)
      have x0 := hc j hjl
      have hs : (⟨(K[j]).toArray⟩ : ByteArray).size = (K[j]).length := by simp [ByteArray.size]
      have HEn : Hid (encStr K[j] = .string ⟨(K[j]).toArray⟩) := hideQ rfl
      generalize K[j] = x at *
      obtain ⟨kb, hkb⟩ : ∃ kb : ByteArray, kb = ⟨x.toArray⟩ := ⟨_, rfl⟩
      rw [← hkb] at x0 hs HEn
      clear hc hkb
      by_cases hok : 1 ≤ x.length ∧ x.length ≤ 65
      · have d1 : (0 : Int) < (kb.size : Int) := by omega
        have d2 : decide ((0 : Int) < (kb.size : Int)) = true := decide_eq_true d1
        have d3 : decide (0 < kb.size) = true := decide_eq_true (by omega)
        have d4 : (kb.size : Int) ≤ 65 := by omega
        have d5 : decide ((kb.size : Int) ≤ 65) = true := decide_eq_true d4
        have d6 : decide (kb.size ≤ 65) = true := decide_eq_true (by omega)
        have hb : w.heap.size ≤ wr.heap.size := HK.out.size
        go_wp2_with (at_builtin; refine Stp.go ?_)
        refine ⟨?_⟩
        refine wpList_pushS (base := w.heap.size) rfl (.tmp 23) (.tmp 25) 22 rfl 9 i0 _ 1 16 Tryd.underlying22 hi0 hz0 hz1 hz2 rfl (by decide) _ nL (L.map encStr) [.string kb] rfl HO hb rfl rfl ?one (hideQ (by omega)) (hideQ (by unfold maxLen; omega)) ?_
        case one => intro u hu; simp at hu; subst hu; rfl
        intro a7 c7 W7 HO7 HK7 HN7
        have HKw := hideQ (HK.out.trans HK7.out (fun k hk => .inr (HO.out.lt _ hk).1))
        go_wp2
        go_roundw
        case rel => exact ⟨j + 1, _, L ++ [x], nL + 1, hlt, by go_num, rfl, by omega, hideQ (by rw [List.map_append, List.map_cons, List.map_nil, HEn.out]; exact HO7.out), hideQ ⟨by rw [List.length_append, ← HL.out.1]; rfl, fun y hy => by
          rcases List.mem_append.1 hy with hy | hy
          · exact HL.out.2 y hy
          · simp only [List.mem_cons, List.not_mem_nil, or_false] at hy
            rw [hy]
            exact hok⟩, HKw⟩
        case measure => simp [intOf]; omega
      · by_cases h0 : 0 < kb.size
        · have d1 : (0 : Int) < (kb.size : Int) := by omega
          have d2 : decide ((0 : Int) < (kb.size : Int)) = true := decide_eq_true d1
          have d3 : decide (0 < kb.size) = true := decide_eq_true h0
          have d4 : ¬ (kb.size : Int) ≤ 65 := by omega
          have d5 : decide ((kb.size : Int) ≤ 65) = false := decide_eq_false d4
          have d6 : decide (kb.size ≤ 65) = false := decide_eq_false (by omega)
          go_wp2_with fail
          go_roundw
          case rel => exact ⟨j + 1, _, L, nL, hlt, by go_num, rfl, by omega, HO, HL, HK⟩
          case measure => simp [intOf]; omega
        · have d1 : ¬ (0 : Int) < (kb.size : Int) := by omega
          have d2 : decide ((0 : Int) < (kb.size : Int)) = false := decide_eq_false d1
          have d3 : decide (0 < kb.size) = false := decide_eq_false h0
          go_wp2_with fail
          go_roundw
          case rel => exact ⟨j + 1, _, L, nL, hlt, by go_num, rfl, by omega, HO, HL, HK⟩
          case measure => simp [intOf]; omega
    · obtain rfl : j = nK := by omega
      clear hi0 hz0 hz1 hz2
      rcases HO.out.2 with ⟨hnil, hn0⟩ | ⟨g, cap, cur, hva, hbase, hb, h1, h2, h3, h4⟩
      · subst hnil hn0
        have CS := hideQ (Tryd.sort_Strings_none none 0 wr)
        go_wp2_with (go_at_call 14; refine CS.out.mono ?_; rintro e W5 ⟨rfl, e5⟩; subst e5)
        go_loopw [6, 32] (fun v6 v32 wq => v6 = .int .i64 0 ∧ v32 = .int .i64 0 ∧ Hid (Kept (fun _ => False) w wq)) (fun _ _ _ => 0)
        case atStart => exact ⟨rfl, rfl, HK⟩
        case round =>
          obtain ⟨rfl, rfl, HK2⟩ := hrel
          go_wp2
          go_ret
          exact ⟨⟨_, [], rfl, ⟨rfl, .inl ⟨rfl, rfl⟩⟩, (fun i h => absurd h (by simp)), (fun x hx => absurd hx (by simp)), Nat.zero_le _⟩, HK2.out⟩
      · obtain ⟨hnl, hLok⟩ := HL.out
        subst hnl hva
        have hgl : g < wr.heap.size := lt_of_block hb
        have CS := hideQ (Tryd.sort_Strings g 0 cap L wr (holds_of_block hb (by rw [Nat.mul_one] at h4; exact h4)) hgl (by omega))
        obtain ⟨S, hS⟩ : ∃ S, S = L.mergeSort (fun x y => decide (x ≤ y)) := ⟨_, rfl⟩
        have hSl : S.length = L.length := by rw [hS]; exact List.length_mergeSort _
        have HSok : Hid (∀ x ∈ S, okK x) := hideQ (fun x hx => hLok x (by rw [hS] at hx; exact (List.mem_mergeSort).1 hx))
        have HSs : Hid (S.Pairwise (fun x y => x ≤ y)) := hideQ (by rw [hS]; exact sorted_le L)
        have HOs : Hid (∀ n os, (grow (putRow encStr (Sort.ahead wr n) g 0 S.toArray) os).ownsRow w.heap.size 9 1 (.slice (some ⟨g, 0, none⟩) L.length cap) L.length (S.map encStr) ∧ Kept (fun k => k = g) wr (grow (putRow encStr (Sort.ahead wr n) g 0 S.toArray) os)) := hideQ (fun n os => ⟨ownsRow_sorted hSl hbase hb h1 h2 h3, (Kept.grown (grownBy_sorted S.toArray)).mono (fun k hk => .inl (by injection hk with hk; exact hk.symm))⟩)
        rw [← hS] at CS
        clear hb h1 h2 h3 h4 HO HL hLok hS
        go_wp2_with (go_at_call 14; refine Stp.go ?_)
        refine ⟨?_⟩
        refine CS.out.mono ?_
        rintro e W5 ⟨rfl, n5, os5, hW5⟩
        obtain ⟨ho5, k5⟩ := HOs.out n5 os5
        rw [← hW5] at ho5 k5
        have HO5 := hideQ ho5
        have HK5 := hideQ (HK.out.trans k5 (fun k hk => .inr (by rw [hk]; exact hbase)))
        clear ho5 k5 hW5 CS HOs HK
        rw [← hSl] at HO5 hnL ⊢
        obtain ⟨nS, hnS⟩ : ∃ nS, nS = S.length := ⟨_, rfl⟩
        rw [← hnS] at HO5 hnL ⊢
        have HNS := hideQ hnS
        clear hSl hnS
        go_wp2_with fail
        go_loopw [6, 32] (fun v6 v32 wq => ∃ (i n : Nat) (R T : List (List UInt8)), i ≤ nS ∧ n ≤ i ∧ v32 = .int .i64 i ∧ v6 = .int .i64 n ∧ Hid (wq.ownsRow w.heap.size 9 1 (.slice (some ⟨g, 0, none⟩) nS cap) nS (R.map encStr)) ∧ Hid (n = T.length ∧ Ddp S R T i) ∧ Hid (Kept (fun _ => False) w wq)) (fun _ v32 _ => nS - (intOf v32).toNat)
        case atStart => exact ⟨0, 0, S, [], by omega, by omega, rfl, rfl, HO5, hideQ ⟨rfl, Ddp.start S⟩, HK5⟩
        case round =>
          obtain ⟨i, n, R, T, hi, hni, rfl, rfl, HOr, HD, HKr⟩ := hrel
          clear HO5 HK5
          by_cases hlt2 : i < nS
          · have hii : (i : Int) < (nS : Int) := by omega
            have hiS : i < S.length := by rw [← HNS.out]; exact hlt2
            obtain ⟨hiR, hRi⟩ := HD.out.2.at hiS
            have x0 := own_cellK HOr.out hiR
            rw [hRi] at x0
            obtain ⟨hnT, hDd⟩ := HD.out
            have hnR : n < R.length := by rw [hDd.len]; omega
            have z0 := own_cellK HOr.out hnR
            obtain ⟨x, hx⟩ : ∃ x, x = S[i] := ⟨_, rfl⟩
            rw [← hx] at x0
            obtain ⟨hset, hfz⟩ := own_set1 HOr.out n (.string ⟨x.toArray⟩)
            have HSet : Hid ((wr.setCell ⟨g, n, none⟩ (.string ⟨x.toArray⟩)).ownsRow w.heap.size 9 1 (.slice (some ⟨g, 0, none⟩) nS cap) nS ((R.set n x).map encStr)) := hideQ (by rw [List.map_set]; exact hset)
            have HKs : Hid (Kept (fun _ => False) w (wr.setCell ⟨g, n, none⟩ (.string ⟨x.toArray⟩))) := hideQ (HKr.out.trans (ksetD wr g n _) (fun k hk => .inr (by rw [hk]; exact hbase)))
            have HnT := hideQ hnT
            have hnS2 : (n : Int) < (nS : Int) := by omega
            generalize (⟨(R[n]).toArray⟩ : ByteArray) = zb at *
            by_cases hi0 : i = 0
            · have hTn : T = [] := List.eq_nil_of_length_eq_zero (by omega)
              have HPut : Hid (Ddp S (R.set n x) (T ++ [x]) (i + 1)) := hideQ (by
                have h9 := hDd.put hiS (fun t ht => by rw [hTn] at ht; simp at ht)
                rw [← hx, ← hnT] at h9
                exact h9)
              have e0 : ((i : Int) == 0) = true := by rw [hi0]; rfl
              clear hDd hset HD hRi hTn hx hnT hi0
              generalize (⟨x.toArray⟩ : ByteArray) = kb at *
              go_wp2_with fail
              go_roundw
              case rel => exact ⟨i + 1, n + 1, R.set n x, T ++ [x], hlt2, by omega, by go_num, by go_num, HSet, hideQ ⟨by rw [List.length_append, ← HnT.out]; rfl, HPut.out⟩, HKs⟩
              case measure => simp [intOf]; omega
            · obtain ⟨m, hm⟩ : ∃ m, i = m + 1 := ⟨i - 1, by omega⟩
              obtain ⟨t, ht, hTt⟩ := hDd.last m hm
              have hmS : m < S.length := by omega
              have htR : t < R.length := by omega
              have y0 := own_cellK HOr.out htR
              have hRt : R[t] = S[m] := by
                have h8 : (R.take T.length)[t]? = T[t]? := by rw [hDd.hd]
                rw [List.getElem?_take, if_pos (by omega), hTt, List.getElem?_eq_getElem htR, List.getElem?_eq_getElem hmS] at h8
                exact Option.some.inj h8
              rw [hRt] at y0
              obtain ⟨y, hy⟩ : ∃ y, y = S[m] := ⟨_, rfl⟩
              rw [← hy] at y0
              have hnt : n = t + 1 := by omega
              have hyx : y ≤ x := by
                rw [hx, hy]
                exact (List.pairwise_iff_getElem.1 HSs.out) m i hmS hiS (by omega)
              have e0 : ((i : Int) == 0) = false := by rw [beq_eq_false_iff_ne]; omega
              have e1 : (n : Int) - 1 = (t : Int) := by omega
              have w1 : IntKind.i64.wrap (t : Int) = (t : Int) := by rw [IntKind.wrap_i64]; omega
              have htn : (t : Int) < (nS : Int) := by omega
              have g1 := neqS 9 ⟨x.toArray⟩ ⟨y.toArray⟩
              rw [eqS] at g1
              by_cases hxy : x = y
              · have HSk : Hid (Ddp S R T (i + 1)) := hideQ (hDd.skip ht (by rw [hTt, List.getElem?_eq_getElem hmS, List.getElem?_eq_getElem hiS, ← hx, ← hy, hxy]))
                rw [decide_eq_true hxy] at g1
                have HTn := hideQ hnT
                clear hDd hset HD hRi hx hnT hRt hTt hyx hxy HSet HKs hfz hnt hi0 hm ht
                generalize (⟨x.toArray⟩ : ByteArray) = kb at *
                generalize (⟨y.toArray⟩ : ByteArray) = yb at *
                go_wp2_with fail
                go_roundw
                case rel => exact ⟨i + 1, n, R, T, hlt2, by omega, by go_num, rfl, HOr, hideQ ⟨HTn.out, HSk.out⟩, HKr⟩
                case measure => simp [intOf]; omega
              · have HPut : Hid (Ddp S (R.set n x) (T ++ [x]) (i + 1)) := hideQ (by
                  have h9 := hDd.put hiS (fun t' ht' y' hy' => by
                    have e9 : t' = t := by omega
                    rw [e9, hTt, List.getElem?_eq_getElem hmS, ← hy] at hy'
                    rw [← Option.some.inj hy', ← hx]
                    exact bl_lt hyx (fun e => hxy e.symm))
                  rw [← hx, ← hnT] at h9
                  exact h9)
                rw [decide_eq_false hxy] at g1
                clear hDd hset HD hRi hx hnT hRt hTt hyx hxy hnt hi0 hm ht
                generalize (⟨x.toArray⟩ : ByteArray) = kb at *
                generalize (⟨y.toArray⟩ : ByteArray) = yb at *
                go_wp2_with fail
                go_roundw
                case rel => exact ⟨i + 1, n + 1, R.set n x, T ++ [x], hlt2, by omega, by go_num, by go_num, HSet, hideQ ⟨by rw [List.length_append, ← HnT.out]; rfl, HPut.out⟩, HKs⟩
                case measure => simp [intOf]; omega
          · obtain rfl : i = nS := by omega
            obtain ⟨hnT, hDd⟩ := HD.out
            have HOt := hideQ (own_shorter HOr.out hni)
            rw [← List.map_take, hnT, hDd.hd] at HOt
            have HStr := hideQ hDd.str
            have HOk : Hid (∀ x ∈ T, okK x) := hideQ (fun x hx => HSok.out x (hDd.mem x hx))
            have HnT := hideQ hnT
            have hcap := own_capS HOr.out
            clear hDd HD hnT
            go_wp2
            go_ret
            refine ⟨⟨_, T, rfl, ?_, HStr.out, HOk.out, by have := HnT.out; omega⟩, HKr.out⟩
            have h9 := HOt.out
            rw [← HnT.out] at h9
            rw [KsOut, ← HnT.out]
            exact h9
end Go.Proofs.YtbhmppgcidbehaaDoor
