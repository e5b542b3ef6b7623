import Derived.Test.YtbhmppgcidbehaaDoorDfm
import Derived.Test.YtbhmppgcidbehaaDoorMrg2
import Derived.Test.YtbhmppgcidbehaaDoorShl
import Derived.Deep.Cut
namespace Go.Proofs.YtbhmppgcidbehaaDoor
open Go.ChangeShapes Go.WideShapes Go.ChangeAt Go.RowKit

/-- A key as an entry without numbers. -/
def enZ (x : List UInt8) : En := ⟨⟨x.toArray⟩, 0, 0, 0, 0⟩
def entZ (T : List (List UInt8)) : List En := T.map enZ
theorem entZ_len (T : List (List UInt8)) : (entZ T).length = T.length := by unfold entZ; simp
theorem entZ_at {T : List (List UInt8)} {i : Nat} (h : i < T.length) : (entZ T)[i]'(by rw [entZ_len]; exact h) = enZ T[i] := by unfold entZ; simp
theorem entZ_take {T : List (List UInt8)} {i : Nat} (h : i < T.length) : (entZ T).take (i + 1) = (entZ T).take i ++ [enZ T[i]] := by
  rw [List.take_succ_eq_append_getElem (by rw [entZ_len]; exact h), entZ_at h]
theorem entZ_good {T : List (List UInt8)} (hs : StrictK T) (ho : ∀ x ∈ T, okK x) : Good (entZ T) := by
  refine good_of (fun e he => ?_) (fun i h => ?_)
  · obtain ⟨i, hi, rfl⟩ := List.mem_iff_getElem.1 he
    rw [entZ_len] at hi
    rw [entZ_at hi]
    have := ho _ (List.getElem_mem hi)
    unfold okK at this
    have hz : (⟨T[i].toArray⟩ : ByteArray).size = T[i].length := by simp [ByteArray.size]
    refine ⟨?_, ?_, ?_, ?_, ?_, ?_⟩ <;> unfold enZ <;> dsimp only <;> omega
  · rw [entZ_len] at h
    rw [entZ_at (by omega), entZ_at h]
    have := hs i h
    unfold klt enZ
    dsimp only
    rw [ByteArray.toList_eq, ByteArray.toList_eq]
    exact this
/-- An entry that keeps no limit makes a list that keeps none. -/
theorem all_set_false {E : List En} {i : Nat} (hi : i < E.length) {e : En} (h : genB e = false) : (E.set i e).all genB = false := by
  rw [List.all_eq_false]
  exact ⟨e, List.mem_iff_getElem.2 ⟨i, by rw [List.length_set]; exact hi, by simp⟩, by rw [h]; exact Bool.false_ne_true⟩
theorem all_app_false {E : List En} (x : En) {e : En} (h : genB e = false) : (E ++ [x, e]).all genB = false := by
  rw [List.all_append]
  simp [h]
theorem Good.rises {E : List En} (h : Good E) : Rises E := chn_rises E _ h.chn
theorem app_all {E : List En} (h : Good E) {i : Nat} (hi : i < E.length) : (E ++ [E[i]]).all genB = true := by
  rw [List.all_append, all_gen.2 h.gen]
  have := all_gen.2 h.gen
  rw [List.all_eq_true] at this
  simp [this _ (List.getElem_mem hi)]
/-- An entry that stands there already doesn't rise. -/
theorem app_not {E : List En} (h : Good E) {i : Nat} (hi : i < E.length) : ¬ Rises (E ++ [E[i]]) := by
  intro hr
  have h1 := hr (E.length - 1) (by rw [List.length_append, List.length_singleton]; omega)
  have e1 : (E ++ [E[i]])[E.length - 1]'(by rw [List.length_append, List.length_singleton]; omega) = E[E.length - 1] := List.getElem_append_left (by omega)
  have e2 : (E ++ [E[i]])[E.length - 1 + 1]'(by rw [List.length_append, List.length_singleton]; omega) = E[i] := by
    rw [List.getElem_append_right (by omega)]
    simp
  rw [e1, e2] at h1
  have h2 := rises_le h.rises (show i ≤ E.length - 1 by omega) (by omega)
  rw [kat_at (by omega), kat_at hi] at h2
  rw [h1] at h2
  cases h2
/-- A cell of a list of entries is written over. -/
theorem es_set {W : World} {b : Nat} {E : List En} (h : EsAt W (some ⟨b, 0, none⟩) E) {i j : Nat} (hi : i < E.length) (hj : j < 5) (v : Value) (e' : En) (hv : ∀ j', j' < 5 → (e'.cells)[j']? = if j' = j then some v else (E[i]).cells[j']?) (hb : ∃ cs t, W.heap[b]? = some (.cells cs t (0, 0)) ∧ i * 5 + j < cs.size) : EsAt (W.setCell ⟨b, i * 5 + j, none⟩ v) (some ⟨b, 0, none⟩) (E.set i e') := by
  intro _
  obtain ⟨b', off, e, hc⟩ := h (by intro e; rw [e] at hi; simp at hi)
  injection e with e
  injection e with e1 e2
  subst e1 e2
  have key : ∀ o u, W.cell? ⟨b, o, none⟩ = some u → (W.setCell ⟨b, i * 5 + j, none⟩ v).cell? ⟨b, o, none⟩ = if o = i * 5 + j then some v else some u := by
    intro o u hu
    obtain ⟨cs, t, hh, hlt⟩ := hb
    have h2 := heap_setCell_same W b (i * 5 + j) cs t v hh
    rw [cell_of_row W b o _ _ _ hh] at hu
    rw [cell_of_row _ b o _ _ _ h2, Array.getElem?_setIfInBounds]
    by_cases q : o = i * 5 + j
    · rw [if_pos q.symm, if_pos hlt, if_pos q]
    · rw [if_neg (fun e => q e.symm), if_neg q]
      exact hu
  refine ⟨b, 0, rfl, fun k hk => ?_⟩
  have hk' : k < E.length := by rw [List.length_set] at hk; exact hk
  obtain ⟨c0, c1, c2, c3, c4⟩ := hc k hk'
  have d0 := key _ _ c0
  have d1 := key _ _ c1
  have d2 := key _ _ c2
  have d3 := key _ _ c3
  have d4 := key _ _ c4
  by_cases q : k = i
  · subst q
    have v0 := hv 0 (by omega)
    have v1 := hv 1 (by omega)
    have v2 := hv 2 (by omega)
    have v3 := hv 3 (by omega)
    have v4 := hv 4 (by omega)
    simp only [En.cells, List.getElem?_cons_zero, List.getElem?_cons_succ] at v0 v1 v2 v3 v4
    have eg : (E.set k e')[k] = e' := by simp
    rw [eg]
    simp only [Nat.zero_add] at d0 d1 d2 d3 d4 ⊢
    refine ⟨?_, ?_, ?_, ?_, ?_⟩
    · rw [d0, v0]; congr 1; simp only [eq_iff_iff]; omega
    · rw [d1, v1]; congr 1; simp only [eq_iff_iff]; omega
    · rw [d2, v2]; congr 1; simp only [eq_iff_iff]; omega
    · rw [d3, v3]; congr 1; simp only [eq_iff_iff]; omega
    · rw [d4, v4]; congr 1; simp only [eq_iff_iff]; omega
  · have eg : (E.set i e')[k] = E[k] := by
      rw [List.getElem_set, if_neg (fun e => q e.symm)]
    rw [eg]
    simp only [Nat.zero_add] at d0 d1 d2 d3 d4 ⊢
    refine ⟨?_, ?_, ?_, ?_, ?_⟩
    · rw [d0, if_neg (by omega)]
    · rw [d1, if_neg (by omega)]
    · rw [d2, if_neg (by omega)]
    · rw [d3, if_neg (by omega)]
    · rw [d4, if_neg (by omega)]
end Go.Proofs.YtbhmppgcidbehaaDoor
namespace Go.Proofs.YtbhmppgcidbehaaDoor
open Go.ChangeShapes Go.WideShapes Go.ChangeAt Go.RowKit Go.Sort

/-- 'append(s, x, y)' to an owned row. -/
theorem wpList_pushR2 {base : Nat} {W : World} {ops : Array Oper} {rest : List Oper} {o : Oper} {act : Act} {Q : Exit → Act → World → Prop} (hgd : o.guard = none) (s x : Operand) (t : TypeId)
    (ho : o.op = .call { callee := .builtin .append, args := #[s, x], argTypes := #[t, t] }) (e : TypeId) (i : TypeInfo) (z : Value) (size bytes : Nat)
    (ht : Tryd.prog.underlying t = some (.slice e)) (hi : Tryd.prog.info? e = some i) (hz : i.zero = some z) (hsize : i.size = size) (hby : i.bytes = bytes) (hzs : z.cells.size = size) (hsz : 0 < size)
    (v : Value) (n : Nat) (xs news : List Value) (hs : act.eval s = v) (hG : Hid (W.ownsRow base e size v n xs)) (hx : act.eval x = .slice (some ⟨W.heap.size, 0, none⟩) 2 2)
    (hl : news.length = 2 * size) (h1 : ∀ u ∈ news, u.oneCell' = true) (hb : Hid ((n + 2) * bytes ≤ 140737488355328)) (h63 : Hid (n + 2 ≤ maxLen)) (hb0 : base ≤ W.heap.size)
    (h : ∀ a' c' W', Hid (W'.ownsRow base e size (.slice a' (n + 2) c') (n + 2) (xs ++ news)) → Hid (Kept (fun k => v.ownBlock = some k) W W') → wpList Tryd.prog ops Q rest (act.put o.dst (.slice a' (n + 2) c')) W') : wpList Tryd.prog ops Q (o :: rest) act (W.alloc (.cells news.toArray e)) := by
  refine wpList_append_own _ hgd s x t ho base e i z size bytes ht hi hz hsize hby hzs hsz v n xs hs (hG.out.alloc _) ⟨W.heap.size, 0, none⟩ 2 2 news hx (by omega) (row_newsD W news e) h1 h63.out hb.out (by simp; omega) ?_
  intro v' W' ho2 hg2 _
  obtain ⟨a', c', rfl⟩ := row_shape ho2
  exact h a' c' W' ho2 (((Kept.alloc W _).mono (fun _ f => f.elim)).trans (Kept.grown hg2) (fun i hi => .inl hi))
/-- A row that is not empty: its block. -/
theorem row_block {W : World} {base n : Nat} {v : Value} {E : List En} (h : W.ownsRow base 27 5 v n (ecs E)) (hn : 0 < n) : ∃ g c cur, v = .slice (some ⟨g, 0, none⟩) n c ∧ base ≤ g ∧ W.heap[g]? = some (.cells cur 27 (0, 0)) ∧ n * 5 ≤ cur.size ∧ n ≤ c := by
  have hcap := h
  rcases h.2 with ⟨e1, e2⟩ | ⟨g, cap, cur, e1, hg, hh, hn', hm, hs, ht⟩
  · omega
  · exact ⟨g, cap, cur, e1, hg, hh, by
      have h1 := h.1
      rw [← ht, List.length_take, Array.length_toList] at h1
      omega, by omega⟩
theorem ks_of_own2 {w : World} {base : Nat} {a : Option Addr} {n c : Nat} {T : List (List UInt8)} (h : w.ownsRow base 9 1 (.slice a n c) n (T.map encStr)) : KsAt w a T := by
  intro hne
  have hpos : 0 < T.length := List.length_pos_iff.2 hne
  have hx := h.1
  rw [List.length_map] at hx
  rcases h.2 with ⟨e1, e2⟩ | ⟨g, cap, cur, e1, _⟩
  · omega
  · injection e1 with e1 e2 e3
    subst e1
    exact ⟨g, 0, rfl, fun j hj => by rw [Nat.zero_add]; exact own_cellK h hj⟩
theorem ks_one (W : World) : KsAt (W.alloc (.cells #[.string ⟨#[97]⟩] 9)) (some ⟨W.heap.size, 0, none⟩) [[97]] := by
  intro _
  refine ⟨W.heap.size, 0, rfl, fun j hj => ?_⟩
  obtain rfl : j = 0 := by simp at hj; omega
  rw [Nat.zero_add, cell_of_row _ _ 0 _ _ _ (heap_alloc_new W _)]
  rfl
set_option maxRecDepth 20000 in
set_option maxHeartbeats 16000000 in
theorem refuses_walk (K : List (List UInt8)) (aK : Option Addr) (cK : Nat) (at_ what : Int) (ad : Nat → Addr) (w : World) (hK : KsAt w aK K) (hk : K.length ≤ 1048576) (hE : Errs13 w ad) :
    Calls Tryd.prog 3 #[.slice aK K.length cK, .int .i64 at_, .int .i64 what] w fun e w' => e = .returned (.bool true) ∧ Kept (fun _ => False) w w' := by
  have CF := hideQ (fixed_any ad w hE)
  have CS : Hid (∀ W, Kept (fun _ => False) w W → Calls Tryd.prog 5 #[.slice aK K.length cK] W fun e w' => (∃ v T, e = .returned v ∧ KsOut w' W.heap.size v T ∧ StrictK T ∧ (∀ x ∈ T, okK x) ∧ T.length ≤ K.length) ∧ Kept (fun _ => False) W w') := hideQ (fun W k => sorted_any K aK cK W (hK.kept k) hk)
  have HE := hideQ hE
  obtain ⟨nK, hnK⟩ : ∃ nK, nK = K.length := ⟨_, rfl⟩
  rw [← hnK] at CS hk ⊢
  obtain ⟨ua, hua⟩ : ∃ u : Nat, IntKind.u64.wrap at_ = (u : Int) := ⟨(IntKind.u64.wrap at_).toNat, by rw [IntKind.wrap_u64]; omega⟩
  obtain ⟨uw, huw⟩ : ∃ u : Nat, IntKind.u64.wrap what = (u : Int) := ⟨(IntKind.u64.wrap what).toNat, by rw [IntKind.wrap_u64]; omega⟩
  obtain ⟨vw, hvw⟩ : ∃ v : Nat, v = uw % 8 := ⟨_, rfl⟩
  have hvl : vw < 8 := by omega
  have et : (uw : Int).tmod 8 = (vw : Int) := by rw [Int.tmod_eq_emod_of_nonneg (by omega)]; omega
  have et2 : (uw : Int) % 8 = (vw : Int) := by omega
  obtain ⟨i0, hi0, hz0, hz1, hz2⟩ := info_parts Tryd.infoE
  clear hnK hK hE hvw
  go_enter Tryd.func3, Tryd.ntmps3
  go_wp2_with (first
    | (go_at_call 4; refine CF.out.mono ?_; rintro e W1 ⟨rfl, K1⟩; have HK1 := hideQ K1; clear K1)
    | (go_at_call 5; refine Stp.go ?_))
  refine ⟨?_⟩
  refine (CS.out _ HK1.out).mono ?_
  rintro e W2 ⟨⟨vT, T, rfl, hO, hSt, hOk, hTl⟩, K2⟩
  obtain ⟨aT, cT, rfl⟩ := row_shape hO
  have hKT := ks_of_own2 hO
  have HK2 := hideQ (HK1.out.trans K2 (fun _ f => f.elim))
  clear CS CF K2 HK1 hO
  by_cases hTe : T = []
  · focus
      subst hTe
      have hK3 := HK2.out.trans (Kept.alloc W2 (.cells #[.string ⟨#[97]⟩] 9)) (fun _ f => f.elim)
      have hKT1 := ks_one W2
      obtain ⟨aT', nT, cT', e9, en, ea⟩ : ∃ (aT' : Option Addr) (nT cT' : Nat), Value.slice (some ⟨W2.heap.size, 0, none⟩) 1 1 = .slice aT' nT cT' ∧ nT = 1 ∧ aT' = some ⟨W2.heap.size, 0, none⟩ := ⟨_, _, _, rfl, rfl, rfl⟩
      obtain ⟨T, hT⟩ : ∃ T : List (List UInt8), T = [[97]] := ⟨_, rfl⟩
      have hSt2 : StrictK T := by rw [hT]; intro i h; simp at h
      have hOk2 : ∀ x ∈ T, okK x := by rw [hT]; intro x hx; simp at hx; subst hx; unfold okK; decide
      have hTb : T.length ≤ 1048576 := by rw [hT]; decide
      have hTne : T ≠ [] := by rw [hT]; simp
      have hnT : nT = T.length := by rw [hT, en]; rfl
      rw [← ea, ← hT] at hKT1
      have E9 := hideQ e9
      clear e9 en ea hT hKT hSt hOk hTl HK2
      go_upto_region 6 with fail
      rw [E9.out]
      generalize W2.alloc (.cells #[.string ⟨#[97]⟩] 9) = W3 at *
      have HK3 := hideQ hK3
      have HKT := hideQ hKT1
      have hSt := hSt2
      have hOk := hOk2
      clear E9 hK3 hKT1 hSt2 hOk2
      have HG := hideQ (entZ_good hSt hOk)
      have HNT := hideQ hnT
      have hnt : nT ≤ 1048576 := by rw [hnT]; exact hTb
      have hnp : 0 < nT := by rw [hnT]; exact List.length_pos_iff.2 hTne
      clear hSt hOk hnT hTb hTne
      go_wp2
      go_loopw [8, 25] (fun v8 v25 wr => ∃ (i : Nat) (vb : Value), i ≤ nT ∧ v25 = .int .i64 i ∧ v8 = vb ∧ Hid (wr.ownsRow W3.heap.size 27 5 vb i (ecs ((entZ T).take i))) ∧ Hid (Kept (fun _ => False) W3 wr)) (fun _ v25 _ => nT - (intOf v25).toNat)
      case atStart => exact ⟨0, _, by omega, rfl, rfl, hideQ ⟨rfl, .inl ⟨rfl, rfl⟩⟩, Kept.refl _ _⟩
      case round =>
        obtain ⟨i, vb, hi, rfl, rfl, HOr, HKr⟩ := hrel
        by_cases hlt : i < nT
        · have hii : (i : Int) < (nT : Int) := by omega
          have hiT : i < T.length := by rw [← HNT.out]; exact hlt
          obtain ⟨bT, oT, rfl, hcT⟩ := HKT.out.kept HKr.out (by intro e; rw [e] at hiT; simp at hiT)
          have x0 := hcT i hiT
          have HTk : Hid (ecs ((entZ T).take (i + 1)) = ecs ((entZ T).take i) ++ (enZ T[i]).cells) := hideQ (by rw [entZ_take hiT, ecs_snoc])
          unfold enZ En.cells at HTk
          generalize T[i] = x at *
          obtain ⟨kb, hkb⟩ : ∃ kb : ByteArray, kb = ⟨x.toArray⟩ := ⟨_, rfl⟩
          rw [← hkb] at x0 HTk
          have hb : W3.heap.size ≤ wr.heap.size := HKr.out.size
          clear hcT hkb
          go_wp2_with (at_builtin; refine Stp.go ?_)
          refine ⟨?_⟩
          refine wpList_pushR (base := W3.heap.size) rfl (.tmp 29) (.tmp 32) 25 rfl 27 i0 _ 5 48 Tryd.underlying25 hi0 hz0 hz1 hz2 rfl (by decide) _ i (ecs ((entZ T).take i)) [.string kb, .int .i64 0, .int .i64 0, .int .i64 0, .int .i64 0] rfl HOr hb (by first | rfl | (simp; rfl)) rfl ?one (hideQ (by omega)) (hideQ (by unfold maxLen; omega)) ?_
          case one => intro u hu; simp at hu; rcases hu with rfl | rfl <;> rfl
          intro a7 c7 W7 HO7 HK7
          have HK8 := hideQ (HKr.out.trans HK7.out (fun j hj => .inr (HOr.out.lt _ hj).1))
          go_wp2
          go_roundw
          case rel => exact ⟨i + 1, _, hlt, by go_num, rfl, hideQ (by rw [HTk.out]; exact HO7.out), HK8⟩
          case measure => simp [intOf]; omega
        · obtain rfl : i = nT := by omega
          have hii : ¬ (i : Int) < (i : Int) := by omega
          obtain ⟨E, hEe⟩ : ∃ E, E = entZ T := ⟨_, rfl⟩
          have hTk : (entZ T).take i = E := by rw [hEe]; exact List.take_of_length_le (by rw [entZ_len, HNT.out]; exact Nat.le_refl _)
          rw [hTk] at HOr
          have HLn : Hid (i = E.length) := hideQ (by rw [hEe, entZ_len]; exact HNT.out)
          rw [← hEe] at HG
          have HZ : Hid (∀ k (h : k < E.length), (E[k]).d = 0 ∧ (E[k]).t = 0 ∧ (E[k]).p = 0 ∧ (E[k]).s = 0) := hideQ (fun k h => by
            subst hEe
            rw [entZ_at (by rw [entZ_len] at h; exact h)]
            exact ⟨rfl, rfl, rfl, rfl⟩)
          clear hTk hEe
          obtain ⟨g, cE, cur, rfl, hgb, hh, hcs, hcap⟩ := row_block HOr.out hnp
          have HH := hideQ hh
          have HGB := hideQ hgb
          have HCS := hideQ hcs
          have HEs := hideQ (es_of_own HOr.out HLn.out)
          have HKw := hideQ (HK3.out.trans HKr.out (fun _ f => f.elim))
          obtain ⟨nT, hnT2⟩ : ∃ nT, nT = i := ⟨_, rfl⟩
          obtain ⟨q, hq⟩ : ∃ q : Nat, q = ua % i := ⟨_, rfl⟩
          have hqi : q < i := by rw [hq]; exact Nat.mod_lt _ hnp
          have hqE : q < E.length := by rw [← HLn.out]; exact hqi
          have e1 : (ua : Int).tmod (i : Int) = (q : Int) := by rw [Int.tmod_eq_emod_of_nonneg (by omega), hq]; rfl
          have hn0 : ¬ (i : Int) = 0 := by omega
          have hn1 : ((i : Int) == 0) = false := by rw [beq_eq_false_iff_ne]; omega
          have hw1 : IntKind.u64.wrap (i : Int) = (i : Int) := by rw [IntKind.wrap_u64]; omega
          have hw2 : IntKind.i64.wrap (q : Int) = (q : Int) := by rw [IntKind.wrap_i64]; omega
          obtain ⟨b', o', e', hc⟩ := HEs.out (by intro e; rw [e] at hqE; simp at hqE)
          injection e' with e'
          injection e' with e5 e6
          subst e5 e6
          obtain ⟨c0, c1, c2, c3, c4⟩ := hc q hqE
          have h0E : 0 < E.length := by rw [← HLn.out]; exact hnp
          obtain ⟨m0, m1, m2, m3, m4⟩ := hc 0 h0E
          obtain ⟨zd, zt, zp, zs⟩ := HZ.out q hqE
          have HCQ : Hid ((E[q]'hqE).cells = [.string (E[q]'hqE).k, .int .i64 0, .int .i64 0, .int .i64 0, .int .i64 0]) := hideQ (by unfold En.cells; rw [zd, zt, zp, zs])
          rw [zd] at c1
          rw [zt] at c2
          rw [zp] at c3
          rw [zs] at c4
          simp only [Nat.zero_add, Nat.zero_mul] at c0 c1 c2 c3 c4 m0
          have fz : ∀ j, wr.frozen? ⟨g, j, none⟩ = false := fun j => by simp [World.frozen?, hh]
          have f0 := fz (q * 5)
          have f1 := fz (q * 5 + 1)
          have f2 := fz (q * 5 + 2)
          have f3 := fz (q * 5 + 3)
          have f4 := fz (q * 5 + 4)
          subst hnT2
          clear hq hc fz hh hgb hcs zd zt zp zs m1 m2 m3 m4 hii
          have hv8 : vw = 0 ∨ vw = 1 ∨ vw = 2 ∨ vw = 3 ∨ vw = 4 ∨ vw = 5 ∨ vw = 6 ∨ vw = 7 := by omega
          rcases hv8 with rfl | rfl | rfl | rfl | rfl | rfl | rfl | rfl
          · focus
              have HES : Hid (EsAt (wr.setCell ⟨g, q * 5, none⟩ (.string ⟨#[]⟩)) (some ⟨g, 0, none⟩) (E.set q ⟨⟨#[]⟩, 0, 0, 0, 0⟩)) := hideQ (es_set HEs.out (i := q) (j := 0) hqE (by omega) (.string ⟨#[]⟩) ⟨⟨#[]⟩, 0, 0, 0, 0⟩ (fun j' hj' => by
                have hj5 : j' = 0 ∨ j' = 1 ∨ j' = 2 ∨ j' = 3 ∨ j' = 4 := by omega
                rw [HCQ.out]
                rcases hj5 with rfl | rfl | rfl | rfl | rfl <;> simp [En.cells]) ⟨cur, _, HH.out, by have := HCS.out; omega⟩)
              have HGN : Hid ((E.set q ⟨⟨#[]⟩, 0, 0, 0, 0⟩).all genB = false) := hideQ (all_set_false hqE rfl)
              have HLS : Hid ((E.set q ⟨⟨#[]⟩, 0, 0, 0, 0⟩).length = nT) := hideQ (by rw [List.length_set]; exact HLn.out.symm)
              have HKE := hideQ (HKw.out.trans (Kept.setCell wr ⟨g, q * 5, none⟩ (.string ⟨#[]⟩)) (fun i hi => .inr (by simp only at hi; have := HGB.out; have := HK3.out.size; omega)))
              have hE9 := HE.out.kept HKE.out
              have CB := hideQ (build_lim (E.set q ⟨⟨#[]⟩, 0, 0, 0, 0⟩) (some ⟨g, 0, none⟩) cE (ad 2) (wr.setCell ⟨g, q * 5, none⟩ (.string ⟨#[]⟩)) (HES.out) (by rw [HLS.out]; omega) hE9.s2.var HGN.out)
              rw [HLS.out] at CB
              clear hE9
              go_wp2_with (go_at_call 7; refine Stp.go ?_)
              refine ⟨?_⟩
              refine CB.out.mono ?_
              rintro e W9 ⟨rfl, k9⟩
              have HK9 := hideQ (HKE.out.trans k9 (fun _ f => f.elim))
              have CU := hideQ (num_limit (HE.out.kept HK9.out))
              clear k9 CB HKE
              unfold errV
              go_wp2_with (go_at_call 8; refine CU.out.mono ?_; rintro e WA ⟨rfl, hWA⟩; obtain rfl := hWA.symm; clear hWA)
              go_ret
              exact ⟨rfl, HK9.out⟩
          · focus
              have CRp := hideQ (Tryd.strings_Repeat ⟨#[107]⟩ 66 wr (by decide) (by decide))
              obtain ⟨kb, hkb⟩ : ∃ kb : ByteArray, kb = ⟨(Lib.repeatL (⟨#[107]⟩ : ByteArray).data.toList 66).toArray⟩ := ⟨_, rfl⟩
              have hks : kb.size = 66 := by rw [hkb]; decide +kernel
              rw [← hkb, show ((66 : Nat) : Int) = 66 from rfl] at CRp
              clear hkb
              go_wp2_with (go_at_call 6; refine Stp.go ?_)
              refine ⟨?_⟩
              refine CRp.out.mono ?_
              rintro e W5 ⟨rfl, hb5⟩
              have k5 := Kept.of_below hb5
              have c0 := k5.cell c0 (fun f => f)
              have hh5 := k5.heap HH.out (fun f => f)
              have f0 : W5.frozen? ⟨g, q * 5, none⟩ = false := by simp [World.frozen?, hh5]
              have HEs := hideQ (HEs.out.kept k5)
              have HKw := hideQ (HKw.out.trans k5 (fun _ f => f.elim))
              have HH := hideQ hh5
              clear hb5 k5 hh5 CRp
              have HES : Hid (EsAt (W5.setCell ⟨g, q * 5, none⟩ (.string kb)) (some ⟨g, 0, none⟩) (E.set q ⟨kb, 0, 0, 0, 0⟩)) := hideQ (es_set HEs.out (i := q) (j := 0) hqE (by omega) (.string kb) ⟨kb, 0, 0, 0, 0⟩ (fun j' hj' => by
                have hj5 : j' = 0 ∨ j' = 1 ∨ j' = 2 ∨ j' = 3 ∨ j' = 4 := by omega
                rw [HCQ.out]
                rcases hj5 with rfl | rfl | rfl | rfl | rfl <;> simp [En.cells]) ⟨cur, _, HH.out, by have := HCS.out; omega⟩)
              have HGN : Hid ((E.set q ⟨kb, 0, 0, 0, 0⟩).all genB = false) := hideQ (all_set_false hqE (by simp [genB, hks]))
              have HLS : Hid ((E.set q ⟨kb, 0, 0, 0, 0⟩).length = nT) := hideQ (by rw [List.length_set]; exact HLn.out.symm)
              have HKE := hideQ (HKw.out.trans (Kept.setCell W5 ⟨g, q * 5, none⟩ (.string kb)) (fun i hi => .inr (by simp only at hi; have := HGB.out; have := HK3.out.size; omega)))
              have hE9 := HE.out.kept HKE.out
              have CB := hideQ (build_lim (E.set q ⟨kb, 0, 0, 0, 0⟩) (some ⟨g, 0, none⟩) cE (ad 2) (W5.setCell ⟨g, q * 5, none⟩ (.string kb)) (HES.out) (by rw [HLS.out]; omega) hE9.s2.var HGN.out)
              rw [HLS.out] at CB
              clear hE9
              go_wp2_with (go_at_call 7; refine Stp.go ?_)
              refine ⟨?_⟩
              refine CB.out.mono ?_
              rintro e W9 ⟨rfl, k9⟩
              have HK9 := hideQ (HKE.out.trans k9 (fun _ f => f.elim))
              have CU := hideQ (num_limit (HE.out.kept HK9.out))
              clear k9 CB HKE
              unfold errV
              go_wp2_with (go_at_call 8; refine CU.out.mono ?_; rintro e WA ⟨rfl, hWA⟩; obtain rfl := hWA.symm; clear hWA)
              go_ret
              exact ⟨rfl, HK9.out⟩
          · focus
              have HES : Hid (EsAt (wr.setCell ⟨g, q * 5 + 1, none⟩ (.int .i64 (-1))) (some ⟨g, 0, none⟩) (E.set q ⟨(E[q]'hqE).k, -1, 0, 0, 0⟩)) := hideQ (es_set HEs.out (i := q) (j := 1) hqE (by omega) (.int .i64 (-1)) ⟨(E[q]'hqE).k, -1, 0, 0, 0⟩ (fun j' hj' => by
                have hj5 : j' = 0 ∨ j' = 1 ∨ j' = 2 ∨ j' = 3 ∨ j' = 4 := by omega
                rw [HCQ.out]
                rcases hj5 with rfl | rfl | rfl | rfl | rfl <;> simp [En.cells]) ⟨cur, _, HH.out, by have := HCS.out; omega⟩)
              have HGN : Hid ((E.set q ⟨(E[q]'hqE).k, -1, 0, 0, 0⟩).all genB = false) := hideQ (all_set_false hqE (by simp [genB, nin]))
              have HLS : Hid ((E.set q ⟨(E[q]'hqE).k, -1, 0, 0, 0⟩).length = nT) := hideQ (by rw [List.length_set]; exact HLn.out.symm)
              have HKE := hideQ (HKw.out.trans (Kept.setCell wr ⟨g, q * 5 + 1, none⟩ (.int .i64 (-1))) (fun i hi => .inr (by simp only at hi; have := HGB.out; have := HK3.out.size; omega)))
              have hE9 := HE.out.kept HKE.out
              have CB := hideQ (build_lim (E.set q ⟨(E[q]'hqE).k, -1, 0, 0, 0⟩) (some ⟨g, 0, none⟩) cE (ad 2) (wr.setCell ⟨g, q * 5 + 1, none⟩ (.int .i64 (-1))) (HES.out) (by rw [HLS.out]; omega) hE9.s2.var HGN.out)
              rw [HLS.out] at CB
              clear hE9
              go_wp2_with (go_at_call 7; refine Stp.go ?_)
              refine ⟨?_⟩
              refine CB.out.mono ?_
              rintro e W9 ⟨rfl, k9⟩
              have HK9 := hideQ (HKE.out.trans k9 (fun _ f => f.elim))
              have CU := hideQ (num_limit (HE.out.kept HK9.out))
              clear k9 CB HKE
              unfold errV
              go_wp2_with (go_at_call 8; refine CU.out.mono ?_; rintro e WA ⟨rfl, hWA⟩; obtain rfl := hWA.symm; clear hWA)
              go_ret
              exact ⟨rfl, HK9.out⟩
          · focus
              have HES : Hid (EsAt (wr.setCell ⟨g, q * 5 + 2, none⟩ (.int .i64 2147483648)) (some ⟨g, 0, none⟩) (E.set q ⟨(E[q]'hqE).k, 0, 2147483648, 0, 0⟩)) := hideQ (es_set HEs.out (i := q) (j := 2) hqE (by omega) (.int .i64 2147483648) ⟨(E[q]'hqE).k, 0, 2147483648, 0, 0⟩ (fun j' hj' => by
                have hj5 : j' = 0 ∨ j' = 1 ∨ j' = 2 ∨ j' = 3 ∨ j' = 4 := by omega
                rw [HCQ.out]
                rcases hj5 with rfl | rfl | rfl | rfl | rfl <;> simp [En.cells]) ⟨cur, _, HH.out, by have := HCS.out; omega⟩)
              have HGN : Hid ((E.set q ⟨(E[q]'hqE).k, 0, 2147483648, 0, 0⟩).all genB = false) := hideQ (all_set_false hqE (by simp [genB, nin]))
              have HLS : Hid ((E.set q ⟨(E[q]'hqE).k, 0, 2147483648, 0, 0⟩).length = nT) := hideQ (by rw [List.length_set]; exact HLn.out.symm)
              have HKE := hideQ (HKw.out.trans (Kept.setCell wr ⟨g, q * 5 + 2, none⟩ (.int .i64 2147483648)) (fun i hi => .inr (by simp only at hi; have := HGB.out; have := HK3.out.size; omega)))
              have hE9 := HE.out.kept HKE.out
              have CB := hideQ (build_lim (E.set q ⟨(E[q]'hqE).k, 0, 2147483648, 0, 0⟩) (some ⟨g, 0, none⟩) cE (ad 2) (wr.setCell ⟨g, q * 5 + 2, none⟩ (.int .i64 2147483648)) (HES.out) (by rw [HLS.out]; omega) hE9.s2.var HGN.out)
              rw [HLS.out] at CB
              clear hE9
              go_wp2_with (go_at_call 7; refine Stp.go ?_)
              refine ⟨?_⟩
              refine CB.out.mono ?_
              rintro e W9 ⟨rfl, k9⟩
              have HK9 := hideQ (HKE.out.trans k9 (fun _ f => f.elim))
              have CU := hideQ (num_limit (HE.out.kept HK9.out))
              clear k9 CB HKE
              unfold errV
              go_wp2_with (go_at_call 8; refine CU.out.mono ?_; rintro e WA ⟨rfl, hWA⟩; obtain rfl := hWA.symm; clear hWA)
              go_ret
              exact ⟨rfl, HK9.out⟩
          · focus
              have HES : Hid (EsAt (wr.setCell ⟨g, q * 5 + 3, none⟩ (.int .i64 (-9223372036854775808))) (some ⟨g, 0, none⟩) (E.set q ⟨(E[q]'hqE).k, 0, 0, -9223372036854775808, 0⟩)) := hideQ (es_set HEs.out (i := q) (j := 3) hqE (by omega) (.int .i64 (-9223372036854775808)) ⟨(E[q]'hqE).k, 0, 0, -9223372036854775808, 0⟩ (fun j' hj' => by
                have hj5 : j' = 0 ∨ j' = 1 ∨ j' = 2 ∨ j' = 3 ∨ j' = 4 := by omega
                rw [HCQ.out]
                rcases hj5 with rfl | rfl | rfl | rfl | rfl <;> simp [En.cells]) ⟨cur, _, HH.out, by have := HCS.out; omega⟩)
              have HGN : Hid ((E.set q ⟨(E[q]'hqE).k, 0, 0, -9223372036854775808, 0⟩).all genB = false) := hideQ (all_set_false hqE (by simp [genB, nin]))
              have HLS : Hid ((E.set q ⟨(E[q]'hqE).k, 0, 0, -9223372036854775808, 0⟩).length = nT) := hideQ (by rw [List.length_set]; exact HLn.out.symm)
              have HKE := hideQ (HKw.out.trans (Kept.setCell wr ⟨g, q * 5 + 3, none⟩ (.int .i64 (-9223372036854775808))) (fun i hi => .inr (by simp only at hi; have := HGB.out; have := HK3.out.size; omega)))
              have hE9 := HE.out.kept HKE.out
              have CB := hideQ (build_lim (E.set q ⟨(E[q]'hqE).k, 0, 0, -9223372036854775808, 0⟩) (some ⟨g, 0, none⟩) cE (ad 2) (wr.setCell ⟨g, q * 5 + 3, none⟩ (.int .i64 (-9223372036854775808))) (HES.out) (by rw [HLS.out]; omega) hE9.s2.var HGN.out)
              rw [HLS.out] at CB
              clear hE9
              go_wp2_with (go_at_call 7; refine Stp.go ?_)
              refine ⟨?_⟩
              refine CB.out.mono ?_
              rintro e W9 ⟨rfl, k9⟩
              have HK9 := hideQ (HKE.out.trans k9 (fun _ f => f.elim))
              have CU := hideQ (num_limit (HE.out.kept HK9.out))
              clear k9 CB HKE
              unfold errV
              go_wp2_with (go_at_call 8; refine CU.out.mono ?_; rintro e WA ⟨rfl, hWA⟩; obtain rfl := hWA.symm; clear hWA)
              go_ret
              exact ⟨rfl, HK9.out⟩
          · focus
              have HES : Hid (EsAt (wr.setCell ⟨g, q * 5 + 4, none⟩ (.int .i64 9223372036854775807)) (some ⟨g, 0, none⟩) (E.set q ⟨(E[q]'hqE).k, 0, 0, 0, 9223372036854775807⟩)) := hideQ (es_set HEs.out (i := q) (j := 4) hqE (by omega) (.int .i64 9223372036854775807) ⟨(E[q]'hqE).k, 0, 0, 0, 9223372036854775807⟩ (fun j' hj' => by
                have hj5 : j' = 0 ∨ j' = 1 ∨ j' = 2 ∨ j' = 3 ∨ j' = 4 := by omega
                rw [HCQ.out]
                rcases hj5 with rfl | rfl | rfl | rfl | rfl <;> simp [En.cells]) ⟨cur, _, HH.out, by have := HCS.out; omega⟩)
              have HGN : Hid ((E.set q ⟨(E[q]'hqE).k, 0, 0, 0, 9223372036854775807⟩).all genB = false) := hideQ (all_set_false hqE (by simp [genB, nin]))
              have HLS : Hid ((E.set q ⟨(E[q]'hqE).k, 0, 0, 0, 9223372036854775807⟩).length = nT) := hideQ (by rw [List.length_set]; exact HLn.out.symm)
              have HKE := hideQ (HKw.out.trans (Kept.setCell wr ⟨g, q * 5 + 4, none⟩ (.int .i64 9223372036854775807)) (fun i hi => .inr (by simp only at hi; have := HGB.out; have := HK3.out.size; omega)))
              have hE9 := HE.out.kept HKE.out
              have CB := hideQ (build_lim (E.set q ⟨(E[q]'hqE).k, 0, 0, 0, 9223372036854775807⟩) (some ⟨g, 0, none⟩) cE (ad 2) (wr.setCell ⟨g, q * 5 + 4, none⟩ (.int .i64 9223372036854775807)) (HES.out) (by rw [HLS.out]; omega) hE9.s2.var HGN.out)
              rw [HLS.out] at CB
              clear hE9
              go_wp2_with (go_at_call 7; refine Stp.go ?_)
              refine ⟨?_⟩
              refine CB.out.mono ?_
              rintro e W9 ⟨rfl, k9⟩
              have HK9 := hideQ (HKE.out.trans k9 (fun _ f => f.elim))
              have CU := hideQ (num_limit (HE.out.kept HK9.out))
              clear k9 CB HKE
              unfold errV
              go_wp2_with (go_at_call 8; refine CU.out.mono ?_; rintro e WA ⟨rfl, hWA⟩; obtain rfl := hWA.symm; clear hWA)
              go_ret
              exact ⟨rfl, HK9.out⟩
          · focus
              obtain ⟨zd, zt, zp, zs⟩ := HZ.out q hqE
              have HTq : Hid (ecs (E ++ [E[q]]) = ecs E ++ [.string (E[q]'hqE).k, .int .i64 0, .int .i64 0, .int .i64 0, .int .i64 0]) := hideQ (by rw [ecs_snoc]; unfold En.cells; rw [zd, zt, zp, zs])
              have HAL := hideQ (app_all HG.out hqE)
              have HNO := hideQ (app_not HG.out hqE)
              have HLS : Hid ((E ++ [E[q]'hqE]).length = nT + 1) := hideQ (by rw [List.length_append, List.length_singleton, ← HLn.out])
              generalize (E[q]'hqE).k = kq at *
              generalize (E ++ [E[q]'hqE]) = E1 at *
              clear zd zt zp zs
              have hb : W3.heap.size ≤ wr.heap.size := HKr.out.size
              go_wp2_with (at_builtin; refine Stp.go ?_)
              refine ⟨?_⟩
              refine wpList_pushR (base := W3.heap.size) rfl (.tmp 84) (.tmp 89) 25 rfl 27 i0 _ 5 48 Tryd.underlying25 hi0 hz0 hz1 hz2 rfl (by decide) _ nT (ecs E) [.string kq, .int .i64 0, .int .i64 0, .int .i64 0, .int .i64 0] rfl HOr hb (by first | rfl | (simp; rfl)) rfl ?one (hideQ (by omega)) (hideQ (by unfold maxLen; omega)) ?_
              case one => intro u hu; simp at hu; rcases hu with rfl | rfl <;> rfl
              intro a7 c7 W7 HO7 HK7
              have HK7w := hideQ (HKw.out.trans HK7.out (fun j hj => .inr (by have h1 := (HOr.out.lt _ hj).1; have h2 := HK3.out.size; omega)))
              rw [← HTq.out] at HO7
              have HKE := hideQ (HK7w.out)
              have hE9 := HE.out.kept HKE.out
              have CB := hideQ (build_ord (E1) a7 c7 (ad 3) W7 (es_of_own HO7.out HLS.out.symm) (by rw [HLS.out]; omega) hE9.s3.var HAL.out HNO.out)
              rw [HLS.out] at CB
              clear hE9
              go_wp2_with (go_at_call 7; refine Stp.go ?_)
              refine ⟨?_⟩
              refine CB.out.mono ?_
              rintro e W9 ⟨rfl, k9⟩
              have HK9 := hideQ (HKE.out.trans k9 (fun _ f => f.elim))
              have CU := hideQ (num_order (HE.out.kept HK9.out))
              clear k9 CB HKE
              unfold errV
              go_wp2_with (go_at_call 8; refine CU.out.mono ?_; rintro e WA ⟨rfl, hWA⟩; obtain rfl := hWA.symm; clear hWA)
              go_ret
              exact ⟨rfl, HK9.out⟩
          · focus
              obtain ⟨k0, hk0⟩ : ∃ k0, k0 = (E[0]'h0E).k := ⟨_, rfl⟩
              rw [← hk0] at m0
              clear hk0
              have HTq : Hid (ecs (E ++ [⟨k0, 0, 0, 0, 0⟩, ⟨⟨#[120]⟩, -5, 0, 0, 0⟩]) = ecs E ++ [.string k0, .int .i64 0, .int .i64 0, .int .i64 0, .int .i64 0, .string ⟨#[120]⟩, .int .i64 (-5), .int .i64 0, .int .i64 0, .int .i64 0]) := hideQ (by simp [ecs, En.cells])
              have HAL := hideQ (all_app_false (E := E) ⟨k0, 0, 0, 0, 0⟩ (e := ⟨⟨#[120]⟩, -5, 0, 0, 0⟩) (by simp [genB, nin]))
              have HLS : Hid ((E ++ [(⟨k0, 0, 0, 0, 0⟩ : En), ⟨⟨#[120]⟩, -5, 0, 0, 0⟩]).length = nT + 2) := hideQ (by rw [List.length_append, ← HLn.out]; rfl)
              generalize (E ++ [(⟨k0, 0, 0, 0, 0⟩ : En), ⟨⟨#[120]⟩, -5, 0, 0, 0⟩]) = E1 at *
              have hb : W3.heap.size ≤ wr.heap.size := HKr.out.size
              go_wp2_with (at_builtin; refine Stp.go ?_)
              refine ⟨?_⟩
              refine wpList_pushR2 (base := W3.heap.size) rfl (.tmp 93) (.tmp 100) 25 rfl 27 i0 _ 5 48 Tryd.underlying25 hi0 hz0 hz1 hz2 rfl (by decide) _ nT (ecs E) [.string k0, .int .i64 0, .int .i64 0, .int .i64 0, .int .i64 0, .string ⟨#[120]⟩, .int .i64 (-5), .int .i64 0, .int .i64 0, .int .i64 0] rfl HOr (by first | rfl | (simp; rfl)) rfl ?one (hideQ (by omega)) (hideQ (by unfold maxLen; omega)) hb ?_
              case one => intro u hu; simp at hu; rcases hu with rfl | rfl | rfl | rfl | rfl <;> rfl
              intro a7 c7 W7 HO7 HK7
              have HK7w := hideQ (HKw.out.trans HK7.out (fun j hj => .inr (by have h1 := (HOr.out.lt _ hj).1; have h2 := HK3.out.size; omega)))
              rw [← HTq.out] at HO7
              have HKE := hideQ (HK7w.out)
              have hE9 := HE.out.kept HKE.out
              have CB := hideQ (build_lim (E1) a7 c7 (ad 2) W7 (es_of_own HO7.out HLS.out.symm) (by rw [HLS.out]; omega) hE9.s2.var HAL.out)
              rw [HLS.out] at CB
              clear hE9
              go_wp2_with (go_at_call 7; refine Stp.go ?_)
              refine ⟨?_⟩
              refine CB.out.mono ?_
              rintro e W9 ⟨rfl, k9⟩
              have HK9 := hideQ (HKE.out.trans k9 (fun _ f => f.elim))
              have CU := hideQ (num_limit (HE.out.kept HK9.out))
              clear k9 CB HKE
              unfold errV
              go_wp2_with (go_at_call 8; refine CU.out.mono ?_; rintro e WA ⟨rfl, hWA⟩; obtain rfl := hWA.symm; clear hWA)
              go_ret
              exact ⟨rfl, HK9.out⟩
  · focus
      have HK3 := HK2
      have HKT := hideQ hKT
      have hTb : T.length ≤ 1048576 := by omega
      have hTne := hTe
      have hl0 : ¬ T.length = 0 := fun e => hTe (List.length_eq_zero_iff.1 e)
      have hl1 : ((T.length : Int) == 0) = false := by rw [beq_eq_false_iff_ne]; omega
      obtain ⟨W3, hW3⟩ : ∃ W3, W3 = W2 := ⟨_, rfl⟩
      rw [← hW3] at HK3 HKT ⊢
      clear hKT hTe hl0 hW3 HK2 hTl
      have HG := hideQ (entZ_good hSt hOk)
      obtain ⟨nT, hnT⟩ : ∃ nT, nT = T.length := ⟨_, rfl⟩
      have HNT := hideQ hnT
      have hnt : nT ≤ 1048576 := by rw [hnT]; exact hTb
      have hnp : 0 < nT := by rw [hnT]; exact List.length_pos_iff.2 hTne
      rw [← hnT] at hl1 ⊢
      clear hSt hOk hnT hTb hTne
      go_wp2
      go_loopw [8, 25] (fun v8 v25 wr => ∃ (i : Nat) (vb : Value), i ≤ nT ∧ v25 = .int .i64 i ∧ v8 = vb ∧ Hid (wr.ownsRow W3.heap.size 27 5 vb i (ecs ((entZ T).take i))) ∧ Hid (Kept (fun _ => False) W3 wr)) (fun _ v25 _ => nT - (intOf v25).toNat)
      case atStart => exact ⟨0, _, by omega, rfl, rfl, hideQ ⟨rfl, .inl ⟨rfl, rfl⟩⟩, Kept.refl _ _⟩
      case round =>
        obtain ⟨i, vb, hi, rfl, rfl, HOr, HKr⟩ := hrel
        by_cases hlt : i < nT
        · have hii : (i : Int) < (nT : Int) := by omega
          have hiT : i < T.length := by rw [← HNT.out]; exact hlt
          obtain ⟨bT, oT, rfl, hcT⟩ := HKT.out.kept HKr.out (by intro e; rw [e] at hiT; simp at hiT)
          have x0 := hcT i hiT
          have HTk : Hid (ecs ((entZ T).take (i + 1)) = ecs ((entZ T).take i) ++ (enZ T[i]).cells) := hideQ (by rw [entZ_take hiT, ecs_snoc])
          unfold enZ En.cells at HTk
          generalize T[i] = x at *
          obtain ⟨kb, hkb⟩ : ∃ kb : ByteArray, kb = ⟨x.toArray⟩ := ⟨_, rfl⟩
          rw [← hkb] at x0 HTk
          have hb : W3.heap.size ≤ wr.heap.size := HKr.out.size
          clear hcT hkb
          go_wp2_with (at_builtin; refine Stp.go ?_)
          refine ⟨?_⟩
          refine wpList_pushR (base := W3.heap.size) rfl (.tmp 29) (.tmp 32) 25 rfl 27 i0 _ 5 48 Tryd.underlying25 hi0 hz0 hz1 hz2 rfl (by decide) _ i (ecs ((entZ T).take i)) [.string kb, .int .i64 0, .int .i64 0, .int .i64 0, .int .i64 0] rfl HOr hb (by first | rfl | (simp; rfl)) rfl ?one (hideQ (by omega)) (hideQ (by unfold maxLen; omega)) ?_
          case one => intro u hu; simp at hu; rcases hu with rfl | rfl <;> rfl
          intro a7 c7 W7 HO7 HK7
          have HK8 := hideQ (HKr.out.trans HK7.out (fun j hj => .inr (HOr.out.lt _ hj).1))
          go_wp2
          go_roundw
          case rel => exact ⟨i + 1, _, hlt, by go_num, rfl, hideQ (by rw [HTk.out]; exact HO7.out), HK8⟩
          case measure => simp [intOf]; omega
        · obtain rfl : i = nT := by omega
          have hii : ¬ (i : Int) < (i : Int) := by omega
          obtain ⟨E, hEe⟩ : ∃ E, E = entZ T := ⟨_, rfl⟩
          have hTk : (entZ T).take i = E := by rw [hEe]; exact List.take_of_length_le (by rw [entZ_len, HNT.out]; exact Nat.le_refl _)
          rw [hTk] at HOr
          have HLn : Hid (i = E.length) := hideQ (by rw [hEe, entZ_len]; exact HNT.out)
          rw [← hEe] at HG
          have HZ : Hid (∀ k (h : k < E.length), (E[k]).d = 0 ∧ (E[k]).t = 0 ∧ (E[k]).p = 0 ∧ (E[k]).s = 0) := hideQ (fun k h => by
            subst hEe
            rw [entZ_at (by rw [entZ_len] at h; exact h)]
            exact ⟨rfl, rfl, rfl, rfl⟩)
          clear hTk hEe
          obtain ⟨g, cE, cur, rfl, hgb, hh, hcs, hcap⟩ := row_block HOr.out hnp
          have HH := hideQ hh
          have HGB := hideQ hgb
          have HCS := hideQ hcs
          have HEs := hideQ (es_of_own HOr.out HLn.out)
          have HKw := hideQ (HK3.out.trans HKr.out (fun _ f => f.elim))
          obtain ⟨nT, hnT2⟩ : ∃ nT, nT = i := ⟨_, rfl⟩
          obtain ⟨q, hq⟩ : ∃ q : Nat, q = ua % i := ⟨_, rfl⟩
          have hqi : q < i := by rw [hq]; exact Nat.mod_lt _ hnp
          have hqE : q < E.length := by rw [← HLn.out]; exact hqi
          have e1 : (ua : Int).tmod (i : Int) = (q : Int) := by rw [Int.tmod_eq_emod_of_nonneg (by omega), hq]; rfl
          have hn0 : ¬ (i : Int) = 0 := by omega
          have hn1 : ((i : Int) == 0) = false := by rw [beq_eq_false_iff_ne]; omega
          have hw1 : IntKind.u64.wrap (i : Int) = (i : Int) := by rw [IntKind.wrap_u64]; omega
          have hw2 : IntKind.i64.wrap (q : Int) = (q : Int) := by rw [IntKind.wrap_i64]; omega
          obtain ⟨b', o', e', hc⟩ := HEs.out (by intro e; rw [e] at hqE; simp at hqE)
          injection e' with e'
          injection e' with e5 e6
          subst e5 e6
          obtain ⟨c0, c1, c2, c3, c4⟩ := hc q hqE
          have h0E : 0 < E.length := by rw [← HLn.out]; exact hnp
          obtain ⟨m0, m1, m2, m3, m4⟩ := hc 0 h0E
          obtain ⟨zd, zt, zp, zs⟩ := HZ.out q hqE
          have HCQ : Hid ((E[q]'hqE).cells = [.string (E[q]'hqE).k, .int .i64 0, .int .i64 0, .int .i64 0, .int .i64 0]) := hideQ (by unfold En.cells; rw [zd, zt, zp, zs])
          rw [zd] at c1
          rw [zt] at c2
          rw [zp] at c3
          rw [zs] at c4
          simp only [Nat.zero_add, Nat.zero_mul] at c0 c1 c2 c3 c4 m0
          have fz : ∀ j, wr.frozen? ⟨g, j, none⟩ = false := fun j => by simp [World.frozen?, hh]
          have f0 := fz (q * 5)
          have f1 := fz (q * 5 + 1)
          have f2 := fz (q * 5 + 2)
          have f3 := fz (q * 5 + 3)
          have f4 := fz (q * 5 + 4)
          subst hnT2
          clear hq hc fz hh hgb hcs zd zt zp zs m1 m2 m3 m4 hii
          have hv8 : vw = 0 ∨ vw = 1 ∨ vw = 2 ∨ vw = 3 ∨ vw = 4 ∨ vw = 5 ∨ vw = 6 ∨ vw = 7 := by omega
          rcases hv8 with rfl | rfl | rfl | rfl | rfl | rfl | rfl | rfl
          · focus
              have HES : Hid (EsAt (wr.setCell ⟨g, q * 5, none⟩ (.string ⟨#[]⟩)) (some ⟨g, 0, none⟩) (E.set q ⟨⟨#[]⟩, 0, 0, 0, 0⟩)) := hideQ (es_set HEs.out (i := q) (j := 0) hqE (by omega) (.string ⟨#[]⟩) ⟨⟨#[]⟩, 0, 0, 0, 0⟩ (fun j' hj' => by
                have hj5 : j' = 0 ∨ j' = 1 ∨ j' = 2 ∨ j' = 3 ∨ j' = 4 := by omega
                rw [HCQ.out]
                rcases hj5 with rfl | rfl | rfl | rfl | rfl <;> simp [En.cells]) ⟨cur, _, HH.out, by have := HCS.out; omega⟩)
              have HGN : Hid ((E.set q ⟨⟨#[]⟩, 0, 0, 0, 0⟩).all genB = false) := hideQ (all_set_false hqE rfl)
              have HLS : Hid ((E.set q ⟨⟨#[]⟩, 0, 0, 0, 0⟩).length = nT) := hideQ (by rw [List.length_set]; exact HLn.out.symm)
              have HKE := hideQ (HKw.out.trans (Kept.setCell wr ⟨g, q * 5, none⟩ (.string ⟨#[]⟩)) (fun i hi => .inr (by simp only at hi; have := HGB.out; have := HK3.out.size; omega)))
              have hE9 := HE.out.kept HKE.out
              have CB := hideQ (build_lim (E.set q ⟨⟨#[]⟩, 0, 0, 0, 0⟩) (some ⟨g, 0, none⟩) cE (ad 2) (wr.setCell ⟨g, q * 5, none⟩ (.string ⟨#[]⟩)) (HES.out) (by rw [HLS.out]; omega) hE9.s2.var HGN.out)
              rw [HLS.out] at CB
              clear hE9
              go_wp2_with (go_at_call 7; refine Stp.go ?_)
              refine ⟨?_⟩
              refine CB.out.mono ?_
              rintro e W9 ⟨rfl, k9⟩
              have HK9 := hideQ (HKE.out.trans k9 (fun _ f => f.elim))
              have CU := hideQ (num_limit (HE.out.kept HK9.out))
              clear k9 CB HKE
              unfold errV
              go_wp2_with (go_at_call 8; refine CU.out.mono ?_; rintro e WA ⟨rfl, hWA⟩; obtain rfl := hWA.symm; clear hWA)
              go_ret
              exact ⟨rfl, HK9.out⟩
          · focus
              have CRp := hideQ (Tryd.strings_Repeat ⟨#[107]⟩ 66 wr (by decide) (by decide))
              obtain ⟨kb, hkb⟩ : ∃ kb : ByteArray, kb = ⟨(Lib.repeatL (⟨#[107]⟩ : ByteArray).data.toList 66).toArray⟩ := ⟨_, rfl⟩
              have hks : kb.size = 66 := by rw [hkb]; decide +kernel
              rw [← hkb, show ((66 : Nat) : Int) = 66 from rfl] at CRp
              clear hkb
              go_wp2_with (go_at_call 6; refine Stp.go ?_)
              refine ⟨?_⟩
              refine CRp.out.mono ?_
              rintro e W5 ⟨rfl, hb5⟩
              have k5 := Kept.of_below hb5
              have c0 := k5.cell c0 (fun f => f)
              have hh5 := k5.heap HH.out (fun f => f)
              have f0 : W5.frozen? ⟨g, q * 5, none⟩ = false := by simp [World.frozen?, hh5]
              have HEs := hideQ (HEs.out.kept k5)
              have HKw := hideQ (HKw.out.trans k5 (fun _ f => f.elim))
              have HH := hideQ hh5
              clear hb5 k5 hh5 CRp
              have HES : Hid (EsAt (W5.setCell ⟨g, q * 5, none⟩ (.string kb)) (some ⟨g, 0, none⟩) (E.set q ⟨kb, 0, 0, 0, 0⟩)) := hideQ (es_set HEs.out (i := q) (j := 0) hqE (by omega) (.string kb) ⟨kb, 0, 0, 0, 0⟩ (fun j' hj' => by
                have hj5 : j' = 0 ∨ j' = 1 ∨ j' = 2 ∨ j' = 3 ∨ j' = 4 := by omega
                rw [HCQ.out]
                rcases hj5 with rfl | rfl | rfl | rfl | rfl <;> simp [En.cells]) ⟨cur, _, HH.out, by have := HCS.out; omega⟩)
              have HGN : Hid ((E.set q ⟨kb, 0, 0, 0, 0⟩).all genB = false) := hideQ (all_set_false hqE (by simp [genB, hks]))
              have HLS : Hid ((E.set q ⟨kb, 0, 0, 0, 0⟩).length = nT) := hideQ (by rw [List.length_set]; exact HLn.out.symm)
              have HKE := hideQ (HKw.out.trans (Kept.setCell W5 ⟨g, q * 5, none⟩ (.string kb)) (fun i hi => .inr (by simp only at hi; have := HGB.out; have := HK3.out.size; omega)))
              have hE9 := HE.out.kept HKE.out
              have CB := hideQ (build_lim (E.set q ⟨kb, 0, 0, 0, 0⟩) (some ⟨g, 0, none⟩) cE (ad 2) (W5.setCell ⟨g, q * 5, none⟩ (.string kb)) (HES.out) (by rw [HLS.out]; omega) hE9.s2.var HGN.out)
              rw [HLS.out] at CB
              clear hE9
              go_wp2_with (go_at_call 7; refine Stp.go ?_)
              refine ⟨?_⟩
              refine CB.out.mono ?_
              rintro e W9 ⟨rfl, k9⟩
              have HK9 := hideQ (HKE.out.trans k9 (fun _ f => f.elim))
              have CU := hideQ (num_limit (HE.out.kept HK9.out))
              clear k9 CB HKE
              unfold errV
              go_wp2_with (go_at_call 8; refine CU.out.mono ?_; rintro e WA ⟨rfl, hWA⟩; obtain rfl := hWA.symm; clear hWA)
              go_ret
              exact ⟨rfl, HK9.out⟩
          · focus
              have HES : Hid (EsAt (wr.setCell ⟨g, q * 5 + 1, none⟩ (.int .i64 (-1))) (some ⟨g, 0, none⟩) (E.set q ⟨(E[q]'hqE).k, -1, 0, 0, 0⟩)) := hideQ (es_set HEs.out (i := q) (j := 1) hqE (by omega) (.int .i64 (-1)) ⟨(E[q]'hqE).k, -1, 0, 0, 0⟩ (fun j' hj' => by
                have hj5 : j' = 0 ∨ j' = 1 ∨ j' = 2 ∨ j' = 3 ∨ j' = 4 := by omega
                rw [HCQ.out]
                rcases hj5 with rfl | rfl | rfl | rfl | rfl <;> simp [En.cells]) ⟨cur, _, HH.out, by have := HCS.out; omega⟩)
              have HGN : Hid ((E.set q ⟨(E[q]'hqE).k, -1, 0, 0, 0⟩).all genB = false) := hideQ (all_set_false hqE (by simp [genB, nin]))
              have HLS : Hid ((E.set q ⟨(E[q]'hqE).k, -1, 0, 0, 0⟩).length = nT) := hideQ (by rw [List.length_set]; exact HLn.out.symm)
              have HKE := hideQ (HKw.out.trans (Kept.setCell wr ⟨g, q * 5 + 1, none⟩ (.int .i64 (-1))) (fun i hi => .inr (by simp only at hi; have := HGB.out; have := HK3.out.size; omega)))
              have hE9 := HE.out.kept HKE.out
              have CB := hideQ (build_lim (E.set q ⟨(E[q]'hqE).k, -1, 0, 0, 0⟩) (some ⟨g, 0, none⟩) cE (ad 2) (wr.setCell ⟨g, q * 5 + 1, none⟩ (.int .i64 (-1))) (HES.out) (by rw [HLS.out]; omega) hE9.s2.var HGN.out)
              rw [HLS.out] at CB
              clear hE9
              go_wp2_with (go_at_call 7; refine Stp.go ?_)
              refine ⟨?_⟩
              refine CB.out.mono ?_
              rintro e W9 ⟨rfl, k9⟩
              have HK9 := hideQ (HKE.out.trans k9 (fun _ f => f.elim))
              have CU := hideQ (num_limit (HE.out.kept HK9.out))
              clear k9 CB HKE
              unfold errV
              go_wp2_with (go_at_call 8; refine CU.out.mono ?_; rintro e WA ⟨rfl, hWA⟩; obtain rfl := hWA.symm; clear hWA)
              go_ret
              exact ⟨rfl, HK9.out⟩
          · focus
              have HES : Hid (EsAt (wr.setCell ⟨g, q * 5 + 2, none⟩ (.int .i64 2147483648)) (some ⟨g, 0, none⟩) (E.set q ⟨(E[q]'hqE).k, 0, 2147483648, 0, 0⟩)) := hideQ (es_set HEs.out (i := q) (j := 2) hqE (by omega) (.int .i64 2147483648) ⟨(E[q]'hqE).k, 0, 2147483648, 0, 0⟩ (fun j' hj' => by
                have hj5 : j' = 0 ∨ j' = 1 ∨ j' = 2 ∨ j' = 3 ∨ j' = 4 := by omega
                rw [HCQ.out]
                rcases hj5 with rfl | rfl | rfl | rfl | rfl <;> simp [En.cells]) ⟨cur, _, HH.out, by have := HCS.out; omega⟩)
              have HGN : Hid ((E.set q ⟨(E[q]'hqE).k, 0, 2147483648, 0, 0⟩).all genB = false) := hideQ (all_set_false hqE (by simp [genB, nin]))
              have HLS : Hid ((E.set q ⟨(E[q]'hqE).k, 0, 2147483648, 0, 0⟩).length = nT) := hideQ (by rw [List.length_set]; exact HLn.out.symm)
              have HKE := hideQ (HKw.out.trans (Kept.setCell wr ⟨g, q * 5 + 2, none⟩ (.int .i64 2147483648)) (fun i hi => .inr (by simp only at hi; have := HGB.out; have := HK3.out.size; omega)))
              have hE9 := HE.out.kept HKE.out
              have CB := hideQ (build_lim (E.set q ⟨(E[q]'hqE).k, 0, 2147483648, 0, 0⟩) (some ⟨g, 0, none⟩) cE (ad 2) (wr.setCell ⟨g, q * 5 + 2, none⟩ (.int .i64 2147483648)) (HES.out) (by rw [HLS.out]; omega) hE9.s2.var HGN.out)
              rw [HLS.out] at CB
              clear hE9
              go_wp2_with (go_at_call 7; refine Stp.go ?_)
              refine ⟨?_⟩
              refine CB.out.mono ?_
              rintro e W9 ⟨rfl, k9⟩
              have HK9 := hideQ (HKE.out.trans k9 (fun _ f => f.elim))
              have CU := hideQ (num_limit (HE.out.kept HK9.out))
              clear k9 CB HKE
              unfold errV
              go_wp2_with (go_at_call 8; refine CU.out.mono ?_; rintro e WA ⟨rfl, hWA⟩; obtain rfl := hWA.symm; clear hWA)
              go_ret
              exact ⟨rfl, HK9.out⟩
          · focus
              have HES : Hid (EsAt (wr.setCell ⟨g, q * 5 + 3, none⟩ (.int .i64 (-9223372036854775808))) (some ⟨g, 0, none⟩) (E.set q ⟨(E[q]'hqE).k, 0, 0, -9223372036854775808, 0⟩)) := hideQ (es_set HEs.out (i := q) (j := 3) hqE (by omega) (.int .i64 (-9223372036854775808)) ⟨(E[q]'hqE).k, 0, 0, -9223372036854775808, 0⟩ (fun j' hj' => by
                have hj5 : j' = 0 ∨ j' = 1 ∨ j' = 2 ∨ j' = 3 ∨ j' = 4 := by omega
                rw [HCQ.out]
                rcases hj5 with rfl | rfl | rfl | rfl | rfl <;> simp [En.cells]) ⟨cur, _, HH.out, by have := HCS.out; omega⟩)
              have HGN : Hid ((E.set q ⟨(E[q]'hqE).k, 0, 0, -9223372036854775808, 0⟩).all genB = false) := hideQ (all_set_false hqE (by simp [genB, nin]))
              have HLS : Hid ((E.set q ⟨(E[q]'hqE).k, 0, 0, -9223372036854775808, 0⟩).length = nT) := hideQ (by rw [List.length_set]; exact HLn.out.symm)
              have HKE := hideQ (HKw.out.trans (Kept.setCell wr ⟨g, q * 5 + 3, none⟩ (.int .i64 (-9223372036854775808))) (fun i hi => .inr (by simp only at hi; have := HGB.out; have := HK3.out.size; omega)))
              have hE9 := HE.out.kept HKE.out
              have CB := hideQ (build_lim (E.set q ⟨(E[q]'hqE).k, 0, 0, -9223372036854775808, 0⟩) (some ⟨g, 0, none⟩) cE (ad 2) (wr.setCell ⟨g, q * 5 + 3, none⟩ (.int .i64 (-9223372036854775808))) (HES.out) (by rw [HLS.out]; omega) hE9.s2.var HGN.out)
              rw [HLS.out] at CB
              clear hE9
              go_wp2_with (go_at_call 7; refine Stp.go ?_)
              refine ⟨?_⟩
              refine CB.out.mono ?_
              rintro e W9 ⟨rfl, k9⟩
              have HK9 := hideQ (HKE.out.trans k9 (fun _ f => f.elim))
              have CU := hideQ (num_limit (HE.out.kept HK9.out))
              clear k9 CB HKE
              unfold errV
              go_wp2_with (go_at_call 8; refine CU.out.mono ?_; rintro e WA ⟨rfl, hWA⟩; obtain rfl := hWA.symm; clear hWA)
              go_ret
              exact ⟨rfl, HK9.out⟩
          · focus
              have HES : Hid (EsAt (wr.setCell ⟨g, q * 5 + 4, none⟩ (.int .i64 9223372036854775807)) (some ⟨g, 0, none⟩) (E.set q ⟨(E[q]'hqE).k, 0, 0, 0, 9223372036854775807⟩)) := hideQ (es_set HEs.out (i := q) (j := 4) hqE (by omega) (.int .i64 9223372036854775807) ⟨(E[q]'hqE).k, 0, 0, 0, 9223372036854775807⟩ (fun j' hj' => by
                have hj5 : j' = 0 ∨ j' = 1 ∨ j' = 2 ∨ j' = 3 ∨ j' = 4 := by omega
                rw [HCQ.out]
                rcases hj5 with rfl | rfl | rfl | rfl | rfl <;> simp [En.cells]) ⟨cur, _, HH.out, by have := HCS.out; omega⟩)
              have HGN : Hid ((E.set q ⟨(E[q]'hqE).k, 0, 0, 0, 9223372036854775807⟩).all genB = false) := hideQ (all_set_false hqE (by simp [genB, nin]))
              have HLS : Hid ((E.set q ⟨(E[q]'hqE).k, 0, 0, 0, 9223372036854775807⟩).length = nT) := hideQ (by rw [List.length_set]; exact HLn.out.symm)
              have HKE := hideQ (HKw.out.trans (Kept.setCell wr ⟨g, q * 5 + 4, none⟩ (.int .i64 9223372036854775807)) (fun i hi => .inr (by simp only at hi; have := HGB.out; have := HK3.out.size; omega)))
              have hE9 := HE.out.kept HKE.out
              have CB := hideQ (build_lim (E.set q ⟨(E[q]'hqE).k, 0, 0, 0, 9223372036854775807⟩) (some ⟨g, 0, none⟩) cE (ad 2) (wr.setCell ⟨g, q * 5 + 4, none⟩ (.int .i64 9223372036854775807)) (HES.out) (by rw [HLS.out]; omega) hE9.s2.var HGN.out)
              rw [HLS.out] at CB
              clear hE9
              go_wp2_with (go_at_call 7; refine Stp.go ?_)
              refine ⟨?_⟩
              refine CB.out.mono ?_
              rintro e W9 ⟨rfl, k9⟩
              have HK9 := hideQ (HKE.out.trans k9 (fun _ f => f.elim))
              have CU := hideQ (num_limit (HE.out.kept HK9.out))
              clear k9 CB HKE
              unfold errV
              go_wp2_with (go_at_call 8; refine CU.out.mono ?_; rintro e WA ⟨rfl, hWA⟩; obtain rfl := hWA.symm; clear hWA)
              go_ret
              exact ⟨rfl, HK9.out⟩
          · focus
              obtain ⟨zd, zt, zp, zs⟩ := HZ.out q hqE
              have HTq : Hid (ecs (E ++ [E[q]]) = ecs E ++ [.string (E[q]'hqE).k, .int .i64 0, .int .i64 0, .int .i64 0, .int .i64 0]) := hideQ (by rw [ecs_snoc]; unfold En.cells; rw [zd, zt, zp, zs])
              have HAL := hideQ (app_all HG.out hqE)
              have HNO := hideQ (app_not HG.out hqE)
              have HLS : Hid ((E ++ [E[q]'hqE]).length = nT + 1) := hideQ (by rw [List.length_append, List.length_singleton, ← HLn.out])
              generalize (E[q]'hqE).k = kq at *
              generalize (E ++ [E[q]'hqE]) = E1 at *
              clear zd zt zp zs
              have hb : W3.heap.size ≤ wr.heap.size := HKr.out.size
              go_wp2_with (at_builtin; refine Stp.go ?_)
              refine ⟨?_⟩
              refine wpList_pushR (base := W3.heap.size) rfl (.tmp 84) (.tmp 89) 25 rfl 27 i0 _ 5 48 Tryd.underlying25 hi0 hz0 hz1 hz2 rfl (by decide) _ nT (ecs E) [.string kq, .int .i64 0, .int .i64 0, .int .i64 0, .int .i64 0] rfl HOr hb (by first | rfl | (simp; rfl)) rfl ?one (hideQ (by omega)) (hideQ (by unfold maxLen; omega)) ?_
              case one => intro u hu; simp at hu; rcases hu with rfl | rfl <;> rfl
              intro a7 c7 W7 HO7 HK7
              have HK7w := hideQ (HKw.out.trans HK7.out (fun j hj => .inr (by have h1 := (HOr.out.lt _ hj).1; have h2 := HK3.out.size; omega)))
              rw [← HTq.out] at HO7
              have HKE := hideQ (HK7w.out)
              have hE9 := HE.out.kept HKE.out
              have CB := hideQ (build_ord (E1) a7 c7 (ad 3) W7 (es_of_own HO7.out HLS.out.symm) (by rw [HLS.out]; omega) hE9.s3.var HAL.out HNO.out)
              rw [HLS.out] at CB
              clear hE9
              go_wp2_with (go_at_call 7; refine Stp.go ?_)
              refine ⟨?_⟩
              refine CB.out.mono ?_
              rintro e W9 ⟨rfl, k9⟩
              have HK9 := hideQ (HKE.out.trans k9 (fun _ f => f.elim))
              have CU := hideQ (num_order (HE.out.kept HK9.out))
              clear k9 CB HKE
              unfold errV
              go_wp2_with (go_at_call 8; refine CU.out.mono ?_; rintro e WA ⟨rfl, hWA⟩; obtain rfl := hWA.symm; clear hWA)
              go_ret
              exact ⟨rfl, HK9.out⟩
          · focus
              obtain ⟨k0, hk0⟩ : ∃ k0, k0 = (E[0]'h0E).k := ⟨_, rfl⟩
              rw [← hk0] at m0
              clear hk0
              have HTq : Hid (ecs (E ++ [⟨k0, 0, 0, 0, 0⟩, ⟨⟨#[120]⟩, -5, 0, 0, 0⟩]) = ecs E ++ [.string k0, .int .i64 0, .int .i64 0, .int .i64 0, .int .i64 0, .string ⟨#[120]⟩, .int .i64 (-5), .int .i64 0, .int .i64 0, .int .i64 0]) := hideQ (by simp [ecs, En.cells])
              have HAL := hideQ (all_app_false (E := E) ⟨k0, 0, 0, 0, 0⟩ (e := ⟨⟨#[120]⟩, -5, 0, 0, 0⟩) (by simp [genB, nin]))
              have HLS : Hid ((E ++ [(⟨k0, 0, 0, 0, 0⟩ : En), ⟨⟨#[120]⟩, -5, 0, 0, 0⟩]).length = nT + 2) := hideQ (by rw [List.length_append, ← HLn.out]; rfl)
              generalize (E ++ [(⟨k0, 0, 0, 0, 0⟩ : En), ⟨⟨#[120]⟩, -5, 0, 0, 0⟩]) = E1 at *
              have hb : W3.heap.size ≤ wr.heap.size := HKr.out.size
              go_wp2_with (at_builtin; refine Stp.go ?_)
              refine ⟨?_⟩
              refine wpList_pushR2 (base := W3.heap.size) rfl (.tmp 93) (.tmp 100) 25 rfl 27 i0 _ 5 48 Tryd.underlying25 hi0 hz0 hz1 hz2 rfl (by decide) _ nT (ecs E) [.string k0, .int .i64 0, .int .i64 0, .int .i64 0, .int .i64 0, .string ⟨#[120]⟩, .int .i64 (-5), .int .i64 0, .int .i64 0, .int .i64 0] rfl HOr (by first | rfl | (simp; rfl)) rfl ?one (hideQ (by omega)) (hideQ (by unfold maxLen; omega)) hb ?_
              case one => intro u hu; simp at hu; rcases hu with rfl | rfl | rfl | rfl | rfl <;> rfl
              intro a7 c7 W7 HO7 HK7
              have HK7w := hideQ (HKw.out.trans HK7.out (fun j hj => .inr (by have h1 := (HOr.out.lt _ hj).1; have h2 := HK3.out.size; omega)))
              rw [← HTq.out] at HO7
              have HKE := hideQ (HK7w.out)
              have hE9 := HE.out.kept HKE.out
              have CB := hideQ (build_lim (E1) a7 c7 (ad 2) W7 (es_of_own HO7.out HLS.out.symm) (by rw [HLS.out]; omega) hE9.s2.var HAL.out)
              rw [HLS.out] at CB
              clear hE9
              go_wp2_with (go_at_call 7; refine Stp.go ?_)
              refine ⟨?_⟩
              refine CB.out.mono ?_
              rintro e W9 ⟨rfl, k9⟩
              have HK9 := hideQ (HKE.out.trans k9 (fun _ f => f.elim))
              have CU := hideQ (num_limit (HE.out.kept HK9.out))
              clear k9 CB HKE
              unfold errV
              go_wp2_with (go_at_call 8; refine CU.out.mono ?_; rintro e WA ⟨rfl, hWA⟩; obtain rfl := hWA.symm; clear hWA)
              go_ret
              exact ⟨rfl, HK9.out⟩
end Go.Proofs.YtbhmppgcidbehaaDoor
