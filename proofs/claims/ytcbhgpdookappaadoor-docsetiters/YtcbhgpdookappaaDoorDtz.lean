import Derived.Test.YtcbhgpdookappaaDoorDty
namespace Go.Proofs.YtcbhgpdookappaaDoor.Ds
open Go.ChangeShapes Go.WideShapes Go.ChangeAt Go.RowKit Go.Shelf
attribute [local go_sem] Oper.semAt_some

theorem run_equalIn_funcI {P : Program} (w : World) (d : Nat) {t : TypeId} {ps rs : Array TypeId} {v : Bool} (f : Fn) (ts lb : Array Value) (h : P.underlying t = some (.func ps rs v)) : (Op.equalIn (d + 1) t (.func f ts lb) .nilFunc).run P w = .ok false w := by
  simp [Op.equalIn, run_underlying h]
theorem run_eql_funcI {P : Program} (w : World) {t : TypeId} {ps rs : Array TypeId} {v : Bool} (f : Fn) (ts lb : Array Value) (h : P.underlying t = some (.func ps rs v)) : (binOp .eql t (.func f ts lb) .nilFunc).run P w = .ok (.bool false) w := by
  simp only [binOp]
  simp [Op.equal, Op.maxDepth, run_equalIn_funcI w 9999 f ts lb h]
set_option maxRecDepth 100000 in
set_option maxHeartbeats 8000000 in
/-- DocsetIters, where Of makes a set. -/
theorem iters_ok (n : Nat) (hn : n ≤ 1048576) (l P : List Int) (aL aP : Option Addr) (cL mL cP mP : Nat) (hmP : mP = P.length) (hP : P.length ≤ 281474976710656) (stop : Int) (ad : Nat → Addr) (w : World) (hE : Errs14 w ad) (hD : DbAt w) (hA : IntsAt w aP P)
    (hO : ∀ W, Kept (fun _ => False) w W → Calls Tryd.prog 18 #[.int .i64 n, .slice aL mL cL] W fun e w' => ∃ p rb, e = .returned (.tuple #[.pointer (some ⟨p, 0, none⟩), .nilIface]) ∧ SetAt w' p rb n (nbOf n) (wsOf l) ∧ W.heap.size ≤ p ∧ W.heap.size ≤ rb ∧ Kept (fun _ => False) W w') :
    Calls Tryd.prog 7 #[.int .i64 n, .slice aL mL cL, .slice aP mP cP, .int .i64 stop] w fun e w' => e = .returned (.bool true) ∧ Kept (fun _ => False) w w' := by
  refine (callsIn_wide (n := 10)).1 ?_
  have FX := hideD (fun W (k : Kept (fun _ => False) w W) => fixed_any ad W (hE.kept k) (DbAt.keptW hD k (fun f => f)))
  have OF := hideD hO
  have HE := hideD hE
  have HD := hideD hD
  have HA := hideD hA
  have EF := fun (W : World) (f : Fn) (ts lb : Array Value) => run_eql_funcI (P := Tryd.prog) W f ts lb Tryd.underlying54
  have HMP := hideD hmP
  have HPL := hideD hP
  have HN := hideD hn
  clear hE hD hO hA hmP hP hn
  refine callsIn_of_wp_marks Tryd.func7 rfl trivial ?_ rfl
  simp only [Tryd.ntmps7, List.size_toArray, List.length_cons, List.length_nil, Nat.reduceAdd, Nat.reduceSub, Array.replicate_succ, Array.replicate_zero, List.push_toArray, List.append_toArray, List.nil_append, List.cons_append]
  gi_upto_region 1 with fail
  obtain ⟨V, hV⟩ : ∃ V, V = ((w.alloc (.cells #[.slice aP mP cP] 38)).alloc (.cells #[.int .i64 stop] 3)).alloc (.cells #[.bool false] 4) := ⟨_, rfl⟩
  have kV : Kept (fun _ => False) w V := by rw [hV]; exact ((Kept.alloc _ _).trans (Kept.alloc _ _) (fun _ f => f.elim)).trans (Kept.alloc _ _) (fun _ f => f.elim)
  have sV : V.heap.size = w.heap.size + 3 := by rw [hV]; simp
  have a0 : V.heap[w.heap.size]? = some (.cells #[.slice aP mP cP] 38 (0, 0)) := by
    rw [hV]
    exact (Kept.alloc _ _).heap ((Kept.alloc _ _).heap (heap_alloc_new w _) (fun f => f)) (fun f => f)
  have b0 : V.heap[w.heap.size + 1]? = some (.cells #[.int .i64 stop] 3 (0, 0)) := by
    rw [hV]
    have := heap_alloc_new (w.alloc (.cells #[.slice aP mP cP] 38)) (.cells #[.int .i64 stop] 3)
    rw [World.size_alloc] at this
    exact (Kept.alloc _ _).heap this (fun f => f)
  have r0 : V.heap[w.heap.size + 1 + 1]? = some (.cells #[.bool false] 4 (0, 0)) := by
    rw [hV]
    have := heap_alloc_new ((w.alloc (.cells #[.slice aP mP cP] 38)).alloc (.cells #[.int .i64 stop] 3)) (.cells #[.bool false] 4)
    rw [World.size_alloc, World.size_alloc] at this
    exact this
  have HKV := hideD kV
  have HSV := hideD sV
  have H0 := hideD (And.intro a0 (And.intro b0 r0))
  rw [← hV]
  clear hV kV sV a0 b0 r0
  gi_upto_region 3 with (refine ⟨trivial, ?_⟩; gi_at_call 8; refine (callsIn_wide.2 (FX.out V HKV.out)).mono ?_; rintro e W1 ⟨rfl, K1⟩; have HK1 := hideD K1; clear K1)
  have OF1 := hideD (OF.out W1 (HKV.out.trans HK1.out (fun _ f => f.elim)))
  gi_upto_region 4 with (refine ⟨trivial, ?_⟩; gi_at_call 18; refine (callsIn_wide.2 OF1.out).mono ?_; rintro e W2 ⟨p, rb, rfl, S2, hp, hr, K2⟩; have HS2 := hideD S2; have HPR := hideD (And.intro hp hr); have HK2 := hideD K2; clear S2 hp hr K2)
  obtain ⟨V3, hV3⟩ : ∃ V3, V3 = W2.alloc (.cells #[.pointer (some ⟨p, 0, none⟩)] 24) := ⟨_, rfl⟩
  have k3 : Kept (fun _ => False) W2 V3 := by rw [hV3]; exact Kept.alloc _ _
  have s3 := heap_alloc_new W2 (.cells #[.pointer (some ⟨p, 0, none⟩)] 24)
  have z3 : V3.heap.size = W2.heap.size + 1 := by rw [hV3]; simp
  rw [← hV3] at s3
  rw [← hV3]
  have ys := cell_of_one s3
  have HZ3 := hideD z3
  have HK3 := hideD (HK2.out.trans k3 (fun _ f => f.elim))
  have HS3 := hideD (HS2.out.kept k3 (fun f => f) (fun f => f))
  have H3 := hideD s3
  have HKw3 := hideD ((HKV.out.trans HK1.out (fun _ f => f.elim)).trans HK3.out (fun _ f => f.elim))
  have MS := hideD (members_set p rb n (nbOf n) _ V3 HS3.out (DbAt.keptW HD.out HKw3.out (fun f => f)))
  obtain ⟨M, hM⟩ : ∃ M, M = members (wsOf l) n := ⟨_, rfl⟩
  obtain ⟨C, hC⟩ : ∃ C, C = cnt (wsOf l) n := ⟨_, rfl⟩
  rw [← hM, ← hC] at MS
  have HM := hideD hM
  have HC := hideD hC
  clear hM hC
  clear hV3 k3 s3 z3
  gi_upto_region 9 with (refine ⟨trivial, ?_⟩; gi_at_call 19; refine (callsIn_wide.2 MS.out).mono ?_; rintro e W4 ⟨g, rfl, O4, K4⟩; have HO4 := hideD O4; have HK4 := hideD K4; clear O4 K4)
  obtain ⟨V5, hV5⟩ : ∃ V5, V5 = W4.alloc (.cells #[.slice (some ⟨g, 0, none⟩) C C] 38) := ⟨_, rfl⟩
  have k5 : Kept (fun _ => False) W4 V5 := by rw [hV5]; exact Kept.alloc _ _
  have s5 := heap_alloc_new W4 (.cells #[.slice (some ⟨g, 0, none⟩) C C] 38)
  have z5 : V5.heap.size = W4.heap.size + 1 := by rw [hV5]; simp
  rw [← hV5] at s5
  rw [← hV5]
  have hs5 := (HK4.out.trans k5 (fun _ f => f.elim)).heap H3.out (fun f => f)
  have ys5 := cell_of_one hs5
  have HZ5 := hideD z5
  have HK5 := hideD (HK4.out.trans k5 (fun _ f => f.elim))
  have HS5 := hideD (HS3.out.kept HK5.out (fun f => f) (fun f => f))
  have H5 := hideD s5
  have HKw5 := hideD (HKw3.out.trans HK5.out (fun _ f => f.elim))
  have hW5 : IntsAt V5 (some ⟨g, 0, none⟩) (M.map (fun (x : Nat) => (x : Int))) := IntsAt.keptS (intsAt_own HO4.out) k5
  have HW5 := hideD hW5
  have AL := hideD (all_any p rb n (nbOf n) _ V5 HS5.out (DbAt.keptW HD.out HKw5.out (fun f => f)))
  clear hV5 k5 s5 z5 hs5 ys hW5
  gi_upto_region 13 with (refine ⟨trivial, ?_⟩; gi_at_call 31; refine (callsIn_wide.2 AL.out).mono ?_; rintro e W6 ⟨bk, cb, c, rfl, hk, hc, I6, K6⟩; have HI6 := hideD I6; have HKC := hideD (And.intro hk hc); have HK6 := hideD K6; clear I6 hk hc K6)
  obtain ⟨V7, hV7⟩ : ∃ V7, V7 = W6.alloc (.cells #[.int .i64 0] 3) := ⟨_, rfl⟩
  have k7 : Kept (fun _ => False) W6 V7 := by rw [hV7]; exact Kept.alloc _ _
  have s7 := heap_alloc_new W6 (.cells #[.int .i64 0] 3)
  have z7 : V7.heap.size = W6.heap.size + 1 := by rw [hV7]; simp
  rw [← hV7] at s7
  rw [← hV7]
  have k67 := HK6.out.trans k7 (fun _ f => f.elim)
  have k57 := HK5.out.trans k67 (fun _ f => f.elim)
  have k27 : Kept (fun _ => False) V V7 := (HK1.out.trans HK3.out (fun _ f => f.elim)).trans k57 (fun _ f => f.elim)
  have kw7 := HKV.out.trans k27 (fun _ f => f.elim)
  have hdb : 24 < w.heap.size := World.block_lt_of_cell? w _ (HD.out 0 0 rfl)
  have hgw : g < W4.heap.size ∧ V3.heap.size ≤ g := by
    rcases HO4.out.2 with ⟨e, _⟩ | ⟨g', cp, cur, e, hb, hg, _⟩
    · cases e
    · have : g = g' := by simp at e; exact e.1
      rw [this]
      exact ⟨lt_of_block hg, hb⟩
  have OO : ItO w.heap.size p rb W2.heap.size g W4.heap.size bk cb W6.heap.size := by
    have h1 := HSV.out
    have h2 := HK1.out.size
    have h3 := HPR.out
    have h4 : p < W2.heap.size := lt_of_block HS2.out.box
    have h5 : rb < W2.heap.size := HS2.out.row.lt
    have h6 := HZ3.out
    have h7 := HZ5.out
    have h8 := HKC.out
    have h9 : bk < W6.heap.size := lt_of_block HI6.out.box
    have h10 : cb < W6.heap.size := HI6.out.row.lt
    exact ⟨by omega, by omega, by omega, by omega, by omega, by omega, by omega, by omega, by omega, by omega⟩
  have I0 := hideD (show ItI w p rb n (nbOf n) W2.heap.size g C W4.heap.size bk cb c W6.heap.size (wsOf l) M (.slice aP mP cP) stop 0 V7 from
    ⟨⟨_, HS5.out.kept k67 (fun f => f) (fun f => f)⟩, HI6.out.keptF k7 (fun f => f) (fun f => f) (fun f => f), k27.heap H0.out.1 (fun f => f), k27.heap H0.out.2.1 (fun f => f), k27.heap H0.out.2.2 (fun f => f), k57.heap H3.out (fun f => f), k67.heap H5.out (fun f => f), s7, IntsAt.keptS HW5.out k67, kw7⟩)
  have HOO := hideD OO
  have HZ7 := hideD z7
  have HDB := hideD hdb
  have HML := hideD (show M.length = C from by rw [HM.out, HC.out, members_len])
  have HMQ := hideD (show M = mlist (wsOf l) (4 * nbOf n) from by rw [HM.out]; exact members_eq HS2.out.tight)
  have hcl : C ≤ 1048576 := by have := cnt_le (wsOf l) n; have := HN.out; rw [HC.out]; omega
  have hok := hideD HS2.out.ok
  have hbat : ∃ bat, bat = W6.heap.size := ⟨_, rfl⟩
  obtain ⟨bs, hbs⟩ : ∃ bs, bs = W2.heap.size := ⟨_, rfl⟩
  obtain ⟨bw, hbw⟩ : ∃ bw, bw = W4.heap.size := ⟨_, rfl⟩
  obtain ⟨bat, hbat⟩ : ∃ bat, bat = W6.heap.size := ⟨_, rfl⟩
  rw [← hbs, ← hbw, ← hbat] at I0 HOO
  rw [← hbat] at HZ7
  rw [← hbs, ← hbw, ← hbat]
  clear hV7 k7 s7 z7 k67 k57 k27 kw7 hdb hgw OO hbs hbw hbat ys5 HI6 HKC HK6 H5 HW5 HS5 HKw5 HK5 HZ5 HO4 HK4 HKw3 H3 HS3 HK3 HZ3 HPR HK2 HS2 HK1 H0 HSV HKV MS AL OF1
  have hnb : nbOf n ≤ 4096 := by have := HN.out; unfold nbOf; omega
  gi_wp2
  refine wpIn_mono (Q := fun e a' W' => (e = .normal ∨ e = .exit 0) ∧ a' = { tmps := List.toArray ((Value.int .i64 (n : Nat)) :: (Value.slice aL mL cL) :: (Value.slice aP mP cP) :: (Value.int .i64 stop) :: undef :: undef :: (Value.pointer (some ⟨w.heap.size, 0, none⟩)) :: (Value.pointer (some ⟨w.heap.size + 1, 0, none⟩)) :: (Value.pointer (some ⟨w.heap.size + 1 + 1, 0, none⟩)) :: (Value.pointer (some ⟨bs, 0, none⟩)) :: (Value.nilIface) :: (Value.pointer (some ⟨bw, 0, none⟩)) :: (Value.func (.func 71) #[] #[.pointer (some ⟨bk, 0, none⟩)]) :: (Value.pointer (some ⟨bat, 0, none⟩)) :: undef :: undef :: undef :: undef :: (Value.bool true) :: (Value.bool false) :: (Value.tuple #[.pointer (some ⟨p, 0, none⟩), .nilIface]) :: (Value.int .i64 (n : Nat)) :: (Value.slice aL mL cL) :: (Value.tuple #[.pointer (some ⟨p, 0, none⟩), .nilIface]) :: (Value.pointer (some ⟨p, 0, none⟩)) :: (Value.nilIface) :: (Value.nilIface) :: (Value.bool false) :: undef :: undef :: (Value.pointer (some ⟨p, 0, none⟩)) :: (Value.bool false) :: (Value.pointer (some ⟨p, 0, none⟩)) :: (Value.slice (some ⟨g, 0, none⟩) C C) :: (Value.pointer (some ⟨p, 0, none⟩)) :: (Value.func (.func 71) #[] #[.pointer (some ⟨bk, 0, none⟩)]) :: (Value.func (.func 71) #[] #[.pointer (some ⟨bk, 0, none⟩)]) :: (Value.bool false) :: (Value.func (.func 71) #[] #[.pointer (some ⟨bk, 0, none⟩)]) :: undef :: undef :: undef :: undef :: undef :: undef :: undef :: undef :: undef :: undef :: undef :: undef :: undef :: undef :: undef :: undef :: undef :: undef :: undef :: undef :: undef :: undef :: undef :: undef :: undef :: undef :: undef :: undef :: undef :: undef :: undef :: undef :: undef :: undef :: undef :: undef :: undef :: undef :: undef :: undef :: undef :: undef :: undef :: undef :: undef :: undef :: undef :: undef :: undef :: undef :: undef :: undef :: undef :: undef :: undef :: undef :: undef :: undef :: undef :: undef :: undef :: undef :: undef :: undef :: undef :: undef :: undef :: undef :: undef :: []), defers := [{ target := .collected (bat + 1), args := #[] }] } ∧ ∃ k : Nat, (k = C ∨ 1 ≤ k ∧ stop = (k : Nat)) ∧ Hid (ItI w p rb n (nbOf n) bs g C bw bk cb c bat (wsOf l) M (.slice aP mP cP) stop k W') ∧ Hid (W'.heap[bat + 1]? = some (.deferred (some [])))) ?_ ?_
  · refine range_n (α := Nat) rfl (by decide) (gf := 71) (lb := #[.pointer (some ⟨bk, 0, none⟩)]) rfl trivial (enters_of Tryd.func71 (by kernel_rfl) rfl) (mem_seq 9 (by decide) (wsOf l) hok.out bk cb (nbOf n) c hnb (fun _ => False) (fun f => f) (fun f => f) (fun f => f)) (fun _ => rfl)
      (fun pre A => ItI w p rb n (nbOf n) bs g C bw bk cb c bat (wsOf l) M (.slice aP mP cP) stop pre.length A) (fun c' pre A => c' = .exit 0 ∧ 1 ≤ pre.length ∧ stop = (pre.length : Nat) ∧ ItI w p rb n (nbOf n) bs g C bw bk cb c bat (wsOf l) M (.slice aP mP cP) stop pre.length A)
      (fun pre A h => h.it) ?_ ?_ ?_
      (fun x a' _ => a' = { tmps := List.toArray ((Value.int .i64 (n : Nat)) :: (Value.slice aL mL cL) :: (Value.slice aP mP cP) :: (Value.int .i64 stop) :: undef :: undef :: (Value.pointer (some ⟨w.heap.size, 0, none⟩)) :: (Value.pointer (some ⟨w.heap.size + 1, 0, none⟩)) :: (Value.pointer (some ⟨w.heap.size + 1 + 1, 0, none⟩)) :: (Value.pointer (some ⟨bs, 0, none⟩)) :: (Value.nilIface) :: (Value.pointer (some ⟨bw, 0, none⟩)) :: (Value.func (.func 71) #[] #[.pointer (some ⟨bk, 0, none⟩)]) :: (Value.pointer (some ⟨bat, 0, none⟩)) :: (Value.int .i64 (x : Nat)) :: undef :: undef :: undef :: (Value.bool true) :: (Value.bool false) :: (Value.tuple #[.pointer (some ⟨p, 0, none⟩), .nilIface]) :: (Value.int .i64 (n : Nat)) :: (Value.slice aL mL cL) :: (Value.tuple #[.pointer (some ⟨p, 0, none⟩), .nilIface]) :: (Value.pointer (some ⟨p, 0, none⟩)) :: (Value.nilIface) :: (Value.nilIface) :: (Value.bool false) :: undef :: undef :: (Value.pointer (some ⟨p, 0, none⟩)) :: (Value.bool false) :: (Value.pointer (some ⟨p, 0, none⟩)) :: (Value.slice (some ⟨g, 0, none⟩) C C) :: (Value.pointer (some ⟨p, 0, none⟩)) :: (Value.func (.func 71) #[] #[.pointer (some ⟨bk, 0, none⟩)]) :: (Value.func (.func 71) #[] #[.pointer (some ⟨bk, 0, none⟩)]) :: (Value.bool false) :: (Value.func (.func 71) #[] #[.pointer (some ⟨bk, 0, none⟩)]) :: (Value.int .i64 (x : Nat)) :: undef :: undef :: undef :: undef :: undef :: undef :: undef :: undef :: undef :: undef :: undef :: undef :: undef :: undef :: undef :: undef :: undef :: undef :: undef :: undef :: undef :: undef :: undef :: undef :: undef :: undef :: undef :: undef :: undef :: undef :: undef :: undef :: undef :: undef :: undef :: undef :: undef :: undef :: undef :: undef :: undef :: undef :: undef :: undef :: undef :: undef :: undef :: undef :: undef :: undef :: undef :: undef :: undef :: undef :: undef :: undef :: undef :: undef :: undef :: undef :: undef :: undef :: undef :: undef :: undef :: undef :: undef :: undef :: []), defers := [] })
      (fun _ _ _ _ h _ => h) ?_ ?_ ?_ ?_
    · intro pre A B h k
      exact h.keptN k (by have := HZ7.out; have := HOO.out.p0; have := HOO.out.p1; have := HOO.out.g0; have := HOO.out.g1; have := HOO.out.k0; have := HOO.out.k1; omega)
    · rintro c' pre A B ⟨h1, h2, h3, h⟩ k
      exact ⟨h1, h2, h3, h.keptN k (by have := HZ7.out; have := HOO.out.p0; have := HOO.out.p1; have := HOO.out.g0; have := HOO.out.g1; have := HOO.out.k0; have := HOO.out.k1; omega)⟩
    · intro r
      exact I0.out.same ((Kept.alloc _ _).trans (Kept.alloc _ _) (fun _ f => f.elim))
    · intro l2 x B K hs hK2
      simp only [encN]
      gi_wp2
      exact hK2 _ _ (Kept.refl _ _) rfl
    · rintro l2 pre x a' B hmx hI hs hD ⟨r, hr⟩ rfl
      have hxM : M[pre.length]? = some x := by
        obtain ⟨t, ht⟩ := hmx
        rw [HMQ.out, ← ht]
        simp
      have hkC : pre.length < C := by
        have := (List.getElem?_eq_some_iff.1 hxM).1
        rw [HML.out] at this
        exact this
      have hl1 : (pre ++ [x]).length = pre.length + 1 := by simp
      obtain ⟨k, hkd⟩ : ∃ k, k = pre.length := ⟨_, rfl⟩
      rw [← hkd] at hxM hkC hI hl1
      have HL1 := hideD hl1
      have y13 := cell_of_one hI.cat
      have f13 := free_of_one hI.cat
      have y11 := cell_of_one hI.cw
      have yg := hI.at hxM
      have y6 := cell_of_one hI.cp
      have y7 := cell_of_one hI.cst
      have y9 := cell_of_one hI.cs
      have HI := hideD hI
      have HDD := hideD hD
      have HRR := hideD hr
      have HSS := hideD hs
      have RM := hideD (hI.rem HOO.out HDB.out HE.out x)
      clear hI hD hr hs hmx hxM hl1 hkd
      gi_upto_if 55 with fail
      gi_cut [] from 40 (fun wr => Hid (ItI w p rb n (nbOf n) bs g C bw bk cb c bat (wsOf l) M (.slice aP mP cP) stop k wr) ∧ Hid (Kept (fun j => j = rb) B wr))
      case first =>
        by_cases hlt : k < mP
        · have hkP : k < P.length := by have := HMP.out; omega
          obtain ⟨ba, oa, rfl, ca⟩ := HA.out.get hkP
          obtain ⟨y, hy⟩ : ∃ y, y = P[k]?.getD 0 := ⟨_, rfl⟩
          rw [← hy] at ca
          have hltI : (k : Int) < mP := by omega
          clear hkP hy hlt
          gi_upto_region 19 with (refine ⟨trivial, ?_⟩; gi_at_call 15; refine (callsIn_wide.2 RM.out).mono ?_; rintro e W8 ⟨⟨v8, rfl⟩, I8, K8⟩)
          clear y13 f13 y11 yg y6 y7 y9
          have I8d := I8.out.same (Kept.drew W8)
          have yd13 := cell_of_one I8.out.cat
          have yd6 := cell_of_one I8.out.cp
          have yd9 := cell_of_one I8.out.cs
          have yda := (I8.out.k).cell ca (fun f => f)
          have AD := hideD (I8d.add HOO.out HDB.out HE.out y)
          have HCA := hideD ca
          clear I8d ca
          refine wpIn_mono (Q := NoPanic _) ?_ NoPanic.imp
          gi_region_with (refine ⟨trivial, ?_⟩; gi_at_call 16; refine (callsIn_wide.2 AD.out).mono ?_; rintro e W9 ⟨⟨v9, rfl⟩, I9, K9⟩)
          all_goals
            refine NoPanic.normal ?_
            gi_wp2
            gi_meet
            case rel => exact ⟨I9, hideD ((K8.out.trans ((Kept.drew W8).mono (fun _ f => f.elim)) (fun i e => .inl e)).trans K9.out (fun i e => .inl e))⟩
        · have hltI : ¬ (k : Int) < mP := by omega
          gi_wp2
          gi_meet
          case rel => exact ⟨HI, hideD (Kept.refl _ _)⟩
      case rest =>
        obtain ⟨I8, K8⟩ := hcut
        have z13 := cell_of_one I8.out.cat
        have w13 := free_of_one I8.out.cat
        have I9 := hideD (I8.out.tick HOO.out HDB.out (k + 1))
        have e1 : ((k + 1 : Nat) : Int) = (k : Int) + 1 := by omega
        have z14 := cell_of_one I9.out.cat
        have z7 := cell_of_one I9.out.cst
        rw [e1] at z14 z7
        have KE := hideD (show Kept (fun j => j = rb ∨ j = bat) B (wc.setCell ⟨bat, 0, none⟩ (.int .i64 ((k : Int) + 1))) from (K8.out.mono (fun i e => .inl (.inl e))).trans (Kept.setCell _ _ _) (fun i e => .inl (.inr e)))
        have E1 := hideD e1
        clear y13 f13 y11 yg y6 y7 y9 e1
        have hSt : Still V7.heap.size B (wc.setCell ⟨bat, 0, none⟩ (.int .i64 ((k : Int) + 1))) := fun i hi => KE.out.block i (by have := HSS.out; omega) (fun f => by have := HZ7.out; have := HOO.out.r1; have := HOO.out.g0; have := HOO.out.g1; have := HOO.out.k0; have := HOO.out.k1; omega)
        have hAb : Above (V7.heap.size + 2) (fun _ => False) B (wc.setCell ⟨bat, 0, none⟩ (.int .i64 ((k : Int) + 1))) := Above.of_kept KE.out (fun i hi => by have := HZ7.out; have := HOO.out.r1; have := HOO.out.g0; have := HOO.out.g1; have := HOO.out.k0; have := HOO.out.k1; omega)
        have hIt : ItI w p rb n (nbOf n) bs g C bw bk cb c bat (wsOf l) M (.slice aP mP cP) stop (pre ++ [x]).length (wc.setCell ⟨bat, 0, none⟩ (.int .i64 ((k : Int) + 1))) := by
          have h := I9.out
          rw [E1.out] at h
          rw [HL1.out]
          exact h
        have HEnd := hideD (And.intro hSt (And.intro hAb hIt))
        clear hSt hAb hIt
        by_cases hst : (k : Int) + 1 = stop
        · have HST := hideD hst
          have hb : (((k : Int) + 1) == stop) = true := by simp [hst]
          clear hst
          gi_wp2
          exact ⟨HEnd.out.1, HEnd.out.2.1, rfl, by rw [HL1.out]; omega, by rw [HL1.out, E1.out]; exact HST.out.symm, HEnd.out.2.2⟩
        · have hb : (((k : Int) + 1) == stop) = false := by simp [hst]
          clear hst
          gi_wp2
          exact ⟨HEnd.out.1, HEnd.out.2.1, HEnd.out.2.2⟩
    · rintro xs W' rfl hI hab hs hD
      rw [← HMQ.out, HML.out] at hI
      rw [HZ7.out] at hD ⊢
      exact ⟨.inl rfl, rfl, C, .inl rfl, hideD hI, hideD hD⟩
    · rintro c' pre W' ⟨rfl, h1, h2, h3⟩ hab hs hD
      rw [HZ7.out] at hD ⊢
      refine wpIn_exit ?_
      exact ⟨.inr rfl, rfl, pre.length, .inr ⟨h1, h2⟩, hideD h3, hideD hD⟩
  · rintro e a' W' ⟨he, rfl, k, hk, HI, HM1⟩
    have hgo : ∀ (K : Exit → Act → World → Prop) (a : Act) (W : World), K .normal a W → Exit.inBlock 0 K e a W := by
      intro K a W h
      rcases he with rfl | rfl
      · exact h
      · exact h
    refine hgo _ _ _ ?_
    clear hgo he
    have y13 := cell_of_one HI.out.cat
    have y11 := cell_of_one HI.out.cw
    have y7 := cell_of_one HI.out.cst
    have y6 := cell_of_one HI.out.cp
    gi_upto_region 22 with fail
    gi_cut [77] from 70 (fun v wr => v = .bool false ∧ wr = W')
    case first =>
      rcases hk with hkC | ⟨h1, h2⟩
      · have hb : ((k : Int) != (C : Int)) = false := by rw [hkC]; simp
        have HKC := hideD hkC
        clear hkC
        by_cases hs : stop ≤ 0
        · gi_wp2
          gi_meet
          case rel => exact ⟨rfl, rfl⟩
        · gi_wp2
          gi_meet
          case rel => exact ⟨rfl, rfl⟩
      · have hs : ¬ stop ≤ 0 := by omega
        clear h1 h2
        gi_wp2
        gi_meet
        case rel => exact ⟨rfl, rfl⟩
    case rest =>
      obtain ⟨rfl, rfl⟩ := hcut
      gi_wp2
      clear y13 y11 y7 y6
      gi_loopw [80] (fun iv wr => ∃ i : Nat, i ≤ mP ∧ iv = .int .i64 i ∧ Hid (ItI w p rb n (nbOf n) bs g C bw bk cb c bat (wsOf l) M (.slice aP mP cP) stop k wr) ∧ Hid (wr.heap[bat + 1]? = some (.deferred (some [])))) (fun iv _ => mP - (intOf iv).toNat)
      case atStart => exact ⟨0, by omega, rfl, HI, HM1⟩
      case round =>
        obtain ⟨i, hi, rfl, HIi, HMi⟩ := hrel
        by_cases hlt : i < mP
        · have hiP : i < P.length := by have := HMP.out; omega
          obtain ⟨ba, oa, rfl, ca⟩ := HA.out.get hiP
          obtain ⟨y, hy⟩ : ∃ y, y = P[i]?.getD 0 := ⟨_, rfl⟩
          rw [← hy] at ca
          have ya := HIi.out.k.cell ca (fun f => f)
          have y9 := cell_of_one HIi.out.cs
          have AD := hideD (HIi.out.add HOO.out HDB.out HE.out y)
          have hpl := HPL.out
          have hmp : mP ≤ 281474976710656 := by have := HMP.out; omega
          clear hiP hy ca hpl
          gi_wp2_with (refine ⟨trivial, ?_⟩; gi_at_call 16; refine (callsIn_wide.2 AD.out).mono ?_; rintro e W9 ⟨⟨v9, rfl⟩, I9, K9⟩)
          go_round
          case rel => exact ⟨i + 1, by omega, by go_num, I9, hideD (K9.out.heap HMi.out (by have := HOO.out.r1; have := HOO.out.g0; have := HOO.out.g1; have := HOO.out.k0; have := HOO.out.k1; omega))⟩
          case measure => simp [intOf]; omega
        · have hme : mP = i := by omega
          subst hme
          have z13 := cell_of_one HIi.out.cat
          have w13 := free_of_one HIi.out.cat
          gi_wp2
          have IV := hideD (HIi.out.tick HOO.out HDB.out 0)
          have MV := hideD (((Kept.setCell wr ⟨bat, 0, none⟩ (.int .i64 ((0 : Nat) : Int))).mono (G := fun j => j = bat) (fun i e => .inl e)).heap HMi.out (by omega))
          have sV : bat + 1 < (wr.setCell ⟨bat, 0, none⟩ (.int .i64 ((0 : Nat) : Int))).heap.size := lt_of_block MV.out
          rw [show ((0 : Nat) : Int) = 0 from rfl] at IV MV sV
          obtain ⟨V8, hV8⟩ : ∃ V8, V8 = wr.setCell ⟨bat, 0, none⟩ (.int .i64 0) := ⟨_, rfl⟩
          rw [← hV8] at IV MV sV ⊢
          have HSV8 := hideD sV
          clear hV8 z13 w13 sV HIi HMi
          refine range_n (α := Nat) rfl (by decide) (gf := 71) (lb := #[.pointer (some ⟨bk, 0, none⟩)]) rfl trivial (enters_of Tryd.func71 (by kernel_rfl) rfl) (mem_seq 9 (by decide) (wsOf l) hok.out bk cb (nbOf n) c hnb (fun _ => False) (fun f => f) (fun f => f) (fun f => f)) (fun _ => rfl)
            (fun pre A => ItI w p rb n (nbOf n) bs g C bw bk cb c bat (wsOf l) M (.slice aP mP cP) stop pre.length A ∧ A.heap[bat + 1]? = some (.deferred (some []))) (fun _ _ _ => False)
            (fun pre A h => h.1.it) ?_ ?_ ?_
            (fun x a' _ => a' = { tmps := List.toArray ((Value.int .i64 (n : Nat)) :: (Value.slice aL mL cL) :: (Value.slice aP mP cP) :: (Value.int .i64 stop) :: undef :: undef :: (Value.pointer (some ⟨w.heap.size, 0, none⟩)) :: (Value.pointer (some ⟨w.heap.size + 1, 0, none⟩)) :: (Value.pointer (some ⟨w.heap.size + 1 + 1, 0, none⟩)) :: (Value.pointer (some ⟨bs, 0, none⟩)) :: Value.nilIface :: (Value.pointer (some ⟨bw, 0, none⟩)) :: (Value.func (.func 71) #[] #[.pointer (some ⟨bk, 0, none⟩)]) :: (Value.pointer (some ⟨bat, 0, none⟩)) :: undef :: undef :: u16 :: (Value.int .i64 (x : Nat)) :: (Value.bool true) :: (Value.bool false) :: (Value.tuple #[.pointer (some ⟨p, 0, none⟩), .nilIface]) :: (Value.int .i64 (n : Nat)) :: (Value.slice aL mL cL) :: (Value.tuple #[.pointer (some ⟨p, 0, none⟩), .nilIface]) :: (Value.pointer (some ⟨p, 0, none⟩)) :: Value.nilIface :: Value.nilIface :: (Value.bool false) :: undef :: undef :: (Value.pointer (some ⟨p, 0, none⟩)) :: (Value.bool false) :: (Value.pointer (some ⟨p, 0, none⟩)) :: (Value.slice (some ⟨g, 0, none⟩) C C) :: (Value.pointer (some ⟨p, 0, none⟩)) :: (Value.func (.func 71) #[] #[.pointer (some ⟨bk, 0, none⟩)]) :: (Value.func (.func 71) #[] #[.pointer (some ⟨bk, 0, none⟩)]) :: (Value.bool false) :: (Value.func (.func 71) #[] #[.pointer (some ⟨bk, 0, none⟩)]) :: undef :: undef :: undef :: undef :: undef :: undef :: undef :: undef :: undef :: undef :: undef :: undef :: undef :: undef :: undef :: undef :: undef :: undef :: undef :: undef :: undef :: undef :: undef :: undef :: undef :: undef :: undef :: undef :: undef :: undef :: undef :: u70 :: u71 :: u72 :: u73 :: u74 :: u75 :: u76 :: (Value.bool false) :: (Value.slice aP mP cP) :: (Value.int .i64 (mP : Nat)) :: (Value.int .i64 (mP : Nat)) :: (Value.bool false) :: u82 :: u83 :: u84 :: u85 :: u86 :: u87 :: (Value.func (.func 71) #[] #[.pointer (some ⟨bk, 0, none⟩)]) :: (Value.int .i64 (x : Nat)) :: u90 :: u91 :: u92 :: u93 :: u94 :: u95 :: u96 :: u97 :: u98 :: u99 :: u100 :: u101 :: u102 :: u103 :: u104 :: u105 :: u106 :: u107 :: []), defers := [] })
            (fun _ _ _ _ h _ => h) ?_ ?_ ?_ ?_
          · intro pre A B h q
            have hb : w.heap.size ≤ V8.heap.size + 1 := by have := HSV8.out; have := HOO.out.p0; have := HOO.out.p1; have := HOO.out.g0; have := HOO.out.g1; have := HOO.out.k0; have := HOO.out.k1; omega
            exact ⟨h.1.keptN q hb, q.low (by have := HSV8.out; omega) h.2⟩
          · intro c' pre A B h
            exact h.elim
          · intro r
            have q : Kept (fun _ => False) V8 ((V8.alloc (.deferred (some []))).alloc (.loop r)) := (Kept.alloc _ _).trans (Kept.alloc _ _) (fun _ f => f.elim)
            exact ⟨IV.out.same q, q.heap MV.out (fun f => f)⟩
          · intro l2 x B K hs hK2
            simp only [encN]
            gi_wp2
            exact hK2 _ _ (Kept.refl _ _) rfl
          · rintro l2 pre x a' B hmx ⟨hI, hM⟩ hs hD ⟨r, hr⟩ rfl
            have hxM : M[pre.length]? = some x := by
              obtain ⟨t, ht⟩ := hmx
              rw [HMQ.out, ← ht]
              simp
            have hkC : pre.length < C := by
              have := (List.getElem?_eq_some_iff.1 hxM).1
              rw [HML.out] at this
              exact this
            have hl1 : (pre ++ [x]).length = pre.length + 1 := by simp
            obtain ⟨j, hjd⟩ : ∃ j, j = pre.length := ⟨_, rfl⟩
            rw [← hjd] at hxM hkC hI hl1
            have HL1 := hideD hl1
            have y13 := cell_of_one hI.cat
            have f13 := free_of_one hI.cat
            have y11 := cell_of_one hI.cw
            have yg := hI.at hxM
            have e1 : ((j + 1 : Nat) : Int) = (j : Int) + 1 := by omega
            have I9 := hI.tick HOO.out HDB.out (j + 1)
            rw [e1] at I9
            have KE : Kept (fun i => i = bat) B (B.setCell ⟨bat, 0, none⟩ (.int .i64 ((j : Int) + 1))) := (Kept.setCell _ _ _).mono (fun i e => .inl e)
            have hSt : Still V8.heap.size B (B.setCell ⟨bat, 0, none⟩ (.int .i64 ((j : Int) + 1))) := fun i hi => KE.block i (by omega) (fun f => by have := HSV8.out; omega)
            have hAb : Above (V8.heap.size + 2) (fun _ => False) B (B.setCell ⟨bat, 0, none⟩ (.int .i64 ((j : Int) + 1))) := Above.of_kept KE (fun i hi => by have := HSV8.out; omega)
            have hIt : ItI w p rb n (nbOf n) bs g C bw bk cb c bat (wsOf l) M (.slice aP mP cP) stop (pre ++ [x]).length (B.setCell ⟨bat, 0, none⟩ (.int .i64 ((j : Int) + 1))) := by
              rw [HL1.out]
              exact I9
            have hDf := KE.heap hM (by omega)
            have HEnd := hideD (And.intro hSt (And.intro hAb (And.intro hIt hDf)))
            clear hSt hAb hIt hDf KE I9 e1 hI hM hD hr hs hmx hxM hl1 hjd
            gi_wp2
            exact HEnd.out
          · rintro xs W8 rfl ⟨hI, hM⟩ hab hs hD
            rw [← HMQ.out, HML.out] at hI
            have y13 := cell_of_one hI.cat
            have y11 := cell_of_one hI.cw
            have yr := cell_of_one hI.cr
            have fr := free_of_one hI.cr
            have HI8 := hideD hI
            have HM8 := hideD hM
            have HD8 := hideD hD
            clear hI hM hab hs hD
            have hbr : w.heap.size + 1 + 1 < bat := by have := HOO.out.p0; have := HOO.out.p1; have := HOO.out.g0; have := HOO.out.g1; have := HOO.out.k0; have := HOO.out.k1; omega
            have KR := hideD (Kept.setCell W8 ⟨w.heap.size + 1 + 1, 0, none⟩ (.bool true))
            have ZR := hideD (one_setCell (u := .bool true) HI8.out.cr)
            have HBR := hideD hbr
            clear hbr
            gi_wp2
            refine leaves_marks (s := bat + 1) [V8.heap.size, bat + 1] _ (by have := HSV8.out; simp; omega) (fun D hD => ?_) fun W'' k' => ⟨.bool true, ?_, rfl, ?_⟩
            · have := HBR.out
              simp only [List.mem_cons, List.not_mem_nil, or_false] at hD
              rcases hD with rfl | rfl
              · exact ⟨by have := HSV8.out; omega, KR.out.heap HD8.out (fun f => by have : V8.heap.size = w.heap.size + 1 + 1 := f; have := HSV8.out; omega)⟩
              · exact ⟨Nat.le_refl _, KR.out.heap HM8.out (fun f => by have : bat + 1 = w.heap.size + 1 + 1 := f; omega)⟩
            · have z4 := cell_of_one (k'.cells ZR.out)
              simp [results, Tryd.results7, go_sem, z4]
            · exact kept_keptN (HI8.out.k.trans KR.out (fun i e => .inr (by have : i = w.heap.size + 1 + 1 := e; omega))) k' (by have := HBR.out; omega)
          · intro c' pre W' h
            exact h.elim
end Go.Proofs.YtcbhgpdookappaaDoor.Ds
