import Derived.Test.YtohnkamobmkhkaaDoorMrg7
import Derived.OrdersHeld
namespace Go.Proofs.YtohnkamobmkhkaaDoor
open Go.ChangeShapes Go.WideShapes Go.ChangeAt Go.RowKit

theorem takeV {P : Program} {ops : Array Oper} {Q : Exit → Act → World → Prop} {md : Region.Mode} {S : World → Prop} {i d : Nat} {oi : Oper} {v : Value} {fuel : Nat} {listed : Array Bool} {a : Act} {w : World} (hi : ops[i]? = some oi) (hd : oi.dst = some d)
    (hs : Region.noSelect ops = true) (hf : Region.free md ops listed i = true) (hr : (Region.ready md ops listed).contains i = true)
    (hQ : ∀ c a w, Q (.panic c) (a.put (some d) v) w → Q (.panic c) a w) (hy : YieldsIf P ops S oi v a) (hS : S w)
    (h : wpAnyH P md ops Q S fuel (listed.setIfInBounds i true) (a.put (some d) v) w) : wpAnyH P md ops Q S (fuel + 1) listed a w := by
  rw [← hd] at hQ h
  exact wpAnyH_take hi hs hf hr hQ hy hS h
def slN (v : Value) : Nat := match v with | .slice _ n _ => n | _ => 0
theorem slN_eq (a : Option Addr) (n c : Nat) : slN (.slice a n c) = n := rfl
/-- What 'ways' answers. -/
def wyP (w : World) (p : Pg) (L : List In) (e : Ending) (w' : World) : Prop :=
  (Gd p L → ∃ a c, e = .returned (.tuple #[.slice a L.length c, .bool true]) ∧ IntsAt w' a (hL L)) ∧ (¬ Gd p L → e = .returned (.tuple #[.slice none 0 0, .bool false])) ∧ Kept (fun _ => False) w w'
theorem wyP_bad {w : World} {p : Pg} {L : List In} {e : Ending} {w' : World} (h : ¬ Gd p L) (he : e = .returned (.tuple #[.slice none 0 0, .bool false])) (k : Kept (fun _ => False) w w') : wyP w p L e w' := ⟨fun g => absurd g h, fun _ => he, k⟩
theorem wyP_good {w : World} {p : Pg} {L : List In} {e : Ending} {w' : World} {a : Option Addr} {c n : Nat} (h : Gd p L) (hn : n = L.length) (he : e = .returned (.tuple #[.slice a n c, .bool true])) (hi : IntsAt w' a (hL L)) (k : Kept (fun _ => False) w w') : wyP w p L e w' := by
  subst hn
  exact ⟨fun _ => ⟨a, c, he, hi⟩, fun g => absurd h g, k⟩
theorem WyM.ints {w wr : World} {gH gS : Nat} {Hs : List Int} {Sn : List Bool} {v : Value} {D : List Int} (m : WyM w wr gH gS Hs Sn v D) : IntsAt wr (some ⟨gH, 0, none⟩) Hs := fun _ => ⟨gH, 0, rfl, fun k hk => by
  have q := (m.hat hk).1
  unfold hs at q
  rw [Nat.zero_add]
  exact q⟩
theorem bls_set (Sn : List Bool) (t : Nat) : (bls Sn).toArray.setIfInBounds t (.bool true) = (bls (Sn.set t true)).toArray := by simp [bls, List.map_set]
theorem one_cellV (W : World) (x : Int) : ∀ j u, (isH [x])[j]? = some u → (W.alloc (.cells #[.int .i64 x] 3)).cell? ((⟨W.heap.size, 0, none⟩ : Addr).add j) = some u := by
  intro j u hu
  have hplain : (⟨W.heap.size, 0, none⟩ : Addr).add j = ⟨W.heap.size, j, none⟩ := by unfold Addr.add; split <;> simp_all
  rw [hplain]
  simpa [isH] using hu
theorem LibI.addr {W : World} {a : Option Addr} {n c : Nat} {l : List Int} (h : LibI W (.slice a n c) l) (hn : 0 < n) : ∃ b, a = some ⟨b, 0, none⟩ ∧ b < W.heap.size ∧ n = l.length := by
  rcases h with ⟨e, _⟩ | ⟨b, c', cur, e, hb, _⟩
  · simp only [Value.slice.injEq] at e; omega
  · simp only [Value.slice.injEq] at e
    exact ⟨b, e.1, lt_of_block hb, e.2.1⟩
def tI (T : List Nat) : List Int := T.map fun t : Nat => (t : Int)
theorem tI_at {T : List Nat} {m : Nat} (h : m < T.length) : (tI T)[m]?.getD 0 = (T[m] : Int) := by simp [tI, h]
theorem tI_len (T : List Nat) : (tI T).length = T.length := by simp [tI]
theorem WyM.far {F : Nat → Prop} {w wr wr' : World} {gH gS : Nat} {Hs : List Int} {Sn : List Bool} {v : Value} {D : List Int} (m : WyM w wr gH gS Hs Sn v D) (k : Kept F wr wr') (h1 : ¬ F gH) (h2 : ¬ F gS) (h3 : ∀ i, v.ownBlock = some i → ¬ F i) (h4 : ∀ i, F i → w.heap.size ≤ i) : WyM w wr' gH gS Hs Sn v D :=
  ⟨k.heap m.h h1, k.heap m.s h2, m.d.kept k h3, m.o, m.k.trans k (fun i f => .inr (h4 i f))⟩
theorem lastI {D : List Int} (h : 0 < D.length) : ∃ D' d, D = D' ++ [d] := ⟨D.dropLast, D.getLast (by intro e; rw [e] at h; simp at h), (List.dropLast_concat_getLast _).symm⟩
set_option maxRecDepth 20000 in
set_option maxHeartbeats 32000000 in
theorem ways_any (p : Pg) (L : List In) (aA aC aN aD aO aL : Option Addr) (cA cC cN cD cO cL : Nat) (w : World) (hO : p.Ok) (hIn : InsAt w aL L) (hl : L.length ≤ 67108864) (hLx : ∀ x ∈ L, 0 ≤ x.op ∧ x.op < 17) (hLo : ∀ x ∈ L, x.Ok) :
    Calls Tryd.prog 20 #[.agg #[.slice aA p.av.length cA, .slice aC p.cu.length cC, .slice aN p.nr.length cN, .bool p.al, .slice aD p.dr.length cD, .slice aO p.co.length cO], .slice aL L.length cL] w (wyP w p L) := by
  have HO := hideI hO
  have HLX := hideI hLx
  have HLO := hideI hLo
  have HIN := hideI hIn
  obtain ⟨n, hn⟩ : ∃ n, n = L.length := ⟨_, rfl⟩
  have HN := hideI hn
  rw [← hn] at hl ⊢
  obtain ⟨bx, hbx⟩ : ∃ bx, bx = Obj.cells #[.slice aA p.av.length cA, .slice aC p.cu.length cC, .slice aN p.nr.length cN, .bool p.al, .slice aD p.dr.length cD, .slice aO p.co.length cO] 27 (0, 0) := ⟨_, rfl⟩
  obtain ⟨oI, hoI⟩ : ∃ oI, oI = Obj.cells (is (List.replicate n (0 : Int))).toArray 3 (0, 0) := ⟨_, rfl⟩
  obtain ⟨oB, hoB⟩ : ∃ oB, oB = Obj.cells (bls (List.replicate n false)).toArray 4 (0, 0) := ⟨_, rfl⟩
  have mk1 := mkI_run n (w.alloc bx) (by omega)
  have mk2 := mkB_run n ((w.alloc bx).alloc oI) (by omega)
  have z1 : (w.alloc bx).heap.size = w.heap.size + 1 := by simp
  have z2 : ((w.alloc bx).alloc oI).heap.size = w.heap.size + 2 := by simp
  have z3 : (((w.alloc bx).alloc oI).alloc oB).heap.size = w.heap.size + 3 := by simp
  have K1 : Kept (fun _ => False) w (w.alloc bx) := Kept.alloc _ _
  have K2 : Kept (fun _ => False) (w.alloc bx) ((w.alloc bx).alloc oI) := Kept.alloc _ _
  have K3 : Kept (fun _ => False) ((w.alloc bx).alloc oI) (((w.alloc bx).alloc oI).alloc oB) := Kept.alloc _ _
  have K4 : Kept (fun _ => False) (((w.alloc bx).alloc oI).alloc oB) ((((w.alloc bx).alloc oI).alloc oB).alloc (.cells #[.int .i64 0] 3)) := Kept.alloc _ _
  have K13 := (K1.trans K2 (fun _ f => f.elim)).trans K3 (fun _ f => f.elim)
  have HM : Hid (WyM (w.alloc bx) ((((w.alloc bx).alloc oI).alloc oB).alloc (.cells #[.int .i64 0] 3)) (w.heap.size + 1) (w.heap.size + 2) (List.replicate n 0) (List.replicate n false) (.slice (some ⟨w.heap.size + 3, 0, none⟩) 1 1) [0]) := hideI (by
    refine ⟨K4.heap (K3.heap ?_ (fun f => f)) (fun f => f), K4.heap ?_ (fun f => f), ?_, fun k hk => ?_, (K2.trans K3 (fun _ f => f.elim)).trans K4 (fun _ f => f.elim)⟩
    · have q := heap_alloc_new (w.alloc bx) oI
      rw [z1, hoI] at q; rw [hoI]; exact q
    · have q := heap_alloc_new ((w.alloc bx).alloc oI) oB
      rw [z2, hoB] at q; rw [hoB]; exact q
    · have q := lib_new (((w.alloc bx).alloc oI).alloc oB) 0
      rw [z3] at q; exact q
    · have : w.heap.size + 3 = k := Option.some.inj hk
      exact ⟨by omega, by omega, by rw [z1]; omega⟩)
  have HROW : Hid ((((w.alloc bx).alloc oI).alloc oB).heap[w.heap.size + 1]? = some (.cells (is (List.replicate n (0 : Int))).toArray 3 (0, 0)) ∧ (((w.alloc bx).alloc oI).alloc oB).heap[w.heap.size + 2]? = some (.cells (bls (List.replicate n false)).toArray 4 (0, 0))) := hideI (by
    refine ⟨K3.heap ?_ (fun f => f), ?_⟩
    · have q := heap_alloc_new (w.alloc bx) oI
      rw [z1, hoI] at q; rw [hoI]; exact q
    · have q := heap_alloc_new ((w.alloc bx).alloc oI) oB
      rw [z2, hoB] at q; rw [hoB]; exact q)
  have HK23 := hideI (K2.trans K3 (fun _ f => f.elim))
  have HBX : Hid ((w.alloc bx).heap[w.heap.size]? = some bx) := hideI (by rw [hbx]; exact heap_alloc_new w _)
  have HK1 := hideI K1
  rw [z1] at mk1
  rw [z2] at mk2
  have hne : ((w.heap.size + 1 : Nat)) ≠ w.heap.size + 2 := by omega
  rw [show (Obj.cells (is (List.replicate n (0 : Int))).toArray 3) = oI from hoI.symm] at mk1
  rw [show (Obj.cells (bls (List.replicate n false)).toArray 4) = oB from hoB.symm] at mk2
  have HK13 := hideI K13
  clear hO hLx hLo hIn hn z1 z2 z3 K1 K2 K3 K4 K13 hne
  by_cases hn0 : n = 0
  · have HG : Hid (¬ Gd p L) := hideI (fun g => by have := g.en.1; have := HN.out; omega)
    have hn1 : ((n : Int) == 0) = true := by rw [hn0]; rfl
    subst hbx
    clear HM HBX hoI hoB hn0 HROW HK23
    go_enter Tryd.func20, Tryd.ntmps20
    go_wp2
    go_ret2
    exact wyP_bad HG.out rfl HK13.out
  · have hn1 : ((n : Int) == 0) = false := by rw [beq_eq_false_iff_ne]; omega
    have hn2 : ¬ (n : Int) = 0 := by omega
    have hn3 : (0 : Int) < (n : Int) := by omega
    have hn4 : 0 < n := by omega
    obtain ⟨qs1, qs2⟩ := HM.out.sat (t := 0) (by simpa using hn4)
    have hsr : (List.replicate n false)[0]?.getD false = false := by simp [hn4]
    rw [hsr] at qs1
    have KS0 : Kept (fun i => i = w.heap.size + 2) (((w.alloc bx).alloc oI).alloc oB) ((((w.alloc bx).alloc oI).alloc oB).setCell ⟨w.heap.size + 2, 0, none⟩ (.bool true)) := Kept.setCell _ ⟨w.heap.size + 2, 0, none⟩ (.bool true)
    have KA0 := Kept.alloc ((((w.alloc bx).alloc oI).alloc oB).setCell ⟨w.heap.size + 2, 0, none⟩ (.bool true)) (.cells #[.int .i64 0] 3)
    have HM1 : Hid (WyM (w.alloc bx) (((((w.alloc bx).alloc oI).alloc oB).setCell ⟨w.heap.size + 2, 0, none⟩ (.bool true)).alloc (.cells #[.int .i64 0] 3)) (w.heap.size + 1) (w.heap.size + 2) (List.replicate n 0) ((List.replicate n false).set 0 true) (.slice (some ⟨w.heap.size + 3, 0, none⟩) 1 1) [0]) := hideI (by
      have zz : (((w.alloc bx).alloc oI).alloc oB).heap.size = w.heap.size + 3 := by simp
      have zs : ((((w.alloc bx).alloc oI).alloc oB).setCell ⟨w.heap.size + 2, 0, none⟩ (.bool true)).heap.size = w.heap.size + 3 := by
        have q1 := KS0.size
        simp
      refine ⟨KA0.heap (KS0.heap (HROW.out).1 (by omega)) (fun f => f), KA0.heap ?_ (fun f => f), ?_, HM.out.o, ?_⟩
      · rw [heap_setCell_same _ _ 0 _ _ _ (HROW.out).2, bls_set]
      · have q := lib_new ((((w.alloc bx).alloc oI).alloc oB).setCell ⟨w.heap.size + 2, 0, none⟩ (.bool true)) 0
        rw [zs] at q; exact q
      · exact (HK23.out.trans KS0 (fun i e => .inr (by simp; omega))).trans KA0 (fun _ f => f.elim))
    clear KS0 KA0
    have HW0 : Hid (Wy p L (List.replicate n 0) ((List.replicate n false).set 0 true) [0] n) := hideI (by rw [HN.out]; exact wy_start (by rw [← HN.out]; omega))
    subst hbx
    clear HM hsr hoI hoB HROW HK23
    go_enter Tryd.func20, Tryd.ntmps20
    go_wp2
    clear mk1 mk2 qs1 qs2
    obtain ⟨gH, hgH⟩ : ∃ gH, gH = w.heap.size + 1 := ⟨_, rfl⟩
    obtain ⟨gS, hgS⟩ : ∃ gS, gS = w.heap.size + 2 := ⟨_, rfl⟩
    rw [show w.heap.size + 3 = w.heap.size + 1 + 1 + 1 by omega] at HM1
    rw [← hgH, ← hgS] at HM1 ⊢
    obtain ⟨V, hV⟩ : ∃ V, V = w.alloc (.cells #[.slice aA p.av.length cA, .slice aC p.cu.length cC, .slice aN p.nr.length cN, .bool p.al, .slice aD p.dr.length cD, .slice aO p.co.length cO] 27) := ⟨_, rfl⟩
    have hVs : V.heap.size = w.heap.size + 1 := by rw [hV]; simp
    rw [← hV] at HM1 HBX HK1 ⊢
    have hgne : gH ≠ gS := by omega
    have hgw1 : V.heap.size ≤ gH := by omega
    have hgw2 : V.heap.size ≤ gS := by omega
    clear hgH hgS hVs hV
    go_loopw [9] (fun v9 wr => ∃ (Hs : List Int) (Sn : List Bool) (D : List Int) (b dl c : Nat), v9 = .slice (some ⟨b, 0, none⟩) dl c ∧ Hid (dl = D.length) ∧ Hid (Wy p L Hs Sn D n) ∧ Hid (WyM V wr gH gS Hs Sn (.slice (some ⟨b, 0, none⟩) dl c) D) ∧ Hid (2 * Sn.countP (fun b => !b) + dl ≤ 2 * n + 1)) (fun v9 wr => 2 * unO (wr.heap[gS]?) + slN v9)
    case atStart =>
      refine ⟨_, _, [0], _, 1, _, rfl, hideI rfl, HW0, HM1, hideI ?_⟩
      have := List.countP_le_length (p := fun b : Bool => !b) (l := (List.replicate n false).set 0 true)
      rw [List.length_set, List.length_replicate] at this
      omega
    case round =>
      obtain ⟨Hs, Sn, D, b, dl, c, rfl, HDL, HW, HM, HC⟩ := hrel
      have HBv := fun (W : World) (K : Kept (fun _ => False) wr W) => hideI (box6 ((HM.out.k.trans K (fun _ f => f.elim)).heap (HBX.out) (fun f => f)))
      clear HW0 HM1
      by_cases hd : 0 < dl
      · obtain ⟨D', d, rfl⟩ := lastI (by rw [← HDL.out]; exact hd)
        obtain ⟨i, rfl, hiL, hsi, hw⟩ := wy_pop (by have := HW.out; rw [HN.out] at this; exact this)
        obtain ⟨e1, hlib, hcell, hcap⟩ := LibI.cut HM.out.d
        obtain ⟨k, hk⟩ : ∃ k, k = D'.length := ⟨_, rfl⟩
        rw [← hk] at e1 hlib hcell hcap
        have HKD := hideI hk
        have hi : i < n := by rw [HN.out]; exact hiL
        have HWi := hideI hw
        have HMi : Hid (WyM V wr gH gS Hs Sn (.slice (some ⟨b, 0, none⟩) k c) D') := hideI ⟨HM.out.h, HM.out.s, hlib, HM.out.o, HM.out.k⟩
        subst e1
        obtain ⟨h, hh1, hh2⟩ := hw.bd i hsi
        have HHI := hideI hh1
        have HSI := hideI hsi
        obtain ⟨y1, y2⟩ := HM.out.hat (t := i) (by rw [hw.hl]; exact hiL)
        rw [hh1] at y1
        have hkn : k ≤ 2 * n := by have := HC.out; omega
        have HUO : Hid (unO (wr.heap[gS]?) = Sn.countP (fun b => !b)) := hideI (by rw [HM.out.s, unO_bls])
        have hii : (i : Int) < (n : Int) := by omega
        obtain ⟨fb, fo, ea, hc⟩ := HIN.out (by intro e; rw [e] at hiL; simp at hiL)
        obtain ⟨x0, x1, x2⟩ := hc i hiL
        subst ea
        have x0 := (HK1.out.trans HM.out.k (fun _ f => f.elim)).cell x0 (fun f => f)
        have x1 := (HK1.out.trans HM.out.k (fun _ f => f.elim)).cell x1 (fun f => f)
        have x2 := (HK1.out.trans HM.out.k (fun _ f => f.elim)).cell x2 (fun f => f)
        have hxo := HLX.out L[i] (List.getElem_mem hiL)
        have hxk := HLO.out L[i] (List.getElem_mem hiL)
        have HGE : Hid (Gd p L → (L[i].op = 0 ↔ i = n - 1) ∧ (L[i].op = 0 → h = 1) ∧ (L[i].op ≠ 0 → StpOk p L[i] h ∧ hA L (i + 1) = h + 1 - tkN L[i]) ∧ ((L[i].op = 15 ∨ L[i].op = 16) → i + 1 + L[i].a < n ∧ hA L (i + 1 + L[i].a) = h + 1 - tkN L[i])) := hideI (fun g => by
          have e := hw.gd g i hsi
          rw [hh1] at e
          have e : h = hA L i := by omega
          rw [e, HN.out]
          refine ⟨g.en.2 i hiL, fun q => ?_, fun q => ⟨gd_stp g hiL q, hA_next hiL⟩, fun q => ?_⟩
          · have r := (g.en.2 i hiL).1 q
            have := g.one
            rw [← r] at this; exact this
          · have r := gd_skip g hiL q
            rw [r.2, hA_next hiL]
            exact ⟨r.1, rfl⟩)
        have HDN : Hid (∀ (Hs2 : List Int) (Sn2 : List Bool), hs Hs2 i = h → (L[i].op = 0 ↔ i = n - 1) → (L[i].op = 0 → h = 1) → (L[i].op ≠ 0 → StpOk p L[i] h ∧ sn Sn2 (i + 1) ∧ hs Hs2 (i + 1) = ((h + 1 - tkN L[i] : Nat) : Int) ∧ ((L[i].op = 15 ∨ L[i].op = 16) → i + 1 + L[i].a < n ∧ sn Sn2 (i + 1 + L[i].a) ∧ hs Hs2 (i + 1 + L[i].a) = ((h + 1 - tkN L[i] : Nat) : Int))) → Dn p L Hs2 Sn2 i) := hideI (fun Hs2 Sn2 a1 a2 a3 a4 => ⟨hiL, h, a1, by rw [← HN.out]; exact a2, a3, by rw [← HN.out]; exact a4⟩)
        generalize L[i] = x at *
        have hhn : h ≤ 67108864 := by omega
        obtain ⟨xp, xa, xb⟩ := x
        simp only at x0 x1 x2 hxo hxk HGE HDN
        have HKx := hideI (Kept.alloc wr (.cells #[.int .i64 xp, .int .u64 (xa : Int), .int .u64 (xb : Int)] 56))
        have HXB := hideI (heap_alloc_new wr (.cells #[.int .i64 xp, .int .u64 (xa : Int), .int .u64 (xb : Int)] 56 (0, 0)))
        have HMx := hideI (HMi.out.later HKx.out)
        have y1x := HKx.out.cell y1 (fun f => f)
        have hi0 : (0 : Int) ≤ (i : Int) := by omega
        clear hiL hsi hw hlib hh1 hc HM HW HDL hd hk HMi
        by_cases h0 : xp = 0
        · by_cases hl0 : i = n - 1
          · by_cases hv1 : h = 1
            · have hb1 : ((h : Int) != 1) = false := by rw [hv1]; rfl
              have hb2 : (i : Int) = (n : Int) - 1 := by omega
              have hb3 : ((i : Int) == (n : Int) - 1) = true := by rw [hb2]; simp
              have HWn := hideI (wy_done HWi.out (HDN.out Hs Sn HHI.out ⟨fun _ => hl0, fun _ => h0⟩ (fun _ => hv1) (fun q => absurd h0 q)))
              subst h0
              clear HGE HDN hl0 hv1 hb2
              go_wp2
              go_roundw
              case rel => exact ⟨Hs, Sn, D', b, k, c, rfl, HKD, hideI (by rw [HN.out]; exact HWn.out), HMx, hideI (by have := HC.out; omega)⟩
              case measure =>
                rw [HMx.out.s, HUO.out, unO_bls]
                simp only [slN]
                omega
            · have HG : Hid (¬ Gd p L) := hideI (fun g => hv1 ((HGE.out g).2.1 h0))
              have hb1 : ((h : Int) != 1) = true := by rw [bne_iff_ne]; omega
              have hb2 : (i : Int) = (n : Int) - 1 := by omega
              have hb3 : ((i : Int) == (n : Int) - 1) = true := by rw [hb2]; simp
              subst h0
              clear HGE HDN hl0 hv1 hb2
              go_wp2
              go_ret2
              exact wyP_bad HG.out rfl (HK1.out.trans HMx.out.k (fun _ f => f.elim))
          · have HG : Hid (¬ Gd p L) := hideI (fun g => hl0 ((HGE.out g).1.1 h0))
            have hb3 : ((i : Int) == (n : Int) - 1) = false := by rw [beq_eq_false_iff_ne]; omega
            subst h0
            clear HGE HDN hl0
            go_wp2
            go_ret2
            exact wyP_bad HG.out rfl (HK1.out.trans HMx.out.k (fun _ f => f.elim))
        · by_cases hl0 : i = n - 1
          · have HG : Hid (¬ Gd p L) := hideI (fun g => h0 ((HGE.out g).1.2 hl0))
            have hb2 : (i : Int) = (n : Int) - 1 := by omega
            have hb3 : ((i : Int) == (n : Int) - 1) = true := by rw [hb2]; simp
            have hb4 : (xp == 0) = false := by rw [beq_eq_false_iff_ne]; exact h0
            clear HGE HDN hl0 hb2
            go_wp2
            go_ret2
            exact wyP_bad HG.out rfl (HK1.out.trans HMx.out.k (fun _ f => f.elim))
          · have hb3 : ((i : Int) == (n : Int) - 1) = false := by rw [beq_eq_false_iff_ne]; omega
            have hb4 : (xp == 0) = false := by rw [beq_eq_false_iff_ne]; exact h0
            have hin : i + 1 < n := by omega
            obtain ⟨vok, hvok⟩ := asB (StpOk p ⟨xp, xa, xb⟩ h)
            have HVO : Hid (IsB vok (StpOk p ⟨xp, xa, xb⟩ h)) := hideI hvok
            have HSP := fun (W : World) => hideI (step_any p ⟨xp, xa, xb⟩ h (.slice aA p.av.length cA) (.slice aC p.cu.length cC) (.slice aN p.nr.length cN) (.bool p.al) (.slice aD p.dr.length cD) (.slice aO p.co.length cO) aA aC aN cA cC cN W rfl rfl rfl HO.out hxk hxo (by omega) vok hvok)
            simp only at HSP
            clear hvok
            go_wp2_with fail
            refine wp_region_held (S := fun W => Kept (fun _ => False) (wr.alloc (.cells #[.int .i64 xp, .int .u64 (xa : Int), .int .u64 (xb : Int)] 56)) W) (by kernel_rfl) ?_
            change wpAnyH _ _ _ _ _ _ _ _ (World.drew _)
            have hS0 := Kept.drew (wr.alloc (.cells #[.int .i64 xp, .int .u64 (xa : Int), .int .u64 (xb : Int)] 56))
            refine takeV (i := 0) (d := 63) (v := .agg #[.slice aA p.av.length cA, .slice aC p.cu.length cC, .slice aN p.nr.length cN, .bool p.al, .slice aD p.dr.length cD, .slice aO p.co.length cO]) rfl rfl (by kernel_rfl) (by kernel_rfl) (by kernel_rfl) (fun _ _ _ h => h) (Or.inl ⟨by rfl, fun W hW => ?_⟩) hS0 ?_
            · (have q := (HBv W (HKx.out.trans hW (fun _ f => f.elim))).out; obtain ⟨w0, w1, w2, w3, w4, w5⟩ := q; go_simp)
            simp only [Act.put, List.setIfInBounds_toArray, List.set_cons_zero, List.set_cons_succ]
            refine takeV (i := 1) (d := 64) (v := .agg #[.int .i64 xp, .int .u64 (xa : Int), .int .u64 (xb : Int)]) rfl rfl (by kernel_rfl) (by kernel_rfl) (by kernel_rfl) (fun _ _ _ h => h) (Or.inl ⟨by rfl, fun W hW => ?_⟩) hS0 ?_
            · (have q := bin3 (hW.heap HXB.out (fun f => f)); obtain ⟨w0, w1, w2⟩ := q; go_simp)
            simp only [Act.put, List.setIfInBounds_toArray, List.set_cons_zero, List.set_cons_succ]
            refine takeV (i := 2) (d := 65) (v := .slice (some ⟨gH, 0, none⟩) n n) rfl rfl (by kernel_rfl) (by kernel_rfl) (by kernel_rfl) (fun _ _ _ h => h) (Or.inl ⟨by rfl, fun W hW => ?_⟩) hS0 ?_
            · (go_simp)
            simp only [Act.put, List.setIfInBounds_toArray, List.set_cons_zero, List.set_cons_succ]
            refine takeV (i := 3) (d := 66) (v := .int .i64 (i : Int)) rfl rfl (by kernel_rfl) (by kernel_rfl) (by kernel_rfl) (fun _ _ _ h => h) (Or.inl ⟨by rfl, fun W hW => ?_⟩) hS0 ?_
            · (go_simp)
            simp only [Act.put, List.setIfInBounds_toArray, List.set_cons_zero, List.set_cons_succ]
            refine takeV (i := 4) (d := 67) (v := .pointer (some ⟨gH, i, none⟩)) rfl rfl (by kernel_rfl) (by kernel_rfl) (by kernel_rfl) (fun _ _ _ h => h) (Or.inl ⟨by rfl, fun W hW => ?_⟩) hS0 ?_
            · (go_simp)
            simp only [Act.put, List.setIfInBounds_toArray, List.set_cons_zero, List.set_cons_succ]
            refine takeV (i := 5) (d := 68) (v := .int .i64 (h : Int)) rfl rfl (by kernel_rfl) (by kernel_rfl) (by kernel_rfl) (fun _ _ _ h => h) (Or.inl ⟨by rfl, fun W hW => ?_⟩) hS0 ?_
            · (have q := hW.cell y1x (fun f => f); go_simp)
            simp only [Act.put, List.setIfInBounds_toArray, List.set_cons_zero, List.set_cons_succ]
            refine wpAnyH_all (rs := [6]) (by kernel_rfl) (by simp) ?_
            intro j hj
            obtain rfl : j = 6 := by simpa using hj
            unfold wpOp
            go_simp
            first | refine (HSP _).out.mono ?_ | refine Or.inl ((HSP _).out.mono ?_)
            clear HSP
            rintro e W8 ⟨⟨z, rfl, hz⟩, K8⟩
            have HZ := hideI hz
            have K9 := hS0.trans K8 (fun _ f => f.elim)
            clear hz K8
            refine ⟨K9, ?_⟩
            refine takeV (i := 7) (d := 62) (v := .tuple #[.int .i64 z, .bool vok]) rfl rfl (by kernel_rfl) (by kernel_rfl) (by kernel_rfl) (fun _ _ _ h => h) (Or.inl ⟨by rfl, fun W hW => ?_⟩) K9 ?_
            · (go_simp)
            simp only [Act.put, List.setIfInBounds_toArray, List.set_cons_zero, List.set_cons_succ]
            refine takeV (i := 8) (d := 70) (v := .int .i64 z) rfl rfl (by kernel_rfl) (by kernel_rfl) (by kernel_rfl) (fun _ _ _ h => h) (Or.inl ⟨by rfl, fun W hW => ?_⟩) K9 ?_
            · (go_simp)
            simp only [Act.put, List.setIfInBounds_toArray, List.set_cons_zero, List.set_cons_succ]
            refine takeV (i := 9) (d := 71) (v := .bool vok) rfl rfl (by kernel_rfl) (by kernel_rfl) (by kernel_rfl) (fun _ _ _ h => h) (Or.inl ⟨by rfl, fun W hW => ?_⟩) K9 ?_
            · (go_simp)
            simp only [Act.put, List.setIfInBounds_toArray, List.set_cons_zero, List.set_cons_succ]
            refine takeV (i := 10) (d := 12) (v := .int .i64 z) rfl rfl (by kernel_rfl) (by kernel_rfl) (by kernel_rfl) (fun _ _ _ h => h) (Or.inl ⟨by rfl, fun W hW => ?_⟩) K9 ?_
            · (go_simp)
            simp only [Act.put, List.setIfInBounds_toArray, List.set_cons_zero, List.set_cons_succ]
            refine takeV (i := 11) (d := 13) (v := .bool vok) rfl rfl (by kernel_rfl) (by kernel_rfl) (by kernel_rfl) (fun _ _ _ h => h) (Or.inl ⟨by rfl, fun W hW => ?_⟩) K9 ?_
            · (go_simp)
            simp only [Act.put, List.setIfInBounds_toArray, List.set_cons_zero, List.set_cons_succ]
            refine wpAnyH_done (by kernel_rfl) ?_ _
            have HM8 := hideI (HMx.out.later K9)
            have HX8 := hideI (K9.heap HXB.out (fun f => f))
            clear K9 hS0
            cases vok with
            | false =>
              have HG : Hid (¬ Gd p L) := hideI (fun g => HVO.out.no ((HGE.out g).2.2.1 h0).1)
              clear HGE HDN hl0
              go_wp2
              go_ret2
              exact wyP_bad HG.out rfl (HK1.out.trans HM8.out.k (fun _ f => f.elim))
            | true =>
              have hz := HZ.out rfl
              obtain ⟨h1, hh1⟩ : ∃ h1, h1 = h + 1 - tkN ⟨xp, xa, xb⟩ := ⟨_, rfl⟩
              rw [← hh1] at hz HGE HDN
              subst hz
              have hh3 : h1 ≤ i + 1 := by omega
              have HST := hideI HVO.out.yes
              obtain ⟨x8, x9, x10⟩ := bin3 HX8.out
              clear hh1 HZ HVO
              by_cases hsk : xp = 15 ∨ xp = 16
              · have hop : (xp == 15) = true ∧ xp = 15 ∨ (xp == 15) = false ∧ (xp == 16) = true ∧ xp = 16 := by
                  rcases hsk with e | e
                  · exact .inl ⟨by rw [e]; rfl, e⟩
                  · exact .inr ⟨by rw [e]; rfl, by rw [e]; rfl, e⟩
                have g1 : IntKind.u64.wrap (n : Int) = (n : Int) := by rw [IntKind.wrap_u64]; omega
                have KN := Kept.alloc W8 (.cells #[.int .i64 ((i : Int) + 1)] 3)
                obtain ⟨x11, x12, x13⟩ := bin3 (KN.heap HX8.out (fun f => f))
                have HM9 := hideI (HM8.out.later KN)
                by_cases hin2 : i + 1 + xa < n
                · have g2 : ¬ (xa : Int) > (n : Int) := by omega
                  have g3 : IntKind.i64.wrap (xa : Int) = (xa : Int) := by rw [IntKind.wrap_i64]; omega
                  have g4 : ¬ (i : Int) + 1 + (xa : Int) ≥ (n : Int) := by omega
                  obtain ⟨T, hT⟩ : ∃ T : List Nat, T = [i + 1, i + 1 + xa] := ⟨_, rfl⟩
                  have HTL : Hid (2 = T.length) := hideI (by rw [hT]; rfl)
                  have HTT : Hid (∀ t ∈ T, t < n ∧ h1 ≤ t ∧ (Gd p L → hA L t = h1)) := hideI (fun t ht => by
                    rw [hT] at ht
                    have e : t = i + 1 ∨ t = i + 1 + xa := by simpa using ht
                    rcases e with e | e
                    · rw [e]; exact ⟨hin, hh3, fun g => ((HGE.out g).2.2.1 h0).2⟩
                    · rw [e]; exact ⟨hin2, by omega, fun g => ((HGE.out g).2.2.2 hsk).2⟩)
                  have HFIN : Hid (∀ (Hs2 : List Int) (Sn2 : List Bool), hs Hs2 i = (h : Nat) → (∀ t ∈ T, sn Sn2 t ∧ hs Hs2 t = (h1 : Nat)) → Dn p L Hs2 Sn2 i) := hideI (fun Hs2 Sn2 a1 a2 => by
                    have q := a2 (i + 1) (by rw [hT]; simp)
                    have q2 := a2 (i + 1 + xa) (by rw [hT]; simp)
                    exact HDN.out Hs2 Sn2 a1 ⟨fun e => absurd e h0, fun e => absurd e hl0⟩ (fun e => absurd e h0) (fun _ => ⟨HST.out, q.1, q.2, fun _ => ⟨hin2, q2.1, q2.2⟩⟩))
                  have hTI : tI T = [(i : Int) + 1] ++ [(i : Int) + 1 + (xa : Int)] := by rw [hT]; rfl
                  have HTI := hideI hTI
                  have KM := Kept.alloc (W8.alloc (.cells #[.int .i64 ((i : Int) + 1)] 3)) (.cells #[.int .i64 ((i : Int) + 1 + (xa : Int))] 3)
                  have HMa := hideI (HM9.out.later KM)
                  have HLa := hideI ((lib_new W8 ((i : Int) + 1)).later KM)
                  have HOC := hideI (one_cellV (W8.alloc (.cells #[.int .i64 ((i : Int) + 1)] 3)) ((i : Int) + 1 + (xa : Int)))
                  have hsz : (W8.alloc (.cells #[.int .i64 ((i : Int) + 1)] 3)).heap.size = W8.heap.size + 1 := by simp
                  rw [hsz] at HOC
                  have hbW : b < W8.heap.size := HM8.out.d.lt rfl
                  have HBB := hideI hbW
                  have hHW : gH < W8.heap.size := lt_of_block HM8.out.h
                  have hSW : gS < W8.heap.size := lt_of_block HM8.out.s
                  have HVW := hideI HM8.out.k.size
                  have HGW := hideI (And.intro hHW hSW)
                  clear hT hTI hsk HGE HDN hl0 KN KM hsz hbW hHW hSW
                  rcases hop with ⟨o1, rfl⟩ | ⟨o1, o2, rfl⟩
                  all_goals
                    go_wp2_with (at_builtin; refine StpH.go ?_)
                    refine ⟨?_⟩
                    refine wpList_libI rfl _ _ rfl (.slice (some ⟨W8.heap.size, 0, none⟩) 1 1) [(i : Int) + 1] [(i : Int) + 1 + (xa : Int)] rfl HLa (W8.heap.size + 1) 1 1 rfl (hideH rfl) HOC 1 (hideH rfl) (by decide) (by omega) ?_
                    intro a' cn W' HL' HS'
                    obtain ⟨bn, rfl, hb1, -⟩ := HL'.out.addr (by omega)
                    have hnw : bn = W8.heap.size ∨ W8.heap.size + 2 ≤ bn := by
                      rcases HS'.out.new bn rfl with q | q
                      · exact .inl (Option.some.inj q).symm
                      · simp at q; exact .inr (by omega)
                    have HBN : Hid (b ≠ bn) := hideI (by have := HBB.out; omega)
                    have HBG : Hid (bn ≠ gH ∧ bn ≠ gS) := hideI (by have := HGW.out; omega)
                    have HM10 := hideI (HMa.out.far HS'.out.kept (fun e => by have e1 : W8.heap.size = gH := Option.some.inj e; have := HGW.out; omega) (fun e => by have e1 : W8.heap.size = gS := Option.some.inj e; have := HGW.out; omega) (fun j hj e => by have e1 : b = j := Option.some.inj hj; have e2 : W8.heap.size = j := Option.some.inj e; have := HBB.out; omega) (fun j e => by have e1 : W8.heap.size = j := Option.some.inj e; have := HVW.out; omega))
                    have HLN : Hid (LibI W' (.slice (some ⟨bn, 0, none⟩) 2 cn) (tI T)) := hideI (by rw [HTI.out]; exact HL'.out)
                    clear HL' HS' HMa HLa HOC hb1 hnw HM9 HM8
                    go_wp2_with fail
                    clear x8 x9 x10 x11 x12 x13
                    go_loopw [9, 111] (fun v9 v111 w2 => ∃ (m : Nat) (Hs2 : List Int) (Sn2 : List Bool) (D2 : List Int) (b2 d2 c2 : Nat), m ≤ 2 ∧ v111 = .int .i64 m ∧ v9 = .slice (some ⟨b2, 0, none⟩) d2 c2 ∧ Hid (d2 = D2.length) ∧ Hid (Wy p L Hs2 Sn2 D2 i) ∧ Hid (WyM V w2 gH gS Hs2 Sn2 (.slice (some ⟨b2, 0, none⟩) d2 c2) D2) ∧ Hid (∀ j (hj : j < T.length), j < m → sn Sn2 T[j] ∧ hs Hs2 T[j] = (h1 : Nat)) ∧ Hid (2 * Sn2.countP (fun b => !b) + d2 ≤ 2 * Sn.countP (fun b => !b) + k) ∧ Hid (sn Sn2 i ∧ hs Hs2 i = (h : Nat)) ∧ Hid (LibI w2 (.slice (some ⟨bn, 0, none⟩) 2 cn) (tI T)) ∧ Hid (b2 ≠ bn)) (fun _ v111 _ => 2 - (intOf v111).toNat)
                    case atStart => exact ⟨0, Hs, Sn, D', b, k, c, by omega, rfl, rfl, HKD, HWi, HM10, hideI (fun j hj h => by omega), hideI (Nat.le_refl _), hideI ⟨HSI.out, HHI.out⟩, HLN, HBN⟩
                    case round =>
                      obtain ⟨m, Hs2, Sn2, D2, b2, d2, c2, hm, rfl, rfl, HD2, HW2, HM2, HAL, HC2, HSH, HL2, HB2⟩ := hrel
                      by_cases hlt : m < 2
                      · have hmT : m < T.length := by rw [← HTL.out]; exact hlt
                        have hmi : (m : Int) < (2 : Int) := by omega
                        obtain ⟨bq, cq, eq1, cell1, -⟩ := HL2.out.cells (j := m) (by rw [tI_len]; exact hmT)
                        rw [tI_at hmT] at cell1
                        have hbq : bq = bn := by
                          simp only [Value.slice.injEq, Option.some.injEq, Addr.mk.injEq, and_true] at eq1
                          exact eq1.1.symm
                        rw [hbq] at cell1
                        clear hbq
                        obtain ⟨tt1, tt2, tt3⟩ := HTT.out T[m] (List.getElem_mem hmT)
                        have HA2 : Hid (∀ (Hs3 : List Int) (Sn3 : List Bool), (∀ u, sn Sn2 u → sn Sn3 u ∧ hs Hs3 u = hs Hs2 u) → sn Sn3 T[m] → hs Hs3 T[m] = (h1 : Nat) → ∀ j (hj : j < T.length), j < m + 1 → sn Sn3 T[j] ∧ hs Hs3 T[j] = (h1 : Nat)) := hideI (fun Hs3 Sn3 a1 a2 a3 j hj hjm => by
                          by_cases hjj : j = m
                          · subst hjj; exact ⟨a2, a3⟩
                          · obtain ⟨c1, c2⟩ := HAL.out j hj (by omega)
                            obtain ⟨e1, e2⟩ := a1 _ c1
                            exact ⟨e1, by rw [e2]; exact c2⟩)
                        generalize T[m] = t at *
                        have htL : t < L.length := by rw [← HN.out]; exact tt1
                        have hti : (t : Int) < (n : Int) := by omega
                        have hti0 : (0 : Int) ≤ (t : Int) := by omega
                        obtain ⟨s1, s2⟩ := HM2.out.sat (t := t) (by rw [HW2.out.sl]; exact htL)
                        obtain ⟨s3, s4⟩ := HM2.out.hat (t := t) (by rw [HW2.out.hl]; exact htL)
                        obtain ⟨bv, hbv⟩ : ∃ bv, bv = Sn2[t]?.getD false := ⟨_, rfl⟩
                        rw [← hbv] at s1
                        have HBV := hideI hbv
                        clear hbv eq1 hmT
                        cases bv with
                        | true =>
                          have hsn : sn Sn2 t := HBV.out.symm
                          obtain ⟨ht, hte, -⟩ := HW2.out.bd t hsn
                          rw [hte] at s3
                          by_cases hth : ht = h1
                          · have HA3 := hideI (HA2.out Hs2 Sn2 (fun u hu => ⟨hu, rfl⟩) hsn (by rw [hte, hth]))
                            have hne1 : ((ht : Int) != (h1 : Int)) = false := by rw [hth]; simp
                            clear hth hsn hte HA2 HAL
                            go_wp2
                            go_roundw
                            case rel => exact ⟨m + 1, Hs2, Sn2, D2, b2, d2, c2, hlt, by go_num, rfl, HD2, HW2, HM2, HA3, HC2, HSH, HL2, HB2⟩
                            case measure => simp [intOf]; omega
                          · have HG : Hid (¬ Gd p L) := hideI (fun g => hth (by
                              have q1 := HW2.out.gd g t hsn
                              rw [hte, tt3 g] at q1
                              omega))
                            have hne1 : ((ht : Int) != (h1 : Int)) = true := by rw [bne_iff_ne]; omega
                            clear hth hsn hte HA2 HAL
                            go_wp2
                            go_ret2
                            exact wyP_bad HG.out rfl (HK1.out.trans HM2.out.k (fun _ f => f.elim))
                        | false =>
                          have hsn : ¬ sn Sn2 t := by unfold sn; rw [← HBV.out]; decide
                          have hset : t < Sn2.length := by rw [HW2.out.sl]; exact htL
                          have HWp := hideI (wy_put HW2.out htL hsn (by omega : h1 ≤ t) tt3)
                          have hcnt := un_set hset hsn
                          have ne : ∀ v, sn Sn2 v → t ≠ v := fun v hv e => hsn (by rw [e]; exact hv)
                          have HA3 := hideI (HA2.out (Hs2.set t (h1 : Int)) (Sn2.set t true) (fun u hu => ⟨(sn_set hset).2 (.inr hu), hs_other _ (ne u hu)⟩) ((sn_set hset).2 (.inl rfl)) (hs_same _ (by rw [HW2.out.hl]; exact htL)))
                          have HSH2 : Hid (sn (Sn2.set t true) i ∧ hs (Hs2.set t (h1 : Int)) i = (h : Nat)) := hideI ⟨(sn_set hset).2 (.inr HSH.out.1), by rw [hs_other _ (ne i HSH.out.1)]; exact HSH.out.2⟩
                          have HC3 : Hid (2 * (Sn2.set t true).countP (fun b => !b) + (d2 + 1) ≤ 2 * Sn.countP (fun b => !b) + k) := hideI (by have := HC2.out; omega)
                          have ma := HM2.out.setS hgne hgw2 t
                          have lna := HL2.out.kept (Kept.setCell wr ⟨gS, t, none⟩ (.bool true)) (fun j hj e => HBG.out.2 (by have : bn = j := Option.some.inj hj; rw [this]; exact e))
                          obtain ⟨s5, s6⟩ := ma.hat (t := t) (by rw [HW2.out.hl]; exact htL)
                          have mb := ma.setH hgne hgw1 t (h1 : Int)
                          have lnb := lna.kept (Kept.setCell _ ⟨gH, t, none⟩ (.int .i64 (h1 : Int))) (fun j hj e => HBG.out.1 (by have : bn = j := Option.some.inj hj; rw [this]; exact e))
                          have ka := Kept.alloc ((wr.setCell ⟨gS, t, none⟩ (.bool true)).setCell ⟨gH, t, none⟩ (.int .i64 (h1 : Int))) (.cells #[.int .i64 (t : Int)] 3)
                          have HMc := hideI (mb.later ka)
                          have HLc := hideI (lnb.later ka)
                          have HOC := hideI (one_cellV ((wr.setCell ⟨gS, t, none⟩ (.bool true)).setCell ⟨gH, t, none⟩ (.int .i64 (h1 : Int))) (t : Int))
                          have HLd := hideI HMc.out.d
                          have hsz : ((wr.setCell ⟨gS, t, none⟩ (.bool true)).setCell ⟨gH, t, none⟩ (.int .i64 (h1 : Int))).heap.size = wr.heap.size := by simp
                          rw [hsz] at HOC
                          have hd2 : d2 ≤ 402653184 := by have := HC2.out; have := HC.out; omega
                          clear ma mb lna lnb ka hcnt ne hset hsn HA2 HAL hsz
                          go_wp2_with (at_builtin; refine StpH.go ?_)
                          refine ⟨?_⟩
                          refine wpList_libI rfl _ _ rfl (.slice (some ⟨b2, 0, none⟩) d2 c2) D2 [(t : Int)] rfl HLd wr.heap.size 1 1 rfl (hideH rfl) HOC d2 HD2 (by decide) (by omega) ?_
                          intro a' c' W' HL' HS'
                          obtain ⟨b', rfl, hb'1, hb'2⟩ := HL'.out.addr (by omega)
                          have HB'2 := hideI hb'2
                          clear hb'1 hb'2
                          have HMd := hideI (HMc.out.app (lt_of_block HMc.out.h) (lt_of_block HMc.out.s) HL'.out HS'.out)
                          have HLe := hideI (HLc.out.kept HS'.out.kept (fun j hj e => HB2.out (by have e1 : bn = j := Option.some.inj hj; have e2 : b2 = j := Option.some.inj e; rw [e1, e2])))
                          have HBe : Hid (b' ≠ bn) := hideI (fun e => by
                            have e1 := HLc.out.lt (k := bn) rfl
                            rcases HS'.out.new b' rfl with q | q
                            · have : b2 = b' := Option.some.inj q
                              exact HB2.out (by omega)
                            · omega)
                          clear HMc HLc HLd HOC HL' HS'
                          go_wp2_with fail
                          go_roundw
                          case rel => exact ⟨m + 1, _, _, _, b', d2 + 1, c', hlt, by go_num, rfl, HB'2, HWp, HMd, HA3, HC3, HSH2, HLe, HBe⟩
                          case measure => simp [intOf]; omega
                      · obtain rfl : m = 2 := by omega
                        have hmi : ¬ ((2 : Nat) : Int) < 2 := by omega
                        have HWd := hideI (wy_done HW2.out (HFIN.out Hs2 Sn2 HSH.out.2 (fun t ht => by
                          obtain ⟨j, hj, rfl⟩ := List.mem_iff_getElem.1 ht
                          exact HAL.out j hj (by rw [HTL.out]; exact hj))))
                        clear HAL HFIN HTT
                        go_wp2
                        go_roundw
                        case rel => exact ⟨Hs2, Sn2, D2, b2, d2, c2, rfl, HD2, hideI (by rw [HN.out]; exact HWd.out), HM2, hideI (by have := HC2.out; have := HC.out; omega)⟩
                        case measure =>
                          rw [HM2.out.s, HUO.out, unO_bls]
                          simp only [slN]
                          have := HC2.out
                          omega
                · have HG : Hid (¬ Gd p L) := hideI (fun g => hin2 ((HGE.out g).2.2.2 hsk).1)
                  by_cases hxn : xa > n
                  · have g2 : (xa : Int) > (n : Int) := by omega
                    clear hsk HGE HDN hl0 hin2 hxn
                    rcases hop with ⟨o1, rfl⟩ | ⟨o1, o2, rfl⟩
                    all_goals
                      go_wp2
                      go_ret2
                      exact wyP_bad HG.out rfl (HK1.out.trans HM9.out.k (fun _ f => f.elim))
                  · have g2 : ¬ (xa : Int) > (n : Int) := by omega
                    have g3 : IntKind.i64.wrap (xa : Int) = (xa : Int) := by rw [IntKind.wrap_i64]; omega
                    have g4 : (i : Int) + 1 + (xa : Int) ≥ (n : Int) := by omega
                    clear hsk HGE HDN hl0 hin2 hxn
                    rcases hop with ⟨o1, rfl⟩ | ⟨o1, o2, rfl⟩
                    all_goals
                      go_wp2
                      go_ret2
                      exact wyP_bad HG.out rfl (HK1.out.trans HM9.out.k (fun _ f => f.elim))
              · have o1 : (xp == 15) = false := by rw [beq_eq_false_iff_ne]; exact fun e => hsk (.inl e)
                have o2 : (xp == 16) = false := by rw [beq_eq_false_iff_ne]; exact fun e => hsk (.inr e)
                have o3 : ¬ xp = 15 := fun e => hsk (.inl e)
                have o4 : ¬ xp = 16 := fun e => hsk (.inr e)
                obtain ⟨T, hT⟩ : ∃ T : List Nat, T = [i + 1] := ⟨_, rfl⟩
                have HTL : Hid (1 = T.length) := hideI (by rw [hT]; rfl)
                have HTT : Hid (∀ t ∈ T, t < n ∧ h1 ≤ t ∧ (Gd p L → hA L t = h1)) := hideI (fun t ht => by
                  rw [hT] at ht
                  obtain rfl : t = i + 1 := by simpa using ht
                  exact ⟨hin, hh3, fun g => ((HGE.out g).2.2.1 h0).2⟩)
                have HFIN : Hid (∀ (Hs2 : List Int) (Sn2 : List Bool), hs Hs2 i = (h : Nat) → (∀ t ∈ T, sn Sn2 t ∧ hs Hs2 t = (h1 : Nat)) → Dn p L Hs2 Sn2 i) := hideI (fun Hs2 Sn2 a1 a2 => by
                  have q := a2 (i + 1) (by rw [hT]; simp)
                  exact HDN.out Hs2 Sn2 a1 ⟨fun e => absurd e h0, fun e => absurd e hl0⟩ (fun e => absurd e h0) (fun _ => ⟨HST.out, q.1, q.2, fun e => absurd e hsk⟩))
                have KN := Kept.alloc W8 (.cells #[.int .i64 ((i : Int) + 1)] 3)
                have HM10 := hideI (HM8.out.later KN)
                obtain ⟨x11, x12, x13⟩ := bin3 (KN.heap HX8.out (fun f => f))
                have HLN : Hid (LibI (W8.alloc (.cells #[.int .i64 ((i : Int) + 1)] 3)) (.slice (some ⟨W8.heap.size, 0, none⟩) 1 1) (tI T)) := hideI (by
                  rw [hT]
                  exact lib_new W8 ((i : Int) + 1))
                have hbW : b < W8.heap.size := HM8.out.d.lt rfl
                have HBN : Hid (b ≠ W8.heap.size) := hideI (by omega)
                have HBG : Hid (W8.heap.size ≠ gH ∧ W8.heap.size ≠ gS) := hideI ⟨by have := lt_of_block HM8.out.h; omega, by have := lt_of_block HM8.out.s; omega⟩
                clear hT hsk HGE HDN hl0 KN hbW
                go_wp2
                clear x8 x9 x10 x11 x12 x13
                obtain ⟨bn, hbn⟩ : ∃ bn, bn = W8.heap.size := ⟨_, rfl⟩
                rw [← hbn] at HLN HBN HBG ⊢
                clear hbn
                go_loopw [9, 111] (fun v9 v111 w2 => ∃ (m : Nat) (Hs2 : List Int) (Sn2 : List Bool) (D2 : List Int) (b2 d2 c2 : Nat), m ≤ 1 ∧ v111 = .int .i64 m ∧ v9 = .slice (some ⟨b2, 0, none⟩) d2 c2 ∧ Hid (d2 = D2.length) ∧ Hid (Wy p L Hs2 Sn2 D2 i) ∧ Hid (WyM V w2 gH gS Hs2 Sn2 (.slice (some ⟨b2, 0, none⟩) d2 c2) D2) ∧ Hid (∀ j (hj : j < T.length), j < m → sn Sn2 T[j] ∧ hs Hs2 T[j] = (h1 : Nat)) ∧ Hid (2 * Sn2.countP (fun b => !b) + d2 ≤ 2 * Sn.countP (fun b => !b) + k) ∧ Hid (sn Sn2 i ∧ hs Hs2 i = (h : Nat)) ∧ Hid (LibI w2 (.slice (some ⟨bn, 0, none⟩) 1 1) (tI T)) ∧ Hid (b2 ≠ bn)) (fun _ v111 _ => 1 - (intOf v111).toNat)
                case atStart => exact ⟨0, Hs, Sn, D', b, k, c, by omega, rfl, rfl, HKD, HWi, HM10, hideI (fun j hj h => by omega), hideI (Nat.le_refl _), hideI ⟨HSI.out, HHI.out⟩, HLN, HBN⟩
                case round =>
                  obtain ⟨m, Hs2, Sn2, D2, b2, d2, c2, hm, rfl, rfl, HD2, HW2, HM2, HAL, HC2, HSH, HL2, HB2⟩ := hrel
                  by_cases hlt : m < 1
                  · have hmT : m < T.length := by rw [← HTL.out]; exact hlt
                    have hmi : (m : Int) < (1 : Int) := by omega
                    obtain ⟨bq, cq, eq1, cell1, -⟩ := HL2.out.cells (j := m) (by rw [tI_len]; exact hmT)
                    rw [tI_at hmT] at cell1
                    have hbq : bq = bn := by
                      simp only [Value.slice.injEq, Option.some.injEq, Addr.mk.injEq, and_true] at eq1
                      exact eq1.1.symm
                    rw [hbq] at cell1
                    clear hbq
                    obtain ⟨tt1, tt2, tt3⟩ := HTT.out T[m] (List.getElem_mem hmT)
                    have HA2 : Hid (∀ (Hs3 : List Int) (Sn3 : List Bool), (∀ u, sn Sn2 u → sn Sn3 u ∧ hs Hs3 u = hs Hs2 u) → sn Sn3 T[m] → hs Hs3 T[m] = (h1 : Nat) → ∀ j (hj : j < T.length), j < m + 1 → sn Sn3 T[j] ∧ hs Hs3 T[j] = (h1 : Nat)) := hideI (fun Hs3 Sn3 a1 a2 a3 j hj hjm => by
                      by_cases hjj : j = m
                      · subst hjj; exact ⟨a2, a3⟩
                      · obtain ⟨c1, c2⟩ := HAL.out j hj (by omega)
                        obtain ⟨e1, e2⟩ := a1 _ c1
                        exact ⟨e1, by rw [e2]; exact c2⟩)
                    generalize T[m] = t at *
                    have htL : t < L.length := by rw [← HN.out]; exact tt1
                    have hti : (t : Int) < (n : Int) := by omega
                    have hti0 : (0 : Int) ≤ (t : Int) := by omega
                    obtain ⟨s1, s2⟩ := HM2.out.sat (t := t) (by rw [HW2.out.sl]; exact htL)
                    obtain ⟨s3, s4⟩ := HM2.out.hat (t := t) (by rw [HW2.out.hl]; exact htL)
                    obtain ⟨bv, hbv⟩ : ∃ bv, bv = Sn2[t]?.getD false := ⟨_, rfl⟩
                    rw [← hbv] at s1
                    have HBV := hideI hbv
                    clear hbv eq1 hmT
                    cases bv with
                    | true =>
                      have hsn : sn Sn2 t := HBV.out.symm
                      obtain ⟨ht, hte, -⟩ := HW2.out.bd t hsn
                      rw [hte] at s3
                      by_cases hth : ht = h1
                      · have HA3 := hideI (HA2.out Hs2 Sn2 (fun u hu => ⟨hu, rfl⟩) hsn (by rw [hte, hth]))
                        have hne1 : ((ht : Int) != (h1 : Int)) = false := by rw [hth]; simp
                        clear hth hsn hte HA2 HAL
                        go_wp2
                        go_roundw
                        case rel => exact ⟨m + 1, Hs2, Sn2, D2, b2, d2, c2, hlt, by go_num, rfl, HD2, HW2, HM2, HA3, HC2, HSH, HL2, HB2⟩
                        case measure => simp [intOf]; omega
                      · have HG : Hid (¬ Gd p L) := hideI (fun g => hth (by
                          have q1 := HW2.out.gd g t hsn
                          rw [hte, tt3 g] at q1
                          omega))
                        have hne1 : ((ht : Int) != (h1 : Int)) = true := by rw [bne_iff_ne]; omega
                        clear hth hsn hte HA2 HAL
                        go_wp2
                        go_ret2
                        exact wyP_bad HG.out rfl (HK1.out.trans HM2.out.k (fun _ f => f.elim))
                    | false =>
                      have hsn : ¬ sn Sn2 t := by unfold sn; rw [← HBV.out]; decide
                      have hset : t < Sn2.length := by rw [HW2.out.sl]; exact htL
                      have HWp := hideI (wy_put HW2.out htL hsn (by omega : h1 ≤ t) tt3)
                      have hcnt := un_set hset hsn
                      have ne : ∀ v, sn Sn2 v → t ≠ v := fun v hv e => hsn (by rw [e]; exact hv)
                      have HA3 := hideI (HA2.out (Hs2.set t (h1 : Int)) (Sn2.set t true) (fun u hu => ⟨(sn_set hset).2 (.inr hu), hs_other _ (ne u hu)⟩) ((sn_set hset).2 (.inl rfl)) (hs_same _ (by rw [HW2.out.hl]; exact htL)))
                      have HSH2 : Hid (sn (Sn2.set t true) i ∧ hs (Hs2.set t (h1 : Int)) i = (h : Nat)) := hideI ⟨(sn_set hset).2 (.inr HSH.out.1), by rw [hs_other _ (ne i HSH.out.1)]; exact HSH.out.2⟩
                      have HC3 : Hid (2 * (Sn2.set t true).countP (fun b => !b) + (d2 + 1) ≤ 2 * Sn.countP (fun b => !b) + k) := hideI (by have := HC2.out; omega)
                      have ma := HM2.out.setS hgne hgw2 t
                      have lna := HL2.out.kept (Kept.setCell wr ⟨gS, t, none⟩ (.bool true)) (fun j hj e => HBG.out.2 (by have : bn = j := Option.some.inj hj; rw [this]; exact e))
                      obtain ⟨s5, s6⟩ := ma.hat (t := t) (by rw [HW2.out.hl]; exact htL)
                      have mb := ma.setH hgne hgw1 t (h1 : Int)
                      have lnb := lna.kept (Kept.setCell _ ⟨gH, t, none⟩ (.int .i64 (h1 : Int))) (fun j hj e => HBG.out.1 (by have : bn = j := Option.some.inj hj; rw [this]; exact e))
                      have ka := Kept.alloc ((wr.setCell ⟨gS, t, none⟩ (.bool true)).setCell ⟨gH, t, none⟩ (.int .i64 (h1 : Int))) (.cells #[.int .i64 (t : Int)] 3)
                      have HMc := hideI (mb.later ka)
                      have HLc := hideI (lnb.later ka)
                      have HOC := hideI (one_cellV ((wr.setCell ⟨gS, t, none⟩ (.bool true)).setCell ⟨gH, t, none⟩ (.int .i64 (h1 : Int))) (t : Int))
                      have HLd := hideI HMc.out.d
                      have hsz : ((wr.setCell ⟨gS, t, none⟩ (.bool true)).setCell ⟨gH, t, none⟩ (.int .i64 (h1 : Int))).heap.size = wr.heap.size := by simp
                      rw [hsz] at HOC
                      have hd2 : d2 ≤ 402653184 := by have := HC2.out; have := HC.out; omega
                      clear ma mb lna lnb ka hcnt ne hset hsn HA2 HAL hsz
                      go_wp2_with (at_builtin; refine StpH.go ?_)
                      refine ⟨?_⟩
                      refine wpList_libI rfl _ _ rfl (.slice (some ⟨b2, 0, none⟩) d2 c2) D2 [(t : Int)] rfl HLd wr.heap.size 1 1 rfl (hideH rfl) HOC d2 HD2 (by decide) (by omega) ?_
                      intro a' c' W' HL' HS'
                      obtain ⟨b', rfl, hb'1, hb'2⟩ := HL'.out.addr (by omega)
                      have HB'2 := hideI hb'2
                      clear hb'1 hb'2
                      have HMd := hideI (HMc.out.app (lt_of_block HMc.out.h) (lt_of_block HMc.out.s) HL'.out HS'.out)
                      have HLe := hideI (HLc.out.kept HS'.out.kept (fun j hj e => HB2.out (by have e1 : bn = j := Option.some.inj hj; have e2 : b2 = j := Option.some.inj e; rw [e1, e2])))
                      have HBe : Hid (b' ≠ bn) := hideI (fun e => by
                        have e1 := HLc.out.lt (k := bn) rfl
                        rcases HS'.out.new b' rfl with q | q
                        · have : b2 = b' := Option.some.inj q
                          exact HB2.out (by omega)
                        · omega)
                      clear HMc HLc HLd HOC HL' HS'
                      go_wp2_with fail
                      go_roundw
                      case rel => exact ⟨m + 1, _, _, _, b', d2 + 1, c', hlt, by go_num, rfl, HB'2, HWp, HMd, HA3, HC3, HSH2, HLe, HBe⟩
                      case measure => simp [intOf]; omega
                  · obtain rfl : m = 1 := by omega
                    have hmi : ¬ ((1 : Nat) : Int) < 1 := by omega
                    have HWd := hideI (wy_done HW2.out (HFIN.out Hs2 Sn2 HSH.out.2 (fun t ht => by
                      obtain ⟨j, hj, rfl⟩ := List.mem_iff_getElem.1 ht
                      exact HAL.out j hj (by rw [HTL.out]; exact hj))))
                    clear HAL HFIN HTT
                    go_wp2
                    go_roundw
                    case rel => exact ⟨Hs2, Sn2, D2, b2, d2, c2, rfl, HD2, hideI (by rw [HN.out]; exact HWd.out), HM2, hideI (by have := HC2.out; have := HC.out; omega)⟩
                    case measure =>
                      rw [HM2.out.s, HUO.out, unO_bls]
                      simp only [slN]
                      have := HC2.out
                      omega
      · have hz : dl = 0 := by omega
        subst hz
        have hD : D = [] := List.eq_nil_of_length_eq_zero HDL.out.symm
        subst hD
        obtain ⟨g1, g2⟩ := wy_end (by have := HW.out; rw [HN.out] at this; exact this)
        have HG1 := hideI g1
        have HI := hideI HM.out.ints
        rw [g2] at HI
        have HKM := hideI HM.out.k
        clear hd HM HW HDL g1 g2 HBv
        go_wp2
        go_ret2
        exact wyP_good HG1.out HN.out rfl HI.out (HK1.out.trans HKM.out (fun _ f => f.elim))
end Go.Proofs.YtohnkamobmkhkaaDoor
