import Derived.Test.YtiebmmpnmklpnaaDoorVrb
import Derived.Test.YtiebmmpnmklpnaaDoorVrc
import Derived.Test.YtiebmmpnmklpnaaDoorVfx
namespace Go.Proofs.YtiebmmpnmklpnaaDoor
open Go.ChangeShapes Go.WideShapes Go.ChangeAt Go.RowKit

/-- What holds at an instruction that the document's walk has left behind. -/
def Rk (p : Pg) (L : List In) (Hs : List Int) (k : Nat) : Prop :=
  ∃ hk : k < L.length, (L[k].op = 0 ↔ k = L.length - 1) ∧ BhOk L[k] (hA L k) ∧ OnOk p L[k] ∧ ((L[k].op = 15 ∨ L[k].op = 16) → k + 1 + L[k].a < L.length ∧ hs Hs (k + 1 + L[k].a) = (hA L (k + 1) : Nat))
/-- The walk's state ahead of the instruction i. -/
structure Rw (p : Pg) (L : List In) (Hs : List Int) (i : Nat) : Prop where
  hl : Hs.length = L.length
  il : i < L.length
  at_ : ∀ k, k ≤ i → hs Hs k = (hA L k : Nat)
  dn : ∀ k, k < i → Rk p L Hs k
  gd : Gd p L → ∀ t, t < L.length → 0 ≤ hs Hs t → hs Hs t = (hA L t : Nat)
theorem rw_set {p : Pg} {L : List In} {Hs : List Int} {i t h : Nat} (w : Rw p L Hs i) (ht : t < L.length) (hti : i < t) (hok : ¬ (0 ≤ hs Hs t ∧ hs Hs t ≠ (h : Int))) (hg : Gd p L → hA L t = h) : Rw p L (Hs.set t (h : Int)) i := by
  have hth : t < Hs.length := by rw [w.hl]; exact ht
  have keep : ∀ u, 0 ≤ hs Hs u → hs (Hs.set t (h : Int)) u = hs Hs u := fun u hu => by
    by_cases e : t = u
    · subst e
      rw [hs_same _ hth]
      apply Classical.byContradiction
      intro q
      exact hok ⟨hu, fun e => q e.symm⟩
    · exact hs_other _ e
  refine ⟨by rw [List.length_set]; exact w.hl, w.il, fun k hk => by rw [hs_other _ (by omega)]; exact w.at_ k hk, fun k hk => ?_, fun g u hul hu => ?_⟩
  · obtain ⟨a, b, c, d, e⟩ := w.dn k hk
    refine ⟨a, b, c, d, fun q => ?_⟩
    obtain ⟨e1, e2⟩ := e q
    exact ⟨e1, by rw [keep _ (by rw [e2]; omega)]; exact e2⟩
  · by_cases e : t = u
    · subst e; rw [hs_same _ hth, hg g]
    · rw [hs_other _ e] at hu ⊢
      exact w.gd g u hul hu
theorem rw_next {p : Pg} {L : List In} {Hs : List Int} {i : Nat} (w : Rw p L Hs i) (hi : i + 1 < L.length) (h1 : hs Hs (i + 1) = (hA L (i + 1) : Nat)) (hd : Rk p L Hs i) : Rw p L Hs (i + 1) :=
  ⟨w.hl, hi, fun k hk => by
    by_cases e : k = i + 1
    · rw [e]; exact h1
    · exact w.at_ k (by omega), fun k hk => by
    by_cases e : k = i
    · rw [e]; exact hd
    · exact w.dn k (by omega), w.gd⟩
theorem rw_start {p : Pg} {L : List In} (h : 1 ≤ L.length) : Rw p L ((List.replicate L.length (-1)).set 0 0) 0 := by
  have hl : 0 < (List.replicate L.length (-1 : Int)).length := by simp; omega
  have hz : ∀ t, t ≠ 0 → t < L.length → ¬ 0 ≤ hs ((List.replicate L.length (-1)).set 0 0) t := fun t ht q => by
    rw [hs_other _ (fun e => ht e.symm)]
    unfold hs
    rw [List.getElem?_replicate, if_pos q]
    decide
  refine ⟨by simp, by omega, fun k hk => ?_, fun k hk => by omega, fun g t htl ht => ?_⟩
  · obtain rfl : k = 0 := by omega
    rw [hs_same _ hl]; rfl
  · by_cases e : t = 0
    · subst e; rw [hs_same _ hl]; rfl
    · exact absurd ht (hz t e htl)
theorem rw_end {p : Pg} {L : List In} {Hs : List Int} {i : Nat} (w : Rw p L Hs i) (hi : i = L.length - 1) (hd : Rk p L Hs i) : Gd p L ∧ Hs = hL L := by
  have il := w.il
  have all : ∀ k, k < L.length → Rk p L Hs k := fun k hk => by
    by_cases e : k = i
    · rw [e]; exact hd
    · exact w.dn k (by omega)
  have hat : ∀ k, k < L.length → hs Hs k = (hA L k : Nat) := fun k hk => w.at_ k (by omega)
  have tk1 : ∀ x : In, x.op = 15 ∨ x.op = 16 → tkN x = 1 := fun x e => by
    unfold tkN
    rcases e with e | e
    · rw [if_neg (by rw [e]; decide), e]; rfl
    · rw [if_neg (by rw [e]; decide), e]; rfl
  refine ⟨⟨⟨by omega, fun k hk => (all k hk).2.1⟩, fun k hk => ?_, fun k hk => (all k hk).2.2.1.1, fun k hk hsk => ?_, ?_⟩, ?_⟩
  · obtain ⟨_, a, b, c, d⟩ := all k hk
    exact ⟨c.1, c.2.1, c.2.2.1, c.2.2.2, fun e => by have := (d (.inl e)).1; omega, fun e => by have := (d (.inr e)).1; omega⟩
  · obtain ⟨_, a, b, c, d⟩ := all k hk
    obtain ⟨d1, d2⟩ := d hsk
    rw [hat _ d1] at d2
    have e1 : hA L (k + 1 + L[k].a) = hA L (k + 1) := by omega
    rw [e1, hA_next hk, tk1 _ hsk]
    have := b.1
    rw [tk1 _ hsk] at this
    omega
  · obtain ⟨q, a, b, c, d⟩ := all (L.length - 1) (by omega)
    exact b.2 (a.2 rfl)
  · apply List.ext_getElem
    · rw [w.hl, hL_len]
    · intro k h1 h2
      have hk : k < L.length := by rw [← w.hl]; exact h1
      have := hat k hk
      unfold hs at this
      rw [List.getElem?_eq_getElem h1] at this
      rw [hL_get]
      exact this
def flV (n k : Nat) : List Int := (List.range n).map fun t => if t < k then (-1 : Int) else 0
theorem flV_zero (n : Nat) : flV n 0 = List.replicate n 0 := by
  apply List.ext_getElem
  · simp [flV]
  · intro i h1 h2; simp [flV]
theorem flV_all (n : Nat) : flV n n = List.replicate n (-1) := by
  apply List.ext_getElem
  · simp [flV]
  · intro i h1 h2
    simp only [flV, List.getElem_map, List.getElem_range, List.getElem_replicate]
    rw [if_pos (by simpa [flV] using h1)]
theorem flV_set (n k : Nat) : (flV n k).set k (-1) = flV n (k + 1) := by
  apply List.ext_getElem
  · simp [flV]
  · intro i h1 h2
    rw [List.getElem_set]
    simp only [flV, List.getElem_map, List.getElem_range]
    by_cases h : k = i
    · subst h; rw [if_pos rfl, if_pos (by omega)]
    · rw [if_neg h]
      by_cases h2 : i < k
      · rw [if_pos h2, if_pos (by omega)]
      · rw [if_neg h2, if_neg (by omega)]
theorem row_put {W : World} {g t : Nat} {Hs : List Int} (x : Int) (h : W.heap[g]? = some (.cells (is Hs).toArray 3 (0, 0))) : (W.setCell ⟨g, t, none⟩ (.int .i64 x)).heap[g]? = some (.cells (is (Hs.set t x)).toArray 3 (0, 0)) := by
  rw [heap_setCell_same W g t _ _ _ h]
  simp [is, List.map_set]
theorem row_hat {W : World} {g t : Nat} {Hs : List Int} (h : W.heap[g]? = some (.cells (is Hs).toArray 3 (0, 0))) (ht : t < Hs.length) : W.cell? ⟨g, t, none⟩ = some (.int .i64 (hs Hs t)) ∧ W.frozen? ⟨g, t, none⟩ = false := by
  refine ⟨?_, by simp [World.frozen?, h]⟩
  rw [cell_of_row _ g t _ _ _ h]
  unfold hs
  rw [List.getElem?_eq_getElem ht]
  simp [is, ht]
theorem row_ints {W : World} {g : Nat} {Hs : List Int} (h : W.heap[g]? = some (.cells (is Hs).toArray 3 (0, 0))) : IntsAt W (some ⟨g, 0, none⟩) Hs := fun _ => ⟨g, 0, rfl, fun k hk => by
  have q := (row_hat h hk).1
  unfold hs at q
  rw [Nat.zero_add]
  exact q⟩
set_option maxRecDepth 20000 in
set_option maxHeartbeats 32000000 in
theorem rwalk_any (p : Pg) (L : List In) (aA aC aN aD aO aL : Option Addr) (cA cC cN cD cO cL : Nat) (w : World) (hO : p.Ok) (hIn : InsAt w aL L) (hl : L.length ≤ 67108864) (hl0 : 1 ≤ L.length) (hLx : ∀ x ∈ L, 0 ≤ x.op ∧ x.op < 17) (hLo : ∀ x ∈ L, x.Ok) :
    Calls Tryd.prog 26 #[.agg #[.slice aA p.av.length cA, .slice aC p.cu.length cC, .slice aN p.nr.length cN, .bool p.al, .slice aD p.dr.length cD, .slice aO p.co.length cO], .slice aL L.length cL] w (wyP w p L) := by
  have HO := hideI hO
  have HLX := hideI hLx
  have HLO := hideI hLo
  have HIN := hideI hIn
  obtain ⟨n, hn⟩ : ∃ n, n = L.length := ⟨_, rfl⟩
  have HN := hideI hn
  rw [← hn] at hl hl0 ⊢
  obtain ⟨bx, hbx⟩ : ∃ bx, bx = Obj.cells #[.slice aA p.av.length cA, .slice aC p.cu.length cC, .slice aN p.nr.length cN, .bool p.al, .slice aD p.dr.length cD, .slice aO p.co.length cO] 27 (0, 0) := ⟨_, rfl⟩
  obtain ⟨oI, hoI⟩ : ∃ oI, oI = Obj.cells (is (List.replicate n (0 : Int))).toArray 3 (0, 0) := ⟨_, rfl⟩
  have mk1 := mkI_run n (w.alloc bx) (by omega)
  have z1 : (w.alloc bx).heap.size = w.heap.size + 1 := by simp
  have K1 : Kept (fun _ => False) w (w.alloc bx) := Kept.alloc _ _
  have K2 : Kept (fun _ => False) (w.alloc bx) ((w.alloc bx).alloc oI) := Kept.alloc _ _
  have HROW : Hid (((w.alloc bx).alloc oI).heap[w.heap.size + 1]? = some (.cells (is (flV n 0)).toArray 3 (0, 0))) := hideI (by
    have q := heap_alloc_new (w.alloc bx) oI
    rw [z1, hoI] at q; rw [hoI, flV_zero]; exact q)
  have HBX : Hid (((w.alloc bx).alloc oI).heap[w.heap.size]? = some bx) := hideI (K2.heap (by rw [hbx]; exact heap_alloc_new w _) (fun f => f))
  rw [z1] at mk1
  rw [show (Obj.cells (is (List.replicate n (0 : Int))).toArray 3) = oI from hoI.symm] at mk1
  have HK1 := hideI (K1.trans K2 (fun _ f => f.elim))
  subst hbx
  clear hO hLx hLo hIn hn z1 K1 K2 hoI
  go_enter Tryd.func26, Tryd.ntmps26
  go_wp2
  clear mk1
  obtain ⟨gH, hgH⟩ : ∃ gH, gH = w.heap.size + 1 := ⟨_, rfl⟩
  rw [← hgH] at HROW ⊢
  obtain ⟨V, hV⟩ : ∃ V, V = (w.alloc (.cells #[.slice aA p.av.length cA, .slice aC p.cu.length cC, .slice aN p.nr.length cN, .bool p.al, .slice aD p.dr.length cD, .slice aO p.co.length cO] 27)).alloc oI := ⟨_, rfl⟩
  rw [← hV] at HROW HBX HK1 ⊢
  have HGW : Hid (w.heap.size ≤ gH ∧ w.heap.size ≠ gH) := hideI (by omega)
  clear hgH hV
  go_loopw [8] (fun v8 wr => ∃ (k : Nat), k ≤ n ∧ v8 = .int .i64 k ∧ Hid (wr.heap[gH]? = some (.cells (is (flV n k)).toArray 3 (0, 0))) ∧ Hid (Kept (fun i => i = gH) V wr)) (fun v8 _ => n - (intOf v8).toNat)
  case atStart => exact ⟨0, by omega, rfl, HROW, hideI (Kept.refl _ _)⟩
  case round =>
    obtain ⟨k, hk, rfl, HR, HK⟩ := hrel
    clear HROW
    by_cases hlt : k < n
    · have hki : (k : Int) < (n : Int) := by omega
      obtain ⟨q1, q2⟩ := row_hat HR.out (t := k) (by simp [flV]; exact hlt)
      have HR2 := hideI (row_put (t := k) (-1) HR.out)
      rw [flV_set] at HR2
      go_wp2
      go_roundw
      case rel => exact ⟨k + 1, hlt, by go_num, HR2, hideI (HK.out.trans (Kept.setCell _ ⟨gH, k, none⟩ _) (fun i e => .inl e))⟩
      case measure => simp [intOf]; omega
    · obtain rfl : k = n := by omega
      have hki : ¬ (k : Int) < (k : Int) := by omega
      have hn0 : (0 : Int) < (k : Int) := by omega
      have hr := HR.out
      rw [flV_all] at hr
      obtain ⟨q1, q2⟩ := row_hat hr (t := 0) (by simp; omega)
      have HR1 := hideI (row_put (t := 0) 0 hr)
      have HW1 : Hid (Rw p L ((List.replicate k (-1)).set 0 0) 0) := hideI (by rw [HN.out]; exact rw_start (by rw [← HN.out]; exact hl0))
      have HKs := hideI (HK.out.trans (Kept.setCell _ ⟨gH, 0, none⟩ (.int .i64 0)) (fun i e => .inl e))
      clear HR hr HK hlt
      go_wp2
      clear q1 q2
      go_loopw [9] (fun v9 wr => ∃ (i : Nat) (Hs : List Int), i < k ∧ v9 = .int .i64 i ∧ Hid (Rw p L Hs i) ∧ Hid (wr.heap[gH]? = some (.cells (is Hs).toArray 3 (0, 0))) ∧ Hid (Kept (fun i => i = gH) V wr)) (fun v9 _ => k - (intOf v9).toNat)
      case atStart => exact ⟨0, _, by omega, rfl, HW1, HR1, HKs⟩
      case round =>
        obtain ⟨i, Hs, hi, rfl, HW, HR, HK⟩ := hrel
        clear HW1 HR1 HKs
        have hii : (i : Int) < (k : Int) := by omega
        have hiL : i < L.length := by rw [← HN.out]; exact hi
        obtain ⟨fb, fo, ea, hc⟩ := HIN.out (by intro e; rw [e] at hiL; simp at hiL)
        obtain ⟨x0, x1, x2⟩ := hc i hiL
        subst ea
        have KF : ∀ W, Kept (fun i => i = gH) V W → Kept (fun _ => False) w W := fun W K => HK1.out.trans K (fun j e => .inr (by rw [e]; exact HGW.out.1))
        have x0 := (KF _ HK.out).cell x0 (fun f => f)
        have x1 := (KF _ HK.out).cell x1 (fun f => f)
        have x2 := (KF _ HK.out).cell x2 (fun f => f)
        obtain ⟨y1, y2⟩ := row_hat HR.out (t := i) (by rw [HW.out.hl]; exact hiL)
        rw [HW.out.at_ i (Nat.le_refl _)] at y1
        have hxo := HLX.out L[i] (List.getElem_mem hiL)
        have hxk := HLO.out L[i] (List.getElem_mem hiL)
        have hle := hA_le L i
        have HGE : Hid (Gd p L → (L[i].op = 0 ↔ i = k - 1) ∧ BhOk L[i] (hA L i) ∧ OnOk p L[i] ∧ ((L[i].op = 15 ∨ L[i].op = 16) → i + 1 + L[i].a < k ∧ hA L (i + 1 + L[i].a) = hA L (i + 1))) := hideI (fun g => by
          rw [HN.out]
          have q := g.pa i hiL
          refine ⟨g.en.2 i hiL, ⟨g.st i hiL, fun e => ?_⟩, ⟨q.1, q.2.1, q.2.2.1, q.2.2.2.1⟩, fun e => gd_skip g hiL e⟩
          have r := (g.en.2 i hiL).1 e
          have := g.one
          rw [← r] at this; exact this)
        have HRK : Hid (∀ (Hs2 : List Int), (L[i].op = 0 ↔ i = k - 1) → BhOk L[i] (hA L i) → OnOk p L[i] → ((L[i].op = 15 ∨ L[i].op = 16) → i + 1 + L[i].a < k ∧ hs Hs2 (i + 1 + L[i].a) = (hA L (i + 1) : Nat)) → Rk p L Hs2 i) := hideI (fun Hs2 a b c d => ⟨hiL, by rw [← HN.out]; exact a, b, c, by rw [← HN.out]; exact d⟩)
        have HNX : Hid (hA L i + 1 - tkN L[i] = hA L (i + 1)) := hideI (hA_next hiL).symm
        generalize L[i] = x at *
        obtain ⟨xp, xa, xb⟩ := x
        simp only at x0 x1 x2 hxo hxk HGE HRK
        have HXG : Hid (wr.heap.size ≠ gH) := hideI (by have := lt_of_block HR.out; omega)
        have KX := Kept.alloc wr (.cells #[.int .i64 xp, .int .u64 (xa : Int), .int .u64 (xb : Int)] 74)
        have HXB := hideI (heap_alloc_new wr (.cells #[.int .i64 xp, .int .u64 (xa : Int), .int .u64 (xb : Int)] 74 (0, 0)))
        have HRx := hideI (KX.heap HR.out (fun f => f))
        have HKx := hideI (HK.out.trans (KX.mono (fun _ f => f.elim)) (fun _ e => .inl e))
        have y1x := KX.cell y1 (fun f => f)
        have HBv := fun (W : World) (K : Kept (fun i => i = gH) V W) => hideI (box6 (K.heap HBX.out (fun e => HGW.out.2 e)))
        have hi0 : (0 : Int) ≤ (i : Int) := by omega
        obtain ⟨vok, hvok⟩ := asB (BhOk ⟨xp, xa, xb⟩ (hA L i))
        have HVO : Hid (IsB vok (BhOk ⟨xp, xa, xb⟩ (hA L i))) := hideI hvok
        have HBH := fun (W : World) => hideI (rbehind_any ⟨xp, xa, xb⟩ (hA L i) W hxk hxo (by omega) vok hvok)
        obtain ⟨von, hvon⟩ := asB (OnOk p ⟨xp, xa, xb⟩)
        have HNO : Hid (IsB von (OnOk p ⟨xp, xa, xb⟩)) := hideI hvon
        have HON := fun (W : World) => hideI (roperands_vany p ⟨xp, xa, xb⟩ (.slice aA p.av.length cA) (.slice aC p.cu.length cC) (.slice aN p.nr.length cN) (.bool p.al) (.slice aD p.dr.length cD) (.slice aO p.co.length cO) aA aC aN cA cC cN W rfl rfl rfl HO.out hxk von hvon)
        simp only at HBH HON
        obtain ⟨h, hh⟩ : ∃ h, h = hA L i := ⟨_, rfl⟩
        have HH := hideI hh
        rw [← hh] at y1 y1x HBH HVO HNX HGE HRK hle
        clear hvok hvon hc hh KX
        go_wp2_with fail
        refine wp_region_held (S := fun W => Kept (fun _ => False) (wr.alloc (.cells #[.int .i64 xp, .int .u64 (xa : Int), .int .u64 (xb : Int)] 74)) W) (by kernel_rfl) ?_
        change wpAnyH _ _ _ _ _ _ _ _ (World.drew _)
        have hS0 := Kept.drew (wr.alloc (.cells #[.int .i64 xp, .int .u64 (xa : Int), .int .u64 (xb : Int)] 74))
        refine takeR (i := 0) (d := 38) (v := .agg #[.int .i64 xp, .int .u64 (xa : Int), .int .u64 (xb : Int)]) rfl rfl (by kernel_rfl) (by kernel_rfl) (by kernel_rfl) (fun _ _ _ h => h) (Or.inl ⟨by rfl, fun W hW => ?_⟩) hS0 ?_
        · (have q := bin3 (hW.heap HXB.out (fun f => f)); obtain ⟨w0, w1, w2⟩ := q; go_simp)
        simp only [Act.put, List.setIfInBounds_toArray, List.set_cons_zero, List.set_cons_succ]
        refine takeR (i := 1) (d := 39) (v := .slice (some ⟨gH, 0, none⟩) k k) rfl rfl (by kernel_rfl) (by kernel_rfl) (by kernel_rfl) (fun _ _ _ h => h) (Or.inl ⟨by rfl, fun W hW => ?_⟩) hS0 ?_
        · (go_simp)
        simp only [Act.put, List.setIfInBounds_toArray, List.set_cons_zero, List.set_cons_succ]
        refine takeR (i := 2) (d := 40) (v := .int .i64 (i : Int)) rfl rfl (by kernel_rfl) (by kernel_rfl) (by kernel_rfl) (fun _ _ _ h => h) (Or.inl ⟨by rfl, fun W hW => ?_⟩) hS0 ?_
        · (go_simp)
        simp only [Act.put, List.setIfInBounds_toArray, List.set_cons_zero, List.set_cons_succ]
        refine takeR (i := 3) (d := 41) (v := .pointer (some ⟨gH, i, none⟩)) rfl rfl (by kernel_rfl) (by kernel_rfl) (by kernel_rfl) (fun _ _ _ h => h) (Or.inl ⟨by rfl, fun W hW => ?_⟩) hS0 ?_
        · (go_simp)
        simp only [Act.put, List.setIfInBounds_toArray, List.set_cons_zero, List.set_cons_succ]
        refine takeR (i := 4) (d := 42) (v := .int .i64 (h : Int)) rfl rfl (by kernel_rfl) (by kernel_rfl) (by kernel_rfl) (fun _ _ _ h => h) (Or.inl ⟨by rfl, fun W hW => ?_⟩) hS0 ?_
        · (have q := hW.cell y1x (fun f => f); go_simp)
        simp only [Act.put, List.setIfInBounds_toArray, List.set_cons_zero, List.set_cons_succ]
        refine wpAnyH_all (rs := [5]) (by kernel_rfl) (by simp) ?_
        intro j hj
        obtain rfl : j = 5 := by simpa using hj
        unfold wpOp
        go_simp
        first | refine (HBH _).out.mono ?_ | refine Or.inl ((HBH _).out.mono ?_)
        clear HBH
        rintro e W8 ⟨⟨z, rfl, hz⟩, K8⟩
        have HZ := hideI hz
        have K9 := hS0.trans K8 (fun _ f => f.elim)
        clear hz K8
        refine ⟨K9, ?_⟩
        refine takeR (i := 6) (d := 37) (v := .tuple #[.int .i64 z, .bool vok]) rfl rfl (by kernel_rfl) (by kernel_rfl) (by kernel_rfl) (fun _ _ _ h => h) (Or.inl ⟨by rfl, fun W hW => ?_⟩) K9 ?_
        · (go_simp)
        simp only [Act.put, List.setIfInBounds_toArray, List.set_cons_zero, List.set_cons_succ]
        refine takeR (i := 7) (d := 44) (v := .int .i64 z) rfl rfl (by kernel_rfl) (by kernel_rfl) (by kernel_rfl) (fun _ _ _ h => h) (Or.inl ⟨by rfl, fun W hW => ?_⟩) K9 ?_
        · (go_simp)
        simp only [Act.put, List.setIfInBounds_toArray, List.set_cons_zero, List.set_cons_succ]
        refine takeR (i := 8) (d := 45) (v := .bool vok) rfl rfl (by kernel_rfl) (by kernel_rfl) (by kernel_rfl) (fun _ _ _ h => h) (Or.inl ⟨by rfl, fun W hW => ?_⟩) K9 ?_
        · (go_simp)
        simp only [Act.put, List.setIfInBounds_toArray, List.set_cons_zero, List.set_cons_succ]
        refine takeR (i := 9) (d := 11) (v := .int .i64 z) rfl rfl (by kernel_rfl) (by kernel_rfl) (by kernel_rfl) (fun _ _ _ h => h) (Or.inl ⟨by rfl, fun W hW => ?_⟩) K9 ?_
        · (go_simp)
        simp only [Act.put, List.setIfInBounds_toArray, List.set_cons_zero, List.set_cons_succ]
        refine takeR (i := 10) (d := 12) (v := .bool vok) rfl rfl (by kernel_rfl) (by kernel_rfl) (by kernel_rfl) (fun _ _ _ h => h) (Or.inl ⟨by rfl, fun W hW => ?_⟩) K9 ?_
        · (go_simp)
        simp only [Act.put, List.setIfInBounds_toArray, List.set_cons_zero, List.set_cons_succ]
        refine wpAnyH_done (by kernel_rfl) ?_ _
        have HR8 := hideI (K9.heap HRx.out (fun f => f))
        have HX8 := hideI (K9.heap HXB.out (fun f => f))
        have HK8 := hideI (HKx.out.trans (K9.mono (fun _ f => f.elim)) (fun _ e => .inl e))
        have y18 := K9.cell y1x (fun f => f)
        obtain ⟨b0, b1, b2, b3, b4, b5⟩ := (HBv _ HK8.out).out
        obtain ⟨x8, x9, x10⟩ := bin3 HX8.out
        have hhn : ¬ (h : Int) < 0 := by omega
        clear K9 hS0 HR HK HRx HKx y1 y2 y1x x0 x1 x2 HXB
        cases vok with
        | false =>
          have HG : Hid (¬ Gd p L) := hideI (fun g => HVO.out.no (HGE.out g).2.1)
          clear HGE HRK HON
          go_wp2
          go_ret2
          exact wyP_bad HG.out rfl (KF _ HK8.out)
        | true =>
          have hz := HZ.out rfl
          rw [HNX.out] at hz
          subst hz
          have HBO := hideI HVO.out.yes
          clear HZ HVO
          have hkk : (k : Int) - 1 = ((k - 1 : Nat) : Int) := by omega
          cases von with
          | false =>
            have HG : Hid (¬ Gd p L) := hideI (fun g => HNO.out.no (HGE.out g).2.2.1)
            clear HGE HRK
            go_wp2_with (go_at_call 46; refine (HON _).out.mono ?_; clear HON; rintro e W9 ⟨rfl, K9⟩; have HR9 := hideI (K9.heap HR8.out (fun f => f)); have HX9 := hideI (K9.heap HX8.out (fun f => f)); have HK9 := hideI (HK8.out.trans (K9.mono (fun _ f => f.elim)) (fun _ e => .inl e)); obtain ⟨x11, x12, x13⟩ := bin3 HX9.out; obtain ⟨d0, d1, d2, d3, d4, d5⟩ := (HBv _ HK9.out).out; clear K9)
            go_ret2
            exact wyP_bad HG.out rfl (KF _ HK9.out)
          | true =>
            have HOO := hideI HNO.out.yes
            clear HNO
            by_cases h0 : xp = 0
            · by_cases hl1 : i = k - 1
              · have hb3 : ((i : Int) == (k : Int) - 1) = true := by rw [beq_iff_eq]; omega
                obtain ⟨g1, g2⟩ := rw_end HW.out (by rw [← HN.out]; exact hl1) (HRK.out Hs ⟨fun _ => hl1, fun _ => h0⟩ HBO.out HOO.out (fun e => by rw [h0] at e; rcases e with e | e <;> cases e))
                have HG1 := hideI g1
                have HG2 := hideI g2
                subst h0
                clear HGE HRK hl1 g1 g2 hkk
                go_wp2_with (go_at_call 46; refine (HON _).out.mono ?_; clear HON; rintro e W9 ⟨rfl, K9⟩; have HR9 := hideI (K9.heap HR8.out (fun f => f)); have HX9 := hideI (K9.heap HX8.out (fun f => f)); have HK9 := hideI (HK8.out.trans (K9.mono (fun _ f => f.elim)) (fun _ e => .inl e)); obtain ⟨x11, x12, x13⟩ := bin3 HX9.out; obtain ⟨d0, d1, d2, d3, d4, d5⟩ := (HBv _ HK9.out).out; clear K9)
                go_ret2
                exact wyP_good HG1.out HN.out rfl (by have := row_ints HR9.out; rw [HG2.out] at this; exact this) (KF _ HK9.out)
              · have HG : Hid (¬ Gd p L) := hideI (fun g => hl1 ((HGE.out g).1.1 h0))
                have hb3 : ((i : Int) == (k : Int) - 1) = false := by rw [beq_eq_false_iff_ne]; omega
                subst h0
                clear HGE HRK hl1 hkk
                go_wp2_with (go_at_call 46; refine (HON _).out.mono ?_; clear HON; rintro e W9 ⟨rfl, K9⟩; have HR9 := hideI (K9.heap HR8.out (fun f => f)); have HX9 := hideI (K9.heap HX8.out (fun f => f)); have HK9 := hideI (HK8.out.trans (K9.mono (fun _ f => f.elim)) (fun _ e => .inl e)); obtain ⟨x11, x12, x13⟩ := bin3 HX9.out; obtain ⟨d0, d1, d2, d3, d4, d5⟩ := (HBv _ HK9.out).out; clear K9)
                go_ret2
                exact wyP_bad HG.out rfl (KF _ HK9.out)
            · have hb4 : (xp == 0) = false := by rw [beq_eq_false_iff_ne]; exact h0
              by_cases hl1 : i = k - 1
              · have HG : Hid (¬ Gd p L) := hideI (fun g => h0 ((HGE.out g).1.2 hl1))
                have hb3 : ((i : Int) == (k : Int) - 1) = true := by rw [beq_iff_eq]; omega
                clear HGE HRK hl1 hkk
                go_wp2_with (go_at_call 46; refine (HON _).out.mono ?_; clear HON; rintro e W9 ⟨rfl, K9⟩; have HR9 := hideI (K9.heap HR8.out (fun f => f)); have HX9 := hideI (K9.heap HX8.out (fun f => f)); have HK9 := hideI (HK8.out.trans (K9.mono (fun _ f => f.elim)) (fun _ e => .inl e)); obtain ⟨x11, x12, x13⟩ := bin3 HX9.out; obtain ⟨d0, d1, d2, d3, d4, d5⟩ := (HBv _ HK9.out).out; clear K9)
                go_ret2
                exact wyP_bad HG.out rfl (KF _ HK9.out)
              · have hb3 : ((i : Int) == (k : Int) - 1) = false := by rw [beq_eq_false_iff_ne]; omega
                have hi1 : i + 1 < k := by omega
                have hi1L : i + 1 < L.length := by rw [← HN.out]; exact hi1
                have hi1i : (i : Int) + 1 < (k : Int) := by omega
                obtain ⟨h1, hh1⟩ : ∃ h1, h1 = hA L (i + 1) := ⟨_, rfl⟩
                have HH1 := hideI hh1
                rw [← hh1] at HNX HGE HRK ⊢
                obtain ⟨u1, u2⟩ := row_hat HR8.out (t := i + 1) (by rw [HW.out.hl]; exact hi1L)
                obtain ⟨u, hu⟩ : ∃ u, u = hs Hs (i + 1) := ⟨_, rfl⟩
                rw [← hu] at u1
                have HU := hideI hu
                clear hu hh1 hkk
                by_cases hcf : 0 ≤ u ∧ u ≠ (h1 : Int)
                · have HG : Hid (¬ Gd p L) := hideI (fun g => hcf.2 (by have q := HW.out.gd g (i + 1) hi1L (by rw [← HU.out]; exact hcf.1); rw [← HU.out, ← HH1.out] at q; exact q))
                  obtain ⟨c1, c2⟩ := hcf
                  have c2b : (u != (h1 : Int)) = true := by rw [bne_iff_ne]; exact c2
                  clear HGE HRK
                  go_wp2_with (go_at_call 46; refine (HON _).out.mono ?_; clear HON; rintro e W9 ⟨rfl, K9⟩; have HR9 := hideI (K9.heap HR8.out (fun f => f)); have HX9 := hideI (K9.heap HX8.out (fun f => f)); have HK9 := hideI (HK8.out.trans (K9.mono (fun _ f => f.elim)) (fun _ e => .inl e)); obtain ⟨x11, x12, x13⟩ := bin3 HX9.out; have u19 := K9.cell u1 (fun f => f); clear K9)
                  go_ret2
                  exact wyP_bad HG.out rfl (KF _ HK9.out)
                · have HWa := hideI (rw_set HW.out hi1L (by omega) (by rw [← HU.out]; exact hcf) (fun _ => HH1.out.symm))
                  have hcs : u < 0 ∨ (0 ≤ u ∧ u = (h1 : Int)) := by
                    by_cases q : 0 ≤ u
                    · exact .inr ⟨q, Classical.byContradiction (fun e => hcf ⟨q, e⟩)⟩
                    · exact .inl (by omega)
                  clear hcf
                  rcases hcs with c1 | ⟨c1, c2⟩
                  · have c1n : ¬ (0 ≤ u) := by omega
                    clear c1
                    have hln : (Hs.set (i + 1) (h1 : Int)).length = L.length := by rw [List.length_set]; exact HW.out.hl
                    have hs1 : hs (Hs.set (i + 1) (h1 : Int)) (i + 1) = (h1 : Nat) := hs_same _ (by rw [HW.out.hl]; exact hi1L)
                    by_cases hsk : xp = 15 ∨ xp = 16
                    · have hop : (xp == 15) = true ∧ xp = 15 ∨ (xp == 15) = false ∧ (xp == 16) = true ∧ xp = 16 := by
                        rcases hsk with e | e
                        · exact .inl ⟨by rw [e]; rfl, e⟩
                        · exact .inr ⟨by rw [e]; rfl, by rw [e]; rfl, e⟩
                      have g1 : IntKind.u64.wrap ((k : Int) - (i : Int) - 1) = (k : Int) - (i : Int) - 1 := by rw [IntKind.wrap_u64]; omega
                      by_cases hin2 : i + 1 + xa < k
                      · have g2 : ¬ (xa : Int) ≥ (k : Int) - (i : Int) - 1 := by omega
                        have g3 : IntKind.i64.wrap (xa : Int) = (xa : Int) := by rw [IntKind.wrap_i64]; omega
                        have g4 : (i : Int) + 1 + (xa : Int) < (k : Int) := by omega
                        have g5 : ¬ (i : Int) + 1 + (xa : Int) < 0 := by omega
                        have g6 : ((i : Int) + 1 + (xa : Int)).toNat = i + 1 + xa := by omega
                        have hin2L : i + 1 + xa < L.length := by rw [← HN.out]; exact hin2
                        have HLL : Hid (i + 1 + xa < (Hs.set (i + 1) (h1 : Int)).length) := hideI (by rw [hln]; exact hin2L)
                        obtain ⟨v, hv⟩ : ∃ v, v = hs (Hs.set (i + 1) (h1 : Int)) (i + 1 + xa) := ⟨_, rfl⟩
                        have HVD := hideI hv
                        by_cases hcf : 0 ≤ v ∧ v ≠ (h1 : Int)
                        · have HG : Hid (¬ Gd p L) := hideI (fun g => hcf.2 (by
                            have q := HWa.out.gd g (i + 1 + xa) hin2L (by rw [← hv]; exact hcf.1)
                            rw [← hv] at q
                            rw [q, ((HGE.out g).2.2.2 hsk).2]))
                          obtain ⟨d1, d2⟩ := hcf
                          have d2b : (v != (h1 : Int)) = true := by rw [bne_iff_ne]; exact d2
                          clear HGE HRK hsk hv hin2 hin2L hln hs1
                          rcases hop with ⟨o1, rfl⟩ | ⟨o1, o2, rfl⟩
                          all_goals
                            go_wp2_with (go_at_call 46; refine (HON _).out.mono ?_; clear HON; rintro e W9 ⟨rfl, K9⟩; have HR9 := hideI (K9.heap HR8.out (fun f => f)); have HX9 := hideI (K9.heap HX8.out (fun f => f)); have HK9 := hideI (HK8.out.trans (K9.mono (fun _ f => f.elim)) (fun _ e => .inl e)); obtain ⟨x11, x12, x13⟩ := bin3 HX9.out; obtain ⟨f1, f2⟩ := row_hat HR9.out (t := i + 1) (by rw [HW.out.hl]; exact hi1L); rw [← HU.out] at f1; have HRa := hideI (row_put (t := i + 1) (h1 : Int) HR9.out); have HKa := hideI (HK9.out.trans (Kept.setCell _ ⟨gH, i + 1, none⟩ (.int .i64 (h1 : Int))) (fun i e => .inl e)); obtain ⟨x14, x15, x16⟩ := bin3 ((Kept.setCell W9 ⟨gH, i + 1, none⟩ (.int .i64 (h1 : Int))).heap HX9.out (fun e => HXG.out e)); obtain ⟨e1, e2⟩ := row_hat HRa.out (t := i + 1 + xa) HLL.out; rw [← HVD.out] at e1; clear K9)
                            go_ret2
                            exact wyP_bad HG.out rfl (KF _ HKa.out)
                        · have hWb := rw_set HWa.out hin2L (by omega) (by rw [← hv]; exact hcf) (fun g => ((HGE.out g).2.2.2 hsk).2)
                          have hs2 : hs ((Hs.set (i + 1) (h1 : Int)).set (i + 1 + xa) (h1 : Int)) (i + 1) = (h1 : Nat) := by
                            by_cases e : i + 1 + xa = i + 1
                            · rw [e, hs_same _ (by rw [hln]; exact hi1L)]
                            · rw [hs_other _ e]; exact hs1
                          have HWc := hideI (rw_next hWb hi1L (by rw [← HH1.out]; exact hs2) (HRK.out _ ⟨fun e => absurd e h0, fun e => absurd e hl1⟩ HBO.out HOO.out (fun _ => ⟨hin2, hs_same _ HLL.out⟩)))
                          have hcs : v < 0 ∨ (0 ≤ v ∧ v = (h1 : Int)) := by
                            by_cases q : 0 ≤ v
                            · exact .inr ⟨q, Classical.byContradiction (fun e => hcf ⟨q, e⟩)⟩
                            · exact .inl (by omega)
                          clear HGE HRK hsk hv hin2 hin2L hln hs1 hs2 hWb hcf
                          rcases hcs with d1 | ⟨d1, d2⟩
                          · have d1n : ¬ (0 ≤ v) := by omega
                            clear d1
                            rcases hop with ⟨o1, rfl⟩ | ⟨o1, o2, rfl⟩
                            all_goals
                              go_wp2_with (go_at_call 46; refine (HON _).out.mono ?_; clear HON; rintro e W9 ⟨rfl, K9⟩; have HR9 := hideI (K9.heap HR8.out (fun f => f)); have HX9 := hideI (K9.heap HX8.out (fun f => f)); have HK9 := hideI (HK8.out.trans (K9.mono (fun _ f => f.elim)) (fun _ e => .inl e)); obtain ⟨x11, x12, x13⟩ := bin3 HX9.out; obtain ⟨f1, f2⟩ := row_hat HR9.out (t := i + 1) (by rw [HW.out.hl]; exact hi1L); rw [← HU.out] at f1; have HRa := hideI (row_put (t := i + 1) (h1 : Int) HR9.out); have HKa := hideI (HK9.out.trans (Kept.setCell _ ⟨gH, i + 1, none⟩ (.int .i64 (h1 : Int))) (fun i e => .inl e)); obtain ⟨x14, x15, x16⟩ := bin3 ((Kept.setCell W9 ⟨gH, i + 1, none⟩ (.int .i64 (h1 : Int))).heap HX9.out (fun e => HXG.out e)); obtain ⟨e1, e2⟩ := row_hat HRa.out (t := i + 1 + xa) HLL.out; rw [← HVD.out] at e1; clear K9)
                              have HRb := hideI (row_put (t := i + 1 + xa) (h1 : Int) HRa.out)
                              have HKb := hideI (HKa.out.trans (Kept.setCell _ ⟨gH, i + 1 + xa, none⟩ (.int .i64 (h1 : Int))) (fun i e => .inl e))
                              go_wp2
                              go_roundw
                              case rel => exact ⟨i + 1, _, hi1, by go_num, HWc, HRb, HKb⟩
                              case measure => simp [intOf]; omega
                          · have d2b : (v != (h1 : Int)) = false := by rw [bne_eq_false_iff_eq]; exact d2
                            clear d2
                            rcases hop with ⟨o1, rfl⟩ | ⟨o1, o2, rfl⟩
                            all_goals
                              go_wp2_with (go_at_call 46; refine (HON _).out.mono ?_; clear HON; rintro e W9 ⟨rfl, K9⟩; have HR9 := hideI (K9.heap HR8.out (fun f => f)); have HX9 := hideI (K9.heap HX8.out (fun f => f)); have HK9 := hideI (HK8.out.trans (K9.mono (fun _ f => f.elim)) (fun _ e => .inl e)); obtain ⟨x11, x12, x13⟩ := bin3 HX9.out; obtain ⟨f1, f2⟩ := row_hat HR9.out (t := i + 1) (by rw [HW.out.hl]; exact hi1L); rw [← HU.out] at f1; have HRa := hideI (row_put (t := i + 1) (h1 : Int) HR9.out); have HKa := hideI (HK9.out.trans (Kept.setCell _ ⟨gH, i + 1, none⟩ (.int .i64 (h1 : Int))) (fun i e => .inl e)); obtain ⟨x14, x15, x16⟩ := bin3 ((Kept.setCell W9 ⟨gH, i + 1, none⟩ (.int .i64 (h1 : Int))).heap HX9.out (fun e => HXG.out e)); obtain ⟨e1, e2⟩ := row_hat HRa.out (t := i + 1 + xa) HLL.out; rw [← HVD.out] at e1; clear K9)
                              have HRb := hideI (row_put (t := i + 1 + xa) (h1 : Int) HRa.out)
                              have HKb := hideI (HKa.out.trans (Kept.setCell _ ⟨gH, i + 1 + xa, none⟩ (.int .i64 (h1 : Int))) (fun i e => .inl e))
                              go_wp2
                              go_roundw
                              case rel => exact ⟨i + 1, _, hi1, by go_num, HWc, HRb, HKb⟩
                              case measure => simp [intOf]; omega
                      · have HG : Hid (¬ Gd p L) := hideI (fun g => hin2 ((HGE.out g).2.2.2 hsk).1)
                        have g2 : (xa : Int) ≥ (k : Int) - (i : Int) - 1 := by omega
                        clear HGE HRK hsk hin2 hln hs1
                        rcases hop with ⟨o1, rfl⟩ | ⟨o1, o2, rfl⟩
                        all_goals
                          go_wp2_with (go_at_call 46; refine (HON _).out.mono ?_; clear HON; rintro e W9 ⟨rfl, K9⟩; have HR9 := hideI (K9.heap HR8.out (fun f => f)); have HX9 := hideI (K9.heap HX8.out (fun f => f)); have HK9 := hideI (HK8.out.trans (K9.mono (fun _ f => f.elim)) (fun _ e => .inl e)); obtain ⟨x11, x12, x13⟩ := bin3 HX9.out; obtain ⟨f1, f2⟩ := row_hat HR9.out (t := i + 1) (by rw [HW.out.hl]; exact hi1L); rw [← HU.out] at f1; have HRa := hideI (row_put (t := i + 1) (h1 : Int) HR9.out); have HKa := hideI (HK9.out.trans (Kept.setCell _ ⟨gH, i + 1, none⟩ (.int .i64 (h1 : Int))) (fun i e => .inl e)); obtain ⟨x14, x15, x16⟩ := bin3 ((Kept.setCell W9 ⟨gH, i + 1, none⟩ (.int .i64 (h1 : Int))).heap HX9.out (fun e => HXG.out e)); clear K9)
                          go_ret2
                          exact wyP_bad HG.out rfl (KF _ HKa.out)
                    · have o1 : (xp == 15) = false := by rw [beq_eq_false_iff_ne]; exact fun e => hsk (.inl e)
                      have o2 : (xp == 16) = false := by rw [beq_eq_false_iff_ne]; exact fun e => hsk (.inr e)
                      have HWc := hideI (rw_next HWa.out hi1L (by rw [← HH1.out]; exact hs1) (HRK.out _ ⟨fun e => absurd e h0, fun e => absurd e hl1⟩ HBO.out HOO.out (fun e => absurd e hsk)))
                      clear HGE HRK hsk hln hs1
                      go_wp2_with (go_at_call 46; refine (HON _).out.mono ?_; clear HON; rintro e W9 ⟨rfl, K9⟩; have HR9 := hideI (K9.heap HR8.out (fun f => f)); have HX9 := hideI (K9.heap HX8.out (fun f => f)); have HK9 := hideI (HK8.out.trans (K9.mono (fun _ f => f.elim)) (fun _ e => .inl e)); obtain ⟨x11, x12, x13⟩ := bin3 HX9.out; obtain ⟨f1, f2⟩ := row_hat HR9.out (t := i + 1) (by rw [HW.out.hl]; exact hi1L); rw [← HU.out] at f1; have HRa := hideI (row_put (t := i + 1) (h1 : Int) HR9.out); have HKa := hideI (HK9.out.trans (Kept.setCell _ ⟨gH, i + 1, none⟩ (.int .i64 (h1 : Int))) (fun i e => .inl e)); obtain ⟨x14, x15, x16⟩ := bin3 ((Kept.setCell W9 ⟨gH, i + 1, none⟩ (.int .i64 (h1 : Int))).heap HX9.out (fun e => HXG.out e)); clear K9)
                      go_roundw
                      case rel => exact ⟨i + 1, _, hi1, by go_num, HWc, HRa, HKa⟩
                      case measure => simp [intOf]; omega
                  · have c2b : (u != (h1 : Int)) = false := by rw [bne_eq_false_iff_eq]; exact c2
                    clear c2
                    have hln : (Hs.set (i + 1) (h1 : Int)).length = L.length := by rw [List.length_set]; exact HW.out.hl
                    have hs1 : hs (Hs.set (i + 1) (h1 : Int)) (i + 1) = (h1 : Nat) := hs_same _ (by rw [HW.out.hl]; exact hi1L)
                    by_cases hsk : xp = 15 ∨ xp = 16
                    · have hop : (xp == 15) = true ∧ xp = 15 ∨ (xp == 15) = false ∧ (xp == 16) = true ∧ xp = 16 := by
                        rcases hsk with e | e
                        · exact .inl ⟨by rw [e]; rfl, e⟩
                        · exact .inr ⟨by rw [e]; rfl, by rw [e]; rfl, e⟩
                      have g1 : IntKind.u64.wrap ((k : Int) - (i : Int) - 1) = (k : Int) - (i : Int) - 1 := by rw [IntKind.wrap_u64]; omega
                      by_cases hin2 : i + 1 + xa < k
                      · have g2 : ¬ (xa : Int) ≥ (k : Int) - (i : Int) - 1 := by omega
                        have g3 : IntKind.i64.wrap (xa : Int) = (xa : Int) := by rw [IntKind.wrap_i64]; omega
                        have g4 : (i : Int) + 1 + (xa : Int) < (k : Int) := by omega
                        have g5 : ¬ (i : Int) + 1 + (xa : Int) < 0 := by omega
                        have g6 : ((i : Int) + 1 + (xa : Int)).toNat = i + 1 + xa := by omega
                        have hin2L : i + 1 + xa < L.length := by rw [← HN.out]; exact hin2
                        have HLL : Hid (i + 1 + xa < (Hs.set (i + 1) (h1 : Int)).length) := hideI (by rw [hln]; exact hin2L)
                        obtain ⟨v, hv⟩ : ∃ v, v = hs (Hs.set (i + 1) (h1 : Int)) (i + 1 + xa) := ⟨_, rfl⟩
                        have HVD := hideI hv
                        by_cases hcf : 0 ≤ v ∧ v ≠ (h1 : Int)
                        · have HG : Hid (¬ Gd p L) := hideI (fun g => hcf.2 (by
                            have q := HWa.out.gd g (i + 1 + xa) hin2L (by rw [← hv]; exact hcf.1)
                            rw [← hv] at q
                            rw [q, ((HGE.out g).2.2.2 hsk).2]))
                          obtain ⟨d1, d2⟩ := hcf
                          have d2b : (v != (h1 : Int)) = true := by rw [bne_iff_ne]; exact d2
                          clear HGE HRK hsk hv hin2 hin2L hln hs1
                          rcases hop with ⟨o1, rfl⟩ | ⟨o1, o2, rfl⟩
                          all_goals
                            go_wp2_with (go_at_call 46; refine (HON _).out.mono ?_; clear HON; rintro e W9 ⟨rfl, K9⟩; have HR9 := hideI (K9.heap HR8.out (fun f => f)); have HX9 := hideI (K9.heap HX8.out (fun f => f)); have HK9 := hideI (HK8.out.trans (K9.mono (fun _ f => f.elim)) (fun _ e => .inl e)); obtain ⟨x11, x12, x13⟩ := bin3 HX9.out; obtain ⟨f1, f2⟩ := row_hat HR9.out (t := i + 1) (by rw [HW.out.hl]; exact hi1L); rw [← HU.out] at f1; have HRa := hideI (row_put (t := i + 1) (h1 : Int) HR9.out); have HKa := hideI (HK9.out.trans (Kept.setCell _ ⟨gH, i + 1, none⟩ (.int .i64 (h1 : Int))) (fun i e => .inl e)); obtain ⟨x14, x15, x16⟩ := bin3 ((Kept.setCell W9 ⟨gH, i + 1, none⟩ (.int .i64 (h1 : Int))).heap HX9.out (fun e => HXG.out e)); obtain ⟨e1, e2⟩ := row_hat HRa.out (t := i + 1 + xa) HLL.out; rw [← HVD.out] at e1; clear K9)
                            go_ret2
                            exact wyP_bad HG.out rfl (KF _ HKa.out)
                        · have hWb := rw_set HWa.out hin2L (by omega) (by rw [← hv]; exact hcf) (fun g => ((HGE.out g).2.2.2 hsk).2)
                          have hs2 : hs ((Hs.set (i + 1) (h1 : Int)).set (i + 1 + xa) (h1 : Int)) (i + 1) = (h1 : Nat) := by
                            by_cases e : i + 1 + xa = i + 1
                            · rw [e, hs_same _ (by rw [hln]; exact hi1L)]
                            · rw [hs_other _ e]; exact hs1
                          have HWc := hideI (rw_next hWb hi1L (by rw [← HH1.out]; exact hs2) (HRK.out _ ⟨fun e => absurd e h0, fun e => absurd e hl1⟩ HBO.out HOO.out (fun _ => ⟨hin2, hs_same _ HLL.out⟩)))
                          have hcs : v < 0 ∨ (0 ≤ v ∧ v = (h1 : Int)) := by
                            by_cases q : 0 ≤ v
                            · exact .inr ⟨q, Classical.byContradiction (fun e => hcf ⟨q, e⟩)⟩
                            · exact .inl (by omega)
                          clear HGE HRK hsk hv hin2 hin2L hln hs1 hs2 hWb hcf
                          rcases hcs with d1 | ⟨d1, d2⟩
                          · have d1n : ¬ (0 ≤ v) := by omega
                            clear d1
                            rcases hop with ⟨o1, rfl⟩ | ⟨o1, o2, rfl⟩
                            all_goals
                              go_wp2_with (go_at_call 46; refine (HON _).out.mono ?_; clear HON; rintro e W9 ⟨rfl, K9⟩; have HR9 := hideI (K9.heap HR8.out (fun f => f)); have HX9 := hideI (K9.heap HX8.out (fun f => f)); have HK9 := hideI (HK8.out.trans (K9.mono (fun _ f => f.elim)) (fun _ e => .inl e)); obtain ⟨x11, x12, x13⟩ := bin3 HX9.out; obtain ⟨f1, f2⟩ := row_hat HR9.out (t := i + 1) (by rw [HW.out.hl]; exact hi1L); rw [← HU.out] at f1; have HRa := hideI (row_put (t := i + 1) (h1 : Int) HR9.out); have HKa := hideI (HK9.out.trans (Kept.setCell _ ⟨gH, i + 1, none⟩ (.int .i64 (h1 : Int))) (fun i e => .inl e)); obtain ⟨x14, x15, x16⟩ := bin3 ((Kept.setCell W9 ⟨gH, i + 1, none⟩ (.int .i64 (h1 : Int))).heap HX9.out (fun e => HXG.out e)); obtain ⟨e1, e2⟩ := row_hat HRa.out (t := i + 1 + xa) HLL.out; rw [← HVD.out] at e1; clear K9)
                              have HRb := hideI (row_put (t := i + 1 + xa) (h1 : Int) HRa.out)
                              have HKb := hideI (HKa.out.trans (Kept.setCell _ ⟨gH, i + 1 + xa, none⟩ (.int .i64 (h1 : Int))) (fun i e => .inl e))
                              go_wp2
                              go_roundw
                              case rel => exact ⟨i + 1, _, hi1, by go_num, HWc, HRb, HKb⟩
                              case measure => simp [intOf]; omega
                          · have d2b : (v != (h1 : Int)) = false := by rw [bne_eq_false_iff_eq]; exact d2
                            clear d2
                            rcases hop with ⟨o1, rfl⟩ | ⟨o1, o2, rfl⟩
                            all_goals
                              go_wp2_with (go_at_call 46; refine (HON _).out.mono ?_; clear HON; rintro e W9 ⟨rfl, K9⟩; have HR9 := hideI (K9.heap HR8.out (fun f => f)); have HX9 := hideI (K9.heap HX8.out (fun f => f)); have HK9 := hideI (HK8.out.trans (K9.mono (fun _ f => f.elim)) (fun _ e => .inl e)); obtain ⟨x11, x12, x13⟩ := bin3 HX9.out; obtain ⟨f1, f2⟩ := row_hat HR9.out (t := i + 1) (by rw [HW.out.hl]; exact hi1L); rw [← HU.out] at f1; have HRa := hideI (row_put (t := i + 1) (h1 : Int) HR9.out); have HKa := hideI (HK9.out.trans (Kept.setCell _ ⟨gH, i + 1, none⟩ (.int .i64 (h1 : Int))) (fun i e => .inl e)); obtain ⟨x14, x15, x16⟩ := bin3 ((Kept.setCell W9 ⟨gH, i + 1, none⟩ (.int .i64 (h1 : Int))).heap HX9.out (fun e => HXG.out e)); obtain ⟨e1, e2⟩ := row_hat HRa.out (t := i + 1 + xa) HLL.out; rw [← HVD.out] at e1; clear K9)
                              have HRb := hideI (row_put (t := i + 1 + xa) (h1 : Int) HRa.out)
                              have HKb := hideI (HKa.out.trans (Kept.setCell _ ⟨gH, i + 1 + xa, none⟩ (.int .i64 (h1 : Int))) (fun i e => .inl e))
                              go_wp2
                              go_roundw
                              case rel => exact ⟨i + 1, _, hi1, by go_num, HWc, HRb, HKb⟩
                              case measure => simp [intOf]; omega
                      · have HG : Hid (¬ Gd p L) := hideI (fun g => hin2 ((HGE.out g).2.2.2 hsk).1)
                        have g2 : (xa : Int) ≥ (k : Int) - (i : Int) - 1 := by omega
                        clear HGE HRK hsk hin2 hln hs1
                        rcases hop with ⟨o1, rfl⟩ | ⟨o1, o2, rfl⟩
                        all_goals
                          go_wp2_with (go_at_call 46; refine (HON _).out.mono ?_; clear HON; rintro e W9 ⟨rfl, K9⟩; have HR9 := hideI (K9.heap HR8.out (fun f => f)); have HX9 := hideI (K9.heap HX8.out (fun f => f)); have HK9 := hideI (HK8.out.trans (K9.mono (fun _ f => f.elim)) (fun _ e => .inl e)); obtain ⟨x11, x12, x13⟩ := bin3 HX9.out; obtain ⟨f1, f2⟩ := row_hat HR9.out (t := i + 1) (by rw [HW.out.hl]; exact hi1L); rw [← HU.out] at f1; have HRa := hideI (row_put (t := i + 1) (h1 : Int) HR9.out); have HKa := hideI (HK9.out.trans (Kept.setCell _ ⟨gH, i + 1, none⟩ (.int .i64 (h1 : Int))) (fun i e => .inl e)); obtain ⟨x14, x15, x16⟩ := bin3 ((Kept.setCell W9 ⟨gH, i + 1, none⟩ (.int .i64 (h1 : Int))).heap HX9.out (fun e => HXG.out e)); clear K9)
                          go_ret2
                          exact wyP_bad HG.out rfl (KF _ HKa.out)
                    · have o1 : (xp == 15) = false := by rw [beq_eq_false_iff_ne]; exact fun e => hsk (.inl e)
                      have o2 : (xp == 16) = false := by rw [beq_eq_false_iff_ne]; exact fun e => hsk (.inr e)
                      have HWc := hideI (rw_next HWa.out hi1L (by rw [← HH1.out]; exact hs1) (HRK.out _ ⟨fun e => absurd e h0, fun e => absurd e hl1⟩ HBO.out HOO.out (fun e => absurd e hsk)))
                      clear HGE HRK hsk hln hs1
                      go_wp2_with (go_at_call 46; refine (HON _).out.mono ?_; clear HON; rintro e W9 ⟨rfl, K9⟩; have HR9 := hideI (K9.heap HR8.out (fun f => f)); have HX9 := hideI (K9.heap HX8.out (fun f => f)); have HK9 := hideI (HK8.out.trans (K9.mono (fun _ f => f.elim)) (fun _ e => .inl e)); obtain ⟨x11, x12, x13⟩ := bin3 HX9.out; obtain ⟨f1, f2⟩ := row_hat HR9.out (t := i + 1) (by rw [HW.out.hl]; exact hi1L); rw [← HU.out] at f1; have HRa := hideI (row_put (t := i + 1) (h1 : Int) HR9.out); have HKa := hideI (HK9.out.trans (Kept.setCell _ ⟨gH, i + 1, none⟩ (.int .i64 (h1 : Int))) (fun i e => .inl e)); obtain ⟨x14, x15, x16⟩ := bin3 ((Kept.setCell W9 ⟨gH, i + 1, none⟩ (.int .i64 (h1 : Int))).heap HX9.out (fun e => HXG.out e)); clear K9)
                      go_roundw
                      case rel => exact ⟨i + 1, _, hi1, by go_num, HWc, HRa, HKa⟩
                      case measure => simp [intOf]; omega
end Go.Proofs.YtiebmmpnmklpnaaDoor
