import Derived.Test.YtiemiphlfbaojaaDoorMrg15
import Derived.Test.YtiemiphlfbaojaaDoorMrg13
import Derived.Defers
import Derived.Recover
namespace Go.Proofs.YtiemiphlfbaojaaDoor
open Go.ChangeShapes Go.WideShapes Go.ChangeAt Go.RowKit
variable {w0 w w' : World}

/-! Parse of '+a': the law's lives, its second half. -/
theorem pcatch_idle (p q r : Nat) (w : World) :
    CallsD Tryd.prog 22 #[.pointer (some ⟨p, 0, none⟩), .pointer (some ⟨q, 0, none⟩), .pointer (some ⟨r, 0, none⟩)] .returning w fun e u' w' => e = .returned (.tuple #[]) ∧ u' = .returning ∧ w' = w := by
  refine callsD_of_wpS Tryd.func22 rfl fun c₀ cs hu => ?_
  apply wpS_seq
  apply wpS_region
  simp [wpOpsS, go_sem, recoverD, hu, Tryd.ntmps22, Exit.thenS]
  refine wpS_cond (t := false) (by simp [Act.eval, Array.replicate]) ?_
  simp only [Bool.false_eq_true, if_false]
  refine wpS_of_wp (wp_skip ?_)
  cases c₀
  simp_all [bodyPostS, results, Tryd.results22]
theorem results_cellP {fn : Func} {p u x : Tmp} {ty tu tx : TypeId} (h : fn.results = #[.cell p ty, .cell u tu, .cell x tx]) (tmps : Array Value) (P : Program) (w : World) (g gu gx : Nat) (cs : Array Value) (vu vx : Value)
    (hp : tmps.getD p undef = .pointer (some ⟨g, 0, none⟩)) (hu : tmps.getD u undef = .pointer (some ⟨gu, 0, none⟩)) (hx : tmps.getD x undef = .pointer (some ⟨gx, 0, none⟩))
    (hld : (loadVar ty ⟨g, 0, none⟩).run P w = .ok (.agg cs) w) (hlu : (loadVar tu ⟨gu, 0, none⟩).run P w = .ok vu w) (hlx : (loadVar tx ⟨gx, 0, none⟩).run P w = .ok vx w) :
    (results fn tmps).run P w = .ok (.tuple #[.agg cs, vu, vx]) w := by
  have hp' : tmps[p]?.getD undef = .pointer (some ⟨g, 0, none⟩) := by simpa using hp
  have hu' : tmps[u]?.getD undef = .pointer (some ⟨gu, 0, none⟩) := by simpa using hu
  have hx' : tmps[x]?.getD undef = .pointer (some ⟨gx, 0, none⟩) := by simpa using hx
  simp [results, h, hp', hu', hx', asAddr, hld, hlu, hlx, Result.andThen]
theorem load_intP {W : World} {g : Nat} {z : Int} (h : W.cell? ⟨g, 0, none⟩ = some (.int .i64 z)) : (loadVar 3 ⟨g, 0, none⟩).run Tryd.prog W = .ok (.int .i64 z) W := by simp [go_sem, h]
theorem load_errP {W : World} {g : Nat} {v : Value} (h : W.cell? ⟨g, 0, none⟩ = some v) : (loadVar 24 ⟨g, 0, none⟩).run Tryd.prog W = .ok v W := by simp [go_sem, h]
theorem one_cellP {W : World} {g : Nat} {v : Value} {t : TypeId} (z : W.heap[g]? = some (.cells #[v] t (0, 0))) : W.cell? ⟨g, 0, none⟩ = some v ∧ W.frozen? ⟨g, 0, none⟩ = false := by
  refine ⟨?_, ?_⟩ <;> simp [World.cell?, World.frozen?, z]
theorem one_putP {W : World} {g : Nat} {v u : Value} {t : TypeId} (z : W.heap[g]? = some (.cells #[v] t (0, 0))) : (W.setCell ⟨g, 0, none⟩ u).heap[g]? = some (.cells #[u] t (0, 0)) := by
  have := heap_setCell_same W g 0 _ t u z
  simpa using this
theorem LxAt.past {F : Nat → Prop} {g k : Nat} {x : Lx} (h : LxAt w g k x) (kk : Kept F w w') (hg : ¬ F g) : LxAt w' g k x :=
  ⟨kk.cell h.c0 hg, kk.cell h.c1 hg, kk.cell h.c2 hg, kk.cell h.c3 hg, kk.cell h.c4 hg⟩
theorem lx_apart {g k : Nat} {x : Lx} {v : Value} {t : TypeId} (h : LxAt w g k x) {i : Nat} (hi : w.heap[i]? = some (.cells #[v] t (0, 0))) : ¬ g = i := by
  rintro rfl
  have := h.c1
  simp [World.cell?, hi] at this
def pluL : List UInt8 := [43, 97]
theorem plu_scan : scanF pluL = ((scanF pluL).1, none) := by kernel_rfl
theorem plu_len : (scanF pluL).1.length = 3 := by kernel_rfl
theorem plu_0 : isK 15 (tkA (rowL (scanF pluL).1) 0) = true := by kernel_rfl
theorem plu_1 : isK 1 (tkA (rowL (scanF pluL).1) (0 + 1)) = true := by kernel_rfl
theorem plu_2 : isK 0 (tkA (rowL (scanF pluL).1) (0 + 1 + 1)) = true := by kernel_rfl
theorem plu_t : (tkA (rowL (scanF pluL).1) (0 + 1)).t = bq [97] := by kernel_rfl
def pvPost (w : World) (e : Ending) (w' : World) : Prop := ∃ ob oc kb kc, e = .returned (.tuple #[.agg #[.int .i64 9, .string ⟨#[]⟩, .string ⟨#[]⟩, .int .i64 0, .bool false, .bool false, .string ⟨#[]⟩, .bool false, .bool false, .string ⟨#[]⟩, .slice (some ⟨ob, 0, none⟩) 1 oc, .slice (some ⟨kb, 0, none⟩) 1 kc], .int .i64 0, .nilIface]) ∧ Li1 w' ob kb 1 (bq [97]) ∧ Kept (fun _ => False) w w'
set_option maxRecDepth 20000 in
set_option maxHeartbeats 4000000 in
theorem parse_live (ad : Addr) (hC : ClsAt w) (hS : SynAt w ad) : Calls Tryd.prog 11 #[.string (bq pluL)] w (pvPost w) := by
  have hmf : ∀ (fn : Fn) (first cap : Array Value) (w : World), (Instr.makeFunc fn first cap).run Tryd.prog w = .ok (.func fn first cap) w := fun _ _ _ _ => rfl
  have KA := Kept.alloc w (.cells #[.int .i64 0, .string ⟨#[]⟩, .string ⟨#[]⟩, .int .i64 0, .bool false, .bool false, .string ⟨#[]⟩, .bool false, .bool false, .string ⟨#[]⟩, .slice none 0 0, .slice none 0 0] 39)
  have KB := Kept.alloc (w.alloc (.cells #[.int .i64 0, .string ⟨#[]⟩, .string ⟨#[]⟩, .int .i64 0, .bool false, .bool false, .string ⟨#[]⟩, .bool false, .bool false, .string ⟨#[]⟩, .slice none 0 0, .slice none 0 0] 39)) (.cells #[.int .i64 0] 3)
  have KC := Kept.alloc ((w.alloc (.cells #[.int .i64 0, .string ⟨#[]⟩, .string ⟨#[]⟩, .int .i64 0, .bool false, .bool false, .string ⟨#[]⟩, .bool false, .bool false, .string ⟨#[]⟩, .slice none 0 0, .slice none 0 0] 39)).alloc (.cells #[.int .i64 0] 3)) (.cells #[.nilIface] 24)
  have hA := (KB.trans KC (fun _ f => f.elim)).heap (heap_alloc_new w (.cells #[.int .i64 0, .string ⟨#[]⟩, .string ⟨#[]⟩, .int .i64 0, .bool false, .bool false, .string ⟨#[]⟩, .bool false, .bool false, .string ⟨#[]⟩, .slice none 0 0, .slice none 0 0] 39)) (fun f => f)
  have hB := KC.heap (heap_alloc_new (w.alloc (.cells #[.int .i64 0, .string ⟨#[]⟩, .string ⟨#[]⟩, .int .i64 0, .bool false, .bool false, .string ⟨#[]⟩, .bool false, .bool false, .string ⟨#[]⟩, .slice none 0 0, .slice none 0 0] 39)) (.cells #[.int .i64 0] 3)) (fun f => f)
  have hD := heap_alloc_new ((w.alloc (.cells #[.int .i64 0, .string ⟨#[]⟩, .string ⟨#[]⟩, .int .i64 0, .bool false, .bool false, .string ⟨#[]⟩, .bool false, .bool false, .string ⟨#[]⟩, .slice none 0 0, .slice none 0 0] 39)).alloc (.cells #[.int .i64 0] 3)) (.cells #[.nilIface] 24)
  have s1 : (w.alloc (.cells #[.int .i64 0, .string ⟨#[]⟩, .string ⟨#[]⟩, .int .i64 0, .bool false, .bool false, .string ⟨#[]⟩, .bool false, .bool false, .string ⟨#[]⟩, .slice none 0 0, .slice none 0 0] 39)).heap.size = w.heap.size + 1 := by simp
  have s2 : ((w.alloc (.cells #[.int .i64 0, .string ⟨#[]⟩, .string ⟨#[]⟩, .int .i64 0, .bool false, .bool false, .string ⟨#[]⟩, .bool false, .bool false, .string ⟨#[]⟩, .slice none 0 0, .slice none 0 0] 39)).alloc (.cells #[.int .i64 0] 3)).heap.size = w.heap.size + 2 := by simp
  rw [s1] at hB
  rw [s2] at hD
  have KK := (KA.trans KB (fun _ f => f.elim)).trans KC (fun _ f => f.elim)
  have hsC := KK.size
  have C1 := hideL (scan_list pluL _ 3 _ ad (hC.later KK) (hS.later KK) (by decide) plu_scan plu_len.symm (by omega))
  have HA := hideL hA
  have HB := hideL hB
  have HD := hideL hD
  have HK := hideL KK
  clear KA KB KC hA hB hD s1 s2 hC hS hsC KK
  have HP : Hid (∀ ob oc kb kc w', Li1 w' ob kb 1 (bq [97]) → Kept (fun _ => False) w w' → pvPost w (.returned (.tuple #[.agg #[.int .i64 9, .string ⟨#[]⟩, .string ⟨#[]⟩, .int .i64 0, .bool false, .bool false, .string ⟨#[]⟩, .bool false, .bool false, .string ⟨#[]⟩, .slice (some ⟨ob, 0, none⟩) 1 oc, .slice (some ⟨kb, 0, none⟩) 1 kc], .int .i64 0, .nilIface])) w') := hideL (fun ob oc kb kc w' x z => ⟨ob, oc, kb, kc, rfl, x, z⟩)
  generalize pvPost w = QQ at *
  generalize bq pluL = s at *
  go_enter_defers Tryd.func11, Tryd.ntmps11
  go_wp2_with fail
  go_at_call 12
  refine C1.out.mono ?_
  rintro x W1 ⟨⟨g1, c1, rfl, l1⟩, k1⟩
  clear C1
  generalize ((w.alloc (.cells #[.int .i64 0, .string ⟨#[]⟩, .string ⟨#[]⟩, .int .i64 0, .bool false, .bool false, .string ⟨#[]⟩, .bool false, .bool false, .string ⟨#[]⟩, .slice none 0 0, .slice none 0 0] 39)).alloc (.cells #[.int .i64 0] 3)).alloc (.cells #[.nilIface] 24) = WB at *
  generalize hge : w.heap.size = g9 at HA HB HD ⊢
  have HG9 : Hid (w.heap.size = g9) := hideL hge
  clear hge
  have HA1 := hideL (k1.heap HA.out (fun f => f))
  have HB1 := hideL (k1.heap HB.out (fun f => f))
  have HD1 := hideL (k1.heap HD.out (fun f => f))
  have HK1 := hideL (HK.out.trans k1 (fun _ f => f.elim))
  have HL1 := hideL l1
  have hz1 : g9 + 2 < W1.heap.size := (Array.getElem?_eq_some_iff.mp HD1.out).1
  clear k1 l1 HA HB HD HK
  have KT := Kept.alloc W1 (.cells #[.slice (some ⟨g1, 0, none⟩) 3 c1] 31)
  have hT := heap_alloc_new W1 (.cells #[.slice (some ⟨g1, 0, none⟩) 3 c1] 31)
  have xT := (one_cellP hT).1
  have xB := (one_cellP (KT.heap HB1.out (fun f => f))).1
  have fB := (one_cellP (KT.heap HB1.out (fun f => f))).2
  have xD := (one_cellP (KT.heap HD1.out (fun f => f))).1
  have fD := (one_cellP (KT.heap HD1.out (fun f => f))).2
  go_wp2_with fail
  have HE : Hid (∃ y, (scanF pluL).1[0]? = some y) := hideL ⟨_, List.getElem?_eq_getElem (by rw [plu_len]; omega)⟩
  obtain ⟨y0, hy0⟩ := HE.out
  have ngB : ¬ g1 = g9 + 1 := lx_apart (HL1.out 0 y0 hy0) HB1.out
  have ngD : ¬ g1 = g9 + 2 := lx_apart (HL1.out 0 y0 hy0) HD1.out
  clear HE hy0
  have KV : Kept (fun i => i = g9 + 1 ∨ i = g9 + 2) W1 (((W1.alloc (.cells #[.slice (some ⟨g1, 0, none⟩) 3 c1] 31)).setCell ⟨g9 + 1, 0, none⟩ (.int .i64 0)).setCell ⟨g9 + 1 + 1, 0, none⟩ .nilIface) :=
    ((KT.mono (fun _ f => f.elim)).trans (Kept.setCell _ _ _) (fun i e => .inl (.inl e))).trans (Kept.setCell _ _ _) (fun i e => .inl (.inr e))
  have hVB : (((W1.alloc (.cells #[.slice (some ⟨g1, 0, none⟩) 3 c1] 31)).setCell ⟨g9 + 1, 0, none⟩ (.int .i64 0)).setCell ⟨g9 + 1 + 1, 0, none⟩ .nilIface).heap[g9 + 1]? = some (.cells #[.int .i64 0] 3 (0, 0)) :=
    ((Kept.setCell _ ⟨g9 + 1 + 1, 0, none⟩ .nilIface).mono (fun i (e : i = g9 + 1 + 1) => .inl e)).heap (one_putP (KT.heap HB1.out (fun f => f))) (show ¬ g9 + 1 = g9 + 1 + 1 by omega)
  have hVD : (((W1.alloc (.cells #[.slice (some ⟨g1, 0, none⟩) 3 c1] 31)).setCell ⟨g9 + 1, 0, none⟩ (.int .i64 0)).setCell ⟨g9 + 1 + 1, 0, none⟩ .nilIface).heap[g9 + 2]? = some (.cells #[.nilIface] 24 (0, 0)) :=
    one_putP (((Kept.setCell _ ⟨g9 + 1, 0, none⟩ (.int .i64 0)).mono (fun i (e : i = g9 + 1) => .inl e)).heap (KT.heap HD1.out (fun f => f)) (show ¬ g9 + 1 + 1 = g9 + 1 by omega))
  have hVT : (((W1.alloc (.cells #[.slice (some ⟨g1, 0, none⟩) 3 c1] 31)).setCell ⟨g9 + 1, 0, none⟩ (.int .i64 0)).setCell ⟨g9 + 1 + 1, 0, none⟩ .nilIface).heap.size = W1.heap.size + 1 := by simp [World.setCell]
  clear xT xB fB xD fD hT KT
  generalize (((W1.alloc (.cells #[.slice (some ⟨g1, 0, none⟩) 3 c1] 31)).setCell ⟨g9 + 1, 0, none⟩ (.int .i64 0)).setCell ⟨g9 + 1 + 1, 0, none⟩ .nilIface) = V at *
  have hRw := rw_list (fun k y hk => (HL1.out k y hk).past KV (by omega))
  have hlen : (rowL (scanF pluL).1).length = 3 := by unfold rowL; rw [List.length_map, plu_len]
  have hPr : Pr V (V.alloc (.cells #[.slice (some ⟨g1, 0, none⟩) 3 c1, .int .i64 0, .int .i64 0] 64)) (W1.heap.size + 1) c1 (some ⟨g1, 0, none⟩) (rowL (scanF pluL).1) 0 0 := by
    refine ⟨?_, Kept.alloc _ _, by omega, hRw, by omega, by omega⟩
    rw [hlen, ← hVT]
    exact heap_alloc_new V _
  have CQ := hideL (pquery_plus hPr plu_0 plu_1 (by omega) plu_2)
  rw [plu_t] at CQ
  have KP := Kept.alloc V (.cells #[.slice (some ⟨g1, 0, none⟩) 3 c1, .int .i64 0, .int .i64 0] 64)
  have HA2 := hideL (KP.heap (KV.heap HA1.out (by omega)) (fun f => f))
  have HB2 := hideL (KP.heap hVB (fun f => f))
  have HD2 := hideL (KP.heap hVD (fun f => f))
  have HK2 := hideL ((HK1.out.trans KV (fun i hi => .inr (by have := HG9.out; omega))).trans KP (fun _ f => f.elim))
  have hsP : (V.alloc (.cells #[.slice (some ⟨g1, 0, none⟩) 3 c1, .int .i64 0, .int .i64 0] 64)).heap.size = W1.heap.size + 2 := by simp [hVT]
  clear hRw hlen hPr KP KV hVB hVD HA1 HB1 HD1 HK1 HL1 hVT ngB ngD
  generalize V.alloc (.cells #[.slice (some ⟨g1, 0, none⟩) 3 c1, .int .i64 0, .int .i64 0] 64) = VP at *
  refine CQ.out.mono ?_
  rintro e W3 ⟨ob, oc, kb, kc, rfl, l3, k3, n1, n2⟩
  have HA3 := hideL (k3.heap HA2.out (show ¬ g9 = W1.heap.size + 1 by omega))
  have HB3 := hideL (k3.heap HB2.out (show ¬ g9 + 1 = W1.heap.size + 1 by omega))
  have HD3 := hideL (k3.heap HD2.out (show ¬ g9 + 2 = W1.heap.size + 1 by omega))
  have HL3 := hideL l3
  have HK3 := hideL (HK2.out.trans k3 (fun i hi => .inr (by have := HG9.out; omega)))
  have hN : Hid (¬ ob = g9 ∧ ¬ kb = g9 ∧ ¬ ob = g9 + 1 ∧ ¬ kb = g9 + 1 ∧ ¬ ob = g9 + 2 ∧ ¬ kb = g9 + 2) := hideL (by omega)
  clear CQ HA2 HB2 HD2 HK2 l3 k3 n1 n2
  obtain ⟨d0, d1, d2, d3, d4, d5, d6, d7, d8, d9, d10, d11, df⟩ := node_cells HA3.out
  have f0 := df 0
  have f1 := df 1
  have f2 := df 2
  have f3 := df 3
  have f4 := df 4
  have f5 := df 5
  have f6 := df 6
  have f7 := df 7
  have f8 := df 8
  have f9 := df 9
  have f10 := df 10
  have f11 := df 11
  clear df
  have xB := (one_cellP HB3.out).1
  have fB := (one_cellP HB3.out).2
  have xD := (one_cellP HD3.out).1
  have fD := (one_cellP HD3.out).2
  go_wp2_with fail
  clear d0 f0 d1 f1 d2 f2 d3 f3 d4 f4 d5 f5 d6 f6 d7 f7 d8 f8 d9 f9 d10 f10 d11 f11 xB fB xD fD
  refine leaves_cons (f := 22) (args := #[.pointer (some ⟨W1.heap.size, 0, none⟩), .pointer (some ⟨g9 + 1, 0, none⟩), .pointer (some ⟨g9 + 1 + 1, 0, none⟩)]) (by simp) (by simp [go_sem]) ?_
  refine (pcatch_idle W1.heap.size (g9 + 1) (g9 + 1 + 1) _).mono ?_
  rintro e u' w'' ⟨rfl, rfl, rfl⟩
  show ∃ v, (results _ _).run _ _ = .ok v _ ∧ QQ (.returned v) _
  have hn := hN.out
  have KS1 : ∀ (X : World), Kept (fun i => i = g9 + 1) X (X.setCell ⟨g9 + 1, 0, none⟩ (.int .i64 0)) := fun X => (Kept.setCell X _ _).mono (fun i e => .inl e)
  have KS2 : ∀ (X : World), Kept (fun i => i = g9 + 1 + 1) X (X.setCell ⟨g9 + 1 + 1, 0, none⟩ .nilIface) := fun X => (Kept.setCell X _ _).mono (fun i e => .inl e)
  refine ⟨_, results_cellP rfl _ _ _ g9 (g9 + 1) (g9 + 1 + 1) _ _ _ rfl rfl rfl (load_node (by exact (KS2 _).heap ((KS1 _).heap (node_put12 HA3.out) (by omega)) (by omega))) (load_intP (one_cellP ((KS2 _).heap (one_putP (node_keptG.heap HB3.out (show ¬ g9 + 1 = g9 by omega))) (by omega))).1) (load_errP (one_cellP (one_putP ((KS1 _).heap (node_keptG.heap HD3.out (show ¬ g9 + 2 = g9 by omega)) (by omega)))).1), HP.out ob oc kb kc _ ?_ ?_⟩
  · exact ((HL3.out.past node_keptG hn.1 hn.2.1).past (KS1 _) hn.2.2.1 hn.2.2.2.1).past (KS2 _) hn.2.2.2.2.1 hn.2.2.2.2.2
  · exact ((HK3.out.trans node_keptG (fun i e => .inr (by have := HG9.out; omega))).trans (KS1 _) (fun i e => .inr (by have := HG9.out; omega))).trans (KS2 _) (fun i e => .inr (by have := HG9.out; omega))
end Go.Proofs.YtiemiphlfbaojaaDoor
namespace Go.Proofs.YtiemiphlfbaojaaDoor
open Go.ChangeShapes Go.WideShapes Go.ChangeAt Go.RowKit
variable {w : World}

/-! The law's lives, its first half: Check of '((a))^2^3' answers four. -/
def lvL : List UInt8 := [40, 40, 97, 41, 41, 94, 50, 94, 51]
theorem lv_scan : (scanF lvL).2 = none := by kernel_rfl
theorem lv_run : (runR (rowL (scanF lvL).1)).1 = true := by kernel_rfl
theorem lv_top : (runR (rowL (scanF lvL).1)).2.top.n = 4 := by kernel_rfl
theorem check_live (ad : Addr) (hC : ClsAt w) (hS : SynAt w ad) : Calls Tryd.prog 6 #[.string (bq lvL)] w fun e w' => e = .returned (.tuple #[.int .i64 4, .int .i64 0, .nilIface]) ∧ Kept (fun _ => False) w w' := by
  refine (check_any lvL ad hC hS (by decide)).mono ?_
  rintro e w' ⟨h, hk⟩
  refine ⟨?_, hk⟩
  rcases h with ⟨L, hL, h⟩ | ⟨f, hf, -⟩
  · have e1 : (scanF lvL).1 = L := by rw [hL]
    have r1 := lv_run
    have r2 := lv_top
    rw [e1] at r1 r2
    rcases h with ⟨-, h⟩ | ⟨h, -⟩
    · rw [h, r2]
      rfl
    · rw [r1] at h
      exact absurd h (by decide)
  · rw [lv_scan] at hf
    exact absurd hf (by simp)
end Go.Proofs.YtiemiphlfbaojaaDoor
namespace Go.Proofs.YtiemiphlfbaojaaDoor
open Go.ChangeShapes Go.WideShapes Go.ChangeAt Go.RowKit
variable {w : World}

/-! The law's lives. -/
theorem bq_lv : bq lvL = ⟨#[40, 40, 97, 41, 41, 94, 50, 94, 51]⟩ := by kernel_rfl
theorem bq_plu : bq pluL = ⟨#[43, 97]⟩ := by kernel_rfl
theorem bq_a : bq [97] = ⟨#[97]⟩ := by kernel_rfl
set_option maxRecDepth 20000 in
set_option maxHeartbeats 4000000 in
theorem lives_yes (ad : Addr) (hC : ClsAt w) (hS : SynAt w ad) : Calls Tryd.prog 5 #[] w fun e w' => e = .returned (.bool true) ∧ Kept (fun _ => False) w w' := by
  have C1 := hideL (check_live ad hC hS)
  rw [bq_lv] at C1
  have C2 := hideL (fun W (k : Kept (fun _ => False) w W) => parse_live ad (hC.later k) (hS.later k))
  rw [bq_plu] at C2
  unfold pvPost at C2
  rw [bq_a] at C2
  clear hC hS
  go_enter Tryd.func5, Tryd.ntmps5
  go_wp2_with (first
    | (go_at_call 6; refine C1.out.mono ?_; clear C1; rintro e W1 ⟨rfl, k1⟩; have K1 := hideL k1; clear k1)
    | (go_at_call 11; refine (C2.out _ K1.out).mono ?_; clear C2; rintro e W2 ⟨ob, oc, kb, kc, rfl, l2, k2⟩; have K2 := hideL (K1.out.trans k2 (fun _ f => f.elim)); have KN := Kept.alloc W2 (.cells #[.int .i64 9, .string ⟨#[]⟩, .string ⟨#[]⟩, .int .i64 0, .bool false, .bool false, .string ⟨#[]⟩, .bool false, .bool false, .string ⟨#[]⟩, .slice (some ⟨ob, 0, none⟩) 1 oc, .slice (some ⟨kb, 0, none⟩) 1 kc] 39); have x2 := KN.cell l2.txt (fun f => f); clear k2 K1 l2))
  go_ret
  exact ⟨rfl, K2.out.trans KN (fun _ f => f.elim)⟩
end Go.Proofs.YtiemiphlfbaojaaDoor
