import Derived.Test.YtcbhgpdookappaaDoorDts
import Derived.Test.YtcbhgpdookappaaDoorWrG
import Derived.Test.YtcbhgpdookappaaDoorRdB
import Derived.OrdersHeld
import Derived.Laws.Tables
import Derived.Deep.Cut
namespace Go.Proofs.YtcbhgpdookappaaDoor.Ds
open Go.ChangeShapes Go.WideShapes Go.ChangeAt Go.RowKit

/-- A block alone. -/
def cutB (b : Nat → Nat) : Nat → Nat := fun i => if i < 4 then b i else 0
theorem bw_cut (b : Nat → Nat) : bw (cutB b) = bw b := rfl
theorem cutB_ok {b : Nat → Nat} (h : BOk b) : BOk (cutB b) := fun k => by
  unfold cutB
  split
  · exact h k
  · decide
theorem mem_cut (b : Nat → Nat) (i : Nat) : mem (cutB b) i = (decide (i < 256) && mem b i) := by
  unfold mem cutB
  by_cases h : i < 256
  · rw [if_pos (by omega)]; simp [h]
  · rw [if_neg (by omega)]; simp [h]
theorem mem_blk (ws : Nat → Nat) (j i : Nat) : mem (blk ws j) i = mem ws (256 * j + i) := by
  unfold mem blk
  rw [show (256 * j + i) / 64 = j * 4 + i / 64 by omega, show (256 * j + i) % 64 = i % 64 by omega]
def encJ (ws : Nat → Nat) (n j : Nat) : List Int := (encB (cutB (blk ws j)) (wdt n j)).map (fun (x : Nat) => (x : Int))
def encU (ws : Nat → Nat) (n k : Nat) : List Int := (List.range k).flatMap (encJ ws n)
theorem encU_succ (ws : Nat → Nat) (n k : Nat) : encU ws n (k + 1) = encU ws n k ++ encJ ws n k := by simp [encU, List.range_succ]
/-- A set's bytes. -/
def encS (n : Nat) (ws : Nat → Nat) : List Int := uvb n ++ encU ws n (nbOf n)
/-- A Writer of the call's own. -/
structure Wd (w W : World) (bw : Nat) (v : Value) (xs : List Int) : Prop where
  wr : Wr W bw v xs
  new : w.heap.size ≤ bw
  own : ∀ k, v.ownBlock = some k → w.heap.size ≤ k
  kept : Kept (fun _ => False) w W
theorem Wd.step {w W W' : World} {bw : Nat} {v v' : Value} {xs xs' : List Int} (h : Wd w W bw v xs) (h1 : Wr W' bw v' xs') (h2 : WStep W W' bw v v') : Wd w W' bw v' xs' := by
  refine ⟨h1, h.new, fun k hk => ?_, h.kept.trans h2.kept ?_⟩
  · rcases h2.new k hk with e | e
    · exact h.own k e
    · exact Nat.le_trans h.kept.size e
  · rintro i (e | e)
    · exact .inr (by rw [e]; exact h.new)
    · exact .inr (h.own i e)
theorem Wd.same {w W W' : World} {bw : Nat} {v : Value} {xs : List Int} (h : Wd w W bw v xs) (k : Kept (fun _ => False) W W') : Wd w W' bw v xs :=
  ⟨h.wr.kept k (fun _ _ f => f), h.new, h.own, h.kept.trans k (fun _ f => f.elim)⟩
theorem exec_load_rowD {ρ : Operand → Value} {o : Oper} {W : World} {g n : Nat} {C : Array Value} {ty t e : TypeId} {x : Operand} (ho : o.op = .load ty x) (hx : ρ x = .pointer (some ⟨g, 0, none⟩)) (hW : W.heap[g]? = some (.cells C t (0, 0))) (hu : Tryd.prog.underlying ty = some (.array n e)) (hi : (Tryd.prog.info? ty).map (·.size) = some C.size) : (execOp ρ o).run Tryd.prog W = .ok (.value (.agg C)) W := by
  have h := run_loadVar_row (P := Tryd.prog) W g t ty C (0, 0) (.array n e) hW hu rfl hi
  unfold execOp
  simp only [ho, hx, Instr.loadAt, Instr.sureAddr, Sem.run_bind, Sem.run_pure, Result.andThen_ok, h]
theorem encB_len (b : Nat → Nat) (wd : Nat) {C : Array Value} (h : EcV C (encB b wd)) : (encB b wd).length ≤ 33 := h.2.2.2.2
/-- The bytes of an encoded block that lies. -/
theorem ec_bytes {W : World} {g : Nat} {C : Array Value} {L : List Nat} (hg : W.heap[g]? = some (.cells C 81 (0, 0))) (hv : EcV C L) : BytesAt W (some ⟨g, 0, none⟩) (L.map (fun (x : Nat) => (x : Int))) := by
  intro _
  refine ⟨g, 0, rfl, fun k hk => ?_⟩
  rw [List.length_map] at hk
  rw [Nat.zero_add, List.getElem?_map, List.getElem?_eq_getElem hk]
  exact (cell_of_row _ _ _ _ _ _ hg).trans (hv.2.2.1 k _ (List.getElem?_eq_getElem hk))
theorem slice33 (g m : Nat) (hm : m ≤ 33) (W : World) : (Instr.sliceAt 79 (.pointer (some ⟨g, 0, none⟩)) none (some (.int .i64 (m : Nat))) none).run Tryd.prog W = .ok (.slice (some ⟨g, 0, none⟩) m 33) W := by
  obtain ⟨i0, hi, _, _, _⟩ := info_parts Tryd.infoB
  simp [Instr.sliceAt, run_underlying Tryd.underlying79, Instr.sliceBounds, Instr.sureAddr, sizeOf, typeInfo, hi, go_sem]
  intro h
  omega
set_option maxRecDepth 20000 in
set_option maxHeartbeats 8000000 in
theorem encode_any (p rb n cap : Nat) (ws : Nat → Nat) (w : World) (h : SetAt w p rb n cap ws) (hD : DbAt w) :
    Calls Tryd.prog 11 #[.pointer (some ⟨p, 0, none⟩)] w fun e w' => ∃ g, e = .returned (.slice (some ⟨g, 0, none⟩) (encS n ws).length (encS n ws).length) ∧ w.heap.size ≤ g ∧ w'.ownsRow w.heap.size 5 1 (.slice (some ⟨g, 0, none⟩) (encS n ws).length (encS n ws).length) (encS n ws).length (bs (encS n ws)) ∧ Kept (fun _ => False) w w' := by
  have hn := h.small
  have HS := hideD h
  have HD := hideD hD
  obtain ⟨bw0, hbw⟩ : ∃ bw0, bw0 = w.heap.size := ⟨_, rfl⟩
  have NW := hideD (show Calls Tryd.prog 40 #[] w fun e W => e = .returned (.pointer (some ⟨bw0, 0, none⟩)) ∧ Hid (Wd w W bw0 (.slice none 0 0) []) from by
    refine (new_any w).mono ?_
    rintro e W ⟨rfl, h1, h2⟩
    rw [hbw]
    exact ⟨rfl, h1, Nat.le_refl _, fun k hk => (by simp [Value.ownBlock] at hk), h2⟩)
  have UV := hideD (fun (W : World) (v : Value) (q : Wd w W bw0 v []) => show Calls Tryd.prog 41 #[.pointer (some ⟨bw0, 0, none⟩), .int .u64 (n : Nat)] W fun e W' => e = .returned (.tuple #[]) ∧ ∃ v', Hid (Wd w W' bw0 v' (uvb n)) from by
    refine (wuv_any bw0 v [] n W q.wr (by omega) (by simp)).mono ?_
    rintro e W' ⟨rfl, v', h1, h2⟩
    exact ⟨rfl, v', q.step h1 h2⟩)
  have c0 : ∀ W, Kept (fun _ => False) w W → W.cell? ⟨p, 0, none⟩ = some (.int .i64 n) ∧ W.cell? ⟨p, 1, none⟩ = some (.slice (some ⟨rb, 0, none⟩) (nbOf n) cap) := fun W k => ⟨(cell_of_row _ _ _ _ _ _ (h.same k).box).trans rfl, (cell_of_row _ _ _ _ _ _ (h.same k).box).trans rfl⟩
  have C0 := hideD c0
  have hnw : IntKind.u64.wrap (n : Int) = (n : Int) := by rw [IntKind.wrap_u64]; omega
  clear h hD c0 hbw
  go_enter Tryd.func11, Tryd.ntmps11
  go_wp2_with (first
    | (go_at_call 40; refine NW.out.mono ?_; rintro e W1 ⟨rfl, Q1⟩; obtain ⟨a0, a1⟩ := C0.out _ Q1.out.kept)
    | (go_at_call 41; refine (UV.out _ _ Q1.out).mono ?_; rintro e W2 ⟨rfl, v2, Q2⟩; clear a0 a1; obtain ⟨a0, a1⟩ := C0.out _ Q2.out.kept))
  have HQ2 := Q2
  clear NW UV Q1 Q2 a0 a1
  have hnb : nbOf n ≤ 4096 := by unfold nbOf; omega
  obtain ⟨nb, hnbd⟩ : ∃ nb, nb = nbOf n := ⟨_, rfl⟩
  rw [← hnbd] at hnb ⊢
  have HNB := hideD hnbd
  clear hnbd
  go_loopw [20] (fun i wr => ∃ (k : Nat) (v : Value), k ≤ nb ∧ i = .int .i64 k ∧ Hid (Wd w wr bw0 v (uvb n ++ encU ws n k)) ∧ Hid ((encU ws n k).length ≤ 33 * k)) (fun i _ => nb - (intOf i).toNat)
  case atStart => exact ⟨0, v2, by omega, rfl, hideD (by simpa [encU] using HQ2.out), hideD (by simp [encU])⟩
  case round =>
    clear HQ2
    obtain ⟨k, v, hk, rfl, HQ, HL⟩ := hrel
    by_cases hlt : k < nb
    · have hS := HS.out.same HQ.out.kept
      have hkb : k < nbOf n := by rw [← HNB.out]; exact hlt
      obtain ⟨d0, d1, d2, d3⟩ := hS.row.blk hkb
      have hki : 0 ≤ (k : Int) ∧ (k : Int) < (nb : Nat) := by omega
      go_upto_region 6 with fail
      obtain ⟨Y, hY⟩ : ∃ Y, Y = wr.alloc (.cells #[.int .u64 (blk ws k 0 : Nat), .int .u64 (blk ws k 1 : Nat), .int .u64 (blk ws k 2 : Nat), .int .u64 (blk ws k 3 : Nat)] 73) := ⟨_, rfl⟩
      have kY : Kept (fun _ => False) wr Y := by rw [hY]; exact Kept.alloc _ _
      have bY : Y.heap[wr.heap.size]? = some (.cells (bw (blk ws k)) 73 (0, 0)) := by rw [hY]; exact heap_alloc_new wr _
      have hok := HS.out.ok
      have htt := HS.out.tight
      have EN := hideD (fun (W' : World) (k' : Kept (fun _ => False) Y W') => show Calls Tryd.prog 42 #[.agg (bw (blk ws k)), .int .i64 (wdt n k : Nat)] W' fun r W'' => ∃ C, r = .returned (.agg C) ∧ Hid (EcV C (encB (cutB (blk ws k)) (wdt n k))) ∧ Hid (Kept (fun _ => False) Y W'') ∧ Hid (Kept (fun _ => False) W' W'') from by
        have kw := (HQ.out.kept.trans kY (fun _ f => f.elim)).trans k' (fun _ f => f.elim)
        refine (encodeBlock_any (cutB (blk ws k)) (cutB_ok (blk_ok hok k)) (wdt n k) (by unfold wdt; omega) (fun i hi => ?_) W' (fun i x hx => kw.cell (HD.out i x hx) (fun f => f))).mono ?_
        · rw [mem_cut, mem_blk] at hi
          simp only [Bool.and_eq_true, decide_eq_true_eq] at hi
          have := htt _ hi.2
          unfold wdt; omega
        · rintro r W'' ⟨C, rfl, h1, h2⟩
          exact ⟨C, rfl, h1, k'.trans h2 (fun _ f => f.elim), h2⟩)
      have WD := hideD (fun (W' : World) (k' : Kept (fun _ => False) Y W') => widthS_any p rb n cap k ws W' ((hS.same kY).same k') hkb)
      obtain ⟨wd, hwd⟩ : ∃ wd, wd = wdt n k := ⟨_, rfl⟩
      have HWD := hideD hwd
      rw [← hwd] at EN WD
      have HKY := hideD kY
      have S0 : Kept (fun _ => False) Y Y.drew := Kept.drew Y
      rw [← hY]
      clear hY kY hS hok htt hwd hkb d0 d1 d2 d3
      refine wp_region_held (S := fun W' => Kept (fun _ => False) Y W') (by kernel_rfl) ?_
      change wpAnyH _ _ _ _ _ _ _ _ (World.drew _)
      refine wpAnyH_take (i := 0) (v := .agg (bw (blk ws k))) rfl (by kernel_rfl) (by kernel_rfl) (by kernel_rfl) (fun _ _ _ h => h) (Or.inl ⟨by rfl, fun W hW => ?_⟩) S0 ?_
      · exact exec_load_rowD rfl rfl (hW.heap bY (fun f => f)) Tryd.underlying73 size_block
      refine wpAnyH_take (i := 1) (v := .pointer (some ⟨p, 0, none⟩)) rfl (by kernel_rfl) (by kernel_rfl) (by kernel_rfl) (fun _ _ _ h => h) (Or.inl ⟨by rfl, fun W hW => ?_⟩) S0 ?_
      · go_simp
      refine wpAnyH_take (i := 2) (v := .int .i64 k) rfl (by kernel_rfl) (by kernel_rfl) (by kernel_rfl) (fun _ _ _ h => h) (Or.inl ⟨by rfl, fun W hW => ?_⟩) S0 ?_
      · go_simp
      refine wpAnyH_all (rs := [3, 5]) (by kernel_rfl) (by simp) ?_
      intro i hi
      rcases (show i = 3 ∨ i = 5 by simpa using hi) with rfl | rfl
      · -- width first
        have W1 := hideD (WD.out _ S0)
        unfold wpOp
        go_simp
        first | refine W1.out.mono ?_ | refine Or.inl (W1.out.mono ?_)
        rintro r W5 ⟨rfl, rfl⟩
        refine ⟨S0, ?_⟩
        refine wpAnyH_all (rs := [4, 5]) (by kernel_rfl) (by simp) ?_
        intro i hi
        rcases (show i = 4 ∨ i = 5 by simpa using hi) with rfl | rfl
        · -- encode, then alloc
          have E1 := hideD (EN.out _ S0)
          unfold wpOp
          go_simp
          first | refine E1.out.mono ?_ | refine Or.inl (E1.out.mono ?_)
          rintro r W6 ⟨C, rfl, GV, K6, K56⟩
          refine ⟨K6.out, ?_⟩
          refine wpAnyH_all (rs := [5]) (by kernel_rfl) (by simp) ?_
          intro i hi
          obtain rfl : i = 5 := by simpa using hi
          unfold wpOp
          go_simp
          rw [show (#[Value.int .u8 0, .int .u8 0, .int .u8 0, .int .u8 0, .int .u8 0, .int .u8 0, .int .u8 0, .int .u8 0, .int .u8 0, .int .u8 0, .int .u8 0, .int .u8 0, .int .u8 0, .int .u8 0, .int .u8 0, .int .u8 0, .int .u8 0, .int .u8 0, .int .u8 0, .int .u8 0, .int .u8 0, .int .u8 0, .int .u8 0, .int .u8 0, .int .u8 0, .int .u8 0, .int .u8 0, .int .u8 0, .int .u8 0, .int .u8 0, .int .u8 0, .int .u8 0, .int .u8 0, .int .i64 0] : Array Value) = zE from rfl]
          have gX0 := heap_alloc_new W6 (.cells zE 81)
          obtain ⟨X, hX⟩ : ∃ X, X = (W6.alloc (.cells zE 81)) := ⟨_, rfl⟩
          have gX : X.heap[W6.heap.size]? = some (.cells zE 81 (0, 0)) := by rw [hX]; exact gX0
          have sX : Kept (fun _ => False) Y X := by rw [hX]; exact (K6.out.trans (Kept.alloc _ _) (fun _ f => f.elim))
          rw [← hX]
          clear hX gX0
          first | refine ⟨sX, ?_⟩ | refine Or.inl ⟨sX, ?_⟩
          refine wpAnyH_all (rs := [6]) (by kernel_rfl) (by simp) ?_
          intro i hi
          obtain rfl : i = 6 := by simpa using hi
          unfold wpOp
          have hz : (Tryd.prog.info? 81).map (·.size) = some C.size := by rw [GV.out.1]; exact size_ec
          have hz2 : zE.size = C.size := by rw [GV.out.1]; rfl
          have hz3 := GV.out.all
          refine Or.inl ?_
          refine wp_store_row 81 _ _ rfl W6.heap.size C rfl rfl 81 zE gX hz hz2 hz3 ?_
          obtain ⟨g, hg⟩ : ∃ g, g = W6.heap.size := ⟨_, rfl⟩
          have gle : Y.heap.size ≤ g := by rw [hg]; exact K6.out.size
          obtain ⟨Z, hZ⟩ : ∃ Z, Z = X.setRow W6.heap.size C := ⟨_, rfl⟩
          have gZ : Z.heap[g]? = some (.cells C 81 (0, 0)) := by rw [hZ, hg]; exact setRow_heap _ _ _ _ _ _ gX
          have sZ : Kept (fun _ => False) Y Z := by rw [hZ]; exact sX.trans (kept_setRow _ _ _) (fun i hi => .inr (Nat.le_trans gle (Nat.le_of_eq (hg.trans (Eq.symm hi)))))
          rw [← hZ, ← hg]
          clear hZ hg
          refine ⟨sZ, wpAnyH_done (by kernel_rfl) ?_ _⟩
          have HGV := GV
          have hLe := GV.out.2.2.2.2
          obtain ⟨l, hl⟩ : ∃ l, l = encJ ws n k := ⟨_, rfl⟩
          obtain ⟨m, hm⟩ : ∃ m, m = (encB (cutB (blk ws k)) wd).length := ⟨_, rfl⟩
          have hml : l.length = m := by rw [hl, hm]; unfold encJ; rw [List.length_map, HWD.out]
          have q33 : Z.cell? ⟨g, 33, none⟩ = some (.int .i64 (m : Nat)) := (cell_of_row _ _ _ _ _ _ gZ).trans (by rw [hm]; exact GV.out.2.1)
          have hBy : BytesAt Z (some ⟨g, 0, none⟩) l := by rw [hl]; unfold encJ; rw [← HWD.out]; exact ec_bytes gZ GV.out
          have QZ := (HQ.out.same HKY.out).same sZ
          have hU := HL.out
          have hul : (uvb n).length ≤ 10 := by rw [uvb_length]; exact (ulen_le n (by omega)).2
          have RW := raw_any bw0 v (uvb n ++ encU ws n k) l (some ⟨g, 0, none⟩) 33 Z QZ.wr hBy (fun e => (by cases e)) (by rw [List.length_append, hml]; omega)
          rw [hml] at RW
          have HRW := hideD RW
          have HQZ := hideD QZ
          have hm33 : m ≤ 33 := by rw [hm]; exact hLe
          have HLL := hideD (And.intro hl hml)
          have hsl := slice33 g m hm33 Z
          clear RW QZ hBy hl hml hm hLe gZ sZ S0 hU hul
          go_wp2_with (go_at_call 43; refine HRW.out.mono ?_; rintro e W9 ⟨rfl, v9, R9, S9⟩; have HR9 := hideD (HQZ.out.step R9 S9); clear R9 S9)
          go_round
          case rel =>
            refine ⟨k + 1, v9, by omega, by go_num, hideD ?_, hideD ?_⟩
            · rw [encU_succ, ← List.append_assoc, ← HLL.out.1]; exact HR9.out
            · rw [encU_succ, List.length_append, ← HLL.out.1, HLL.out.2]; have := HL.out; omega
          case measure => simp [intOf]; omega
        · -- alloc, then encode
          unfold wpOp
          go_simp
          rw [show (#[Value.int .u8 0, .int .u8 0, .int .u8 0, .int .u8 0, .int .u8 0, .int .u8 0, .int .u8 0, .int .u8 0, .int .u8 0, .int .u8 0, .int .u8 0, .int .u8 0, .int .u8 0, .int .u8 0, .int .u8 0, .int .u8 0, .int .u8 0, .int .u8 0, .int .u8 0, .int .u8 0, .int .u8 0, .int .u8 0, .int .u8 0, .int .u8 0, .int .u8 0, .int .u8 0, .int .u8 0, .int .u8 0, .int .u8 0, .int .u8 0, .int .u8 0, .int .u8 0, .int .u8 0, .int .i64 0] : Array Value) = zE from rfl]
          have gX0 := heap_alloc_new Y (.cells zE 81)
          obtain ⟨X, hX⟩ : ∃ X, X = (Y.alloc (.cells zE 81)).drew := ⟨_, rfl⟩
          have gX : X.heap[Y.heap.size]? = some (.cells zE 81 (0, 0)) := by rw [hX]; exact gX0
          have sX : Kept (fun _ => False) Y X := by rw [hX]; exact ((Kept.alloc _ _).trans (Kept.drew _) (fun _ f => f.elim))
          rw [← hX]
          clear hX gX0
          first | refine ⟨sX, ?_⟩ | refine Or.inl ⟨sX, ?_⟩
          refine wpAnyH_all (rs := [4]) (by kernel_rfl) (by simp) ?_
          intro i hi
          obtain rfl : i = 4 := by simpa using hi
          have E1 := hideD (EN.out _ sX)
          unfold wpOp
          go_simp
          first | refine E1.out.mono ?_ | refine Or.inl (E1.out.mono ?_)
          rintro r W6 ⟨C, rfl, GV, K6, K56⟩
          refine ⟨K6.out, ?_⟩
          refine wpAnyH_all (rs := [6]) (by kernel_rfl) (by simp) ?_
          intro i hi
          obtain rfl : i = 6 := by simpa using hi
          unfold wpOp
          have hz : (Tryd.prog.info? 81).map (·.size) = some C.size := by rw [GV.out.1]; exact size_ec
          have hz2 : zE.size = C.size := by rw [GV.out.1]; rfl
          have hz3 := GV.out.all
          refine Or.inl ?_
          refine wp_store_row 81 _ _ rfl Y.heap.size C rfl rfl 81 zE (K56.out.heap gX (fun f => f)) hz hz2 hz3 ?_
          obtain ⟨g, hg⟩ : ∃ g, g = Y.heap.size := ⟨_, rfl⟩
          have gle : Y.heap.size ≤ g := by rw [hg]; exact Nat.le_refl _
          obtain ⟨Z, hZ⟩ : ∃ Z, Z = W6.setRow Y.heap.size C := ⟨_, rfl⟩
          have gZ : Z.heap[g]? = some (.cells C 81 (0, 0)) := by rw [hZ, hg]; exact setRow_heap _ _ _ _ _ _ (K56.out.heap gX (fun f => f))
          have sZ : Kept (fun _ => False) Y Z := by rw [hZ]; exact K6.out.trans (kept_setRow _ _ _) (fun i hi => .inr (Nat.le_trans gle (Nat.le_of_eq (hg.trans (Eq.symm hi)))))
          rw [← hZ, ← hg]
          clear hZ hg
          refine ⟨sZ, wpAnyH_done (by kernel_rfl) ?_ _⟩
          have HGV := GV
          have hLe := GV.out.2.2.2.2
          obtain ⟨l, hl⟩ : ∃ l, l = encJ ws n k := ⟨_, rfl⟩
          obtain ⟨m, hm⟩ : ∃ m, m = (encB (cutB (blk ws k)) wd).length := ⟨_, rfl⟩
          have hml : l.length = m := by rw [hl, hm]; unfold encJ; rw [List.length_map, HWD.out]
          have q33 : Z.cell? ⟨g, 33, none⟩ = some (.int .i64 (m : Nat)) := (cell_of_row _ _ _ _ _ _ gZ).trans (by rw [hm]; exact GV.out.2.1)
          have hBy : BytesAt Z (some ⟨g, 0, none⟩) l := by rw [hl]; unfold encJ; rw [← HWD.out]; exact ec_bytes gZ GV.out
          have QZ := (HQ.out.same HKY.out).same sZ
          have hU := HL.out
          have hul : (uvb n).length ≤ 10 := by rw [uvb_length]; exact (ulen_le n (by omega)).2
          have RW := raw_any bw0 v (uvb n ++ encU ws n k) l (some ⟨g, 0, none⟩) 33 Z QZ.wr hBy (fun e => (by cases e)) (by rw [List.length_append, hml]; omega)
          rw [hml] at RW
          have HRW := hideD RW
          have HQZ := hideD QZ
          have hm33 : m ≤ 33 := by rw [hm]; exact hLe
          have HLL := hideD (And.intro hl hml)
          have hsl := slice33 g m hm33 Z
          clear RW QZ hBy hl hml hm hLe gZ sZ S0 hU hul
          go_wp2_with (go_at_call 43; refine HRW.out.mono ?_; rintro e W9 ⟨rfl, v9, R9, S9⟩; have HR9 := hideD (HQZ.out.step R9 S9); clear R9 S9)
          go_round
          case rel =>
            refine ⟨k + 1, v9, by omega, by go_num, hideD ?_, hideD ?_⟩
            · rw [encU_succ, ← List.append_assoc, ← HLL.out.1]; exact HR9.out
            · rw [encU_succ, List.length_append, ← HLL.out.1, HLL.out.2]; have := HL.out; omega
          case measure => simp [intOf]; omega
      · -- alloc first
        unfold wpOp
        go_simp
        rw [show (#[Value.int .u8 0, .int .u8 0, .int .u8 0, .int .u8 0, .int .u8 0, .int .u8 0, .int .u8 0, .int .u8 0, .int .u8 0, .int .u8 0, .int .u8 0, .int .u8 0, .int .u8 0, .int .u8 0, .int .u8 0, .int .u8 0, .int .u8 0, .int .u8 0, .int .u8 0, .int .u8 0, .int .u8 0, .int .u8 0, .int .u8 0, .int .u8 0, .int .u8 0, .int .u8 0, .int .u8 0, .int .u8 0, .int .u8 0, .int .u8 0, .int .u8 0, .int .u8 0, .int .u8 0, .int .i64 0] : Array Value) = zE from rfl]
        have gX0 := heap_alloc_new Y (.cells zE 81)
        obtain ⟨X, hX⟩ : ∃ X, X = (Y.alloc (.cells zE 81)).drew := ⟨_, rfl⟩
        have gX : X.heap[Y.heap.size]? = some (.cells zE 81 (0, 0)) := by rw [hX]; exact gX0
        have sX : Kept (fun _ => False) Y X := by rw [hX]; exact ((Kept.alloc _ _).trans (Kept.drew _) (fun _ f => f.elim))
        rw [← hX]
        clear hX gX0
        first | refine ⟨sX, ?_⟩ | refine Or.inl ⟨sX, ?_⟩
        refine wpAnyH_all (rs := [3]) (by kernel_rfl) (by simp) ?_
        intro i hi
        obtain rfl : i = 3 := by simpa using hi
        have W1 := hideD (WD.out _ sX)
        unfold wpOp
        go_simp
        first | refine W1.out.mono ?_ | refine Or.inl (W1.out.mono ?_)
        rintro r W5 ⟨rfl, rfl⟩
        refine ⟨sX, ?_⟩
        refine wpAnyH_all (rs := [4]) (by kernel_rfl) (by simp) ?_
        intro i hi
        obtain rfl : i = 4 := by simpa using hi
        have E1 := hideD (EN.out _ sX)
        unfold wpOp
        go_simp
        first | refine E1.out.mono ?_ | refine Or.inl (E1.out.mono ?_)
        rintro r W6 ⟨C, rfl, GV, K6, K56⟩
        refine ⟨K6.out, ?_⟩
        refine wpAnyH_all (rs := [6]) (by kernel_rfl) (by simp) ?_
        intro i hi
        obtain rfl : i = 6 := by simpa using hi
        unfold wpOp
        have hz : (Tryd.prog.info? 81).map (·.size) = some C.size := by rw [GV.out.1]; exact size_ec
        have hz2 : zE.size = C.size := by rw [GV.out.1]; rfl
        have hz3 := GV.out.all
        refine Or.inl ?_
        refine wp_store_row 81 _ _ rfl Y.heap.size C rfl rfl 81 zE (K56.out.heap gX (fun f => f)) hz hz2 hz3 ?_
        obtain ⟨g, hg⟩ : ∃ g, g = Y.heap.size := ⟨_, rfl⟩
        have gle : Y.heap.size ≤ g := by rw [hg]; exact Nat.le_refl _
        obtain ⟨Z, hZ⟩ : ∃ Z, Z = W6.setRow Y.heap.size C := ⟨_, rfl⟩
        have gZ : Z.heap[g]? = some (.cells C 81 (0, 0)) := by rw [hZ, hg]; exact setRow_heap _ _ _ _ _ _ (K56.out.heap gX (fun f => f))
        have sZ : Kept (fun _ => False) Y Z := by rw [hZ]; exact K6.out.trans (kept_setRow _ _ _) (fun i hi => .inr (Nat.le_trans gle (Nat.le_of_eq (hg.trans (Eq.symm hi)))))
        rw [← hZ, ← hg]
        clear hZ hg
        refine ⟨sZ, wpAnyH_done (by kernel_rfl) ?_ _⟩
        have HGV := GV
        have hLe := GV.out.2.2.2.2
        obtain ⟨l, hl⟩ : ∃ l, l = encJ ws n k := ⟨_, rfl⟩
        obtain ⟨m, hm⟩ : ∃ m, m = (encB (cutB (blk ws k)) wd).length := ⟨_, rfl⟩
        have hml : l.length = m := by rw [hl, hm]; unfold encJ; rw [List.length_map, HWD.out]
        have q33 : Z.cell? ⟨g, 33, none⟩ = some (.int .i64 (m : Nat)) := (cell_of_row _ _ _ _ _ _ gZ).trans (by rw [hm]; exact GV.out.2.1)
        have hBy : BytesAt Z (some ⟨g, 0, none⟩) l := by rw [hl]; unfold encJ; rw [← HWD.out]; exact ec_bytes gZ GV.out
        have QZ := (HQ.out.same HKY.out).same sZ
        have hU := HL.out
        have hul : (uvb n).length ≤ 10 := by rw [uvb_length]; exact (ulen_le n (by omega)).2
        have RW := raw_any bw0 v (uvb n ++ encU ws n k) l (some ⟨g, 0, none⟩) 33 Z QZ.wr hBy (fun e => (by cases e)) (by rw [List.length_append, hml]; omega)
        rw [hml] at RW
        have HRW := hideD RW
        have HQZ := hideD QZ
        have hm33 : m ≤ 33 := by rw [hm]; exact hLe
        have HLL := hideD (And.intro hl hml)
        have hsl := slice33 g m hm33 Z
        clear RW QZ hBy hl hml hm hLe gZ sZ S0 hU hul
        go_wp2_with (go_at_call 43; refine HRW.out.mono ?_; rintro e W9 ⟨rfl, v9, R9, S9⟩; have HR9 := hideD (HQZ.out.step R9 S9); clear R9 S9)
        go_round
        case rel =>
          refine ⟨k + 1, v9, by omega, by go_num, hideD ?_, hideD ?_⟩
          · rw [encU_succ, ← List.append_assoc, ← HLL.out.1]; exact HR9.out
          · rw [encU_succ, List.length_append, ← HLL.out.1, HLL.out.2]; have := HL.out; omega
        case measure => simp [intOf]; omega
    · obtain rfl : k = nb := by omega
      have e : uvb n ++ encU ws n k = encS n ws := by unfold encS; rw [← HNB.out]
      have hlen : (encS n ws).length ≤ 140737488355328 := by
        have h1 : (uvb n).length ≤ 10 := by rw [uvb_length]; exact (ulen_le n (by omega)).2
        have := HL.out
        rw [← e, List.length_append]; omega
      have BY := hideD (show Calls Tryd.prog 44 #[.pointer (some ⟨bw0, 0, none⟩)] wr fun e W' => e = .returned (.slice (some ⟨wr.heap.size, 0, none⟩) (encS n ws).length (encS n ws).length) ∧ Hid (w.heap.size ≤ wr.heap.size ∧ W'.ownsRow w.heap.size 5 1 (.slice (some ⟨wr.heap.size, 0, none⟩) (encS n ws).length (encS n ws).length) (encS n ws).length (bs (encS n ws)) ∧ Kept (fun _ => False) w W') from by
        have q := HQ.out
        rw [e] at q
        refine (bytes_any bw0 v _ wr q.wr hlen).mono ?_
        rintro e W' ⟨rfl, h1, h2⟩
        refine ⟨rfl, q.kept.size, ⟨h1.1, ?_⟩, q.kept.trans h2 (fun _ f => f.elim)⟩
        rcases h1.2 with hn | ⟨g, cap, cur, e1, hb, rest⟩
        · exact .inl hn
        · exact .inr ⟨g, cap, cur, e1, Nat.le_trans q.kept.size hb, rest⟩)
      obtain ⟨E, hE⟩ : ∃ E, E = (encS n ws).length := ⟨_, rfl⟩
      rw [← hE] at BY
      have HEE := hideD hE
      clear hE e hlen hlt hk
      go_wp2_with (go_at_call 44; refine BY.out.mono ?_; rintro e W9 ⟨rfl, H9⟩)
      go_ret
      obtain ⟨h1, h2, h3⟩ := H9.out
      rw [← HEE.out]
      exact ⟨wr.heap.size, rfl, h1, h2, h3⟩
end Go.Proofs.YtcbhgpdookappaaDoor.Ds
