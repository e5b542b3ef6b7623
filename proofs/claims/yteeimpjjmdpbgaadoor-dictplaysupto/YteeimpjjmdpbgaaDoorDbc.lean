import Derived.Test.YteeimpjjmdpbgaaDoorDbb
namespace Go.Proofs.YteeimpjjmdpbgaaDoor
open Go.ChangeShapes Go.WideShapes Go.ChangeAt Go.RowKit

def n4b (d t p s : Nat) : Nat → List Int
  | 0 => []
  | 1 => uvb d
  | 2 => uvb d ++ uvb t
  | 3 => (uvb d ++ uvb t) ++ uvb p
  | _ => ((uvb d ++ uvb t) ++ uvb p) ++ uvb s
theorem uvb_le10 (n : Nat) (h : n < 18446744073709551616) : (uvb n).length ≤ 10 := by
  rw [uvb_length]
  exact (ulen_le n h).2
theorem sb_ext (k : ByteArray) (s : Nat) : sb (k.extract s k.size) = (sb k).drop s := by
  have e : (k.extract s k.size).data.toList = k.data.toList.drop s := by
    have hk := bsz k
    simp only [ByteArray.data_extract, Array.toList_extract, List.extract_eq_take_drop]
    rw [List.take_of_length_le (by rw [List.length_drop]; omega)]
  rw [sb, sb, e, List.map_drop]
theorem een_le {b : ByteArray} {e : En} (h : Gen e) : (een b e).length ≤ 125 := by
  have h1 := h.k2
  have h2 := h.d
  have h3 := h.t
  have h4 := h.p
  have h5 := h.s
  have hs := (shr_le b.data.toList e.k.data.toList).2
  rw [bsz] at hs
  unfold een
  simp only [List.length_append, List.length_drop, sb_length]
  have a1 := uvb_le10 (shr b.data.toList e.k.data.toList) (by omega)
  have a2 := uvb_le10 (e.k.size - shr b.data.toList e.k.data.toList) (by omega)
  have a3 := uvb_le10 e.d.toNat (by omega)
  have a4 := uvb_le10 e.t.toNat (by omega)
  have a5 := uvb_le10 e.p.toNat (by omega)
  have a6 := uvb_le10 e.s.toNat (by omega)
  omega
theorem ebl_le : ∀ {F : List En} {b : ByteArray}, (∀ e ∈ F, Gen e) → (ebl b F).length ≤ 125 * F.length
  | [], _, _ => by simp [ebl]
  | e :: r, b, h => by
    have h1 := een_le (b := b) (h e List.mem_cons_self)
    have h2 := ebl_le (F := r) (b := e.k) (fun x hx => h x (List.mem_cons_of_mem _ hx))
    rw [ebl, List.length_append, List.length_cons]
    omega
theorem lastk_size {F : List En} (h : ∀ e ∈ F, Gen e) : (lastk ByteArray.empty F).size ≤ 65 := by
  match hF : F.length with
  | 0 =>
    have : F = [] := List.eq_nil_of_length_eq_zero hF
    subst this
    decide
  | n + 1 =>
    rw [lastk_get _ F n hF]
    exact (h _ (List.getElem_mem _)).k2
theorem ebl_step {l : List En} {j : Nat} (hj : j < l.length) : ebl ByteArray.empty (l.take (j + 1)) = ebl ByteArray.empty (l.take j) ++ een (lastk ByteArray.empty (l.take j)) l[j] ∧ lastk ByteArray.empty (l.take (j + 1)) = (l[j]).k := by
  rw [List.take_succ_eq_append_getElem hj]
  exact ⟨ebl_snoc _ _ _, lastk_snoc _ _ _⟩
set_option maxRecDepth 20000 in
set_option maxHeartbeats 8000000 in
theorem putBlock_any (bw B0 : Nat) (v : Value) (xs : List Int) (l : List En) (a : Option Addr) (c : Nat) (w : World) (hW : Wr w bw v xs) (hE : EsAt w a l) (hg : ∀ e ∈ l, Gen e) (hl : l.length ≤ 16) (hx : xs.length ≤ 70368744177664)
    (ha : ∀ b off, a = some ⟨b, off, none⟩ → b < B0) (hb : B0 ≤ bw) (hv : ∀ k, v.ownBlock = some k → B0 ≤ k) :
    Calls Tryd.prog 40 #[.pointer (some ⟨bw, 0, none⟩), .slice a l.length c] w fun e w' => e = .returned (.tuple #[]) ∧ ∃ v', Wr w' bw v' (xs ++ ebl ByteArray.empty l) ∧ WStep w w' bw v v' := by
  have HW := hideQ hW
  have HE := hideQ hE
  have HG := hideQ hg
  have HA := hideQ ha
  have HV := hideQ hv
  obtain ⟨nl, hnl⟩ : ∃ nl, nl = l.length := ⟨_, rfl⟩
  rw [← hnl] at hl ⊢
  have HNL := hideQ hnl
  clear hW hE hg ha hv hnl
  go_enter Tryd.func40, Tryd.ntmps40
  go_wp2
  go_loopw [4, 12] (fun v4 v12 wr => ∃ (j : Nat) (v' : Value), j ≤ nl ∧ v12 = .int .i64 j ∧ v4 = .string (lastk ByteArray.empty (l.take j)) ∧ Hid (Wr wr bw v' (xs ++ ebl ByteArray.empty (l.take j))) ∧ Hid (WStep w wr bw v v')) (fun _ v12 _ => nl - (intOf v12).toNat)
  case atStart => exact ⟨0, v, by omega, rfl, rfl, hideQ (by simpa [ebl] using HW.out), hideQ (WStep.refl _ _ _)⟩
  case round =>
    obtain ⟨j, v', hj, rfl, rfl, HWr, HSr⟩ := hrel
    clear HW
    by_cases hlt : j < nl
    · have hjj : (j : Int) < (nl : Int) := by omega
      have hjl : j < l.length := by rw [← HNL.out]; exact hlt
      obtain ⟨b, off, rfl, hc⟩ := HE.out (by intro e; rw [e] at hjl; simp at hjl)
      have hbB := HA.out b off rfl
      have hnF : ¬ WF bw v b := by
        intro f
        rcases f with f | f
        · omega
        · have := HV.out b f; omega
      obtain ⟨x0, x1, x2, x3, x4⟩ := hc j hjl
      replace x0 := HSr.out.kept.cell x0 hnF
      replace x1 := HSr.out.kept.cell x1 hnF
      replace x2 := HSr.out.kept.cell x2 hnF
      replace x3 := HSr.out.kept.cell x3 hnF
      replace x4 := HSr.out.kept.cell x4 hnF
      have HGe := hideQ (HG.out _ (List.getElem_mem hjl))
      have HSt := hideQ (ebl_step hjl)
      have HBl : Hid ((xs ++ ebl ByteArray.empty (l.take j)).length ≤ xs.length + 2000) := hideQ (by
        have h8 := ebl_le (F := l.take j) (b := ByteArray.empty) (fun e he => HG.out e (List.mem_of_mem_take he))
        have h9 : (l.take j).length ≤ 16 := by rw [List.length_take]; omega
        rw [List.length_append]
        omega)
      have hks : (lastk ByteArray.empty (l.take j)).size ≤ 65 := lastk_size (fun e he => HG.out e (List.mem_of_mem_take he))
      generalize l[j] = en at *
      obtain ⟨k, d0, t0, p0, s0⟩ := en
      obtain ⟨g1, g2, g3, g4, g5, g6⟩ := HGe.out
      simp only at g1 g2 g3 g4 g5 g6 x0 x1 x2 x3 x4
      obtain ⟨d, rfl⟩ : ∃ d : Nat, d0 = d := ⟨d0.toNat, by omega⟩
      obtain ⟨t, rfl⟩ : ∃ t : Nat, t0 = t := ⟨t0.toNat, by omega⟩
      obtain ⟨p, rfl⟩ : ∃ p : Nat, p0 = p := ⟨p0.toNat, by omega⟩
      obtain ⟨s, rfl⟩ : ∃ s : Nat, s0 = s := ⟨s0.toNat, by omega⟩
      clear HGe hc hjl hnF
      generalize lastk ByteArray.empty (l.take j) = bf at *
      obtain ⟨sh, hsh⟩ : ∃ sh, sh = shr bf.data.toList k.data.toList := ⟨_, rfl⟩
      have hsk : sh ≤ k.size := by
        have := (shr_le bf.data.toList k.data.toList).2
        rw [bsz] at this
        omega
      have HEe : Hid (een bf ⟨k, d, t, p, s⟩ = uvb sh ++ ((uvb (k.extract sh k.size).size ++ sb (k.extract sh k.size)) ++ n4b d t p s 4)) := hideQ (by
        rw [een, ← hsh, sb_ext, ByteArray.size_extract]
        simp [n4b, List.append_assoc])
      have hxs : (k.extract sh k.size).size ≤ 65 := by rw [ByteArray.size_extract]; omega
      have CS := fun w => hideQ (shared_any bf k w (by omega))
      rw [← hsh] at CS
      have CN := fun w => hideQ (numbersOf_any k (d : Int) (t : Int) (p : Int) (s : Int) w)
      clear hsh
      have HKx := hideQ (Kept.alloc wr (.cells #[.string k, .int .i64 (d : Int), .int .i64 (t : Int), .int .i64 (p : Int), .int .i64 (s : Int)] 62))
      have HXx := hideQ (enO_new wr k (d : Int) (t : Int) (p : Int) (s : Int))
      have HBx := hideQ (HWr.out.kept HKx.out (fun _ _ f => f))
      have hbxl : bw < wr.heap.size := HWr.out.lt
      have HNB : Hid (∀ k, v'.ownBlock = some k → ¬ k = wr.heap.size) := hideQ (fun k hk e => by have := (HWr.out.own.lt _ hk).2; omega)
      have HSx : Hid (WStep w (wr.alloc (.cells #[.string k, .int .i64 (d : Int), .int .i64 (t : Int), .int .i64 (p : Int), .int .i64 (s : Int)] 62)) bw v v') := hideQ (HSr.out.trans ⟨HKx.out.mono (fun _ f => f.elim), fun _ h => .inl h⟩)
      go_wp2_with fail
      generalize wr.heap.size = bx at *
      generalize wr.alloc (.cells #[.string k, .int .i64 (d : Int), .int .i64 (t : Int), .int .i64 (p : Int), .int .i64 (s : Int)] 62) = W0 at *
      clear HKx HSr HWr x0 x1 x2 x3 x4
      go_at_call 57
      refine (CS _).out.mono ?_
      rintro e W1 ⟨rfl, K1⟩
      have HW1 := hideQ (HBx.out.kept K1 (fun _ _ f => f))
      have HS1 : Hid (WStep w W1 bw v v') := hideQ (HSx.out.trans ⟨K1.mono (fun _ f => f.elim), fun _ h => .inl h⟩)
      have HX1 := hideQ (K1.heap HXx.out (fun f => f))
      have hbx1 : bx < W1.heap.size := lt_of_block HX1.out
      clear K1 CS HBx HSx HXx
      go_wp2_with fail
      go_at_call 38
      refine (wuv_any bw _ _ sh _ HW1.out (by omega) (by have := HBl.out; omega)).mono ?_
      rintro e W2 ⟨rfl, v2, hW2, S2⟩
      have HW2 := hideQ hW2
      have HS2 := hideQ (HS1.out.trans S2)
      have HX2 := hideQ (S2.kept.heap HX1.out (fun f => by
        rcases f with f | f
        · omega
        · exact HNB.out _ f rfl))
      have HNB2 : Hid (∀ k, v2.ownBlock = some k → ¬ k = bx) := hideQ (fun k hk e => by
        rcases S2.new k hk with f | f
        · exact HNB.out k f e
        · omega)
      have HL2 : Hid ((xs ++ ebl ByteArray.empty (l.take j) ++ uvb sh).length ≤ xs.length + 2010) := hideQ (by
        rw [List.length_append]
        have h8 := HBl.out
        have h9 := uvb_le10 sh (by omega)
        omega)
      have hs2 : bx < W2.heap.size := lt_of_block HX2.out
      clear hW2 S2 HW1 HS1 HX1 HNB HBl
      obtain ⟨⟨y0, y1, y2, y3, y4⟩, -⟩ := enO_cells HX2.out
      go_wp2_with fail
      go_at_call 58
      refine (text_any bw _ _ (k.extract sh k.size) _ HW2.out (by have := HL2.out; omega)).mono ?_
      rintro e W3 ⟨rfl, v3, hW3, S3⟩
      have HW3 := hideQ hW3
      have HS3 := hideQ (HS2.out.trans S3)
      have HX3 := hideQ (S3.kept.heap HX2.out (fun f => by
        rcases f with f | f
        · omega
        · exact HNB2.out _ f rfl))
      have HNB3 : Hid (∀ k, v3.ownBlock = some k → ¬ k = bx) := hideQ (fun k hk e => by
        rcases S3.new k hk with f | f
        · exact HNB2.out k f e
        · omega)
      have HL3 : Hid ((xs ++ ebl ByteArray.empty (l.take j) ++ uvb sh ++ (uvb (k.extract sh k.size).size ++ sb (k.extract sh k.size))).length ≤ xs.length + 2100) := hideQ (by
        have h8 := HL2.out
        have h9 := uvb_le10 (k.extract sh k.size).size (by omega)
        have h7 : (uvb (k.extract sh k.size).size ++ sb (k.extract sh k.size)).length ≤ 80 := by rw [List.length_append, sb_length]; omega
        rw [List.length_append]
        omega)
      clear hW3 S3 HW2 HS2 HX2 HNB2 HL2 y0 y1 y2 y3 y4 hs2 hbx1
      obtain ⟨⟨y0, y1, y2, y3, y4⟩, -⟩ := enO_cells HX3.out
      go_wp2_with (go_at_call 36; refine (CN _).out.mono ?_; rintro e W4 ⟨rfl, K4⟩; unfold n4V)
      have HW4 := hideQ (HW3.out.kept K4 (fun _ _ f => f))
      have HS4 : Hid (WStep w W4 bw v v3) := hideQ (HS3.out.trans ⟨K4.mono (fun _ f => f.elim), fun _ h => .inl h⟩)
      have HX4 := hideQ (K4.heap HX3.out (fun f => f))
      clear K4 CN HW3 HS3 HX3 y0 y1 y2 y3 y4
      generalize hA : xs ++ ebl ByteArray.empty (l.take j) ++ uvb sh ++ (uvb (k.extract sh k.size).size ++ sb (k.extract sh k.size)) = A at *
      have HAA := hideQ hA
      clear hA
      go_loopw [32] (fun v32 wr => ∃ (i : Nat) (vi : Value), i ≤ 4 ∧ v32 = .int .i64 i ∧ Hid (Wr wr bw vi (A ++ n4b d t p s i)) ∧ Hid (WStep w wr bw v vi) ∧ Hid (wr.heap[bx]? = some (enO k (d : Int) (t : Int) (p : Int) (s : Int))) ∧ Hid ((A ++ n4b d t p s i).length ≤ xs.length + 2100 + 10 * i) ∧ Hid (∀ k, vi.ownBlock = some k → ¬ k = bx)) (fun v32 _ => 4 - (intOf v32).toNat)
      case atStart => exact ⟨0, v3, by omega, rfl, hideQ (by simpa [n4b] using HW4.out), HS4, HX4, hideQ (by simpa [n4b] using HL3.out), HNB3⟩
      case round =>
        obtain ⟨i, vi, hi, rfl, HW5, HS5, HX5, HL5, HN5⟩ := hrel
        clear HW4 HS4 HX4 HL3 HNB3
        have hbx5 : bx < wr.heap.size := lt_of_block HX5.out
        have hnb5 : ¬ WF bw vi bx := fun f => f.elim (fun e => by omega) (fun e => HN5.out _ e rfl)
        obtain rfl | rfl | rfl | rfl | rfl : i = 0 ∨ i = 1 ∨ i = 2 ∨ i = 3 ∨ i = 4 := by omega
        · have hix := idx0 (d : Int) (t : Int) (p : Int) (s : Int)
          have HNx : Hid (n4b d t p s (0 + 1) = n4b d t p s 0 ++ uvb d) := hideQ rfl
          go_wp2_with fail
          go_at_call 38
          refine (wuv_any bw _ _ d _ HW5.out (by omega) (by have := HL5.out; omega)).mono ?_
          rintro e W8 ⟨rfl, v8, hW8, S8⟩
          have HW8 := hideQ hW8
          have HS8 := hideQ (HS5.out.trans S8)
          have HX8 := hideQ (S8.kept.heap HX5.out hnb5)
          have HN8 : Hid (∀ k, v8.ownBlock = some k → ¬ k = bx) := hideQ (fun k hk e => by
            rcases S8.new k hk with f | f
            · exact HN5.out k f e
            · omega)
          clear hW8 S8
          go_wp2
          go_roundw
          case rel => exact ⟨0 + 1, v8, by omega, by go_num, hideQ (by rw [HNx.out, ← List.append_assoc]; exact HW8.out), HS8, HX8, hideQ (by rw [HNx.out, ← List.append_assoc, List.length_append]; have h8 := HL5.out; have h9 := uvb_le10 d (by omega); omega), HN8⟩
          case measure => simp [intOf]
        · have hix := idx1 (d : Int) (t : Int) (p : Int) (s : Int)
          have HNx : Hid (n4b d t p s (1 + 1) = n4b d t p s 1 ++ uvb t) := hideQ rfl
          go_wp2_with fail
          go_at_call 38
          refine (wuv_any bw _ _ t _ HW5.out (by omega) (by have := HL5.out; omega)).mono ?_
          rintro e W8 ⟨rfl, v8, hW8, S8⟩
          have HW8 := hideQ hW8
          have HS8 := hideQ (HS5.out.trans S8)
          have HX8 := hideQ (S8.kept.heap HX5.out hnb5)
          have HN8 : Hid (∀ k, v8.ownBlock = some k → ¬ k = bx) := hideQ (fun k hk e => by
            rcases S8.new k hk with f | f
            · exact HN5.out k f e
            · omega)
          clear hW8 S8
          go_wp2
          go_roundw
          case rel => exact ⟨1 + 1, v8, by omega, by go_num, hideQ (by rw [HNx.out, ← List.append_assoc]; exact HW8.out), HS8, HX8, hideQ (by rw [HNx.out, ← List.append_assoc, List.length_append]; have h8 := HL5.out; have h9 := uvb_le10 t (by omega); omega), HN8⟩
          case measure => simp [intOf]
        · have hix := idx2 (d : Int) (t : Int) (p : Int) (s : Int)
          have HNx : Hid (n4b d t p s (2 + 1) = n4b d t p s 2 ++ uvb p) := hideQ rfl
          go_wp2_with fail
          go_at_call 38
          refine (wuv_any bw _ _ p _ HW5.out (by omega) (by have := HL5.out; omega)).mono ?_
          rintro e W8 ⟨rfl, v8, hW8, S8⟩
          have HW8 := hideQ hW8
          have HS8 := hideQ (HS5.out.trans S8)
          have HX8 := hideQ (S8.kept.heap HX5.out hnb5)
          have HN8 : Hid (∀ k, v8.ownBlock = some k → ¬ k = bx) := hideQ (fun k hk e => by
            rcases S8.new k hk with f | f
            · exact HN5.out k f e
            · omega)
          clear hW8 S8
          go_wp2
          go_roundw
          case rel => exact ⟨2 + 1, v8, by omega, by go_num, hideQ (by rw [HNx.out, ← List.append_assoc]; exact HW8.out), HS8, HX8, hideQ (by rw [HNx.out, ← List.append_assoc, List.length_append]; have h8 := HL5.out; have h9 := uvb_le10 p (by omega); omega), HN8⟩
          case measure => simp [intOf]
        · have hix := idx3 (d : Int) (t : Int) (p : Int) (s : Int)
          have HNx : Hid (n4b d t p s (3 + 1) = n4b d t p s 3 ++ uvb s) := hideQ rfl
          go_wp2_with fail
          go_at_call 38
          refine (wuv_any bw _ _ s _ HW5.out (by omega) (by have := HL5.out; omega)).mono ?_
          rintro e W8 ⟨rfl, v8, hW8, S8⟩
          have HW8 := hideQ hW8
          have HS8 := hideQ (HS5.out.trans S8)
          have HX8 := hideQ (S8.kept.heap HX5.out hnb5)
          have HN8 : Hid (∀ k, v8.ownBlock = some k → ¬ k = bx) := hideQ (fun k hk e => by
            rcases S8.new k hk with f | f
            · exact HN5.out k f e
            · omega)
          clear hW8 S8
          go_wp2
          go_roundw
          case rel => exact ⟨3 + 1, v8, by omega, by go_num, hideQ (by rw [HNx.out, ← List.append_assoc]; exact HW8.out), HS8, HX8, hideQ (by rw [HNx.out, ← List.append_assoc, List.length_append]; have h8 := HL5.out; have h9 := uvb_le10 s (by omega); omega), HN8⟩
          case measure => simp [intOf]
        · obtain ⟨⟨y0, -⟩, -⟩ := enO_cells HX5.out
          go_wp2
          go_roundw
          case rel => exact ⟨j + 1, vi, hlt, by go_num, by rw [HSt.out.2], hideQ (by rw [HSt.out.1, HEe.out, ← List.append_assoc, ← List.append_assoc, ← List.append_assoc, HAA.out]; exact HW5.out), HS5⟩
          case measure => simp [intOf]; omega
    · obtain rfl : j = nl := by omega
      have hT : l.take j = l := List.take_of_length_le (by rw [HNL.out]; exact Nat.le_refl _)
      rw [hT] at HWr
      go_wp2
      go_end0
      exact ⟨rfl, v', HWr.out, HSr.out⟩
end Go.Proofs.YteeimpjjmdpbgaaDoor
