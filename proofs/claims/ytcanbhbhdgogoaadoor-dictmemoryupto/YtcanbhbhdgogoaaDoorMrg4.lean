import Derived.Test.YtcanbhbhdgogoaaDoorDbb
import Derived.Test.YtcanbhbhdgogoaaDoorMrg1
namespace Go.Proofs.YtcanbhbhdgogoaaDoor
open Go.ChangeShapes Go.WideShapes Go.ChangeAt Go.RowKit

def n4b (d t p s : Nat) : Nat → List Int
  | 0 => []
  | 1 => uvb d
  | 2 => uvb d ++ uvb t
  | 3 => (uvb d ++ uvb t) ++ uvb p
  | _ => ((uvb d ++ uvb t) ++ uvb p) ++ uvb s
theorem uvb_le10 (n : Nat) (h : n < 18446744073709551616) : (uvb n).length ≤ 10 := by
  rw [uvb_length]
  exact (ulen_le n h).2
theorem sb_ext (k : ByteArray) (s : Nat) : sb (k.extract s k.size) = (sb k).drop s := by
  have e : (k.extract s k.size).data.toList = k.data.toList.drop s := by
    have hk := bsz k
    simp only [ByteArray.data_extract, Array.toList_extract, List.extract_eq_take_drop]
    rw [List.take_of_length_le (by rw [List.length_drop]; omega)]
  rw [sb, sb, e, List.map_drop]
theorem een_le {b : ByteArray} {e : En} (h : Gen e) : (een b e).length ≤ 125 := by
  have h1 := h.k2
  have h2 := h.d
  have h3 := h.t
  have h4 := h.p
  have h5 := h.s
  have hs := (shr_le b.data.toList e.k.data.toList).2
  rw [bsz] at hs
  unfold een
  simp only [List.length_append, List.length_drop, sb_length]
  have a1 := uvb_le10 (shr b.data.toList e.k.data.toList) (by omega)
  have a2 := uvb_le10 (e.k.size - shr b.data.toList e.k.data.toList) (by omega)
  have a3 := uvb_le10 e.d.toNat (by omega)
  have a4 := uvb_le10 e.t.toNat (by omega)
  have a5 := uvb_le10 e.p.toNat (by omega)
  have a6 := uvb_le10 e.s.toNat (by omega)
  omega
theorem ebl_le : ∀ {F : List En} {b : ByteArray}, (∀ e ∈ F, Gen e) → (ebl b F).length ≤ 125 * F.length
  | [], _, _ => by simp [ebl]
  | e :: r, b, h => by
    have h1 := een_le (b := b) (h e List.mem_cons_self)
    have h2 := ebl_le (F := r) (b := e.k) (fun x hx => h x (List.mem_cons_of_mem _ hx))
    rw [ebl, List.length_append, List.length_cons]
    omega
theorem lastk_size {F : List En} (h : ∀ e ∈ F, Gen e) : (lastk ByteArray.empty F).size ≤ 65 := by
  match hF : F.length with
  | 0 =>
    have : F = [] := List.eq_nil_of_length_eq_zero hF
    subst this
    decide
  | n + 1 =>
    rw [lastk_get _ F n hF]
    exact (h _ (List.getElem_mem _)).k2
theorem ebl_step {l : List En} {j : Nat} (hj : j < l.length) : ebl ByteArray.empty (l.take (j + 1)) = ebl ByteArray.empty (l.take j) ++ een (lastk ByteArray.empty (l.take j)) l[j] ∧ lastk ByteArray.empty (l.take (j + 1)) = (l[j]).k := by
  rw [List.take_succ_eq_append_getElem hj]
  exact ⟨ebl_snoc _ _ _, lastk_snoc _ _ _⟩
set_option maxRecDepth 20000 in
set_option maxHeartbeats 8000000 in
theorem putBlock_any (bw B0 : Nat) (v : Value) (xs : List Int) (l : List En) (a : Option Addr) (c : Nat) (w : World) (hW : Wr w bw v xs) (hE : EsAt w a l) (hg : ∀ e ∈ l, Gen e) (hl : l.length ≤ 16) (hx : xs.length ≤ 70368744177664)
    (ha : ∀ b off, a = some ⟨b, off, none⟩ → b < B0) (hb : B0 ≤ bw) (hv : ∀ k, v.ownBlock = some k → B0 ≤ k) :
    Calls Tryd.prog 46 #[.pointer (some ⟨bw, 0, none⟩), .slice a l.length c] w fun e w' => e = .returned (.tuple #[]) ∧ ∃ v', Wr w' bw v' (xs ++ ebl ByteArray.empty l) ∧ WStep w w' bw v v' := by
  have HW := hideQ hW
  have HE := hideQ hE
  have HG := hideQ hg
  have HA := hideQ ha
  have HV := hideQ hv
  obtain ⟨nl, hnl⟩ : ∃ nl, nl = l.length := ⟨_, rfl⟩
  rw [← hnl] at hl ⊢
  have HNL := hideQ hnl
  clear hW hE hg ha hv hnl
  go_enter Tryd.func46, Tryd.ntmps46
  go_wp2
  go_loopw [4, 12] (fun v4 v12 wr => ∃ (j : Nat) (v' : Value), j ≤ nl ∧ v12 = .int .i64 j ∧ v4 = .string (lastk ByteArray.empty (l.take j)) ∧ Hid (Wr wr bw v' (xs ++ ebl ByteArray.empty (l.take j))) ∧ Hid (WStep w wr bw v v')) (fun _ v12 _ => nl - (intOf v12).toNat)
  case atStart => exact ⟨0, v, by omega, rfl, rfl, hideQ (by simpa [ebl] using HW.out), hideQ (WStep.refl _ _ _)⟩
  case round =>
    obtain ⟨j, v', hj, rfl, rfl, HWr, HSr⟩ := hrel
    clear HW
    by_cases hlt : j < nl
    · have hjj : (j : Int) < (nl : Int) := by omega
      have hjl : j < l.length := by rw [← HNL.out]; exact hlt
      obtain ⟨b, off, rfl, hc⟩ := HE.out (by intro e; rw [e] at hjl; simp at hjl)
      have hbB := HA.out b off rfl
      have hnF : ¬ WF bw v b := by
        intro f
        rcases f with f | f
        · omega
        · have := HV.out b f; omega
      obtain ⟨x0, x1, x2, x3, x4⟩ := hc j hjl
      replace x0 := HSr.out.kept.cell x0 hnF
      replace x1 := HSr.out.kept.cell x1 hnF
      replace x2 := HSr.out.kept.cell x2 hnF
      replace x3 := HSr.out.kept.cell x3 hnF
      replace x4 := HSr.out.kept.cell x4 hnF
      have HGe := hideQ (HG.out _ (List.getElem_mem hjl))
      have HSt := hideQ (ebl_step hjl)
      have HBl : Hid ((xs ++ ebl ByteArray.empty (l.take j)).length ≤ xs.length + 2000) := hideQ (by
        have h8 := ebl_le (F := l.take j) (b := ByteArray.empty) (fun e he => HG.out e (List.mem_of_mem_take he))
        have h9 : (l.take j).length ≤ 16 := by rw [List.length_take]; omega
        rw [List.length_append]
        omega)
      have hks : (lastk ByteArray.empty (l.take j)).size ≤ 65 := lastk_size (fun e he => HG.out e (List.mem_of_mem_take he))
      generalize l[j] = en at *
      obtain ⟨k, d0, t0, p0, s0⟩ := en
      obtain ⟨g1, g2, g3, g4, g5, g6⟩ := HGe.out
      simp only at g1 g2 g3 g4 g5 g6 x0 x1 x2 x3 x4
      obtain ⟨d, rfl⟩ : ∃ d : Nat, d0 = d := ⟨d0.toNat, by omega⟩
      obtain ⟨t, rfl⟩ : ∃ t : Nat, t0 = t := ⟨t0.toNat, by omega⟩
      obtain ⟨p, rfl⟩ : ∃ p : Nat, p0 = p := ⟨p0.toNat, by omega⟩
      obtain ⟨s, rfl⟩ : ∃ s : Nat, s0 = s := ⟨s0.toNat, by omega⟩
      clear HGe hc hjl hnF
      generalize lastk ByteArray.empty (l.take j) = bf at *
      obtain ⟨sh, hsh⟩ : ∃ sh, sh = shr bf.data.toList k.data.toList := ⟨_, rfl⟩
      have hsk : sh ≤ k.size := by
        have := (shr_le bf.data.toList k.data.toList).2
        rw [bsz] at this
        omega
      have HEe : Hid (een bf ⟨k, d, t, p, s⟩ = uvb sh ++ ((uvb (k.extract sh k.size).size ++ sb (k.extract sh k.size)) ++ n4b d t p s 4)) := hideQ (by
        rw [een, ← hsh, sb_ext, ByteArray.size_extract]
        simp [n4b, List.append_assoc])
      have hxs : (k.extract sh k.size).size ≤ 65 := by rw [ByteArray.size_extract]; omega
      have CS := fun w => hideQ (shared_any bf k w (by omega))
      rw [← hsh] at CS
      have CN := fun w => hideQ (numbersOf_any k (d : Int) (t : Int) (p : Int) (s : Int) w)
      clear hsh
      have HKx := hideQ (Kept.alloc wr (.cells #[.string k, .int .i64 (d : Int), .int .i64 (t : Int), .int .i64 (p : Int), .int .i64 (s : Int)] 31))
      have HXx := hideQ (enO_new wr k (d : Int) (t : Int) (p : Int) (s : Int))
      have HBx := hideQ (HWr.out.kept HKx.out (fun _ _ f => f))
      have hbxl : bw < wr.heap.size := HWr.out.lt
      have HNB : Hid (∀ k, v'.ownBlock = some k → ¬ k = wr.heap.size) := hideQ (fun k hk e => by have := (HWr.out.own.lt _ hk).2; omega)
      have HSx : Hid (WStep w (wr.alloc (.cells #[.string k, .int .i64 (d : Int), .int .i64 (t : Int), .int .i64 (p : Int), .int .i64 (s : Int)] 31)) bw v v') := hideQ (HSr.out.trans ⟨HKx.out.mono (fun _ f => f.elim), fun _ h => .inl h⟩)
      go_wp2_with fail
      generalize wr.heap.size = bx at *
      generalize wr.alloc (.cells #[.string k, .int .i64 (d : Int), .int .i64 (t : Int), .int .i64 (p : Int), .int .i64 (s : Int)] 31) = W0 at *
      clear HKx HSr HWr x0 x1 x2 x3 x4
      go_at_call 65
      refine (CS _).out.mono ?_
      rintro e W1 ⟨rfl, K1⟩
      have HW1 := hideQ (HBx.out.kept K1 (fun _ _ f => f))
      have HS1 : Hid (WStep w W1 bw v v') := hideQ (HSx.out.trans ⟨K1.mono (fun _ f => f.elim), fun _ h => .inl h⟩)
      have HX1 := hideQ (K1.heap HXx.out (fun f => f))
      have hbx1 : bx < W1.heap.size := lt_of_block HX1.out
      clear K1 CS HBx HSx HXx
      go_wp2_with fail
      go_at_call 44
      refine (wuv_any bw _ _ sh _ HW1.out (by omega) (by have := HBl.out; omega)).mono ?_
      rintro e W2 ⟨rfl, v2, hW2, S2⟩
      have HW2 := hideQ hW2
      have HS2 := hideQ (HS1.out.trans S2)
      have HX2 := hideQ (S2.kept.heap HX1.out (fun f => by
        rcases f with f | f
        · omega
        · exact HNB.out _ f rfl))
      have HNB2 : Hid (∀ k, v2.ownBlock = some k → ¬ k = bx) := hideQ (fun k hk e => by
        rcases S2.new k hk with f | f
        · exact HNB.out k f e
        · omega)
      have HL2 : Hid ((xs ++ ebl ByteArray.empty (l.take j) ++ uvb sh).length ≤ xs.length + 2010) := hideQ (by
        rw [List.length_append]
        have h8 := HBl.out
        have h9 := uvb_le10 sh (by omega)
        omega)
      have hs2 : bx < W2.heap.size := lt_of_block HX2.out
      clear hW2 S2 HW1 HS1 HX1 HNB HBl
      obtain ⟨⟨y0, y1, y2, y3, y4⟩, -⟩ := enO_cells HX2.out
      go_wp2_with fail
      go_at_call 66
      refine (text_any bw _ _ (k.extract sh k.size) _ HW2.out (by have := HL2.out; omega)).mono ?_
      rintro e W3 ⟨rfl, v3, hW3, S3⟩
      have HW3 := hideQ hW3
      have HS3 := hideQ (HS2.out.trans S3)
      have HX3 := hideQ (S3.kept.heap HX2.out (fun f => by
        rcases f with f | f
        · omega
        · exact HNB2.out _ f rfl))
      have HNB3 : Hid (∀ k, v3.ownBlock = some k → ¬ k = bx) := hideQ (fun k hk e => by
        rcases S3.new k hk with f | f
        · exact HNB2.out k f e
        · omega)
      have HL3 : Hid ((xs ++ ebl ByteArray.empty (l.take j) ++ uvb sh ++ (uvb (k.extract sh k.size).size ++ sb (k.extract sh k.size))).length ≤ xs.length + 2100) := hideQ (by
        have h8 := HL2.out
        have h9 := uvb_le10 (k.extract sh k.size).size (by omega)
        have h7 : (uvb (k.extract sh k.size).size ++ sb (k.extract sh k.size)).length ≤ 80 := by rw [List.length_append, sb_length]; omega
        rw [List.length_append]
        omega)
      clear hW3 S3 HW2 HS2 HX2 HNB2 HL2 y0 y1 y2 y3 y4 hs2 hbx1
      obtain ⟨⟨y0, y1, y2, y3, y4⟩, -⟩ := enO_cells HX3.out
      go_wp2_with (go_at_call 42; refine (CN _).out.mono ?_; rintro e W4 ⟨rfl, K4⟩; unfold n4V)
      have HW4 := hideQ (HW3.out.kept K4 (fun _ _ f => f))
      have HS4 : Hid (WStep w W4 bw v v3) := hideQ (HS3.out.trans ⟨K4.mono (fun _ f => f.elim), fun _ h => .inl h⟩)
      have HX4 := hideQ (K4.heap HX3.out (fun f => f))
      clear K4 CN HW3 HS3 HX3 y0 y1 y2 y3 y4
      generalize hA : xs ++ ebl ByteArray.empty (l.take j) ++ uvb sh ++ (uvb (k.extract sh k.size).size ++ sb (k.extract sh k.size)) = A at *
      have HAA := hideQ hA
      clear hA
      go_loopw [32] (fun v32 wr => ∃ (i : Nat) (vi : Value), i ≤ 4 ∧ v32 = .int .i64 i ∧ Hid (Wr wr bw vi (A ++ n4b d t p s i)) ∧ Hid (WStep w wr bw v vi) ∧ Hid (wr.heap[bx]? = some (enO k (d : Int) (t : Int) (p : Int) (s : Int))) ∧ Hid ((A ++ n4b d t p s i).length ≤ xs.length + 2100 + 10 * i) ∧ Hid (∀ k, vi.ownBlock = some k → ¬ k = bx)) (fun v32 _ => 4 - (intOf v32).toNat)
      case atStart => exact ⟨0, v3, by omega, rfl, hideQ (by simpa [n4b] using HW4.out), HS4, HX4, hideQ (by simpa [n4b] using HL3.out), HNB3⟩
      case round =>
        obtain ⟨i, vi, hi, rfl, HW5, HS5, HX5, HL5, HN5⟩ := hrel
        clear HW4 HS4 HX4 HL3 HNB3
        have hbx5 : bx < wr.heap.size := lt_of_block HX5.out
        have hnb5 : ¬ WF bw vi bx := fun f => f.elim (fun e => by omega) (fun e => HN5.out _ e rfl)
        obtain rfl | rfl | rfl | rfl | rfl : i = 0 ∨ i = 1 ∨ i = 2 ∨ i = 3 ∨ i = 4 := by omega
        · have hix := idx0 (d : Int) (t : Int) (p : Int) (s : Int)
          have HNx : Hid (n4b d t p s (0 + 1) = n4b d t p s 0 ++ uvb d) := hideQ rfl
          go_wp2_with fail
          go_at_call 44
          refine (wuv_any bw _ _ d _ HW5.out (by omega) (by have := HL5.out; omega)).mono ?_
          rintro e W8 ⟨rfl, v8, hW8, S8⟩
          have HW8 := hideQ hW8
          have HS8 := hideQ (HS5.out.trans S8)
          have HX8 := hideQ (S8.kept.heap HX5.out hnb5)
          have HN8 : Hid (∀ k, v8.ownBlock = some k → ¬ k = bx) := hideQ (fun k hk e => by
            rcases S8.new k hk with f | f
            · exact HN5.out k f e
            · omega)
          clear hW8 S8
          go_wp2
          go_roundw
          case rel => exact ⟨0 + 1, v8, by omega, by go_num, hideQ (by rw [HNx.out, ← List.append_assoc]; exact HW8.out), HS8, HX8, hideQ (by rw [HNx.out, ← List.append_assoc, List.length_append]; have h8 := HL5.out; have h9 := uvb_le10 d (by omega); omega), HN8⟩
          case measure => simp [intOf]
        · have hix := idx1 (d : Int) (t : Int) (p : Int) (s : Int)
          have HNx : Hid (n4b d t p s (1 + 1) = n4b d t p s 1 ++ uvb t) := hideQ rfl
          go_wp2_with fail
          go_at_call 44
          refine (wuv_any bw _ _ t _ HW5.out (by omega) (by have := HL5.out; omega)).mono ?_
          rintro e W8 ⟨rfl, v8, hW8, S8⟩
          have HW8 := hideQ hW8
          have HS8 := hideQ (HS5.out.trans S8)
          have HX8 := hideQ (S8.kept.heap HX5.out hnb5)
          have HN8 : Hid (∀ k, v8.ownBlock = some k → ¬ k = bx) := hideQ (fun k hk e => by
            rcases S8.new k hk with f | f
            · exact HN5.out k f e
            · omega)
          clear hW8 S8
          go_wp2
          go_roundw
          case rel => exact ⟨1 + 1, v8, by omega, by go_num, hideQ (by rw [HNx.out, ← List.append_assoc]; exact HW8.out), HS8, HX8, hideQ (by rw [HNx.out, ← List.append_assoc, List.length_append]; have h8 := HL5.out; have h9 := uvb_le10 t (by omega); omega), HN8⟩
          case measure => simp [intOf]
        · have hix := idx2 (d : Int) (t : Int) (p : Int) (s : Int)
          have HNx : Hid (n4b d t p s (2 + 1) = n4b d t p s 2 ++ uvb p) := hideQ rfl
          go_wp2_with fail
          go_at_call 44
          refine (wuv_any bw _ _ p _ HW5.out (by omega) (by have := HL5.out; omega)).mono ?_
          rintro e W8 ⟨rfl, v8, hW8, S8⟩
          have HW8 := hideQ hW8
          have HS8 := hideQ (HS5.out.trans S8)
          have HX8 := hideQ (S8.kept.heap HX5.out hnb5)
          have HN8 : Hid (∀ k, v8.ownBlock = some k → ¬ k = bx) := hideQ (fun k hk e => by
            rcases S8.new k hk with f | f
            · exact HN5.out k f e
            · omega)
          clear hW8 S8
          go_wp2
          go_roundw
          case rel => exact ⟨2 + 1, v8, by omega, by go_num, hideQ (by rw [HNx.out, ← List.append_assoc]; exact HW8.out), HS8, HX8, hideQ (by rw [HNx.out, ← List.append_assoc, List.length_append]; have h8 := HL5.out; have h9 := uvb_le10 p (by omega); omega), HN8⟩
          case measure => simp [intOf]
        · have hix := idx3 (d : Int) (t : Int) (p : Int) (s : Int)
          have HNx : Hid (n4b d t p s (3 + 1) = n4b d t p s 3 ++ uvb s) := hideQ rfl
          go_wp2_with fail
          go_at_call 44
          refine (wuv_any bw _ _ s _ HW5.out (by omega) (by have := HL5.out; omega)).mono ?_
          rintro e W8 ⟨rfl, v8, hW8, S8⟩
          have HW8 := hideQ hW8
          have HS8 := hideQ (HS5.out.trans S8)
          have HX8 := hideQ (S8.kept.heap HX5.out hnb5)
          have HN8 : Hid (∀ k, v8.ownBlock = some k → ¬ k = bx) := hideQ (fun k hk e => by
            rcases S8.new k hk with f | f
            · exact HN5.out k f e
            · omega)
          clear hW8 S8
          go_wp2
          go_roundw
          case rel => exact ⟨3 + 1, v8, by omega, by go_num, hideQ (by rw [HNx.out, ← List.append_assoc]; exact HW8.out), HS8, HX8, hideQ (by rw [HNx.out, ← List.append_assoc, List.length_append]; have h8 := HL5.out; have h9 := uvb_le10 s (by omega); omega), HN8⟩
          case measure => simp [intOf]
        · obtain ⟨⟨y0, -⟩, -⟩ := enO_cells HX5.out
          go_wp2
          go_roundw
          case rel => exact ⟨j + 1, vi, hlt, by go_num, by rw [HSt.out.2], hideQ (by rw [HSt.out.1, HEe.out, ← List.append_assoc, ← List.append_assoc, ← List.append_assoc, HAA.out]; exact HW5.out), HS5⟩
          case measure => simp [intOf]; omega
    · obtain rfl : j = nl := by omega
      have hT : l.take j = l := List.take_of_length_le (by rw [HNL.out]; exact Nat.le_refl _)
      rw [hT] at HWr
      go_wp2
      go_end0
      exact ⟨rfl, v', HWr.out, HSr.out⟩
end Go.Proofs.YtcanbhbhdgogoaaDoor
namespace Go.Proofs.YtcanbhbhdgogoaaDoor
open Go.ChangeShapes Go.WideShapes Go.ChangeAt Go.RowKit

/-- Lists of bytes: where each lies, its room and its bytes. -/
abbrev Part := Option Addr × Nat × List Int
def Part.val (p : Part) : Value := .slice p.1 p.2.2.length p.2.1
def flat (P : List Part) : List Int := (P.map (fun p => p.2.2)).flatten
def PartsAt (w : World) (a : Option Addr) (P : List Part) : Prop :=
  P ≠ [] → ∃ b off, a = some ⟨b, off, none⟩ ∧ ∀ k (h : k < P.length), w.cell? ⟨b, off + k, none⟩ = some (P[k]).val
theorem flat_take {P : List Part} {k : Nat} (h : k < P.length) : flat (P.take (k + 1)) = flat (P.take k) ++ (P[k]).2.2 := by
  rw [flat, List.take_add_one, List.getElem?_eq_getElem h, List.map_append, List.flatten_append, flat]
  simp only [Option.toList_some, List.map_cons, List.map_nil, List.flatten_cons, List.flatten_nil, List.append_nil]
theorem flat_take_le {P : List Part} {k : Nat} : (flat (P.take k)).length ≤ (flat P).length := by
  have e : flat P = flat (P.take k) ++ flat (P.drop k) := by
    rw [flat, flat, flat, ← List.flatten_append, ← List.map_append, List.take_append_drop]
  rw [e, List.length_append]
  omega
theorem flat_next_le {P : List Part} {k : Nat} (h : k < P.length) : (flat (P.take k)).length + (P[k]).2.2.length ≤ (flat P).length := by
  have := flat_take_le (P := P) (k := k + 1)
  rwa [flat_take h, List.length_append] at this
theorem kept_below {w w' : World} (h : Kept (fun _ => False) w w') : Below w.heap.size w w' := h.below (Nat.le_refl _) (fun _ _ f => f)

set_option maxRecDepth 20000 in
set_option maxHeartbeats 1000000 in
theorem concat_any (P : List Part) (pa : Option Addr) (pc : Nat) (w : World) (hP : PartsAt w pa P) (hB : ∀ p ∈ P, BytesAt w p.1 p.2.2) (hl : P.length ≤ 1099511627776) (hn : (flat P).length ≤ 140737488355328) :
    Calls Tryd.prog 47 #[.slice pa P.length pc] w fun e w' => e = .returned (.slice (some ⟨w.heap.size, 0, none⟩) (flat P).length (flat P).length) ∧ w'.ownsRow w.heap.size 5 1 (.slice (some ⟨w.heap.size, 0, none⟩) (flat P).length (flat P).length) (flat P).length (bs (flat P)) ∧ Kept (fun _ => False) w w' := by
  obtain ⟨i0, hi, hz0, hz1, hz2⟩ := info_parts Tryd.infoB
  have HP := hide hP
  have HB := hide hB
  obtain ⟨N, hN⟩ : ∃ N, N = (flat P).length := ⟨_, rfl⟩
  rw [← hN] at hn ⊢
  have HN := hide hN
  clear hP hB hN
  go_enter Tryd.func47, Tryd.ntmps47
  go_wp2
  go_loopw [3, 12] (fun sz i wr => w = wr ∧ ∃ k : Nat, k ≤ P.length ∧ i = .int .i64 k ∧ sz = .int .i64 ((flat (P.take k)).length : Nat)) (fun _ i _ => P.length - (intOf i).toNat)
  case atStart => exact ⟨rfl, 0, Nat.zero_le _, rfl, rfl⟩
  case round =>
    obtain ⟨rfl, k, hk, rfl, rfl⟩ := hrel
    by_cases hlt : k < P.length
    · obtain ⟨b, off, rfl, hcl⟩ := HP.out (by intro e; rw [e] at hlt; simp at hlt)
      have hc := hcl k hlt
      unfold Part.val at hc
      have hfl := flat_next_le hlt
      have hft := congrArg List.length (flat_take hlt)
      rw [List.length_append] at hft
      obtain ⟨m, hm⟩ : ∃ m, m = (flat (P.take k)).length := ⟨_, rfl⟩
      obtain ⟨m2, hm2⟩ : ∃ m2, m2 = (flat (P.take (k + 1))).length := ⟨_, rfl⟩
      obtain ⟨⟨qa, qc, ql⟩, hq⟩ : ∃ q, q = P[k] := ⟨_, rfl⟩
      rw [← HN.out, ← hm, ← hq] at hfl
      rw [← hm, ← hm2, ← hq] at hft
      rw [← hm]
      rw [← hq] at hc
      simp only at hc hfl hft
      have HM2 := hide hm2
      clear hcl hm hq hm2
      go_wp2
      go_roundw
      case rel => exact ⟨by first | rfl | trivial, k + 1, by omega, by go_num, by rw [← HM2.out, hft]; go_num⟩
      case measure => simp [intOf]; omega
    · obtain rfl : k = P.length := by omega
      rw [List.take_length, ← HN.out]
      clear hlt hk
      go_wp2_with (at_make; refine wpList_make_full _ rfl _ _ 25 rfl w.heap.size 5 i0 (.int .u8 0) 1 Tryd.underlying25 hi hz0 hz1 _ _ _ _ N rfl rfl rfl rfl ?m1 ?m2 (Nat.le_refl _) ?_)
      case m1 => rw [hz2]; omega
      case m2 => unfold maxLen; omega
      intro w1 hown hgrow
      rcases hown.2 with ⟨e, _⟩ | ⟨g, cap, cur, hv, _, hg, _, _, hcs, _⟩
      · cases e
      simp only [Value.slice.injEq, Option.some.injEq, Addr.mk.injEq, true_and, and_true] at hv
      obtain ⟨rfl, rfl⟩ := hv
      have HG0 := hide hg
      have HS0 := hide hcs
      have HB0 := hide (kept_below ((Kept.grown hgrow).mono (fun _ e => by cases e)))
      clear hown hgrow hg hcs
      go_wp2
      go_loopw [7, 25] (fun at_ i wr => ∃ (k : Nat) (rest : List Value), k ≤ P.length ∧ i = .int .i64 k ∧ at_ = .int .i64 ((flat (P.take k)).length : Nat) ∧ wr.heap[w.heap.size]? = some (.cells (bs (flat (P.take k)) ++ rest).toArray 5 (0, 0)) ∧ (flat (P.take k)).length + rest.length = N ∧ Below w.heap.size w wr) (fun _ i _ => P.length - (intOf i).toNat)
      case atStart =>
        refine ⟨0, cur.toList, Nat.zero_le _, rfl, rfl, ?_, ?_, HB0.out⟩
        · have e : bs (flat (P.take 0)) = [] := rfl
          rw [e, List.nil_append]
          exact HG0.out
        · have := HS0.out
          show 0 + cur.toList.length = N
          simp
          omega
      case round =>
        clear HG0 HS0 HB0
        obtain ⟨k, rest, hk, rfl, rfl, hg, hlen, hbw⟩ := hrel
        by_cases hlt : k < P.length
        · obtain ⟨b, off, rfl, hcl⟩ := HP.out (by intro e; rw [e] at hlt; simp at hlt)
          have hc0 := hcl k hlt
          have hbl : b < w.heap.size := World.block_lt_of_cell? w _ hc0
          have hc := (World.cell?_of_block (a := ⟨b, off + k, none⟩) (hbw.block b hbl)).trans hc0
          unfold Part.val at hc
          have hbb := HB.out _ (List.getElem_mem hlt)
          have hfl := flat_next_le hlt
          have hft := congrArg List.length (flat_take hlt)
          rw [List.length_append] at hft
          have hfe := flat_take hlt
          obtain ⟨m, hm⟩ : ∃ m, m = (flat (P.take k)).length := ⟨_, rfl⟩
          obtain ⟨m2, hm2⟩ : ∃ m2, m2 = (flat (P.take (k + 1))).length := ⟨_, rfl⟩
          obtain ⟨⟨qa, qc, ql⟩, hq⟩ : ∃ q, q = P[k] := ⟨_, rfl⟩
          obtain ⟨X, hX⟩ : ∃ X, X = bs (flat (P.take k)) := ⟨_, rfl⟩
          obtain ⟨CS, hCS⟩ : ∃ CS, CS = bs ql := ⟨_, rfl⟩
          have hCSl : CS.length = ql.length := by rw [hCS, bs_length]
          have hXl : X.length = m := by rw [hX, bs_length, hm]
          rw [← HN.out, ← hm, ← hq] at hfl
          rw [← hm, ← hm2, ← hq] at hft
          rw [← hm] at hlen ⊢
          rw [← hX] at hg
          rw [← hq] at hc hbb hfe
          simp only at hc hfl hft hbb hfe
          have HM2 := hide hm2
          have HX := hide hX
          have HCS := hide hCS
          have HG := hide hg
          have HBW := hide hbw
          have HFT := hide hfe
          have HQ := hide hbb
          clear hcl hm hq hm2 hX hCS hg hbw hfe hbb hc0
          have hsrc : Hid (0 < CS.length → ∃ ad, qa = some ad ∧ ∀ j v, CS[j]? = some v → wr.cell? (ad.add j) = some v) := by
            intro hp
            obtain ⟨b', off', rfl, hc'⟩ := HQ.out (by intro e; rw [hCSl, e] at hp; simp at hp)
            refine ⟨_, rfl, ?_⟩
            rw [HCS.out]
            refine BytesAt.cells (fun j hj => ?_)
            have hb' : b' < w.heap.size := World.block_lt_of_cell? w _ (hc' j hj)
            exact (World.cell?_of_block (a := ⟨b', off' + j, none⟩) (HBW.out.block b' hb')).trans (hc' j hj)
          by_cases hNm : N = m
          · subst hNm
            go_wp2_with (refine wpList_copy_splice rfl (.tmp 32) (.tmp 33) 25 25 rfl 5 Tryd.underlying25 Tryd.sizeB (some ⟨w.heap.size, 0, none⟩) qa 0 0 ql.length qc rfl rfl w.heap.size N (X ++ rest) 5 HG.out CS ?k1 ?k2 ?k3 ?k4 w.heap.size w HBW.out (Nat.le_refl _) ?_)
            case k1 =>
              rw [hCSl]
              have : ql.length = 0 := by omega
              rw [this]; rfl
            case k2 => intro hp; exfalso; omega
            case k3 => rw [hCSl, List.length_append, hXl]; omega
            case k4 => rw [HCS.out]; exact bs_one _
            intro w2 hg2 hb2
            try rw [hCSl]
            have HB2 := hide hb2
            clear hb2
            go_wp2
            go_roundw
            case rel =>
              refine ⟨k + 1, rest.drop ql.length, by omega, by go_num, by rw [← HM2.out, hft]; go_num, ?_, by rw [List.length_drop, ← HM2.out]; omega, HB2.out⟩
              have e : splice (X ++ rest) N CS = bs (flat (P.take (k + 1))) ++ rest.drop ql.length := by
                rw [splice, ← hXl, List.take_left, ← List.drop_drop, List.drop_left, hCSl, HFT.out, bs_append, HX.out, HCS.out, List.append_assoc]
              rw [← e]
              exact hg2.out
            case measure => simp [intOf]; omega
          · skip
            go_wp2_with (refine wpList_copy_splice rfl (.tmp 32) (.tmp 33) 25 25 rfl 5 Tryd.underlying25 Tryd.sizeB (some ⟨w.heap.size, m, none⟩) qa (N - m) (N - m) ql.length qc rfl rfl w.heap.size m (X ++ rest) 5 HG.out CS ?k1 ?k2 ?k3 ?k4 w.heap.size w HBW.out (Nat.le_refl _) ?_)
            case k1 => rw [hCSl]; exact (Nat.min_eq_left (by omega)).symm
            case k2 => intro hp; first | exact ⟨rfl, hsrc.out (by omega)⟩ | exact hsrc.out (by omega)
            case k3 => rw [hCSl, List.length_append, hXl]; omega
            case k4 => rw [HCS.out]; exact bs_one _
            intro w2 hg2 hb2
            try rw [hCSl]
            have HB2 := hide hb2
            clear hb2
            go_wp2
            go_roundw
            case rel =>
              refine ⟨k + 1, rest.drop ql.length, by omega, by go_num, by rw [← HM2.out, hft]; go_num, ?_, by rw [List.length_drop, ← HM2.out]; omega, HB2.out⟩
              have e : splice (X ++ rest) m CS = bs (flat (P.take (k + 1))) ++ rest.drop ql.length := by
                rw [splice, ← hXl, List.take_left, ← List.drop_drop, List.drop_left, hCSl, HFT.out, bs_append, HX.out, HCS.out, List.append_assoc]
              rw [← e]
              exact hg2.out
            case measure => simp [intOf]; omega
        · obtain rfl : k = P.length := by omega
          rw [List.take_length, ← HN.out] at hlen
          rw [List.take_length] at hg
          have hr0 : rest = [] := List.eq_nil_of_length_eq_zero (by omega)
          subst hr0
          rw [List.append_nil] at hg
          have HG := hide hg
          have HBW := hide hbw
          clear hlt hk hg hbw hlen
          go_wp2
          go_ret
          refine ⟨rfl, ⟨by rw [bs_length, HN.out, Nat.mul_one], .inr ⟨w.heap.size, N, (bs (flat P)).toArray, rfl, Nat.le_refl _, HG.out, Nat.le_refl _, by unfold maxLen; omega, by rw [List.size_toArray, bs_length, HN.out]; omega, ?_⟩⟩, Kept.of_below HBW.out⟩
          rw [List.toList_toArray, List.take_of_length_le (by rw [bs_length, ← HN.out]; omega)]
end Go.Proofs.YtcanbhbhdgogoaaDoor
namespace Go.Proofs.YtcanbhbhdgogoaaDoor
open Go.ChangeShapes Go.WideShapes Go.ChangeAt Go.RowKit

/-- Two Writers. -/
structure Two (w : World) (b1 : Nat) (v1 : Value) (b2 : Nat) (v2 : Value) (xs ys : List Int) : Prop where
  w1 : Wr w b1 v1 xs
  w2 : Wr w b2 v2 ys
  ne : ¬ b1 = b2
  n1 : ¬ v1.ownBlock = some b2
  n2 : ¬ v2.ownBlock = some b1
  n12 : ∀ k, v1.ownBlock = some k → ¬ v2.ownBlock = some k
theorem Two.step1 {w w' : World} {b1 b2 : Nat} {v1 v2 v1' : Value} {xs ys xs' : List Int} (h : Two w b1 v1 b2 v2 xs ys) (hw : Wr w' b1 v1' xs') (s : WStep w w' b1 v1 v1') : Two w' b1 v1' b2 v2 xs' ys := by
  have l2 := h.w2.lt
  refine ⟨hw, h.w2.kept s.kept (fun i hi f => ?_), h.ne, fun e => ?_, h.n2, fun k hk e => ?_⟩
  · rcases hi with rfl | hi
    · rcases f with f | f
      · exact h.ne f.symm
      · exact h.n1 f
    · rcases f with f | f
      · exact h.n2 (by rw [← f]; exact hi)
      · exact h.n12 i f hi
  · rcases s.new _ e with f | f
    · exact h.n1 f
    · omega
  · rcases s.new _ hk with f | f
    · exact h.n12 k f e
    · have := (h.w2.own.lt k e).2; omega
theorem Two.step2 {w w' : World} {b1 b2 : Nat} {v1 v2 v2' : Value} {xs ys ys' : List Int} (h : Two w b1 v1 b2 v2 xs ys) (hw : Wr w' b2 v2' ys') (s : WStep w w' b2 v2 v2') : Two w' b1 v1 b2 v2' xs ys' := by
  have l1 := h.w1.lt
  refine ⟨h.w1.kept s.kept (fun i hi f => ?_), hw, h.ne, h.n1, fun e => ?_, fun k hk e => ?_⟩
  · rcases hi with rfl | hi
    · rcases f with f | f
      · exact h.ne f
      · exact h.n2 f
    · rcases f with f | f
      · exact h.n1 (by rw [← f]; exact hi)
      · exact h.n12 i hi f
  · rcases s.new _ e with f | f
    · exact h.n2 f
    · omega
  · rcases s.new _ e with f | f
    · exact h.n12 k hk f
    · have := (h.w1.own.lt k hk).2; omega
theorem Two.kept {w w' : World} {b1 b2 : Nat} {v1 v2 : Value} {xs ys : List Int} (h : Two w b1 v1 b2 v2 xs ys) (k : Kept (fun _ => False) w w') : Two w' b1 v1 b2 v2 xs ys :=
  ⟨h.w1.kept k (fun _ _ f => f), h.w2.kept k (fun _ _ f => f), h.ne, h.n1, h.n2, h.n12⟩
theorem EsAt.cut {w : World} {b off : Nat} {l : List En} (h : EsAt w (some ⟨b, off, none⟩) l) (m n : Nat) : EsAt w (some ⟨b, off + m * 5, none⟩) ((l.drop m).take n) := by
  intro hne
  have hl : l ≠ [] := by
    intro e
    rw [e] at hne
    simp at hne
  obtain ⟨b', off', e, hc⟩ := h hl
  simp only [Option.some.injEq, Addr.mk.injEq, and_true] at e
  obtain ⟨rfl, rfl⟩ := e
  refine ⟨b, off + m * 5, rfl, fun k hk => ?_⟩
  have hk2 : m + k < l.length := by rw [List.length_take, List.length_drop] at hk; omega
  have hg : ((l.drop m).take n)[k] = l[m + k] := by rw [List.getElem_take, List.getElem_drop]
  rw [hg, show off + m * 5 + k * 5 = off + (m + k) * 5 by omega]
  exact hc (m + k) hk2
theorem bdL_le {l : List En} : ∀ (m : Nat), (∀ e ∈ l, Gen e) → (bdL (chs m l)).length ≤ 2000 * m ∧ (hdL (chs m l)).length ≤ 10 * m
  | 0, _ => by simp [chs, bdL, hdL]
  | m + 1, h => by
    have ih := bdL_le m h
    have h1 : (ebl ByteArray.empty ((l.drop (16 * m)).take 16)).length ≤ 2000 := by
      have := ebl_le (F := (l.drop (16 * m)).take 16) (b := ByteArray.empty) (fun e he => h e (List.mem_of_mem_drop (List.mem_of_mem_take he)))
      have h2 : ((l.drop (16 * m)).take 16).length ≤ 16 := by rw [List.length_take]; omega
      omega
    have h2 := uvb_le10 (ebl ByteArray.empty ((l.drop (16 * m)).take 16)).length (by omega)
    rw [chs_snoc, bdL_snoc, hdL_snoc, List.length_append, List.length_append]
    omega
theorem own_lowerE {w : World} {b b' e z n : Nat} {v : Value} {xs : List Value} (h : w.ownsRow b e z v n xs) (hb : b' ≤ b) : w.ownsRow b' e z v n xs := by
  refine ⟨h.1, ?_⟩
  rcases h.2 with hn | ⟨g, cap, cur, e1, hg, rest⟩
  · exact .inl hn
  · exact .inr ⟨g, cap, cur, e1, Nat.le_trans hb hg, rest⟩
set_option maxRecDepth 20000 in
set_option maxHeartbeats 8000000 in
theorem imageOf_any (l : List En) (a : Option Addr) (c : Nat) (w : World) (hE : EsAt w a l) (hg : ∀ e ∈ l, Gen e) (hl : l.length ≤ 1073741824) (hc : l.length ≤ c) :
    Calls Tryd.prog 21 #[.slice a l.length c] w fun e w' => (∃ g, w.heap.size ≤ g ∧ e = .returned (.slice (some ⟨g, 0, none⟩) (img l).length (img l).length) ∧ w'.ownsRow w.heap.size 5 1 (.slice (some ⟨g, 0, none⟩) (img l).length (img l).length) (img l).length (bs (img l))) ∧ Kept (fun _ => False) w w' := by
  have HE := hideQ hE
  have HG := hideQ hg
  have HA : Hid (∀ b off, a = some ⟨b, off, none⟩ → l ≠ [] → b < w.heap.size) := hideQ (fun b off e hne => by
    obtain ⟨b', off', e', hcc⟩ := hE hne
    rw [e] at e'
    simp only [Option.some.injEq, Addr.mk.injEq, and_true] at e'
    obtain ⟨rfl, rfl⟩ := e'
    exact World.block_lt_of_cell? w _ (hcc 0 (List.length_pos_iff.2 hne)).1)
  obtain ⟨nl, hnl⟩ : ∃ nl, nl = l.length := ⟨_, rfl⟩
  rw [← hnl] at hl hc ⊢
  have HNL := hideQ hnl
  have HIm : Hid (img l = (uvb nl ++ hdL (chs (nbk nl) l)) ++ bdL (chs (nbk nl) l)) := hideQ (by rw [hnl]; rfl)
  clear hE hg hnl
  go_enter Tryd.func21, Tryd.ntmps21
  go_wp2_with fail
  go_at_call 43
  refine (new_any _).mono ?_
  rintro e W1 ⟨rfl, hW1, K1⟩
  have hl1 := hW1.lt
  go_wp2_with fail
  go_at_call 43
  refine (new_any _).mono ?_
  rintro e W2 ⟨rfl, hW2, K2⟩
  have HT2 : Hid (Two W2 w.heap.size (.slice none 0 0) W1.heap.size (.slice none 0 0) [] []) := hideQ ⟨hW1.kept K2 (fun _ _ f => f), hW2, by omega, by simp [Value.ownBlock], by simp [Value.ownBlock], fun k hk => by simp [Value.ownBlock] at hk⟩
  have HK2 := hideQ (K1.trans K2 (fun _ f => f.elim))
  clear hW1 K1 hW2 K2
  have hb12 : w.heap.size < W1.heap.size := hl1
  clear hl1
  generalize W1.heap.size = b2 at *
  go_wp2_with fail
  go_at_call 44
  refine (wuv_any _ _ _ nl _ HT2.out.w1 (by omega) (by simp)).mono ?_
  rintro e W3 ⟨rfl, v3, hW3, S3⟩
  have HT3 := hideQ (HT2.out.step1 hW3 S3)
  have HK3 := hideQ (HK2.out.trans S3.kept (fun i hi => hi.elim (fun e => .inr (by omega)) (fun e => by simp [Value.ownBlock] at e)))
  have HN3 : Hid (∀ k, v3.ownBlock = some k → w.heap.size ≤ k) := hideQ (fun k hk => by
    rcases S3.new k hk with f | f
    · simp [Value.ownBlock] at f
    · have := HK2.out.size; omega)
  clear hW3 S3 HT2 HK2
  go_wp2_with fail
  go_loopw [5] (fun v5 wr => ∃ (m : Nat) (v1 v2 : Value), m ≤ nbk nl ∧ v5 = .int .i64 ((16 * m : Nat) : Int) ∧ Hid (Two wr w.heap.size v1 b2 v2 (uvb nl ++ hdL (chs m l)) (bdL (chs m l))) ∧ Hid (Kept (fun _ => False) w wr) ∧ Hid ((∀ k, v1.ownBlock = some k → w.heap.size ≤ k) ∧ (∀ k, v2.ownBlock = some k → w.heap.size ≤ k))) (fun v5 _ => 16 * nbk nl - (intOf v5).toNat)
  case atStart => exact ⟨0, v3, _, by omega, rfl, hideQ (by simpa [chs, hdL, bdL] using HT3.out), HK3, hideQ ⟨HN3.out, fun k hk => by simp [Value.ownBlock] at hk⟩⟩
  case round =>
    obtain ⟨m, v1, v2, hm, rfl, HT, HK, HN⟩ := hrel
    clear HT3 HK3 HN3
    have HLe := hideQ (bdL_le m HG.out)
    have hml : m ≤ 67108865 := by unfold nbk at hm; omega
    by_cases hlt : 16 * m < nl
    · have hlt2 : ((16 * m : Nat) : Int) < (nl : Int) := by omega
      have hlt3 : 16 * (m : Int) < (nl : Int) := by omega
      have hne : l ≠ [] := by intro e; have := HNL.out; rw [e] at this; simp at this; omega
      obtain ⟨b, off, rfl, -⟩ := HE.out hne
      have hbw := HA.out b off rfl hne
      have HEr := hideQ ((HE.out.kept HK.out).cut (16 * m) 16)
      have CL := hideQ (wlen_any b2 v2 (bdL (chs m l)) wr HT.out.w2)
      obtain ⟨cn, hcn⟩ : ∃ cn, cn = min 16 (nl - 16 * m) := ⟨_, rfl⟩
      have HFl : Hid (cn = ((l.drop (16 * m)).take 16).length) := hideQ (by rw [List.length_take, List.length_drop, ← HNL.out]; exact hcn)
      have HSn := hideQ (chs_snoc m l)
      have HFg : Hid (∀ e ∈ (l.drop (16 * m)).take 16, Gen e) := hideQ (fun e he => HG.out e (List.mem_of_mem_drop (List.mem_of_mem_take he)))
      have HFe : Hid ((ebl ByteArray.empty ((l.drop (16 * m)).take 16)).length ≤ 2000) := hideQ (by
        have := ebl_le (b := ByteArray.empty) HFg.out
        rw [← HFl.out] at this
        omega)
      generalize (l.drop (16 * m)).take 16 = F at *
      obtain ⟨nb, hnb⟩ : ∃ nb, nb = (bdL (chs m l)).length := ⟨_, rfl⟩
      rw [← hnb] at CL
      have hnbl : nb ≤ 2000 * m := by rw [hnb]; exact HLe.out.1
      have HNb := hideQ hnb
      clear hnb
      have CP : Hid (∀ z c', z = cn → Calls Tryd.prog 46 #[.pointer (some ⟨b2, 0, none⟩), .slice (some ⟨b, off + 16 * m * 5, none⟩) z c'] wr fun e w' => e = .returned (.tuple #[]) ∧ ∃ v', Wr w' b2 v' (bdL (chs m l) ++ ebl ByteArray.empty F) ∧ WStep wr w' b2 v2 v') := hideQ (fun z c' hz => by
        rw [hz, HFl.out]
        exact putBlock_any b2 w.heap.size v2 _ F _ c' wr HT.out.w2 HEr.out HFg.out (by rw [← HFl.out]; omega) (by rw [← HNb.out]; omega) (fun b' off' e => by
          simp only [Option.some.injEq, Addr.mk.injEq, and_true] at e
          obtain ⟨rfl, rfl⟩ := e
          exact hbw) (by omega) HN.out.2)
      obtain ⟨ne, hne2⟩ : ∃ ne, ne = (ebl ByteArray.empty F).length := ⟨_, rfl⟩
      have hnel : ne ≤ 2000 := by rw [hne2]; exact HFe.out
      have HNe := hideQ hne2
      clear hne2 HEr
      go_wp2_with (go_at_call 45; refine CL.out.mono ?_; clear CL; rintro e V5 ⟨rfl, rfl⟩)
      all_goals
        go_at_call 46
        refine (CP.out _ _ (by omega)).mono ?_
        rintro e W6 ⟨rfl, v6, hW6, S6⟩
        have HT6 := hideQ (HT.out.step2 hW6 S6)
        have HK6 := hideQ (HK.out.trans S6.kept (fun i hi => hi.elim (fun e => .inr (by omega)) (fun e => .inr (HN.out.2 i e))))
        have HN6 : Hid (∀ k, v6.ownBlock = some k → w.heap.size ≤ k) := hideQ (fun k hk => by
          rcases S6.new k hk with f | f
          · exact HN.out.2 k f
          · have := HK.out.size; omega)
        have CL2 := hideQ (wlen_any b2 v6 _ W6 hW6)
        rw [List.length_append, ← HNb.out, ← HNe.out] at CL2
        clear hW6 S6 CP HT HK
        go_wp2_with (go_at_call 45; refine CL2.out.mono ?_; clear CL2; rintro e V7 ⟨rfl, rfl⟩)
        try rw [show ((nb + ne : Nat) : Int) - (nb : Int) = (ne : Int) by omega]
        try rw [show (nb : Int) + (ne : Int) - (nb : Int) = (ne : Int) by omega]
        go_at_call 44
        refine (wuv_any _ _ _ ne _ HT6.out.w1 (by omega) (by rw [List.length_append]; have h8 := HLe.out.2; have h9 := uvb_le10 nl (by omega); omega)).mono ?_
        rintro e W8 ⟨rfl, v8, hW8, S8⟩
        have HT8 := hideQ (HT6.out.step1 hW8 S8)
        have HK8 := hideQ (HK6.out.trans S8.kept (fun i hi => hi.elim (fun e => .inr (by omega)) (fun e => .inr (HN.out.1 i e))))
        have HN8 : Hid (∀ k, v8.ownBlock = some k → w.heap.size ≤ k) := hideQ (fun k hk => by
          rcases S8.new k hk with f | f
          · exact HN.out.1 k f
          · have := HK6.out.size; omega)
        clear hW8 S8 HT6 HK6
        go_wp2
        go_roundw
        case rel => exact ⟨m + 1, v8, v6, by unfold nbk; omega, by go_num, hideQ (by rw [HSn.out, hdL_snoc, bdL_snoc, ← List.append_assoc, ← HNe.out]; exact HT8.out), HK8, hideQ ⟨HN8.out, HN6.out⟩⟩
        case measure => simp [intOf]; unfold nbk; omega
    · obtain rfl : m = nbk nl := by unfold nbk at hm ⊢; omega
      have hlt3 : ¬ 16 * ((nbk nl : Nat) : Int) < (nl : Int) := by omega
      have HL1 : Hid ((uvb nl ++ hdL (chs (nbk nl) l)).length ≤ 1000000000000) := hideQ (by rw [List.length_append]; have h8 := HLe.out.2; have h9 := uvb_le10 nl (by omega); omega)
      have HL2 : Hid ((bdL (chs (nbk nl) l)).length ≤ 1000000000000) := hideQ (by have h8 := HLe.out.1; omega)
      generalize uvb nl ++ hdL (chs (nbk nl) l) = X at *
      generalize bdL (chs (nbk nl) l) = Y at *
      clear HLe HE HA
      go_wp2_with fail
      go_at_call 48
      refine (bytes_any _ _ _ _ HT.out.w1 (by have := HL1.out; omega)).mono ?_
      rintro e W5 ⟨rfl, ho5, K5⟩
      have HW5 := hideQ (HT.out.w2.kept K5 (fun _ _ f => f))
      have HO5 := hideQ ho5
      have HK5 := hideQ (HK.out.trans K5 (fun _ f => f.elim))
      have hw5 : w.heap.size ≤ wr.heap.size := HK.out.size
      clear ho5 K5 HT HK
      generalize wr.heap.size = g1 at *
      go_wp2_with fail
      go_at_call 48
      refine (bytes_any _ _ _ _ HW5.out (by have := HL2.out; omega)).mono ?_
      rintro e W6 ⟨rfl, ho6, K6⟩
      have HO6 := hideQ ho6
      have HO56 := hideQ (K6.row HO5.out (fun _ _ f => f))
      have HK6 := hideQ (HK5.out.trans K6 (fun _ f => f.elim))
      clear ho6 K6 HW5 HK5 HO5
      generalize W5.heap.size = g2 at *
      obtain ⟨nX, hnX⟩ : ∃ nX, nX = X.length := ⟨_, rfl⟩
      obtain ⟨nY, hnY⟩ : ∃ nY, nY = Y.length := ⟨_, rfl⟩
      have KA := Kept.alloc W6 (.cells #[.slice (some ⟨g1, 0, none⟩) nX nX, .slice (some ⟨g2, 0, none⟩) nY nY] 25)
      have HKA := hideQ KA
      have HBX : Hid (BytesAt (W6.alloc (.cells #[.slice (some ⟨g1, 0, none⟩) nX nX, .slice (some ⟨g2, 0, none⟩) nY nY] 25)) (some ⟨g1, 0, none⟩) X) := hideQ (by
        obtain ⟨a', c', e', h', -⟩ := bytes_of_own (KA.row HO56.out (fun _ _ f => f))
        simp only [Value.slice.injEq, true_and] at e'
        exact e'.1 ▸ h')
      have HBY : Hid (BytesAt (W6.alloc (.cells #[.slice (some ⟨g1, 0, none⟩) nX nX, .slice (some ⟨g2, 0, none⟩) nY nY] 25)) (some ⟨g2, 0, none⟩) Y) := hideQ (by
        obtain ⟨a', c', e', h', -⟩ := bytes_of_own (KA.row HO6.out (fun _ _ f => f))
        simp only [Value.slice.injEq, true_and] at e'
        exact e'.1 ▸ h')
      have CC := hideQ (concat_any [(some ⟨g1, 0, none⟩, nX, X), (some ⟨g2, 0, none⟩, nY, Y)] (some ⟨W6.heap.size, 0, none⟩) 2 (W6.alloc (.cells #[.slice (some ⟨g1, 0, none⟩) nX nX, .slice (some ⟨g2, 0, none⟩) nY nY] 25)) (fun _ => ⟨W6.heap.size, 0, rfl, fun k hk => by
          have hk2 : k < 2 := hk
          obtain rfl | rfl : k = 0 ∨ k = 1 := by omega
          · simp [Part.val, hnX]
          · simp [Part.val, hnY]⟩) (fun q hq => by
          simp only [List.mem_cons, List.not_mem_nil, or_false] at hq
          rcases hq with rfl | rfl
          · exact HBX.out
          · exact HBY.out) (by simp) (by simp only [flat, List.map_cons, List.map_nil, List.flatten_cons, List.flatten_nil, List.length_append]; have := HL1.out; have := HL2.out; simp; omega))
      have hfl : flat [(some ⟨g1, 0, none⟩, nX, X), (some ⟨g2, 0, none⟩, nY, Y)] = img l := by
        rw [HIm.out]
        simp [flat]
      rw [hfl] at CC
      rw [← hnX, ← hnY]
      clear KA hnX hnY hfl HBX HBY HO6 HO56
      go_wp2_with (go_at_call 47; refine CC.out.mono ?_; clear CC; rintro e W7 ⟨rfl, ho7, K7⟩)
      go_ret
      have hs6 := HK6.out.size
      rw [show (W6.alloc (.cells #[.slice (some ⟨g1, 0, none⟩) nX nX, .slice (some ⟨g2, 0, none⟩) nY nY] 25)).heap.size = W6.heap.size + 1 by simp] at ho7
      refine ⟨⟨_, ?_, rfl, own_lowerE ho7 ?_⟩, (HK6.out.trans HKA.out (fun _ f => f.elim)).trans K7 (fun _ f => f.elim)⟩
      · omega
      · omega
end Go.Proofs.YtcanbhbhdgogoaaDoor
namespace Go.Proofs.YtcanbhbhdgogoaaDoor
open Go.ChangeShapes Go.WideShapes Go.ChangeAt Go.RowKit

theorem rises_chn : ∀ (l : List En) (b : ByteArray), (∀ e ∈ l, Gen e) → Rises l → (∀ e, l.head? = some e → klt b e.k = true) → chn b l
  | [], _, _, _, _ => trivial
  | e :: r, b, hg, hr, hh => by
    refine ⟨hh e rfl, rises_chn r e.k (fun x hx => hg x (List.mem_cons_of_mem _ hx)) (fun i hi => ?_) (fun x hx => ?_)⟩
    · have := hr (i + 1) (by simpa using hi)
      simpa using this
    · match r, hx with
      | y :: r', hx =>
        simp only [List.head?_cons, Option.some.injEq] at hx
        subst hx
        exact hr 0 (by simp)
theorem good_of {l : List En} (hg : ∀ e ∈ l, Gen e) (hr : Rises l) : Good l :=
  ⟨hg, rises_chn l _ hg hr (fun e he => klt_empty (hg e (List.mem_of_mem_head? he)).k1)⟩
theorem chn_rises : ∀ (l : List En) (b : ByteArray), chn b l → Rises l
  | [], _, _ => fun i hi => by simp at hi
  | [e], _, _ => fun i hi => by simp at hi
  | e :: f :: r, b, h => fun i hi => by
    match i, hi with
    | 0, _ => exact h.2.1
    | i + 1, hi =>
      have := chn_rises (f :: r) e.k h.2 i (by simpa using hi)
      simpa using this
theorem all_gen {l : List En} : l.all genB = true ↔ ∀ e ∈ l, Gen e := by
  rw [List.all_eq_true]
  exact ⟨fun h e he => (gen_iff e).1 (h e he), fun h e he => (gen_iff e).2 (h e he)⟩
set_option maxRecDepth 20000 in
set_option maxHeartbeats 4000000 in
theorem build_lim (l : List En) (a : Option Addr) (c : Nat) (E2 : Addr) (w : World) (hE : EsAt w a l) (hl : l.length ≤ 1073741824) (h2 : w.cell? ⟨0, 0, none⟩ = some (errV E2)) (hg : l.all genB = false) :
    Calls Tryd.prog 6 #[.slice a l.length c] w fun e w' => e = .returned (.tuple #[.slice none 0 0, errV E2]) ∧ Kept (fun _ => False) w w' := by
  have CK := hideQ (keepLimits_any l a c w hE (by omega))
  rw [hg] at CK
  have H2 := hideQ h2
  clear hE h2 hg
  generalize l.length = nl at *
  go_enter Tryd.func6, Tryd.ntmps6
  go_wp2_with (go_at_call 19; refine CK.out.mono ?_; rintro e W1 ⟨rfl, K1⟩; have h2 := K1.cell H2.out (fun f => f); unfold errV at h2)
  go_region
  all_goals go_wp2
  all_goals go_ret2
  all_goals exact ⟨rfl, K1.trans (Kept.drew _) (fun _ f => f.elim)⟩
set_option maxRecDepth 20000 in
set_option maxHeartbeats 4000000 in
theorem build_ord (l : List En) (a : Option Addr) (c : Nat) (E3 : Addr) (w : World) (hE : EsAt w a l) (hl : l.length ≤ 1073741824) (h3 : w.cell? ⟨1, 0, none⟩ = some (errV E3)) (hg : l.all genB = true) (hr : ¬ Rises l) :
    Calls Tryd.prog 6 #[.slice a l.length c] w fun e w' => e = .returned (.tuple #[.slice none 0 0, errV E3]) ∧ Kept (fun _ => False) w w' := by
  have CK := hideQ (keepLimits_any l a c w hE (by omega))
  have CR : Hid (∀ W, Kept (fun _ => False) w W → Calls Tryd.prog 20 #[.slice a l.length c] W fun e w' => e = .returned (.bool false) ∧ Kept (fun _ => False) W w') := hideQ (fun W k => (keysRise_any l a c W (hE.kept k) (by omega)).mono (fun e w' ⟨⟨B, he, hB⟩, k'⟩ => ⟨by
    have : B = false := by
      cases B with
      | false => rfl
      | true => exact absurd (hB.1 rfl) hr
    rw [he, this], k'⟩))
  rw [hg] at CK
  have H3 := hideQ h3
  clear hE h3 hg hr
  generalize l.length = nl at *
  go_enter Tryd.func6, Tryd.ntmps6
  go_wp2_with (first
    | (go_at_call 19; refine CK.out.mono ?_; rintro e W1 ⟨rfl, K1⟩)
    | (go_at_call 20; refine (CR.out _ K1).mono ?_; rintro e W2 ⟨rfl, K2⟩; have KK := K1.trans K2 (fun _ f => f.elim); have h3 := KK.cell H3.out (fun f => f); unfold errV at h3))
  go_region
  all_goals go_wp2
  all_goals go_ret2
  all_goals exact ⟨rfl, KK.trans (Kept.drew _) (fun _ f => f.elim)⟩
set_option maxRecDepth 20000 in
set_option maxHeartbeats 4000000 in
theorem build_good (l : List En) (a : Option Addr) (c : Nat) (w : World) (hE : EsAt w a l) (hl : l.length ≤ 1073741824) (hc : l.length ≤ c) (hg : Good l) :
    Calls Tryd.prog 6 #[.slice a l.length c] w fun e w' => (∃ g, w.heap.size ≤ g ∧ e = .returned (.tuple #[.slice (some ⟨g, 0, none⟩) (img l).length (img l).length, .nilIface]) ∧ w'.ownsRow w.heap.size 5 1 (.slice (some ⟨g, 0, none⟩) (img l).length (img l).length) (img l).length (bs (img l))) ∧ Kept (fun _ => False) w w' := by
  have CK := hideQ (keepLimits_any l a c w hE (by omega))
  rw [all_gen.2 hg.gen] at CK
  have CR : Hid (∀ W, Kept (fun _ => False) w W → Calls Tryd.prog 20 #[.slice a l.length c] W fun e w' => e = .returned (.bool true) ∧ Kept (fun _ => False) W w') := hideQ (fun W k => (keysRise_any l a c W (hE.kept k) (by omega)).mono (fun e w' ⟨⟨B, he, hB⟩, k'⟩ => ⟨by rw [he, hB.2 (chn_rises l _ hg.chn)], k'⟩))
  have CI : Hid (∀ W, Kept (fun _ => False) w W → Calls Tryd.prog 21 #[.slice a l.length c] W fun e w' => (∃ g, W.heap.size ≤ g ∧ e = .returned (.slice (some ⟨g, 0, none⟩) (img l).length (img l).length) ∧ w'.ownsRow W.heap.size 5 1 (.slice (some ⟨g, 0, none⟩) (img l).length (img l).length) (img l).length (bs (img l))) ∧ Kept (fun _ => False) W w') := hideQ (fun W k => imageOf_any l a c W (hE.kept k) hg.gen hl hc)
  clear hE hg
  generalize l.length = nl at *
  generalize img l = I at *
  go_enter Tryd.func6, Tryd.ntmps6
  go_wp2_with (first
    | (go_at_call 19; refine CK.out.mono ?_; rintro e W1 ⟨rfl, K1⟩)
    | (go_at_call 20; refine (CR.out _ K1).mono ?_; rintro e W2 ⟨rfl, K2⟩; have KK := K1.trans K2 (fun _ f => f.elim))
    | (go_at_call 21; refine (CI.out _ KK).mono ?_; rintro e W3 ⟨⟨g, hg, rfl, ho⟩, K3⟩))
  go_ret2
  have hs := KK.size
  exact ⟨⟨g, by omega, rfl, own_lowerE ho hs⟩, KK.trans K3 (fun _ f => f.elim)⟩
end Go.Proofs.YtcanbhbhdgogoaaDoor
