import Derived.Test.YtbdhmibiggpomaaDoorPoh
namespace Go.Proofs.YtbdhmibiggpomaaDoor
open Go.ChangeShapes Go.WideShapes Go.ChangeAt Go.RowKit Go.Shelf
attribute [local go_sem] Oper.semAt_some

structure StpP (p : Prop) : Prop where
  go : p
structure Bxs2 (p4 b2 b3 : Nat) (W : World) : Prop where
  s : W.cell? ⟨p4, 0, none⟩ = some (.pointer (some ⟨b2, 0, none⟩))
  k : W.cell? ⟨p4 + 1, 0, none⟩ = some (.pointer (some ⟨b3, 0, none⟩))
/-- What the regions of a round read. -/
structure Bxs (p4 p6 b2 b3 : Nat) (z : Int) (W : World) : Prop where
  s : W.cell? ⟨p4, 0, none⟩ = some (.pointer (some ⟨b2, 0, none⟩))
  k : W.cell? ⟨p4 + 1, 0, none⟩ = some (.pointer (some ⟨b3, 0, none⟩))
  b : W.cell? ⟨p6, 0, none⟩ = some (.int .i64 z)
theorem own_lowerP {w : World} {b b' e z n : Nat} {v : Value} {xs : List Value} (h : w.ownsRow b e z v n xs) (hb : b' ≤ b) : w.ownsRow b' e z v n xs := by
  refine ⟨h.1, ?_⟩
  rcases h.2 with hn | ⟨g, cap, cur, e1, hg, rest⟩
  · exact .inl hn
  · exact .inr ⟨g, cap, cur, e1, Nat.le_trans hb hg, rest⟩
set_option maxRecDepth 20000 in
set_option maxHeartbeats 8000000 in
theorem bytesOf_any (L : List Pg) (a : Option Addr) (c : Nat) (w : World) (hP : PsAt w a L) (hg : gdl (-1) (pol L)) (hl : L.length ≤ 1073741824) (hc : L.length ≤ c) (ht : tot (pol L) ≤ 1099511627776) :
    Calls Tryd.prog 37 #[.slice a L.length c] w fun e w' => (∃ g, w.heap.size ≤ g ∧ e = .returned (.slice (some ⟨g, 0, none⟩) (img (pol L)).length (img (pol L)).length) ∧ w'.ownsRow w.heap.size 5 1 (.slice (some ⟨g, 0, none⟩) (img (pol L)).length (img (pol L)).length) (img (pol L)).length (bs (img (pol L)))) ∧ Kept (fun _ => False) w w' := by
  refine (callsIn_wide (n := 9)).1 ?_
  have HP := hideP hP
  have HG := hideP hg
  have HT := hideP ht
  have HLe := hideP (bkb_le (m := nbp L.length) hg (by omega) ht)
  have CPi := hideP (fun W (k : Kept (fun _ => False) w W) => positionsIn_any L a c W (hP.kept k) (by omega) ht)
  obtain ⟨b0, off, HAd⟩ : ∃ b0 off, Hid (0 < L.length → a = some ⟨b0, off, none⟩) := by
    by_cases h0 : L = []
    · exact ⟨0, 0, hideP (fun h => by rw [h0] at h; simp at h)⟩
    · obtain ⟨b, off, e, _⟩ := hP h0
      exact ⟨b, off, hideP (fun _ => e)⟩
  obtain ⟨nl, hnl⟩ : ∃ nl, nl = L.length := ⟨_, rfl⟩
  rw [← hnl] at hl hc CPi HAd HLe ⊢
  have HNL := hideP hnl
  obtain ⟨N, hN⟩ : ∃ N, N = (img (pol L)).length := ⟨_, rfl⟩
  obtain ⟨tt, htt⟩ : ∃ tt, tt = tot (pol L) := ⟨_, rfl⟩
  rw [← htt] at ht CPi
  have HTT := hideP htt
  rw [← hN]
  have HN := hideP hN
  clear hP hg hnl hN htt
  refine callsIn_of_wp_marks Tryd.func37 rfl trivial ?_ rfl
  simp only [Tryd.ntmps37, List.size_toArray, List.length_cons, List.length_nil, Nat.reduceAdd, Nat.reduceSub, Array.replicate_succ, Array.replicate_zero, List.push_toArray, List.append_toArray, List.nil_append, List.cons_append]
  refine wpIn_wide.2 ?_
  go_wp2_with fail
  go_at_call 57
  refine (new_any _).mono ?_
  rintro e W1 ⟨rfl, hW1, K1⟩
  have l1 := hW1.lt
  go_wp2_with fail
  go_at_call 57
  refine (new_any _).mono ?_
  rintro e W2 ⟨rfl, hW2, K2⟩
  have l2 := hW2.lt
  go_wp2_with fail
  go_at_call 57
  refine (new_any _).mono ?_
  rintro e W3 ⟨rfl, hW3, K3⟩
  have l3 := hW3.lt
  obtain ⟨b1, hb1⟩ : ∃ b1, b1 = w.heap.size := ⟨_, rfl⟩
  obtain ⟨b2, hb2⟩ : ∃ b2, b2 = W1.heap.size := ⟨_, rfl⟩
  obtain ⟨b3, hb3⟩ : ∃ b3, b3 = W2.heap.size := ⟨_, rfl⟩
  obtain ⟨p4, hp4⟩ : ∃ p4, p4 = W3.heap.size := ⟨_, rfl⟩
  have A4 := Kept.alloc W3 (.cells #[.pointer (some ⟨b2, 0, none⟩)] 99)
  have A5 := Kept.alloc (W3.alloc (.cells #[.pointer (some ⟨b2, 0, none⟩)] 99)) (.cells #[.pointer (some ⟨b3, 0, none⟩)] 99)
  have KA := A4.trans A5 (fun _ f => f.elim)
  have g4 := A5.heap (heap_alloc_new W3 (.cells #[.pointer (some ⟨b2, 0, none⟩)] 99)) (fun f => f)
  have g5 := heap_alloc_new (W3.alloc (.cells #[.pointer (some ⟨b2, 0, none⟩)] 99)) (.cells #[.pointer (some ⟨b3, 0, none⟩)] 99)
  have e5 : (W3.alloc (.cells #[.pointer (some ⟨b2, 0, none⟩)] 99)).heap.size = p4 + 1 := by rw [hp4]; simp
  rw [e5] at g5
  rw [← hp4] at g4
  have HW1 := hideP (((hW1.kept K2 (fun _ _ f => f)).kept K3 (fun _ _ f => f)).kept KA (fun _ _ f => f))
  have HW2 := hideP ((hW2.kept K3 (fun _ _ f => f)).kept KA (fun _ _ f => f))
  have HW3 := hideP (hW3.kept KA (fun _ _ f => f))
  have HK4 := hideP ((K1.trans K2 (fun _ f => f.elim)).trans (K3.trans KA (fun _ f => f.elim)) (fun _ f => f.elim))
  have e6 := KA.size
  have e7 : ((W3.alloc (.cells #[.pointer (some ⟨b2, 0, none⟩)] 99)).alloc (.cells #[.pointer (some ⟨b3, 0, none⟩)] 99)).heap.size = p4 + 2 := by rw [hp4]; simp
  have G4 := hideP g4
  have G5 := hideP g5
  rw [← hb1] at HW1
  rw [← hb2] at HW2
  rw [← hb3] at HW3
  rw [← hb1, ← hb2] at l1
  rw [← hb2, ← hb3] at l2
  rw [← hb3, ← hp4] at l3
  have HE7 := hideP e7
  clear A4 A5 KA g4 g5 e5 e6 e7 hW1 hW2 hW3 K1 K2 K3
  go_wp2_with fail
  rw [← hb2, ← hb3, ← hp4]
  have HB1 := hideP hb1
  clear hb2 hb3 hp4
  generalize (W3.alloc (.cells #[.pointer (some ⟨b2, 0, none⟩)] 99)).alloc (.cells #[.pointer (some ⟨b3, 0, none⟩)] 99) = W4 at *
  rw [← hb1]
  clear hb1
  have u0 := uvb_le10P nl (by omega)
  refine (wuv_any _ _ _ nl _ HW1.out (by omega) (by simp)).mono ?_
  rintro e W5 ⟨rfl, v5, hW5, S5⟩
  rw [List.nil_append] at hW5
  have HK5 : Hid (Kept (fun _ => False) w W5) := hideP (HK4.out.trans S5.kept (fun i hi => hi.elim (fun e => .inr (by have := HB1.out; omega)) (fun e => by simp [Value.ownBlock] at e)))
  have N5 : Hid (∀ k, v5.ownBlock = some k → p4 + 2 ≤ k) := hideP (fun k hk => by
    rcases S5.new k hk with f | f
    · simp [Value.ownBlock] at f
    · have := HE7.out; omega)
  have nf : ∀ i, i ≠ b1 → ¬ WF b1 (.slice none 0 0) i := fun i hi h => h.elim hi (fun e => by simp [Value.ownBlock] at e)
  have HW2' := hideP (HW2.out.kept S5.kept (fun i hi h => by rcases hi with e | e <;> rcases h with f | f <;> first | omega | (simp [Value.ownBlock] at e) | (simp [Value.ownBlock] at f)))
  have HW3' := hideP (HW3.out.kept S5.kept (fun i hi h => by rcases hi with e | e <;> rcases h with f | f <;> first | omega | (simp [Value.ownBlock] at e) | (simp [Value.ownBlock] at f)))
  have G4' := hideP (S5.kept.heap G4.out (nf _ (by omega)))
  have G5' := hideP (S5.kept.heap G5.out (nf _ (by omega)))
  have z5 : p4 + 2 ≤ W5.heap.size := by have := S5.kept.size; have := HE7.out; omega
  have HW5 := hideP hW5
  clear hW5 S5 HK4 nf HW1 HW2 HW3 G4 G5 HE7
  go_wp2_with fail
  go_at_call 43
  refine (CPi.out W5 HK5.out).mono ?_
  rintro e W6 ⟨rfl, K6⟩
  have HK6 := hideP (HK5.out.trans K6 (fun _ f => f.elim))
  have HW1 := hideP (HW5.out.kept K6 (fun _ _ f => f))
  have HW2 := hideP (HW2'.out.kept K6 (fun _ _ f => f))
  have HW3 := hideP (HW3'.out.kept K6 (fun _ _ f => f))
  have G4 := hideP (K6.heap G4'.out (fun f => f))
  have G5 := hideP (K6.heap G5'.out (fun f => f))
  have z6 : p4 + 2 ≤ W6.heap.size := by have := K6.size; omega
  clear K6 HW5 HW2' HW3' G4' G5' CPi HK5 z5
  go_wp2_with fail
  go_at_call 58
  refine (wuv_any _ _ _ tt _ HW1.out (by omega) (by omega)).mono ?_
  rintro e W7 ⟨rfl, v7, hW7, S7⟩
  have HK7 : Hid (Kept (fun _ => False) w W7) := hideP (HK6.out.trans S7.kept (fun i hi => hi.elim (fun e => .inr (by have := HB1.out; omega)) (fun e => .inr (by have := HB1.out; have := N5.out i e; omega))))
  have N7 : Hid (∀ k, v7.ownBlock = some k → p4 + 2 ≤ k) := hideP (fun k hk => by
    rcases S7.new k hk with f | f
    · exact N5.out k f
    · omega)
  have nf : ∀ i, i ≠ b1 → i < p4 + 2 → ¬ WF b1 v5 i := fun i hi h2 h => h.elim hi (fun e => by have := N5.out i e; omega)
  have HW2' := hideP (HW2.out.kept S7.kept (fun i hi h => by
    rcases hi with e | e
    · exact nf i (by omega) (by omega) h
    · simp [Value.ownBlock] at e))
  have HW3' := hideP (HW3.out.kept S7.kept (fun i hi h => by
    rcases hi with e | e
    · exact nf i (by omega) (by omega) h
    · simp [Value.ownBlock] at e))
  have G4' := hideP (S7.kept.heap G4.out (nf _ (by omega) (by omega)))
  have G5' := hideP (S7.kept.heap G5.out (nf _ (by omega) (by omega)))
  have z7 : p4 + 2 ≤ W7.heap.size := by have := S7.kept.size; omega
  have HW7 := hideP hW7
  clear hW7 S7 HK6 nf HW1 HW2 HW3 G4 G5 z6 N5
  obtain ⟨p6, hp6⟩ : ∃ p6, p6 = W7.heap.size := ⟨_, rfl⟩
  have A6 := Kept.alloc W7 (.cells #[.int .i64 (-1)] 3)
  have g6 := heap_alloc_new W7 (.cells #[.int .i64 (-1)] 3)
  have e8 : (W7.alloc (.cells #[.int .i64 (-1)] 3)).heap.size = p6 + 1 := by rw [hp6]; simp
  rw [← hp6] at g6
  have HK8 := hideP (HK7.out.trans A6 (fun _ f => f.elim))
  have HW1 := hideP (HW7.out.kept A6 (fun _ _ f => f))
  have HW2 := hideP (HW2'.out.kept A6 (fun _ _ f => f))
  have HW3 := hideP (HW3'.out.kept A6 (fun _ _ f => f))
  have G4 := hideP (A6.heap G4'.out (fun f => f))
  have G5 := hideP (A6.heap G5'.out (fun f => f))
  have G6 := hideP g6
  have HE8 := hideP e8
  have N8 : Hid (∀ k, v7.ownBlock = some k → p4 + 2 ≤ k ∧ k < p6) := hideP (fun k hk => ⟨N7.out k hk, by have := (HW7.out.own.lt k hk).2; omega⟩)
  rw [← hp6] at z7
  clear A6 g6 e8 HK7 HW7 HW2' HW3' G4' G5' N7
  go_wp2_with fail
  rw [← hp6]
  clear hp6
  generalize W7.alloc (.cells #[.int .i64 (-1)] 3) = W8 at *
  refine (chunk_any a nl c W8).mono ?_
  rintro e Wc ⟨⟨c1, c2, rfl, hCh, hc1, hc2⟩, K9⟩
  have HK9 := hideP (HK8.out.trans K9 (fun _ f => f.elim))
  have HW1c := hideP (HW1.out.kept K9 (fun _ _ f => f))
  have HTc : Hid (Two Wc b2 (.slice none 0 0) b3 (.slice none 0 0) [] []) := hideP ⟨HW2.out.kept K9 (fun _ _ f => f), HW3.out.kept K9 (fun _ _ f => f), by omega, by simp [Value.ownBlock], by simp [Value.ownBlock], fun k hk => by simp [Value.ownBlock] at hk⟩
  have G4c := hideP (K9.heap G4.out (fun f => f))
  have G5c := hideP (K9.heap G5.out (fun f => f))
  have G6c := hideP (K9.heap G6.out (fun f => f))
  have hcc1 : p6 + 1 ≤ c1 := by have := HE8.out; omega
  have hcc2 : p6 + 1 ≤ c2 := by have := HE8.out; omega
  have hccw : p6 + 1 ≤ Wc.heap.size := by have := HE8.out; have := K9.size; omega
  have hcl : c1 < Wc.heap.size ∧ c2 < Wc.heap.size := ⟨World.block_lt_of_cell? _ _ hCh.s, World.block_lt_of_cell? _ _ hCh.i⟩
  have HCh := hideP hCh
  clear K9 HW1 HW2 HW3 G4 G5 G6 HE8 HK8 hCh hc1 hc2
  have SQ := chunk_seq 8 a b0 off nl c c1 c2 HAd.out (by omega) hc
  go_wp2_with fail
  refine (wpIn_wide (n := 9)).1 ?_
  refine' range_n (α := Nat) rfl (by decide) (gf := 85) (lb := #[.pointer (some ⟨c1, 0, none⟩), .pointer (some ⟨c2, 0, none⟩)]) rfl trivial (enters_of Tryd.func85 (by kernel_rfl) rfl) SQ (fun _ => rfl)
    (fun pre A => BoI Wc b2 b3 p6 (pol L) pre A) (fun _ _ _ => False) ?hK ?hI ?hIx ?hM ?h0 _ ?assign ?body ?done ?stop
  case hK =>
    intro pre A h
    exact ⟨h.k.cell HCh.out.s (fun e => by simp only at e; omega), h.k.cell HCh.out.i (fun e => by simp only at e; omega)⟩
  case hI =>
    intro pre A r r' h _
    obtain ⟨v2, v3, t, n2, n3⟩ := h.tw
    have kp := kept_put1 A (Wc.heap.size + 1) (.loop r')
    exact ⟨h.k.trans kp (fun j hj => .inr (by omega)), ⟨v2, v3, t.kept kp (fun i hi e => hi.elim (fun f => by omega) (fun f => by have := n2 i f; omega)) (fun i hi e => hi.elim (fun f => by omega) (fun f => by have := n3 i f; omega)), n2, n3⟩, kp.heap h.bs (fun e => by omega)⟩
  case hIx => exact fun _ _ _ _ _ h _ => h
  case hM => exact fun pre x s B B' r h _ _ => h
  case h0 =>
    intro r
    have kk : Kept (fun _ => False) Wc ((Wc.alloc (.deferred (some []))).alloc (.loop r)) := (Kept.alloc _ _).trans (Kept.alloc _ _) (fun _ f => f.elim)
    exact ⟨kk.mono fun _ f => f.elim, ⟨_, _, HTc.out.kept kk (fun _ _ f => f) (fun _ _ f => f), fun k hk => by simp [Value.ownBlock] at hk, fun k hk => by simp [Value.ownBlock] at hk⟩, kk.heap G6c.out (fun f => f)⟩
  case assign =>
    intro l x B K hK
    simp only [encC]
    gi_wp2
    exact hK _ (Kept.refl _ _)
  case body =>
    rintro l pre x A B hI kAB hM hlt
    obtain ⟨hx, hxn⟩ := hM
    subst hx
    have hB := hI.same kAB
    obtain ⟨v2, v3, HTw, n2, n3⟩ := hB.tw
    have r6 := hB.bs
    obtain ⟨k, hk⟩ : ∃ k, k = pre.length := ⟨_, rfl⟩
    obtain ⟨z, hz⟩ : ∃ z, z = lastd (-1) ((pol L).take (16 * k)) := ⟨_, rfl⟩
    rw [← hk] at HTw hxn r6 ⊢
    rw [← hz] at r6
    obtain ⟨F, hF⟩ : ∃ F, F = (L.drop (16 * k)).take 16 := ⟨_, rfl⟩
    have hFl : F.length = chn nl k := by rw [hF, List.length_take, List.length_drop, ← HNL.out]; unfold chn; split <;> omega
    have hFp : pol F = ((pol L).drop (16 * k)).take 16 := by rw [hF]; unfold pol; rw [List.map_take, List.map_drop]
    have hm1 : 1 ≤ chn nl k ∧ chn nl k ≤ 16 := by unfold chn; split <;> omega
    obtain ⟨y, hy⟩ : ∃ y, chn nl k = y + 1 := ⟨chn nl k - 1, by omega⟩
    rw [hy] at hFl hm1 ⊢
    have hgs := (gdl_append ((pol L).take (16 * k)) ((pol L).drop (16 * k)) (-1)).1 (by rw [List.take_append_drop]; exact HG.out)
    rw [← hz] at hgs
    have hgF : gdl z (pol F) := by rw [hFp]; exact gdl_take hgs.2 16
    have hz1 : -1 ≤ z := by have := (gdl_last _ _ hgs.1).1; rw [← hz] at this; exact this
    have hz2 : z ≤ 2147483646 := by
      have := (gdl_last _ _ hgs.1).2
      by_cases e : (pol L).take (16 * k) = []
      · rw [hz, e, lastd]; omega
      · have := (this e).2; rw [← hz] at this; exact this
    have htF : tot (pol F) ≤ 1099511627776 := by
      have h1 := tot_append ((pol L).take (16 * k)) ((pol L).drop (16 * k))
      rw [List.take_append_drop] at h1
      have h2 := tot_take_le ((pol L).drop (16 * k)) 16
      rw [← hFp] at h2
      have := HT.out
      omega
    have hlk : (bkb (-1) (chp k (pol L))).length ≤ 400 * k + 10 * tot (pol L) ∧ (skb (-1) (chp k (pol L))).length ≤ 20 * k := bkb_le HG.out (by omega) HT.out
    have hk2 : k ≤ 67108864 := by omega
    have hO : Old w B := (HK9.out.mono (fun _ f => f.elim)).trans hB.k (fun i hi => .inl (by have := HB1.out; omega))
    have hn3 : ∀ j, v3.ownBlock = some j → w.heap.size ≤ j := fun j hj => by have := n3 j hj; have := HK9.out.size; omega
    have hadr := HAd.out (by omega)
    have hPF : PsAt w (some ⟨b0, off + 16 * k * 2, none⟩) F := by rw [hF]; have := HP.out; rw [hadr] at this; exact this.cut (16 * k) 16
    have CPut := pputBlock_any b3 v3 (bkb (-1) (chp k (pol L))) F (some ⟨b0, off + 16 * k * 2, none⟩) (y + 1) z w B HTw.w2 hPF hO (by have := HB1.out; omega) hn3 hgF hz1 (by omega) htF (by have := HT.out; omega)
    rw [hFl] at CPut
    have CL := wlen_any b3 v3 (bkb (-1) (chp k (pol L))) B HTw.w2
    have hbl := blk_le hgF hz1 (by rw [pol_len]; omega)
    obtain ⟨nb, hnb⟩ : ∃ nb, nb = (bkb (-1) (chp k (pol L))).length := ⟨_, rfl⟩
    rw [← hnb] at CL
    have HNb := hideP hnb
    have hnb2 : nb ≤ 30000000000000 := by have := HT.out; omega
    obtain ⟨d, hd⟩ : ∃ d, d = lastd z (pol F) := ⟨_, rfl⟩
    have HDL : Hid (∀ h : y < F.length, F[y].d = d) := hideP (fun h => by
      have e := lastd_end (F := F) (b := z) (by omega)
      simp only [show F.length - 1 = y by omega] at e
      rw [hd, e])
    have hlz := (gdl_last _ _ hgF).2 (by intro e; have := congrArg List.length e; rw [pol_len, hFl] at this; simp at this)
    rw [← hd] at hlz
    have q4 := cell_of_one (hB.k.heap G4c.out (fun e => by omega))
    have q5 := cell_of_one (hB.k.heap G5c.out (fun e => by omega))
    have q6 := cell_of_one r6
    have HR6 := hideP r6
    have HBk := hideP hB.k
    have HTB := hideP HTw
    have HN2 := hideP n2
    have HN3 := hideP n3
    have HPF := hideP hPF
    have HO := hideP hO
    have HD := hideP hd
    have HZ := hideP hz
    have HFp := hideP hFp
    have HFl := hideP hFl
    have HPut := hideP CPut
    have HCL := hideP CL
    have HLk := hideP hlk
    have HBl := hideP hbl
    have HhK := hideP hk
    have hsA : Wc.heap.size + 2 ≤ B.heap.size := by have := kAB.size; omega
    clear hI kAB hB r6 HTw n2 n3 hPF hO hd hz hFp hFl CPut CL hlk hbl hgs hgF htF hn3 hF hnb hadr SQ hy hxn
    clear hk
    gi_wp2_with (first
      | (refine ⟨trivial, ?_⟩; gi_at_call 60; refine (CallsIn.inRound l (callsIn_wide.2 HCL.out)).mono ?_; clear HCL; rintro e B ⟨rfl, rfl⟩)
      | (refine ⟨trivial, ?_⟩; gi_at_call 61; refine StpP.go ?_))
    refine ⟨?_⟩
    refine (CallsIn.inRound l (callsIn_wide.2 HPut.out)).mono ?_
    rintro e W6 ⟨rfl, v6, hW6, S6⟩
    have m6 : ∀ i, i ≠ b3 → i < Wc.heap.size + 2 → ¬ WF b3 v3 i := fun i hi h2 h => h.elim hi (fun e => by have := HN3.out i e; omega)
    have t4 := S6.kept.cell q4 (m6 _ (by simp; omega) (by simp; omega))
    have t5 := S6.kept.cell q5 (m6 _ (by simp; omega) (by simp; omega))
    have HR6' := hideP (S6.kept.heap HR6.out (m6 _ (by omega) (by omega)))
    have t6 := cell_of_one HR6'.out
    have HTC := hideP (HTB.out.step2 hW6 S6)
    have HOC := hideP ((HO.out.step S6 (by have := HB1.out; omega) (fun j hj => by have := HN3.out j hj; have := HK9.out.size; omega)).1)
    have HN6 : Hid (∀ j, v6.ownBlock = some j → Wc.heap.size + 2 ≤ j) := hideP (fun j hj => by
      rcases S6.new j hj with f | f
      · exact HN3.out j f
      · omega)
    obtain ⟨bq, oq, eq, hcq⟩ := (HPF.out.old HOC.out) (by intro e; have := HFl.out; rw [e] at this; simp at this)
    simp only [Option.some.injEq, Addr.mk.injEq, and_true] at eq
    obtain ⟨rfl, rfl⟩ := eq
    have hyF : y < F.length := by have := HFl.out; omega
    obtain ⟨x0, -, -⟩ := hcq y hyF
    rw [HDL.out hyF] at x0
    obtain ⟨ne, hne⟩ : ∃ ne, ne = (blk z (pol F)).length := ⟨_, rfl⟩
    have hne2 : ne ≤ 30000000000000 := by have := HBl.out; have := HT.out; have h2 := tot_append ((pol L).take (16 * k)) ((pol L).drop (16 * k)); rw [List.take_append_drop] at h2; have h3 := tot_take_le ((pol L).drop (16 * k)) 16; rw [← HFp.out] at h3; omega
    have HNe := hideP hne
    have HBK6 : Hid (Kept (fun i => i = b2 ∨ i = b3 ∨ i = p6) Wc W6) := hideP (HBk.out.trans S6.kept (fun i hi => hi.elim (fun e => .inl (.inr (.inl e))) (fun e => .inr (by have := HN3.out i e; omega))))
    have HST6 : Hid (Kept (fun i => i < Wc.heap.size ∨ Wc.heap.size + 2 ≤ i) B W6) := hideP (S6.kept.mono (fun i hi => hi.elim (fun e => .inl (.inl (by omega))) (fun e => .inl (.inr (HN3.out i e)))))
    have hsz6 : B.heap.size ≤ W6.heap.size := S6.kept.size
    obtain ⟨gp, hgp⟩ : ∃ gp : Nat, d - 1 - z = (gp : Int) := ⟨(d - 1 - z).toNat, by omega⟩
    have CB : Hid (∀ W, Calls Tryd.prog 62 #[.int .i64 z, .int .i64 d] W fun e w' => e = .returned (.int .u64 (gp : Int)) ∧ w' = W) := hideP (fun W => by
      refine (between_any z d W hz1 hlz.1 (by omega)).mono ?_
      rintro e w' ⟨rfl, rfl⟩
      exact ⟨by rw [hgp], rfl⟩)
    have hgpb : gp ≤ 2147483647 := by omega
    have HGp := hideP hgp
    clear hW6 S6 m6 q4 q5 q6 HR6 HTB HO HPut HPF hcq hne HBk HN3 hgp
    gi_wp2
    have hS : Bxs p4 p6 b2 b3 z W6.drew := ⟨t4, t5, t6⟩
    refine held_round (S := Bxs p4 p6 b2 b3 z) (by kernel_rfl) (by kernel_rfl) (fun ⟨_, _, h⟩ => h) ?_
    change wpAnyH _ _ _ _ _ _ _ _ (World.drew _)
    refine takeZ (i := 0) (d := 39) (v := .pointer (some ⟨b2, 0, none⟩)) rfl rfl (by kernel_rfl) (by kernel_rfl) (by kernel_rfl) (fun _ _ _ h => h) (Or.inl ⟨by rfl, fun W hW => ?_⟩) hS ?_
    · (have z1 := hW.s; go_simp)
    simp only [Act.put, List.setIfInBounds_toArray, List.set_cons_zero, List.set_cons_succ]
    refine takeZ (i := 1) (d := 40) (v := .int .i64 z) rfl rfl (by kernel_rfl) (by kernel_rfl) (by kernel_rfl) (fun _ _ _ h => h) (Or.inl ⟨by rfl, fun W hW => ?_⟩) hS ?_
    · (have z1 := hW.b; go_simp)
    simp only [Act.put, List.setIfInBounds_toArray, List.set_cons_zero, List.set_cons_succ]
    refine takeZ (i := 2) (d := 41) (v := .int .i64 d) rfl rfl (by kernel_rfl) (by kernel_rfl) (by kernel_rfl) (fun _ _ _ h => h) (Or.inl ⟨by rfl, fun W hW => ?_⟩) hS ?_
    · (go_simp)
    simp only [Act.put, List.setIfInBounds_toArray, List.set_cons_zero, List.set_cons_succ]
    refine wpAnyH_all (rs := [3]) (by kernel_rfl) (by simp) ?_
    intro i hi
    obtain rfl : i = 3 := by simpa using hi
    unfold wpOp
    go_simp
    refine Or.inl ((CB.out _).mono ?_)
    rintro e V ⟨rfl, rfl⟩
    refine ⟨hS, ?_⟩
    have C7 := wuv_any b2 v2 _ gp W6.drew (HTC.out.w1.drewN 1) (by omega) (by have := HLk.out; omega)
    refine wpAnyH_all (rs := [4]) (by kernel_rfl) (by simp) ?_
    intro i hi
    obtain rfl : i = 4 := by simpa using hi
    unfold wpOp
    go_simp
    refine Or.inl (C7.mono ?_)
    rintro e W7 ⟨rfl, v7, hW7, S7⟩
    have m7 : ∀ i, i ≠ b2 → i < Wc.heap.size + 2 → ¬ WF b2 v2 i := fun i hi h2 h => h.elim hi (fun e => by have := HN2.out i e; omega)
    have k67 : Kept (WF b2 v2) W6 W7 := ((Kept.drewN W6 1).mono (fun _ f => f.elim)).trans S7.kept (fun i hi => .inl hi)
    have HR7 := hideP (k67.heap HR6'.out (m7 _ (by omega) (by omega)))
    have hS7 : Bxs p4 p6 b2 b3 z W7 := ⟨k67.cell t4 (m7 _ (by simp; omega) (by simp; omega)), k67.cell t5 (m7 _ (by simp; omega) (by simp; omega)), cell_of_one HR7.out⟩
    refine ⟨hS7, ?_⟩
    refine wpAnyH_done (by kernel_rfl) ?_ _
    have HT7 := hideP ((HTC.out.kept (Kept.drewN W6 1) (fun _ _ f => f) (fun _ _ f => f)).step1 hW7 S7)
    have HN7 : Hid (∀ j, v7.ownBlock = some j → Wc.heap.size + 2 ≤ j) := hideP (fun j hj => by
      rcases S7.new j hj with f | f
      · exact HN2.out j f
      · simp at f; omega)
    have HBK7 : Hid (Kept (fun i => i = b2 ∨ i = b3 ∨ i = p6) Wc W7) := hideP (HBK6.out.trans k67 (fun i hi => hi.elim (fun e => .inl (.inl e)) (fun e => .inr (by have := HN2.out i e; omega))))
    have HST7 : Hid (Kept (fun i => i < Wc.heap.size ∨ Wc.heap.size + 2 ≤ i) B W7) := hideP (HST6.out.trans k67 (fun i hi => hi.elim (fun e => .inl (.inl (by omega))) (fun e => .inl (.inr (HN2.out i e)))))
    have hsz7 : B.heap.size ≤ W7.heap.size := by have := k67.size; omega
    have CL2 := wlen_any b3 v6 _ W7.drew (HT7.out.w2.drewN 1)
    rw [List.length_append, ← HNb.out, ← HNe.out] at CL2
    have HCL2 := hideP CL2
    clear hW7 S7 m7 k67 hS t4 t5 t6 HTC C7 CL2 HR6' HBK6 HST6 CB HN2
    gi_wp2
    have hS8 : Bxs p4 p6 b2 b3 z W7.drew := ⟨hS7.s, hS7.k, hS7.b⟩
    refine held_round (S := Bxs p4 p6 b2 b3 z) (by kernel_rfl) (by kernel_rfl) (fun ⟨_, _, h⟩ => h) ?_
    change wpAnyH _ _ _ _ _ _ _ _ (World.drew _)
    refine takeZ (i := 0) (d := 44) (v := .pointer (some ⟨b2, 0, none⟩)) rfl rfl (by kernel_rfl) (by kernel_rfl) (by kernel_rfl) (fun _ _ _ h => h) (Or.inl ⟨by rfl, fun W hW => ?_⟩) hS8 ?_
    · (have z1 := hW.s; go_simp)
    simp only [Act.put, List.setIfInBounds_toArray, List.set_cons_zero, List.set_cons_succ]
    refine takeZ (i := 1) (d := 45) (v := .pointer (some ⟨b3, 0, none⟩)) rfl rfl (by kernel_rfl) (by kernel_rfl) (by kernel_rfl) (fun _ _ _ h => h) (Or.inl ⟨by rfl, fun W hW => ?_⟩) hS8 ?_
    · (have z1 := hW.k; go_simp)
    simp only [Act.put, List.setIfInBounds_toArray, List.set_cons_zero, List.set_cons_succ]
    refine takeZ (i := 3) (d := 47) (v := .int .i64 nb) rfl rfl (by kernel_rfl) (by kernel_rfl) (by kernel_rfl) (fun _ _ _ h => h) (Or.inl ⟨by rfl, fun W hW => ?_⟩) hS8 ?_
    · (go_simp)
    simp only [Act.put, List.setIfInBounds_toArray, List.set_cons_zero, List.set_cons_succ]
    refine wpAnyH_all (rs := [2]) (by kernel_rfl) (by simp) ?_
    intro i hi
    obtain rfl : i = 2 := by simpa using hi
    unfold wpOp
    go_simp
    refine Or.inl (HCL2.out.mono ?_)
    rintro e V ⟨rfl, rfl⟩
    refine ⟨hS8, ?_⟩
    refine takeZ (i := 4) (d := 48) (v := .int .i64 ne) rfl rfl (by kernel_rfl) (by kernel_rfl) (by kernel_rfl) (fun _ _ _ h => h) (Or.inl ⟨by rfl, fun W hW => ?_⟩) hS8 ?_
    · (have z1 : (nb : Int) + (ne : Int) - (nb : Int) = (ne : Int) := by omega
       go_simp
       rw [IntKind.wrap_i64]
       omega)
    simp only [Act.put, List.setIfInBounds_toArray, List.set_cons_zero, List.set_cons_succ]
    refine takeZ (i := 5) (d := 49) (v := .int .u64 ne) rfl rfl (by kernel_rfl) (by kernel_rfl) (by kernel_rfl) (fun _ _ _ h => h) (Or.inl ⟨by rfl, fun W hW => ?_⟩) hS8 ?_
    · (go_simp; rw [IntKind.wrap_u64]; omega)
    simp only [Act.put, List.setIfInBounds_toArray, List.set_cons_zero, List.set_cons_succ]
    have C8 := wuv_any b2 v7 _ ne W7.drew (HT7.out.w1.drewN 1) (by omega) (by have := HLk.out; have := uvb_le10P gp (by omega); rw [List.length_append]; omega)
    refine wpAnyH_all (rs := [6]) (by kernel_rfl) (by simp) ?_
    intro i hi
    obtain rfl : i = 6 := by simpa using hi
    unfold wpOp
    go_simp
    refine Or.inl (C8.mono ?_)
    rintro e W8 ⟨rfl, v8, hW8, S8⟩
    have m8 : ∀ i, i ≠ b2 → i < Wc.heap.size + 2 → ¬ WF b2 v7 i := fun i hi h2 h => h.elim hi (fun e => by have := HN7.out i e; omega)
    have k78 : Kept (WF b2 v7) W7 W8 := ((Kept.drewN W7 1).mono (fun _ f => f.elim)).trans S8.kept (fun i hi => .inl hi)
    have HR8 := hideP (k78.heap HR7.out (m8 _ (by omega) (by omega)))
    refine ⟨⟨k78.cell hS7.s (m8 _ (by simp; omega) (by simp; omega)), k78.cell hS7.k (m8 _ (by simp; omega) (by simp; omega)), cell_of_one HR8.out⟩, ?_⟩
    refine wpAnyH_done (by kernel_rfl) ?_ _
    have HT8 := hideP ((HT7.out.kept (Kept.drewN W7 1) (fun _ _ f => f) (fun _ _ f => f)).step1 hW8 S8)
    have HN8 : Hid (∀ j, v8.ownBlock = some j → Wc.heap.size + 2 ≤ j) := hideP (fun j hj => by
      rcases S8.new j hj with f | f
      · exact HN7.out j f
      · simp at f; omega)
    have HBK8 : Hid (Kept (fun i => i = b2 ∨ i = b3 ∨ i = p6) Wc W8) := hideP (HBK7.out.trans k78 (fun i hi => hi.elim (fun e => .inl (.inl e)) (fun e => .inr (by have := HN7.out i e; omega))))
    have HST8 : Hid (Kept (fun i => i < Wc.heap.size ∨ Wc.heap.size + 2 ≤ i) B W8) := hideP (HST7.out.trans k78 (fun i hi => hi.elim (fun e => .inl (.inl (by omega))) (fun e => .inl (.inr (HN7.out i e)))))
    have f6 := free_of_one HR8.out
    have c6 := cell_of_one HR8.out
    clear hW8 S8 m8 k78 hS7 hS8 HT7 C8 HCL2 HR7 HBK7 HST7 HN7
    have FIN : Still Wc.heap.size B (W8.setCell ⟨p6, 0, none⟩ (.int .i64 d)) ∧ BoI Wc b2 b3 p6 (pol L) (pre ++ [k]) (W8.setCell ⟨p6, 0, none⟩ (.int .i64 d)) := by
      have ks := Kept.setCell W8 ⟨p6, 0, none⟩ (.int .i64 d)
      have hlen : (pre ++ [k]).length = k + 1 := by rw [List.length_append, ← HhK.out]; rfl
      refine ⟨Still.of_kept (HST8.out.trans ks (fun i hi => .inl (.inl (by simp only at hi; omega)))) (by omega) (fun j hj h => by omega), HBK8.out.trans ks (fun i hi => .inl (.inr (.inr hi))), ⟨v8, v6, ?_, HN8.out, HN6.out⟩, ?_⟩
      · rw [hlen, chp_snoc, skb_snoc, bkb_snoc, lasB_chp, ← HZ.out, ← HFp.out, ← HD.out, HGp.out, Int.toNat_natCast, ← HNe.out, ← List.append_assoc]
        exact HT8.out.kept ks (fun i hi e => by simp only at e; exact hi.elim (fun f => by omega) (fun f => by have := HN8.out i f; omega)) (fun i hi e => by simp only at e; exact hi.elim (fun f => by omega) (fun f => by have := HN6.out i f; omega))
      · rw [hlen, show 16 * (k + 1) = 16 * k + 16 by omega, List.take_add, lastd_append, ← HZ.out, ← HFp.out, ← HD.out]
        exact one_setCell HR8.out
    have HFI := hideP FIN
    clear FIN HT8 HBK8 HST8 HN8 HN6 HR8
    gi_wp2
    exact HFI.out
  case done =>
    intro xs A W9 hS hI k9 hDef
    have hB := hI.same k9
    obtain ⟨v2, v3, HTw, n2, n3⟩ := hB.tw
    rw [hS] at HTw
    have HIm : Hid (img (pol L) = (uvb nl ++ uvb tt) ++ (skb (-1) (chp (nbp nl) (pol L)) ++ bkb (-1) (chp (nbp nl) (pol L)))) := hideP (by unfold img; rw [pol_len, ← HNL.out, ← HTT.out])
    have hW1 := HW1c.out.kept hB.k (fun i hi e => hi.elim (fun f => by omega) (fun f => by have := N8.out i f; omega))
    have hl1 := HLe.out
    have u1 := uvb_le10P tt (by omega)
    have hnb : nbp nl ≤ 67108865 := by unfold nbp; omega
    have hT := HT.out
    obtain ⟨X1, hX1⟩ : ∃ X1, X1 = uvb nl ++ uvb tt := ⟨_, rfl⟩
    obtain ⟨X2, hX2⟩ : ∃ X2, X2 = skb (-1) (chp (nbp nl) (pol L)) := ⟨_, rfl⟩
    obtain ⟨X3, hX3⟩ : ∃ X3, X3 = bkb (-1) (chp (nbp nl) (pol L)) := ⟨_, rfl⟩
    have h1 : X1.length ≤ 20 := by rw [hX1, List.length_append]; omega
    rw [← hX2, ← hX3] at hl1 HTw
    rw [← hX1] at hW1
    rw [← hX1, ← hX2, ← hX3] at HIm
    have h2 : X2.length ≤ 2000000000 := by omega
    have h3 : X3.length ≤ 20000000000000 := by omega
    clear hX1 hX2 hX3 hl1 HLe
    have q4 := cell_of_one (hB.k.heap G4c.out (fun e => by omega))
    have q5 := cell_of_one (hB.k.heap G5c.out (fun e => by omega))
    have hK9w : Kept (fun _ => False) w W9 := HK9.out.trans hB.k (fun i hi => .inr (by have := HB1.out; omega))
    have HKW := hideP hK9w
    have HDf := hideP hDef
    have HT9 := hideP HTw
    have HW9 := hideP hW1
    clear hI k9 hB HTw n2 n3 hW1 hK9w hDef HTc HW1c G4c G5c G6c HCh SQ hS
    gi_wp2
    go_wp2_with fail
    have hS9 : Bxs2 p4 b2 b3 W9.drew := ⟨q4, q5⟩
    refine wp_onlyN ?_
    refine wp_region_held (S := Bxs2 p4 b2 b3) (by kernel_rfl) ?_
    change wpAnyH _ _ _ _ _ _ _ _ (World.drew _)
    refine takeZ (i := 0) (d := 52) (v := .pointer (some ⟨b1, 0, none⟩)) rfl rfl (by kernel_rfl) (by kernel_rfl) (by kernel_rfl) (fun _ _ _ h => h) (Or.inl ⟨by rfl, fun W hW => ?_⟩) hS9 ?_
    · (go_simp)
    simp only [Act.put, List.setIfInBounds_toArray, List.set_cons_zero, List.set_cons_succ]
    refine takeZ (i := 2) (d := 54) (v := .pointer (some ⟨b2, 0, none⟩)) rfl rfl (by kernel_rfl) (by kernel_rfl) (by kernel_rfl) (fun _ _ _ h => h) (Or.inl ⟨by rfl, fun W hW => ?_⟩) hS9 ?_
    · (have z1 := hW.s; go_simp)
    simp only [Act.put, List.setIfInBounds_toArray, List.set_cons_zero, List.set_cons_succ]
    refine takeZ (i := 4) (d := 56) (v := .pointer (some ⟨b3, 0, none⟩)) rfl rfl (by kernel_rfl) (by kernel_rfl) (by kernel_rfl) (fun _ _ _ h => h) (Or.inl ⟨by rfl, fun W hW => ?_⟩) hS9 ?_
    · (have z1 := hW.k; go_simp)
    simp only [Act.put, List.setIfInBounds_toArray, List.set_cons_zero, List.set_cons_succ]
    have B1 := bytes_any b1 v7 X1 W9.drew (HW9.out.drewN 1) (by omega)
    refine wpAnyH_all (rs := [1]) (by kernel_rfl) (by simp) ?_
    intro i hi
    obtain rfl : i = 1 := by simpa using hi
    unfold wpOp
    go_simp
    refine Or.inl (B1.mono ?_)
    rintro e V1 ⟨rfl, o1, k1⟩
    have kk1 := (Kept.drewN W9 1).trans k1 (fun _ f => f.elim)
    have hS1 : Bxs2 p4 b2 b3 V1 := ⟨k1.cell hS9.s (fun f => f), k1.cell hS9.k (fun f => f)⟩
    refine ⟨hS1, ?_⟩
    have B2 := bytes_any b2 v2 X2 V1 ((HT9.out.kept kk1 (fun _ _ f => f) (fun _ _ f => f)).w1) (by omega)
    refine wpAnyH_all (rs := [3]) (by kernel_rfl) (by simp) ?_
    intro i hi
    obtain rfl : i = 3 := by simpa using hi
    unfold wpOp
    go_simp
    refine Or.inl (B2.mono ?_)
    rintro e V2 ⟨rfl, o2, k2⟩
    have kk2 := kk1.trans k2 (fun _ f => f.elim)
    have hS2 : Bxs2 p4 b2 b3 V2 := ⟨k2.cell hS1.s (fun f => f), k2.cell hS1.k (fun f => f)⟩
    refine ⟨hS2, ?_⟩
    have B3 := bytes_any b3 v3 X3 V2 ((HT9.out.kept kk2 (fun _ _ f => f) (fun _ _ f => f)).w2) (by omega)
    refine wpAnyH_all (rs := [5]) (by kernel_rfl) (by simp) ?_
    intro i hi
    obtain rfl : i = 5 := by simpa using hi
    unfold wpOp
    go_simp
    refine Or.inl (B3.mono ?_)
    rintro e V3 ⟨rfl, o3, k3⟩
    have kk3 := kk2.trans k3 (fun _ f => f.elim)
    have hS3 : Bxs2 p4 b2 b3 V3 := ⟨k3.cell hS2.s (fun f => f), k3.cell hS2.k (fun f => f)⟩
    refine ⟨hS3, ?_⟩
    have o1' := k3.row (k2.row o1 (fun _ _ f => f)) (fun _ _ f => f)
    have o2' := k3.row o2 (fun _ _ f => f)
    refine wpAnyH_all (rs := [6]) (by kernel_rfl) (by simp) ?_
    intro i hi
    obtain rfl : i = 6 := by simpa using hi
    unfold wpOp
    go_simp
    obtain ⟨g1, hg1⟩ : ∃ g1, g1 = W9.heap.size := ⟨_, rfl⟩
    obtain ⟨g2, hg2⟩ : ∃ g2, g2 = V1.heap.size := ⟨_, rfl⟩
    obtain ⟨g3, hg3⟩ : ∃ g3, g3 = V2.heap.size := ⟨_, rfl⟩
    have KA := Kept.alloc V3 (.cells #[.slice (some ⟨W9.heap.size, 0, none⟩) X1.length X1.length, .slice (some ⟨V1.heap.size, 0, none⟩) X2.length X2.length, .slice (some ⟨V2.heap.size, 0, none⟩) X3.length X3.length] 22)
    refine Or.inl ⟨⟨KA.cell hS3.s (fun f => f), KA.cell hS3.k (fun f => f)⟩, ?_⟩
    have toB : ∀ {W : World} {base g n : Nat} {X : List Int}, W.ownsRow base 5 1 (.slice (some ⟨g, 0, none⟩) n n) n (bs X) → BytesAt W (some ⟨g, 0, none⟩) X := by
      intro W base g n X h
      obtain ⟨a', c', e', h', -⟩ := bytes_of_own h
      simp only [Value.slice.injEq, true_and] at e'
      exact e'.1 ▸ h'
    have BX1 := toB (KA.row o1' (fun _ _ f => f))
    have BX2 := toB (KA.row o2' (fun _ _ f => f))
    have BX3 := toB (KA.row o3 (fun _ _ f => f))
    have hfl : flat [(some ⟨W9.heap.size, 0, none⟩, X1.length, X1), (some ⟨V1.heap.size, 0, none⟩, X2.length, X2), (some ⟨V2.heap.size, 0, none⟩, X3.length, X3)] = img (pol L) := by
      rw [HIm.out]
      simp [flat]
    have CC := concat_any [(some ⟨W9.heap.size, 0, none⟩, X1.length, X1), (some ⟨V1.heap.size, 0, none⟩, X2.length, X2), (some ⟨V2.heap.size, 0, none⟩, X3.length, X3)] (some ⟨V3.heap.size, 0, none⟩) 3 (V3.alloc (.cells #[.slice (some ⟨W9.heap.size, 0, none⟩) X1.length X1.length, .slice (some ⟨V1.heap.size, 0, none⟩) X2.length X2.length, .slice (some ⟨V2.heap.size, 0, none⟩) X3.length X3.length] 22)) (fun _ => ⟨V3.heap.size, 0, rfl, fun k hk => by
      have hk2 : k < 3 := hk
      obtain rfl | rfl | rfl : k = 0 ∨ k = 1 ∨ k = 2 := by omega
      · simp [Part.val]
      · simp [Part.val]
      · simp [Part.val]⟩) (fun q hq => by
      simp only [List.mem_cons, List.not_mem_nil, or_false] at hq
      rcases hq with rfl | rfl | rfl
      · exact BX1
      · exact BX2
      · exact BX3) (by simp) (by rw [hfl, HIm.out, List.length_append, List.length_append]; omega)
    rw [hfl, ← HN.out] at CC
    generalize V3.alloc (.cells #[.slice (some ⟨W9.heap.size, 0, none⟩) X1.length X1.length, .slice (some ⟨V1.heap.size, 0, none⟩) X2.length X2.length, .slice (some ⟨V2.heap.size, 0, none⟩) X3.length X3.length] 22) = V4 at *
    refine wpAnyH_all (rs := [7]) (by kernel_rfl) (by simp) ?_
    intro i hi
    obtain rfl : i = 7 := by simpa using hi
    unfold wpOp
    go_simp
    refine Or.inl (CC.mono ?_)
    rintro e V5 ⟨rfl, o5, k5⟩
    have hS5 : Bxs2 p4 b2 b3 V5 := ⟨k5.cell (KA.cell hS3.s (fun f => f)) (fun f => f), k5.cell (KA.cell hS3.k (fun f => f)) (fun f => f)⟩
    refine ⟨hS5, ?_⟩
    refine takeZ (i := 8) (d := 2) (v := .slice (some ⟨V4.heap.size, 0, none⟩) N N) rfl rfl (by kernel_rfl) (by kernel_rfl) (by kernel_rfl) (fun _ _ _ h => h) (Or.inl ⟨by rfl, fun W hW => ?_⟩) hS5 ?_
    · go_simp
    simp only [Act.put, List.setIfInBounds_toArray, List.set_cons_zero, List.set_cons_succ]
    refine wpAnyH_done (by kernel_rfl) ?_ _
    have kk5 := (kk3.trans KA (fun _ f => f.elim)).trans k5 (fun _ f => f.elim)
    have hKw := HKW.out.trans kk5 (fun _ f => f.elim)
    have hD5 := kk5.heap HDf.out (fun f => f)
    have hsV : w.heap.size ≤ V4.heap.size := by have := HKW.out.size; have := (kk3.trans KA (fun _ f => f.elim)).size; omega
    have HO5 := hideP o5
    have HKw := hideP hKw
    have HD5 := hideP hD5
    have HVV : Hid (Wc.heap.size < V4.heap.size) := hideP (by have := (kk3.trans KA (fun _ f => f.elim)).size; have := size_of_some HDf.out; omega)
    clear o1 o2 o3 o1' o2' o5 k1 k2 k3 k5 kk1 kk2 kk3 kk5 KA BX1 BX2 BX3 CC B1 B2 B3 hS9 hS1 hS2 hS3 hS5 toB hfl hKw hD5 HT9 HW9 HKW HDf q4 q5 hg1 hg2 hg3
    simp only [onlyN]
    go_wp2
    refine ⟨by simp, .inl ⟨_, _, rfl, run_takeDeferred HD5.out, ?_⟩⟩
    have kp := kept_put1 V5 Wc.heap.size (.deferred none)
    have hWc := HK9.out.size
    refine ⟨.slice (some ⟨V4.heap.size, 0, none⟩) N N, by simp [results, Tryd.results37, go_sem], ⟨V4.heap.size, hsV, rfl, kp.row (own_lowerP HO5.out hsV) (fun k hk e => ?_)⟩, HKw.out.trans kp (fun i hi => .inr (by omega))⟩
    simp [Value.ownBlock] at hk
    have := HVV.out
    omega
  case stop => exact fun _ _ _ _ h _ _ => h.elim
end Go.Proofs.YtbdhmibiggpomaaDoor
