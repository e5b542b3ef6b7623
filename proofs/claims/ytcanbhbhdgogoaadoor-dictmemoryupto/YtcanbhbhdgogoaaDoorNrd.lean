import Derived.Test.YtcanbhbhdgogoaaDoorMrg6
import Derived.Test.YtcanbhbhdgogoaaDoorEqd
import Derived.Test.YtcanbhbhdgogoaaDoorDrf
namespace Go.Proofs.YtcanbhbhdgogoaaDoor
open Go.ChangeShapes Go.WideShapes Go.ChangeAt Go.RowKit

theorem bytes_cutN {W : World} {b off : Nat} {l : List Int} (h : BytesAt W (some ⟨b, off, none⟩) l) (p m : Nat) : BytesAt W (some ⟨b, off + p, none⟩) ((l.drop p).take m) := by
  intro hne
  have hl : l ≠ [] := by rintro rfl; simp at hne
  obtain ⟨b', off', e, hc⟩ := h hl
  injection e with e
  injection e with e1 e2
  subst e1 e2
  refine ⟨b, off + p, rfl, fun k hk => ?_⟩
  rw [List.length_take, List.length_drop] at hk
  have := hc (p + k) (by omega)
  rw [List.getElem?_take, if_pos (by omega), List.getElem?_drop, ← Nat.add_assoc] at *
  exact this
theorem key_any {bf c0 k : ByteArray} (hk : klt c0 k = true) (hc : c0 = bf ∨ c0 = ByteArray.empty) : shr c0.data.toList k.data.toList ≤ bf.size ∧ shr c0.data.toList k.data.toList ≤ k.size ∧ keyOf bf (shr c0.data.toList k.data.toList) ((sb k).drop (shr c0.data.toList k.data.toList)) = k := by
  rcases hc with rfl | rfl
  · obtain ⟨h1, h2, h3, h4⟩ := key_shared hk
    exact ⟨h2, by omega, h4⟩
  · have e : shr (ByteArray.empty).data.toList k.data.toList = 0 := shr_nil _
    rw [e]
    refine ⟨Nat.zero_le _, Nat.zero_le _, ?_⟩
    rw [List.drop_zero]
    have h : (keyOf bf 0 (sb k)).data.toList = k.data.toList := by rw [keyOf_list, List.take_zero, List.nil_append, str_of_sbE]
    exact ByteArray.ext (Array.toList_inj.1 h)
/-- An entry where there is one. -/
theorem ent_put {l R : List Int} {P : Nat} {c0 bf : ByteArray} {e0 : En} (h : l.drop P = een c0 e0 ++ R) (hP : P ≤ l.length) (hg : Gen e0) (hk : klt c0 e0.k = true) (hc : c0 = bf ∨ c0 = ByteArray.empty) :
    ∃ P2 : Nat, tkp l (tkp l (P : Int)) = (P2 : Int) ∧ tkv l (P : Int) ≤ bf.size ∧ P2 + tkv l (tkp l (P : Int)) ≤ l.length ∧ keyOf bf (tkv l (P : Int)) ((l.drop P2).take (tkv l (tkp l (P : Int)))) = e0.k ∧
      ∃ P4 P5 P6 : Nat, tkv l ((P2 + tkv l (tkp l (P : Int)) : Nat) : Int) = e0.d.toNat ∧ tkp l ((P2 + tkv l (tkp l (P : Int)) : Nat) : Int) = (P4 : Int) ∧ tkv l (P4 : Int) = e0.t.toNat ∧ tkp l (P4 : Int) = (P5 : Int) ∧ tkv l (P5 : Int) = e0.p.toNat ∧ tkp l (P5 : Int) = (P6 : Int) ∧ tkv l (P6 : Int) = e0.s.toNat ∧ tkp l (P6 : Int) = ((P + (een c0 e0).length : Nat) : Int) := by
  obtain ⟨k1, k2, k3⟩ := key_any hk hc
  obtain ⟨s, hs⟩ : ∃ s, s = shr c0.data.toList e0.k.data.toList := ⟨_, rfl⟩
  have hel : een c0 e0 = uvb s ++ ((uvb (e0.k.size - s) ++ (sb e0.k).drop s) ++ (uvb e0.d.toNat ++ (uvb e0.t.toNat ++ (uvb e0.p.toNat ++ uvb e0.s.toNat)))) := by rw [een, ← hs]
  rw [← hs] at k1 k2 k3
  obtain ⟨K, hK⟩ : ∃ K, K = (sb e0.k).drop s := ⟨_, rfl⟩
  have hKl : K.length = e0.k.size - s := by rw [hK, List.length_drop, sb_length]
  obtain ⟨m, hm⟩ : ∃ m, m = e0.k.size - s := ⟨_, rfl⟩
  rw [← hK, ← hm] at hel
  rw [← hm] at hKl
  rw [← hK] at k3
  have g2 := hg.k2
  have g3 := hg.d
  have g4 := hg.t
  have g5 := hg.p
  have g6 := hg.s
  have h0 : l.drop P = uvb s ++ (uvb m ++ (K ++ (uvb e0.d.toNat ++ (uvb e0.t.toNat ++ (uvb e0.p.toNat ++ (uvb e0.s.toNat ++ R)))))) := by rw [h, hel]; simp only [List.append_assoc]
  have h1 := drop_next h0
  have h2 := drop_next h1
  have h3 := drop_next h2
  have h4 := drop_next h3
  have h5 := drop_next h4
  have h6 := drop_next h5
  obtain ⟨a1, a2⟩ := tk_uvb h0 (by omega)
  obtain ⟨b1, b2⟩ := tk_uvb h1 (by omega)
  obtain ⟨c1, c2⟩ := tk_uvb h3 (by omega)
  obtain ⟨d1, d2⟩ := tk_uvb h4 (by omega)
  obtain ⟨e1, e2⟩ := tk_uvb h5 (by omega)
  obtain ⟨f1, f2⟩ := tk_uvb h6 (by omega)
  rw [a1, a2, b1, b2]
  refine ⟨_, rfl, k1, ?_, ?_, ?_⟩
  · have := congrArg List.length h2
    rw [List.length_drop, List.length_append] at this
    have hp2 := congrArg List.length h0
    rw [List.length_drop] at hp2
    simp only [List.length_append] at hp2 this
    omega
  · rw [h2, List.take_left' hKl]
    exact k3
  · rw [hKl] at c1 c2 d1 d2 e1 e2 f1 f2
    refine ⟨_, _, _, c1, c2, d1, d2, e1, e2, f1, ?_⟩
    rw [f2, hel]
    simp only [List.length_append, hKl]
    congr 1
    omega
set_option maxRecDepth 20000 in
set_option maxHeartbeats 8000000 in
/-- The document's entry. -/
theorem entry_any (l : List Int) (a : Option Addr) (n c : Nat) (p : Int) (bf : ByteArray) (w : World) (hn : n = l.length) (hB : BytesAt w a l) (hI : IsBytes l) (hl : n ≤ 1099511627776) (hc : n ≤ c) (hp : -1 ≤ p ∧ p ≤ n) :
    Calls Tryd.prog 33 #[.slice a n c, .int .i64 p, .string bf] w fun e w' => ∃ (x : En) (q : Int), e = .returned (.tuple #[enV x, .int .i64 q]) ∧ (-1 ≤ q ∧ q ≤ n) ∧ x.k.size ≤ bf.size + n ∧ (∀ (P : Nat) (c0 : ByteArray) (e0 : En) (R : List Int), p = (P : Int) → l.drop P = een c0 e0 ++ R → Gen e0 → klt c0 e0.k = true → (c0 = bf ∨ c0 = ByteArray.empty) → x = e0 ∧ q = ((P + (een c0 e0).length : Nat) : Int)) ∧ Kept (fun _ => False) w w' := by
  have HK0 := hideQ (Kept.alloc w (.cells #[.string ⟨#[]⟩, .int .i64 0, .int .i64 0, .int .i64 0, .int .i64 0] 31))
  have HX0 := hideQ (enO_new w ⟨#[]⟩ 0 0 0 0)
  have HSP : Hid (∀ (P : Nat) (c0 : ByteArray) (e0 : En) (R : List Int), p = (P : Int) → l.drop P = een c0 e0 ++ R → Gen e0 → klt c0 e0.k = true → (c0 = bf ∨ c0 = ByteArray.empty) → ∃ P2 : Nat, tkp l (tkp l p) = (P2 : Int) ∧ tkv l p ≤ bf.size ∧ P2 + tkv l (tkp l p) ≤ l.length ∧ keyOf bf (tkv l p) ((l.drop P2).take (tkv l (tkp l p))) = e0.k ∧
      ∃ P4 P5 P6 : Nat, tkv l ((P2 + tkv l (tkp l p) : Nat) : Int) = e0.d.toNat ∧ tkp l ((P2 + tkv l (tkp l p) : Nat) : Int) = (P4 : Int) ∧ tkv l (P4 : Int) = e0.t.toNat ∧ tkp l (P4 : Int) = (P5 : Int) ∧ tkv l (P5 : Int) = e0.p.toNat ∧ tkp l (P5 : Int) = (P6 : Int) ∧ tkv l (P6 : Int) = e0.s.toNat ∧ tkp l (P6 : Int) = ((P + (een c0 e0).length : Nat) : Int)) := hideQ (fun P c0 e0 R hpp h1 h2 h3 h4 => by
    subst hpp
    exact ent_put h1 (by omega) h2 h3 h4)
  have CT : Hid (∀ (p : Int) (V : World), Kept (fun _ => False) w V → -1 ≤ p ∧ p ≤ n → Calls Tryd.prog 32 #[.slice a n c, .int .i64 p] V fun e w' => e = .returned (.tuple #[.int .i64 (tkv l p : Nat), .int .i64 (tkp l p)]) ∧ w' = V) := hideQ (fun p V k hp => take_any l a n c p V hn (hB.keptO k) hI hl hp)
  have HTP : Hid (∀ p : Int, p ≤ n → -1 ≤ tkp l p ∧ tkp l p ≤ n) := hideQ (fun p h => by rw [hn]; exact tkp_bnd l p (by omega))
  have HTV : Hid (∀ p : Int, tkv l p < 34359738368) := hideQ (fun p => tkv_bnd l p hI)
  have HTN : Hid (l = [] → tkp l (tkp l p) = -1) := hideQ (fun e => by
    subst e
    have h0 : ∀ q : Int, tkp [] q = -1 := fun q => by
      unfold tkp
      split
      · rfl
      · rw [List.drop_nil]; rfl
    exact h0 _)
  have HB := hideQ hB
  have HI := hideQ hI
  have HN := hideQ hn
  have CT1 := hideQ (CT.out p _ HK0.out hp)
  obtain ⟨s, hs⟩ : ∃ s, s = tkv l p := ⟨_, rfl⟩
  obtain ⟨p1, hp1⟩ : ∃ p1, p1 = tkp l p := ⟨_, rfl⟩
  have hsb := HTV.out p
  have hp1b := HTP.out p hp.2
  rw [← hs, ← hp1] at CT1 HSP
  rw [← hp1] at HTN
  rw [← hs] at hsb
  rw [← hp1] at hp1b
  have CT2 := hideQ (CT.out p1 _ HK0.out hp1b)
  obtain ⟨m, hm⟩ : ∃ m, m = tkv l p1 := ⟨_, rfl⟩
  obtain ⟨p2, hp2⟩ : ∃ p2, p2 = tkp l p1 := ⟨_, rfl⟩
  have hmb := HTV.out p1
  have hp2b := HTP.out p1 hp1b.2
  rw [← hm, ← hp2] at CT2 HSP
  rw [← hp2] at HTN
  rw [← hm] at hmb
  rw [← hp2] at hp2b
  clear hB hI hn hs hp1 hm hp2
  go_enter Tryd.func33, Tryd.ntmps33
  go_wp2_with (go_at_call 32; refine Stp.go ?_)
  refine ⟨?_⟩
  generalize w.alloc (.cells #[.string ⟨#[]⟩, .int .i64 0, .int .i64 0, .int .i64 0, .int .i64 0] 31) = W0 at *
  refine CT1.out.mono ?_
  clear CT1
  rintro e V1 ⟨rfl, h1⟩
  obtain rfl := h1.symm
  go_wp2_with (go_at_call 32; refine Stp.go ?_)
  refine ⟨?_⟩
  refine CT2.out.mono ?_
  clear CT2
  rintro e V2 ⟨rfl, h2⟩
  obtain rfl := h2.symm
  obtain ⟨⟨x0, x1, x2, x3, x4⟩, xf⟩ := enO_cells HX0.out
  have f0 := xf 0
  have f1 := xf 1
  have f2 := xf 2
  have f3 := xf 3
  have f4 := xf 4
  clear xf
  by_cases hbad : p2 < 0 ∨ bf.size < s ∨ (n : Int) - p2 < m
  · have HNo : Hid (∀ (P : Nat) (c0 : ByteArray) (e0 : En) (R : List Int), p = (P : Int) → l.drop P = een c0 e0 ++ R → Gen e0 → klt c0 e0.k = true → (c0 = bf ∨ c0 = ByteArray.empty) → False) := hideQ (fun P c0 e0 R q1 q2 q3 q4 q5 => by
      obtain ⟨P2, z1, z2, z3, -⟩ := HSP.out P c0 e0 R q1 q2 q3 q4 q5
      have := HN.out
      omega)
    have HPk := hideQ (putE_kept W0 w.heap.size ⟨⟨#[]⟩, 0, 0, 0, 0⟩)
    have HPh := hideQ (putE_heap HX0.out ⟨⟨#[]⟩, 0, 0, 0, 0⟩)
    have HKz : Hid (Kept (fun _ => False) w (putE W0 w.heap.size ⟨⟨#[]⟩, 0, 0, 0, 0⟩)) := hideQ (HK0.out.trans HPk.out (fun i hi => .inr (by omega)))
    have b1 : decide (p2 < 0) = true ∨ (decide (p2 < 0) = false ∧ (decide ((bf.size : Int) < (s : Int)) = true ∨ (decide ((bf.size : Int) < (s : Int)) = false ∧ decide ((n : Int) - p2 < (m : Int)) = true))) := by
      by_cases q1 : p2 < 0
      · exact .inl (decide_eq_true q1)
      · refine .inr ⟨decide_eq_false q1, ?_⟩
        by_cases q2 : bf.size < s
        · exact .inl (decide_eq_true (by omega))
        · exact .inr ⟨decide_eq_false (by omega), decide_eq_true (by omega)⟩
    have wz : 0 ≤ p2 → IntKind.i64.wrap ((n : Int) - p2) = (n : Int) - p2 := fun _ => by rw [IntKind.wrap_i64]; omega
    clear HSP HTP HTV CT HB HI HX0
    rcases b1 with q1 | ⟨q1, q2 | ⟨q2, q3⟩⟩
    · have q1' : p2 < 0 := of_decide_eq_true q1
      go_wp2
      obtain ⟨⟨z0, z1, z2, z3, z4⟩, -⟩ := enO_cells HPh.out
      simp only [putE] at z0 z1 z2 z3 z4
      refine bodyPost_ret (v := .tuple #[enV ⟨⟨#[]⟩, 0, 0, 0, 0⟩, .int .i64 (-1)]) (by simp [results, Tryd.results33, go_sem, z0, z1, z2, z3, z4, enV]) rfl ?_
      exact ⟨⟨⟨#[]⟩, 0, 0, 0, 0⟩, -1, rfl, ⟨by omega, by omega⟩, Nat.zero_le _, fun P c0 e0 R t1 t2 t3 t4 t5 => (HNo.out P c0 e0 R t1 t2 t3 t4 t5).elim, HKz.out⟩
    · have q1' : ¬ p2 < 0 := of_decide_eq_false q1
      have q2' : (bf.size : Int) < (s : Int) := of_decide_eq_true q2
      go_wp2
      obtain ⟨⟨z0, z1, z2, z3, z4⟩, -⟩ := enO_cells HPh.out
      simp only [putE] at z0 z1 z2 z3 z4
      refine bodyPost_ret (v := .tuple #[enV ⟨⟨#[]⟩, 0, 0, 0, 0⟩, .int .i64 (-1)]) (by simp [results, Tryd.results33, go_sem, z0, z1, z2, z3, z4, enV]) rfl ?_
      exact ⟨⟨⟨#[]⟩, 0, 0, 0, 0⟩, -1, rfl, ⟨by omega, by omega⟩, Nat.zero_le _, fun P c0 e0 R t1 t2 t3 t4 t5 => (HNo.out P c0 e0 R t1 t2 t3 t4 t5).elim, HKz.out⟩
    · have q1' : ¬ p2 < 0 := of_decide_eq_false q1
      have q2' : ¬ (bf.size : Int) < (s : Int) := of_decide_eq_false q2
      have q3' : (n : Int) - p2 < (m : Int) := of_decide_eq_true q3
      have wz' := wz (by omega)
      clear wz
      go_wp2
      obtain ⟨⟨z0, z1, z2, z3, z4⟩, -⟩ := enO_cells HPh.out
      simp only [putE] at z0 z1 z2 z3 z4
      refine bodyPost_ret (v := .tuple #[enV ⟨⟨#[]⟩, 0, 0, 0, 0⟩, .int .i64 (-1)]) (by simp [results, Tryd.results33, go_sem, z0, z1, z2, z3, z4, enV]) rfl ?_
      exact ⟨⟨⟨#[]⟩, 0, 0, 0, 0⟩, -1, rfl, ⟨by omega, by omega⟩, Nat.zero_le _, fun P c0 e0 R t1 t2 t3 t4 t5 => (HNo.out P c0 e0 R t1 t2 t3 t4 t5).elim, HKz.out⟩
  · have hbad' : 0 ≤ p2 ∧ s ≤ bf.size ∧ (m : Int) ≤ (n : Int) - p2 := by omega
    obtain ⟨g1, g2, g3⟩ := hbad'
    obtain ⟨P2, rfl⟩ : ∃ P2 : Nat, p2 = (P2 : Int) := ⟨p2.toNat, by omega⟩
    clear hbad
    by_cases hne : l = []
    · exfalso
      have h5 := HTN.out hne
      omega
    obtain ⟨b, off, rfl, hcc⟩ := HB.out hne
    clear hcc
    obtain ⟨E, hE⟩ : ∃ E, E = P2 + m := ⟨_, rfl⟩
    obtain ⟨t, ht⟩ : ∃ t, t = (l.drop P2).take m := ⟨_, rfl⟩
    have htl : m = t.length := by rw [ht, List.length_take, List.length_drop]; have := HN.out; omega
    obtain ⟨TS, hTS⟩ : ∃ TS, TS = strOfNums t := ⟨_, rfl⟩
    have HTs : Hid (TS.size = m) := hideQ (by rw [hTS, strOf_size, htl])
    obtain ⟨sa, hsa⟩ : ∃ sa, (c = P2 ∧ sa = off) ∨ (c ≠ P2 ∧ sa = off + P2) := by
      by_cases e : c = P2
      · exact ⟨off, .inl ⟨e, rfl⟩⟩
      · exact ⟨off + P2, .inr ⟨e, rfl⟩⟩
    have HSA := hideQ hsa
    have HBT : Hid (∀ V, Kept (fun _ => False) w V → (convert 25 9 (.slice (some ⟨b, sa, none⟩) m (c - P2))).run Tryd.prog V = .ok (.string TS) V) := hideQ (fun V k => by
      rcases hsa with ⟨e1, e2⟩ | ⟨e1, e2⟩
      · have ht0 : t = [] := List.eq_nil_of_length_eq_zero (by omega)
        have h := conv_atD (W := V) (a := some ⟨b, sa, none⟩) (B := []) (c := c - P2) (fun e => (e rfl).elim)
        rw [hTS, htl, ht0]
        exact h
      · have h := conv_atD (c := c - P2) ((bytes_cutN HB.out P2 m).keptO k)
        rw [← ht, ← htl, ← hTS] at h
        rw [e2]
        exact h)
    clear hsa
    have HTb : Hid (s + TS.size ≤ 9223372036854775807) := hideQ (by rw [HTs.out]; omega)
    have hEb : E ≤ n := by omega
    have HTC := fun p V k hp => CT.out p V k hp
    obtain ⟨d, hd⟩ : ∃ d, d = tkv l (E : Int) := ⟨_, rfl⟩
    obtain ⟨p3, hp3⟩ : ∃ p3, p3 = tkp l (E : Int) := ⟨_, rfl⟩
    obtain ⟨tt, htt⟩ : ∃ tt, tt = tkv l p3 := ⟨_, rfl⟩
    obtain ⟨p4, hp4⟩ : ∃ p4, p4 = tkp l p3 := ⟨_, rfl⟩
    obtain ⟨pp, hpp⟩ : ∃ pp, pp = tkv l p4 := ⟨_, rfl⟩
    obtain ⟨p5, hp5⟩ : ∃ p5, p5 = tkp l p4 := ⟨_, rfl⟩
    obtain ⟨ss, hss⟩ : ∃ ss, ss = tkv l p5 := ⟨_, rfl⟩
    obtain ⟨p6, hp6⟩ : ∃ p6, p6 = tkp l p5 := ⟨_, rfl⟩
    have b3 := HTP.out (E : Int) (by omega)
    rw [← hp3] at b3
    have b4 := HTP.out p3 b3.2
    rw [← hp4] at b4
    have b5 := HTP.out p4 b4.2
    rw [← hp5] at b5
    have b6 := HTP.out p5 b5.2
    rw [← hp6] at b6
    have C3 : Hid (∀ V, Kept (fun _ => False) w V → Calls Tryd.prog 32 #[.slice (some ⟨b, off, none⟩) n c, .int .i64 (E : Int)] V fun e w' => e = .returned (.tuple #[.int .i64 (d : Nat), .int .i64 p3]) ∧ w' = V) := hideQ (fun V k => by rw [hd, hp3]; exact CT.out _ V k (by omega))
    have C4 : Hid (∀ V, Kept (fun _ => False) w V → Calls Tryd.prog 32 #[.slice (some ⟨b, off, none⟩) n c, .int .i64 p3] V fun e w' => e = .returned (.tuple #[.int .i64 (tt : Nat), .int .i64 p4]) ∧ w' = V) := hideQ (fun V k => by rw [htt, hp4]; exact CT.out _ V k b3)
    have C5 : Hid (∀ V, Kept (fun _ => False) w V → Calls Tryd.prog 32 #[.slice (some ⟨b, off, none⟩) n c, .int .i64 p4] V fun e w' => e = .returned (.tuple #[.int .i64 (pp : Nat), .int .i64 p5]) ∧ w' = V) := hideQ (fun V k => by rw [hpp, hp5]; exact CT.out _ V k b4)
    have C6 : Hid (∀ V, Kept (fun _ => False) w V → Calls Tryd.prog 32 #[.slice (some ⟨b, off, none⟩) n c, .int .i64 p5] V fun e w' => e = .returned (.tuple #[.int .i64 (ss : Nat), .int .i64 p6]) ∧ w' = V) := hideQ (fun V k => by rw [hss, hp6]; exact CT.out _ V k b5)
    obtain ⟨ky, hky⟩ : ∃ ky, ky = bf.extract 0 s ++ TS := ⟨_, rfl⟩
    have HFin : Hid (∀ (P : Nat) (c0 : ByteArray) (e0 : En) (R : List Int), p = (P : Int) → l.drop P = een c0 e0 ++ R → Gen e0 → klt c0 e0.k = true → (c0 = bf ∨ c0 = ByteArray.empty) → (⟨ky, d, tt, pp, ss⟩ : En) = e0 ∧ p6 = ((P + (een c0 e0).length : Nat) : Int)) := hideQ (fun P c0 e0 R q1 q2 q3 q4 q5 => by
      obtain ⟨P2', z1, -, -, z4, P4, P5, P6, y1, y2, y3, y4, y5, y6, y7, y8⟩ := HSP.out P c0 e0 R q1 q2 q3 q4 q5
      obtain rfl : P2 = P2' := by omega
      rw [← hE] at y1 y2
      rw [← hd] at y1
      rw [← hp3] at y2
      rw [← y2, ← htt] at y3
      rw [← y2, ← hp4] at y4
      rw [← y4, ← hpp] at y5
      rw [← y4, ← hp5] at y6
      rw [← y6, ← hss] at y7
      rw [← y6, ← hp6] at y8
      refine ⟨?_, y8⟩
      rw [← ht] at z4
      have hkk : ky = e0.k := by rw [hky, hTS]; exact z4
      obtain ⟨k0, d0, t0, p0, s0⟩ := e0
      have r1 := q3.d
      have r2 := q3.t
      have r3 := q3.p
      have r4 := q3.s
      simp only at hkk y1 y3 y5 y7 r1 r2 r3 r4
      rw [hkk, y1, y3, y5, y7]
      congr 1 <;> omega)
    have HKs : Hid (ky.size ≤ bf.size + n) := hideQ (by
      rw [hky, ByteArray.size_append, HTs.out, ByteArray.size_extract]
      omega)
    have HKy := hideQ hky
    have HDr : Kept (fun _ => False) w W0.drew := HK0.out.trans (Kept.drew _) (fun _ f => f.elim)
    have HXd : Hid (W0.drew.heap[w.heap.size]? = some (enO ⟨#[]⟩ 0 0 0 0)) := HX0
    have w1 : IntKind.i64.wrap ((P2 : Int) + (m : Int)) = (E : Int) := by rw [IntKind.wrap_i64]; omega
    have w1' : (P2 : Int) + (m : Int) = (E : Int) := by omega
    have w1e : IntKind.i64.wrap (E : Int) = (E : Int) := by rw [IntKind.wrap_i64]; omega
    have w2 : IntKind.i64.wrap ((n : Int) - (P2 : Int)) = (n : Int) - (P2 : Int) := by rw [IntKind.wrap_i64]; omega
    have q1 : decide ((P2 : Int) < 0) = false := decide_eq_false (by omega)
    have q2 : decide ((bf.size : Int) < (s : Int)) = false := decide_eq_false (by omega)
    have q3 : decide ((n : Int) - (P2 : Int) < (m : Int)) = false := decide_eq_false (by omega)
    have q2' : ¬ (bf.size : Int) < (s : Int) := by omega
    have q3' : ¬ (n : Int) - (P2 : Int) < (m : Int) := by omega
    have j1 : (s : Int) ≤ (bf.size : Int) := by omega
    have j2 : (E : Int) ≤ (c : Int) := by omega
    have j3 : (P2 : Int) ≤ (E : Int) := by omega
    have j4 : E - P2 = m := by omega
    have j5 : ((s : Int)).toNat = s := by omega
    clear HSP HTP HTV CT HB HI hE ht htl hTS hd hp3 htt hp4 hpp hp5 hss hp6 hky HTC x0 x1 x2 x3 x4 f0 f1 f2 f3 f4 HTs hne
    go_wp2_with fail
    refine wp_region_held (S := fun V => Kept (fun _ => False) w V) (by kernel_rfl) ?_
    change wpAnyH _ _ _ _ _ _ _ _ (World.drew _)
    refine takeZ (i := 0) (d := 44) (v := .string bf) rfl rfl (by kernel_rfl) (by kernel_rfl) (by kernel_rfl) (fun _ _ _ h => h) (Or.inl ⟨by rfl, fun W hW => ?_⟩) HDr ?_
    · (go_simp)
    simp only [Act.put, List.setIfInBounds_toArray, List.set_cons_zero, List.set_cons_succ]
    refine takeZ (i := 1) (d := 45) (v := .int .i64 s) rfl rfl (by kernel_rfl) (by kernel_rfl) (by kernel_rfl) (fun _ _ _ h => h) (Or.inl ⟨by rfl, fun W hW => ?_⟩) HDr ?_
    · (go_simp)
    simp only [Act.put, List.setIfInBounds_toArray, List.set_cons_zero, List.set_cons_succ]
    refine takeZ (i := 3) (d := 47) (v := .slice (some ⟨b, off, none⟩) n c) rfl rfl (by kernel_rfl) (by kernel_rfl) (by kernel_rfl) (fun _ _ _ h => h) (Or.inl ⟨by rfl, fun W hW => ?_⟩) HDr ?_
    · (go_simp)
    simp only [Act.put, List.setIfInBounds_toArray, List.set_cons_zero, List.set_cons_succ]
    refine takeZ (i := 4) (d := 48) (v := .int .i64 P2) rfl rfl (by kernel_rfl) (by kernel_rfl) (by kernel_rfl) (fun _ _ _ h => h) (Or.inl ⟨by rfl, fun W hW => ?_⟩) HDr ?_
    · (go_simp)
    simp only [Act.put, List.setIfInBounds_toArray, List.set_cons_zero, List.set_cons_succ]
    refine takeZ (i := 5) (d := 49) (v := .int .i64 P2) rfl rfl (by kernel_rfl) (by kernel_rfl) (by kernel_rfl) (fun _ _ _ h => h) (Or.inl ⟨by rfl, fun W hW => ?_⟩) HDr ?_
    · (go_simp)
    simp only [Act.put, List.setIfInBounds_toArray, List.set_cons_zero, List.set_cons_succ]
    refine takeZ (i := 6) (d := 50) (v := .int .i64 m) rfl rfl (by kernel_rfl) (by kernel_rfl) (by kernel_rfl) (fun _ _ _ h => h) (Or.inl ⟨by rfl, fun W hW => ?_⟩) HDr ?_
    · (go_simp)
    simp only [Act.put, List.setIfInBounds_toArray, List.set_cons_zero, List.set_cons_succ]
    refine takeZ (i := 7) (d := 51) (v := .int .i64 E) rfl rfl (by kernel_rfl) (by kernel_rfl) (by kernel_rfl) (fun _ _ _ h => h) (Or.inl ⟨by rfl, fun W hW => ?_⟩) HDr ?_
    · (go_simp)
    simp only [Act.put, List.setIfInBounds_toArray, List.set_cons_zero, List.set_cons_succ]
    refine takeZ (i := 2) (d := 46) (v := .string (bf.extract 0 s)) rfl rfl (by kernel_rfl) (by kernel_rfl) (by kernel_rfl) (fun _ _ _ h => h) (Or.inl ⟨by rfl, fun W hW => ?_⟩) HDr ?_
    · (go_simp)
    simp only [Act.put, List.setIfInBounds_toArray, List.set_cons_zero, List.set_cons_succ]
    refine takeZ (i := 8) (d := 52) (v := .slice (some ⟨b, sa, none⟩) m (c - P2)) rfl rfl (by kernel_rfl) (by kernel_rfl) (by kernel_rfl) (fun _ _ _ h => h) (Or.inl ⟨by rfl, fun W hW => ?_⟩) HDr ?_
    · (rcases HSA.out with ⟨q8, q9⟩ | ⟨q8, q9⟩ <;> first | (go_simp; done) | (have q7 : E ≤ P2 := (by omega); have q6 : P2 ≤ E := (by omega); go_simp; done) | (have q7 : E ≤ P2 := (by omega); have q6 : P2 ≤ E := (by omega); go_simp; simp [q7, q6]; done))
    simp only [Act.put, List.setIfInBounds_toArray, List.set_cons_zero, List.set_cons_succ]
    refine takeZ (i := 9) (d := 53) (v := .string TS) rfl rfl (by kernel_rfl) (by kernel_rfl) (by kernel_rfl) (fun _ _ _ h => h) (Or.inl ⟨by rfl, fun W hW => ?_⟩) HDr ?_
    · (have q9 := HBT.out W hW; go_simp)
    simp only [Act.put, List.setIfInBounds_toArray, List.set_cons_zero, List.set_cons_succ]
    refine takeZ (i := 10) (d := 54) (v := .string ky) rfl rfl (by kernel_rfl) (by kernel_rfl) (by kernel_rfl) (fun _ _ _ h => h) (Or.inl ⟨by rfl, fun W hW => ?_⟩) HDr ?_
    · (have q9 := HKy.out; have q10 := HTb.out; go_simp; first | done | exact q10 | exact q9.symm | exact ⟨q10, q9.symm⟩ | (rw [q9]; exact q10))
    simp only [Act.put, List.setIfInBounds_toArray, List.set_cons_zero, List.set_cons_succ]
    refine takeZ (i := 11) (d := 10) (v := .string ky) rfl rfl (by kernel_rfl) (by kernel_rfl) (by kernel_rfl) (fun _ _ _ h => h) (Or.inl ⟨by rfl, fun W hW => ?_⟩) HDr ?_
    · (go_simp)
    simp only [Act.put, List.setIfInBounds_toArray, List.set_cons_zero, List.set_cons_succ]
    refine wpAnyH_done (by kernel_rfl) ?_ _
    have CC3 := hideQ (C3.out _ HDr)
    have CC4 := hideQ (C4.out _ HDr)
    have CC5 := hideQ (C5.out _ HDr)
    have CC6 := hideQ (C6.out _ HDr)
    obtain ⟨V0, hV0⟩ : ∃ V0, V0 = W0.drew := ⟨_, rfl⟩
    rw [← hV0] at CC3 CC4 CC5 CC6 HXd HDr ⊢
    clear hV0 C3 C4 C5 C6 HX0 HK0
    obtain ⟨⟨x0, x1, x2, x3, x4⟩, xf⟩ := enO_cells HXd.out
    have f0 := xf 0
    have f1 := xf 1
    have f2 := xf 2
    have f3 := xf 3
    have f4 := xf 4
    have HPk := hideQ (putE_kept V0 w.heap.size ⟨ky, d, tt, pp, ss⟩)
    have HPh := hideQ (putE_heap HXd.out ⟨ky, d, tt, pp, ss⟩)
    have HKz : Hid (Kept (fun _ => False) w (putE V0 w.heap.size ⟨ky, d, tt, pp, ss⟩)) := hideQ (HDr.trans HPk.out (fun i hi => .inr (by omega)))
    clear xf HXd HDr
    go_wp2_with (go_at_call 32; refine Stp.go ?_)
    refine ⟨?_⟩
    refine CC3.out.mono ?_
    clear CC3
    rintro e V3 ⟨rfl, h3⟩
    obtain rfl := h3.symm
    go_wp2_with (go_at_call 32; refine Stp.go ?_)
    refine ⟨?_⟩
    refine CC4.out.mono ?_
    clear CC4
    rintro e V4 ⟨rfl, h4⟩
    obtain rfl := h4.symm
    go_wp2_with (go_at_call 32; refine Stp.go ?_)
    refine ⟨?_⟩
    refine CC5.out.mono ?_
    clear CC5
    rintro e V5 ⟨rfl, h5⟩
    obtain rfl := h5.symm
    go_wp2_with (go_at_call 32; refine Stp.go ?_)
    refine ⟨?_⟩
    refine CC6.out.mono ?_
    clear CC6
    rintro e V6 ⟨rfl, h6⟩
    obtain rfl := h6.symm
    go_wp2
    obtain ⟨⟨z0, z1, z2, z3, z4⟩, -⟩ := enO_cells HPh.out
    simp only [putE] at z0 z1 z2 z3 z4
    refine bodyPost_ret (v := .tuple #[enV ⟨ky, d, tt, pp, ss⟩, .int .i64 p6]) (by simp [results, Tryd.results33, go_sem, z0, z1, z2, z3, z4, enV]) rfl ?_
    exact ⟨⟨ky, d, tt, pp, ss⟩, p6, rfl, b6, HKs.out, HFin.out, HKz.out⟩
end Go.Proofs.YtcanbhbhdgogoaaDoor
