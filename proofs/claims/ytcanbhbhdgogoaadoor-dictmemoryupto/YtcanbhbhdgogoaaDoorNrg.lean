import Derived.Test.YtcanbhbhdgogoaaDoorMrg6
import Derived.Test.YtcanbhbhdgogoaaDoorNrd
import Derived.Test.YtcanbhbhdgogoaaDoorDbf
namespace Go.Proofs.YtcanbhbhdgogoaaDoor
open Go.ChangeShapes Go.WideShapes Go.ChangeAt Go.RowKit

theorem isb_appN {a b : List Int} (ha : IsBytes a) (hb : IsBytes b) : IsBytes (a ++ b) := fun x hx => by
  rcases List.mem_append.1 hx with h | h
  · exact ha x h
  · exact hb x h
theorem uvb_bytesN : ∀ n, IsBytes (uvb n) := by
  intro n
  induction n using Nat.strongRecOn with
  | _ n ih =>
    by_cases h : n < 128
    · rw [uvb_small h]
      intro x hx
      simp only [List.mem_cons, List.not_mem_nil, or_false] at hx
      omega
    · rw [uvb_big h]
      intro x hx
      rcases List.mem_cons.1 hx with rfl | hx
      · omega
      · exact ih (n / 128) (by omega) x hx
theorem een_bytesN (b : ByteArray) (e : En) : IsBytes (een b e) := by
  unfold een
  repeat (first | exact uvb_bytesN _ | exact (fun x hx => sb_bytes _ x (List.mem_of_mem_drop hx)) | refine isb_appN ?_ ?_)
theorem ebl_bytesN : ∀ (b : ByteArray) (l : List En), IsBytes (ebl b l)
  | _, [] => fun x hx => by cases hx
  | b, e :: r => isb_appN (een_bytesN b e) (ebl_bytesN e.k r)
theorem img_bytesN (l : List En) : IsBytes (img l) := by
  unfold img hdL bdL
  refine isb_appN (isb_appN (uvb_bytesN _) ?_) ?_
  · intro x hx
    obtain ⟨y, hy, hx⟩ := List.mem_flatten.1 hx
    obtain ⟨F, _, rfl⟩ := List.mem_map.1 hy
    exact uvb_bytesN _ x hx
  · intro x hx
    obtain ⟨y, hy, hx⟩ := List.mem_flatten.1 hx
    obtain ⟨F, _, rfl⟩ := List.mem_map.1 hy
    exact ebl_bytesN _ _ x hx
theorem hdL_pre (E : List En) : ∀ (m k : Nat), ∃ R, hdL (chs (k + m) E) = hdL (chs k E) ++ R
  | 0, k => ⟨[], by simp⟩
  | m + 1, k => by
    obtain ⟨R, h⟩ := hdL_pre E m k
    exact ⟨R ++ uvb (ebl ByteArray.empty ((E.drop (16 * (k + m))).take 16)).length, by rw [← Nat.add_assoc, chs_snoc, hdL_snoc, h, List.append_assoc]⟩
theorem hdL_next (E : List En) {k N : Nat} (h : k < N) : ∃ x R, hdL (chs N E) = (hdL (chs k E) ++ uvb x) ++ R ∧ hdL (chs (k + 1) E) = hdL (chs k E) ++ uvb x ∧ x = (ebl ByteArray.empty ((E.drop (16 * k)).take 16)).length := by
  obtain ⟨R, hR⟩ := hdL_pre E (N - (k + 1)) (k + 1)
  rw [show k + 1 + (N - (k + 1)) = N by omega] at hR
  have e : hdL (chs (k + 1) E) = hdL (chs k E) ++ uvb (ebl ByteArray.empty ((E.drop (16 * k)).take 16)).length := by rw [chs_snoc, hdL_snoc]
  exact ⟨_, R, by rw [hR, e], e, rfl⟩
theorem drop_len {l A B : List Int} (h : l = A ++ B) : l.drop A.length = B := by rw [h, List.drop_left' rfl]
/-- One more length is read. -/
theorem len_put {l : List Int} {E : List En} {k : Nat} (hl : l = img E) (hk : k < nbk E.length) (hg : ∀ e ∈ E, Gen e) : tkp l (((uvb E.length ++ hdL (chs k E)).length : Nat) : Int) = (((uvb E.length ++ hdL (chs (k + 1) E)).length : Nat) : Int) := by
  obtain ⟨x, R, h1, h2, h3⟩ := hdL_next E hk
  have hd : l.drop (uvb E.length ++ hdL (chs k E)).length = uvb x ++ (R ++ bdL (chs (nbk E.length) E)) := by
    refine drop_len ?_
    rw [hl, img, h1]
    simp only [List.append_assoc]
  have hx : x < 34359738368 := by
    have h4 := ebl_le (F := (E.drop (16 * k)).take 16) (b := ByteArray.empty) (fun e he => hg e (List.mem_of_mem_drop (List.mem_of_mem_take he)))
    have h5 : ((E.drop (16 * k)).take 16).length ≤ 16 := by rw [List.length_take]; omega
    omega
  rw [(tk_uvb hd hx).2, h2]
  simp only [List.length_append]
  congr 1
  omega
/-- The entries from the place i on. -/
structure AtE (l : List Int) (E : List En) (i : Nat) (p : Int) (bf : ByteArray) (F : List En) : Prop where
  f : F = E.take i
  b : bf = lastk ByteArray.empty (E.take i)
  p : ∃ P : Nat, p = (P : Int) ∧ P ≤ l.length ∧ l.drop P = ebs (i % 16) bf (E.drop i)
theorem AtE.start {l : List Int} {E : List En} (hl : l = img E) : AtE l E 0 (((uvb E.length ++ hdL (chs (nbk E.length) E)).length : Nat) : Int) ByteArray.empty [] := by
  refine ⟨by simp, by simp [lastk], _, rfl, ?_, ?_⟩
  · rw [hl, img]
    simp only [List.length_append]
    omega
  · have h : l.drop (uvb E.length ++ hdL (chs (nbk E.length) E)).length = bdL (chs (nbk E.length) E) := drop_len (by rw [hl, img])
    rw [h, List.drop_zero]
    exact bdL_ebs _ E _ rfl
theorem AtE.next {l : List Int} {E F : List En} {i : Nat} {p : Int} {bf : ByteArray} (h : AtE l E i p bf F) (hg : Good E) (hi : i < E.length) : ∃ (P : Nat) (c0 : ByteArray) (R : List Int), p = (P : Int) ∧ l.drop P = een c0 E[i] ++ R ∧ Gen E[i] ∧ klt c0 E[i].k = true ∧ (c0 = bf ∨ c0 = ByteArray.empty) ∧ AtE l E (i + 1) ((P + (een c0 E[i]).length : Nat) : Int) E[i].k (F ++ [E[i]]) := by
  obtain ⟨P, rfl, hP, hd⟩ := h.p
  have hge := hg.gen _ (List.getElem_mem hi)
  rw [List.drop_eq_getElem_cons hi, ebs] at hd
  obtain ⟨c0, hc0⟩ : ∃ c0, c0 = (if i % 16 = 0 then ByteArray.empty else bf) := ⟨_, rfl⟩
  rw [← hc0] at hd
  have hk : klt c0 E[i].k = true := by
    rw [hc0]
    split
    · exact klt_empty hge.k1
    · have hE : E = E.take i ++ (E[i] :: E.drop (i + 1)) := by rw [← List.drop_eq_getElem_cons hi, List.take_append_drop]
      have hch := hg.chn
      rw [hE, chn_append] at hch
      rw [h.b]
      exact hch.2.1
  have hd2 := drop_next hd
  refine ⟨P, c0, _, rfl, hd, hge, hk, ?_, ⟨?_, ?_, _, rfl, ?_, ?_⟩⟩
  · rw [hc0]
    split
    · exact .inr rfl
    · exact .inl rfl
  · rw [h.f, List.take_succ_eq_append_getElem hi]
  · rw [List.take_succ_eq_append_getElem hi, lastk_snoc]
  · have := congrArg List.length hd
    rw [List.length_drop, List.length_append] at this
    omega
  · rw [hd2]
    congr 1
    omega
/-- What the document's Open leaves. -/
def roPost (O : Option (List En)) (w : World) (e : Ending) (w' : World) : Prop :=
  ((O = none ∧ e = .returned (.tuple #[.slice none 0 0, .int .i64 10])) ∨ (∃ E va vc, O = some E ∧ e = .returned (.tuple #[.slice va E.length vc, .int .i64 0]) ∧ EsAt w' va E)) ∧ Kept (fun _ => False) w w'
set_option maxRecDepth 20000 in
set_option maxHeartbeats 16000000 in
/-- The document's Open. -/
theorem ropen_any (l : List Int) (a : Option Addr) (n c : Nat) (w : World) (hn : n = l.length) (hB : BytesAt w a l) (hI : IsBytes l) (hl : n ≤ 1073741824) (hc : n ≤ c) :
    Calls Tryd.prog 14 #[.slice a n c] w (roPost (opn l) w) := by
  obtain ⟨O, hO⟩ : ∃ O, O = opn l := ⟨_, rfl⟩
  rw [← hO]
  have HO : Hid (∀ E, O = some E → l = img E ∧ Good E ∧ E.length * 7 ≤ n) := hideQ (fun E h => by
    have := opn_back hI (hO.symm.trans h)
    rw [hn]
    exact this)
  have HP : Hid (∀ E, Good E → img E = l → O = some E) := hideQ (fun E hg he => by rw [hO, ← he]; exact opn_put hg (by rw [he]; omega))
  have CT : Hid (∀ (p : Int) (V : World), Kept (fun _ => False) w V → -1 ≤ p ∧ p ≤ n → Calls Tryd.prog 32 #[.slice a n c, .int .i64 p] V fun e w' => e = .returned (.tuple #[.int .i64 (tkv l p : Nat), .int .i64 (tkp l p)]) ∧ w' = V) := hideQ (fun p V k hp => take_any l a n c p V hn (hB.keptO k) hI (by omega) hp)
  have CE : Hid (∀ (p : Int) (bf : ByteArray) (V : World), Kept (fun _ => False) w V → -1 ≤ p ∧ p ≤ n → Calls Tryd.prog 33 #[.slice a n c, .int .i64 p, .string bf] V fun e w' => ∃ (x : En) (q : Int), e = .returned (.tuple #[enV x, .int .i64 q]) ∧ (-1 ≤ q ∧ q ≤ n) ∧ x.k.size ≤ bf.size + n ∧ (∀ (P : Nat) (c0 : ByteArray) (e0 : En) (R : List Int), p = (P : Int) → l.drop P = een c0 e0 ++ R → Gen e0 → klt c0 e0.k = true → (c0 = bf ∨ c0 = ByteArray.empty) → x = e0 ∧ q = ((P + (een c0 e0).length : Nat) : Int)) ∧ Kept (fun _ => False) V w') := hideQ (fun p bf V k hp => entry_any l a n c p bf V hn (hB.keptO k) hI (by omega) hc hp)
  have HTP : Hid (∀ p : Int, p ≤ n → -1 ≤ tkp l p ∧ tkp l p ≤ n) := hideQ (fun p h => by rw [hn]; exact tkp_bnd l p (by omega))
  have HB := hideQ hB
  have HI := hideQ hI
  have HN := hideQ hn
  have CT0 := hideQ (CT.out 0 w (Kept.refl _ _) ⟨by omega, by omega⟩)
  obtain ⟨m, hm⟩ : ∃ m, m = tkv l 0 := ⟨_, rfl⟩
  obtain ⟨p0, hp0⟩ : ∃ p0, p0 = tkp l 0 := ⟨_, rfl⟩
  have hmb := tkv_bnd l 0 hI
  have hp0b := HTP.out 0 (by omega)
  have HZ : Hid (∀ E, O = some E → m = E.length ∧ p0 = (((uvb E.length ++ hdL (chs 0 E)).length : Nat) : Int)) := hideQ (fun E h => by
    obtain ⟨h1, h2, h3⟩ := HO.out E h
    have hd : l.drop 0 = uvb E.length ++ (hdL (chs (nbk E.length) E) ++ bdL (chs (nbk E.length) E)) := by rw [List.drop_zero, h1, img, List.append_assoc]
    obtain ⟨q1, q2⟩ := tk_uvb (P := 0) hd (by omega)
    refine ⟨hm.trans q1, hp0.trans ?_⟩
    have e0 : hdL (chs 0 E) = [] := rfl
    rw [e0, List.append_nil]
    simpa using q2)
  rw [← hm, ← hp0] at CT0
  rw [← hm] at hmb
  rw [← hp0] at hp0b
  clear hB hI hn hO hm hp0
  unfold roPost
  go_enter Tryd.func14, Tryd.ntmps14
  go_wp2_with (go_at_call 32; refine Stp.go ?_)
  refine ⟨?_⟩
  refine CT0.out.mono ?_
  clear CT0
  rintro e V1 ⟨rfl, h1⟩
  obtain rfl := h1.symm
  by_cases hb0 : p0 < 0 ∨ n < m
  · have HNo : Hid (O = none) := hideQ (by
      cases hO : O with
      | none => rfl
      | some E =>
        obtain ⟨q1, q2⟩ := HZ.out E hO
        obtain ⟨-, -, q3⟩ := HO.out E hO
        omega)
    clear HZ HO HP CT CE HTP HB HI
    by_cases q1 : p0 < 0
    · have d1 : decide (p0 < 0) = true := decide_eq_true q1
      go_wp2
      go_ret2
      exact ⟨.inl ⟨HNo.out, rfl⟩, Kept.refl _ _⟩
    · have d1 : decide (p0 < 0) = false := decide_eq_false q1
      have d2 : decide ((n : Int) < (m : Int)) = true := decide_eq_true (by omega)
      have d2' : (n : Int) < (m : Int) := by omega
      go_wp2
      go_ret2
      exact ⟨.inl ⟨HNo.out, rfl⟩, Kept.refl _ _⟩
  have q1 : ¬ p0 < 0 := fun e => hb0 (.inl e)
  have d1 : decide (p0 < 0) = false := decide_eq_false q1
  have d2' : ¬ (n : Int) < (m : Int) := by omega
  have d2 : decide ((n : Int) < (m : Int)) = false := decide_eq_false d2'
  have hmn : m ≤ n := by omega
  have d2n : decide (n < m) = false := decide_eq_false (by omega)
  clear hb0
  obtain ⟨nb, hnb⟩ : ∃ nb, nb = nbk m := ⟨_, rfl⟩
  have t1 : ((m : Int) + 16 - 1).tdiv 16 = (nb : Int) := by rw [Int.tdiv_eq_ediv_of_nonneg (by omega), hnb, nbk]; omega
  have t2 : ((m : Int) + 16 - 1) / 16 = (nb : Int) := by rw [hnb, nbk]; omega
  have t3 : IntKind.i64.wrap ((m : Int) + 16) = (m : Int) + 16 := by rw [IntKind.wrap_i64]; omega
  have t4 : IntKind.i64.wrap ((m : Int) + 16 - 1) = (m : Int) + 16 - 1 := by rw [IntKind.wrap_i64]; omega
  have HNB := hideQ hnb
  have hnbb : nb ≤ 67108865 := by rw [hnb, nbk]; omega
  clear hnb
  go_wp2
  go_loopw [5, 6] (fun s5 s6 wr => ∃ (k : Nat) (p : Int), s5 = .int .i64 p ∧ s6 = .int .i64 k ∧ k ≤ nb ∧ (-1 ≤ p ∧ p ≤ n) ∧ Hid (∀ E, O = some E → p = (((uvb E.length ++ hdL (chs k E)).length : Nat) : Int)) ∧ wr = w) (fun _ s6 _ => nb - (intOf s6).toNat)
  case atStart => exact ⟨0, p0, rfl, rfl, Nat.zero_le _, hp0b, hideQ (fun E h => (HZ.out E h).2), rfl⟩
  case round =>
  obtain ⟨k, p, rfl, rfl, hk, hpb, HPk, rfl⟩ := hrel
  by_cases hlt : k < nb
  · have CT1 := hideQ (CT.out p wr (Kept.refl _ _) hpb)
    obtain ⟨v, hv⟩ : ∃ v, v = tkv l p := ⟨_, rfl⟩
    obtain ⟨p', hp'⟩ : ∃ p', p' = tkp l p := ⟨_, rfl⟩
    have hpb' := HTP.out p hpb.2
    have HPk' : Hid (∀ E, O = some E → p' = (((uvb E.length ++ hdL (chs (k + 1) E)).length : Nat) : Int)) := hideQ (fun E h => by
      obtain ⟨h1, h2, -⟩ := HO.out E h
      rw [hp', HPk.out E h]
      exact len_put h1 (by rw [← (HZ.out E h).1, ← HNB.out]; exact hlt) h2.gen)
    rw [← hv, ← hp'] at CT1
    rw [← hp'] at hpb'
    have i1 : (k : Int) < (nb : Int) := by omega
    clear hv hp' HPk
    go_wp2_with (go_at_call 32; refine Stp.go ?_)
    refine ⟨?_⟩
    refine CT1.out.mono ?_
    clear CT1
    rintro e V2 ⟨rfl, h2⟩
    obtain rfl := h2.symm
    go_wp2
    go_roundw
    case rel =>
      exact ⟨k + 1, p', rfl, by go_num, by omega, hpb', HPk', by first | rfl | trivial⟩
    case measure => simp [intOf]; omega
  obtain rfl : k = nb := by omega
  obtain ⟨Wb, hWb⟩ : ∃ Wb, Wb = wr := ⟨_, rfl⟩
  subst hWb
  have i1 : ¬ (k : Int) < (k : Int) := by omega
  by_cases hp : p < 0
  · have HNo : Hid (O = none) := hideQ (by
      cases hO : O with
      | none => rfl
      | some E =>
        have := HPk.out E hO
        omega)
    clear HZ HO HP CT CE HTP HB HI HPk
    go_wp2
    go_ret2
    exact ⟨.inl ⟨HNo.out, rfl⟩, Kept.refl _ _⟩
  have HA0 : Hid (∀ E, O = some E → AtE l E 0 p ByteArray.empty []) := hideQ (fun E h => by
    rw [HPk.out E h, HNB.out, (HZ.out E h).1]
    exact AtE.start (HO.out E h).1)
  have HM : Hid (∀ E, O = some E → m = E.length) := hideQ (fun E h => (HZ.out E h).1)
  have HO0 : Hid (Wb.ownsRow Wb.heap.size 31 5 (.slice none 0 0) ([] : List En).length (ecs [])) := hideQ ⟨rfl, .inl ⟨rfl, rfl⟩⟩
  obtain ⟨i0, hi0, hz0, hz1, hz2⟩ := info_parts Tryd.infoE
  clear HZ HPk CT HTP
  go_wp2
  go_loopw [5, 7, 8, 9] (fun s5 s7 s8 s9 wx => ∃ (i : Nat) (p : Int) (bf : ByteArray) (F : List En) (va : Value), s5 = .int .i64 p ∧ s7 = va ∧ s8 = .string bf ∧ s9 = .int .i64 i ∧ i ≤ m ∧ F.length = i ∧ (-1 ≤ p ∧ p ≤ n) ∧ Hid (wx.ownsRow Wb.heap.size 31 5 va F.length (ecs F)) ∧ Hid (Kept (fun _ => False) Wb wx) ∧ Hid (∀ E, O = some E → AtE l E i p bf F)) (fun _ _ _ s9 _ => m - (intOf s9).toNat)
  case atStart => exact ⟨0, p, ByteArray.empty, [], _, rfl, rfl, rfl, rfl, Nat.zero_le _, rfl, hpb, HO0, hideQ (Kept.refl _ _), HA0⟩
  case round =>
  obtain ⟨i, p, bf, F, va, rfl, h7, rfl, rfl, hi, hF, hpb, HOw, HK, HA⟩ := hrel
  subst h7
  clear HO0 HA0
  by_cases hlt : i < m
  · have CE1 := hideQ (CE.out p bf _ HK.out hpb)
    have i2 : (i : Int) < (m : Int) := by omega
    go_wp2_with (go_at_call 33; refine Stp.go ?_)
    refine ⟨?_⟩
    refine CE1.out.mono ?_
    clear CE1
    rintro e W1 ⟨x, q, rfl, hqb, hxk, hsp, k1⟩
    have HSP : Hid (∀ E, O = some E → ∃ hiE : i < E.length, x = E[i] ∧ AtE l E (i + 1) q E[i].k (F ++ [E[i]]) ∧ E[i].k.size ≤ 65 ∧ 0 ≤ q) := hideQ (fun E h => by
      have hiE : i < E.length := by rw [← HM.out E h]; exact hlt
      obtain ⟨-, hg, -⟩ := HO.out E h
      obtain ⟨P, c0, R, z1, z2, z3, z4, z5, z6⟩ := (HA.out E h).next hg hiE
      obtain ⟨y1, y2⟩ := hsp P c0 _ R z1 z2 z3 z4 z5
      refine ⟨hiE, y1, by rw [y2]; exact z6, z3.k2, by rw [y2]; omega⟩)
    have HK1 := hideQ (HK.out.trans k1 (fun _ f => f.elim))
    have HOw1 := hideQ (k1.row HOw.out (fun _ _ f => f))
    obtain ⟨kx, dx, tx, px, sx⟩ := x
    clear hsp k1 HK HOw HA
    simp only [enV]
    have KA := Kept.alloc W1 (.cells #[.string ⟨#[]⟩, .int .i64 0, .int .i64 0, .int .i64 0, .int .i64 0] 31)
    have HXa := hideQ (enO_new W1 ⟨#[]⟩ 0 0 0 0)
    have HK2 := hideQ (HK1.out.trans KA (fun _ f => f.elim))
    have HOw2 := hideQ (KA.row HOw1.out (fun _ _ f => f))
    have HOb : Hid (∀ j, u7.ownBlock = some j → j < W1.heap.size) := hideQ (fun j hj => (HOw1.out.lt j hj).2)
    have hwx : Wb.heap.size ≤ W1.heap.size := HK1.out.size
    clear KA HK1 HOw1
    go_wp2_with (change wpList _ _ _ _ _ (W1.alloc (.cells #[.string ⟨#[]⟩, .int .i64 0, .int .i64 0, .int .i64 0, .int .i64 0] 31)); refine Stp.go ?_)
    refine ⟨?_⟩
    obtain ⟨b7, hb7⟩ : ∃ b7, b7 = W1.heap.size := ⟨_, rfl⟩
    rw [← hb7] at HXa HOb hwx ⊢
    generalize W1.alloc (.cells #[.string ⟨#[]⟩, .int .i64 0, .int .i64 0, .int .i64 0, .int .i64 0] 31) = Wa at *
    clear hb7
    obtain ⟨⟨x0, x1, x2, x3, x4⟩, xf⟩ := enO_cells HXa.out
    have f0 := xf 0
    have f1 := xf 1
    have f2 := xf 2
    have f3 := xf 3
    have f4 := xf 4
    have HPk := hideQ (putE_kept Wa b7 ⟨kx, dx, tx, px, sx⟩)
    have HPh := hideQ (putE_heap HXa.out ⟨kx, dx, tx, px, sx⟩)
    have HK3 := hideQ (HK2.out.trans HPk.out (fun j hj => .inr (by omega)))
    have HOw3 := hideQ (HPk.out.row HOw2.out (fun j hj e => by have := HOb.out j hj; omega))
    clear xf HK2 HOw2 HPk
    go_wp2_with (change wpList _ _ _ _ _ (putE Wa b7 ⟨kx, dx, tx, px, sx⟩); refine Stp.go ?_)
    refine ⟨?_⟩
    generalize putE Wa b7 ⟨kx, dx, tx, px, sx⟩ = Vp at *
    clear x0 x1 x2 x3 x4 f0 f1 f2 f3 f4 HXa
    obtain ⟨⟨y0, y1, y2, y3, y4⟩, -⟩ := enO_cells HPh.out
    by_cases hbad : q < 0 ∨ 65 < kx.size
    · have HNo : Hid (O = none) := hideQ (by
        cases hO : O with
        | none => rfl
        | some E =>
          obtain ⟨hiE, z1, z2, z3, z4⟩ := HSP.out E hO
          rw [← z1] at z3
          simp only at z3
          omega)
      clear HSP HO HP CE HB HI HM
      by_cases q1 : q < 0
      · have d3 : decide (q < 0) = true := decide_eq_true q1
        go_wp2
        go_ret2
        exact ⟨.inl ⟨HNo.out, rfl⟩, HK3.out⟩
      · have d3 : decide (q < 0) = false := decide_eq_false q1
        have d4' : (65 : Int) < (kx.size : Int) := by omega
        have d4 : decide ((65 : Int) < (kx.size : Int)) = true := decide_eq_true d4'
        go_wp2
        go_ret2
        exact ⟨.inl ⟨HNo.out, rfl⟩, HK3.out⟩
    · have q1' : ¬ q < 0 := fun e => hbad (.inl e)
      have d3 : decide (q < 0) = false := decide_eq_false q1'
      have d4' : ¬ (65 : Int) < (kx.size : Int) := by omega
      have d4 : decide ((65 : Int) < (kx.size : Int)) = false := decide_eq_false d4'
      have hbp : Wb.heap.size ≤ Vp.heap.size := HK3.out.size
      have HA4 : Hid (∀ E, O = some E → AtE l E (i + 1) q kx (F ++ [⟨kx, dx, tx, px, sx⟩])) := hideQ (fun E h => by
        obtain ⟨hiE, z1, z2, z3, z4⟩ := HSP.out E h
        rw [← z1] at z2
        exact z2)
      have hFl : (F ++ [(⟨kx, dx, tx, px, sx⟩ : En)]).length = i + 1 := by rw [List.length_append, hF]; rfl
      have HFl := hideQ hFl
      have HFi := hideQ hF
      rw [hF] at HOw3
      clear HSP hbad hFl hF
      go_wp2_with (at_builtin; refine Stp.go ?_)
      refine ⟨?_⟩
      refine wpList_pushS (base := Wb.heap.size) rfl (.tmp 63) (.tmp 65) 22 rfl 31 i0 _ 5 48 Tryd.underlying22 hi0 hz0 hz1 hz2 rfl (by decide) u7 i (ecs F) [.string kx, .int .i64 dx, .int .i64 tx, .int .i64 px, .int .i64 sx] rfl HOw3 hbp rfl rfl ?one (hideQ (by omega)) (hideQ (by unfold maxLen; omega)) ?_
      case one => intro u hu; simp at hu; rcases hu with rfl | rfl | rfl | rfl | rfl <;> rfl
      intro a6 c6 W6 HO6 HK6 HN6
      have HO7 : Hid (W6.ownsRow Wb.heap.size 31 5 (.slice a6 (i + 1) c6) (F ++ [(⟨kx, dx, tx, px, sx⟩ : En)]).length (ecs (F ++ [⟨kx, dx, tx, px, sx⟩]))) := hideQ (by rw [HFl.out, ecs_snoc]; exact HO6.out)
      have HK7 := hideQ (HK3.out.trans HK6.out (fun j hj => .inr (HOw3.out.lt j hj).1))
      have hy := HK6.out.heap HPh.out (fun f => by have := HOb.out b7 f; omega)
      obtain ⟨⟨g0, -, -, -, -⟩, -⟩ := enO_cells hy
      clear HO6 HK6 HN6 HOw3 HK3 y0 y1 y2 y3 y4 hy
      go_wp2
      go_roundw
      case rel => exact ⟨i + 1, q, kx, F ++ [⟨kx, dx, tx, px, sx⟩], _, rfl, rfl, rfl, by go_num, by omega, HFl.out, hqb, HO7, HK7, HA4⟩
      case measure => simp [intOf]; omega
  obtain rfl : i = m := by omega
  have i2 : ¬ (i : Int) < (i : Int) := by omega
  have HFE : Hid (∀ E, O = some E → F = E) := hideQ (fun E h => by
    rw [(HA.out E h).f, List.take_of_length_le (by rw [HM.out E h]; exact Nat.le_refl _)])
  obtain ⟨fa, fc, hfv⟩ := row_shape HOw.out
  subst hfv
  have HEs := hideQ (es_of_own HOw.out rfl)
  have CB := hideQ (rbuild_any F fa F.length fc _ rfl HEs.out (by omega))
  rw [hF] at CB
  have HFl := hideQ hF
  rw [hF]
  clear CE HA HOw HM hF
  go_wp2_with (go_at_call 7; refine Stp.go ?_)
  refine ⟨?_⟩
  refine CB.out.mono ?_
  clear CB
  intro e W8 hb8
  rcases hb8 with ⟨hgd, v8, rfl, hg8⟩ | ⟨hgd, kz, hkz, rfl, k8⟩
  · obtain ⟨a8, c8, hv8, hB8, -, -⟩ := gb_at hg8
    subst hv8
    have HK8 := hideQ (HK.out.trans hg8.kept (fun _ f => f.elim))
    have cv1 : (convert 25 9 (.slice a8 (img F).length c8)).run Tryd.prog W8 = .ok (.string (strOfNums (img F))) W8 := conv_atD hB8
    have cv2 : (convert 25 9 (.slice a n c)).run Tryd.prog W8 = .ok (.string (strOfNums l)) W8 := by
      rw [HN.out]
      exact conv_atD (HB.out.keptO HK8.out)
    have HEs8 := hideQ (HEs.out.kept hg8.kept)
    have hib := gb_at hg8
    by_cases heq : img F = l
    · have HS := hideQ (HP.out F hgd heq)
      rw [heq] at cv1
      have hst : ((strOfNums l).toList == (strOfNums l).toList) = true := by simp
      rw [heq]
      generalize strOfNums l = ST at *
      generalize l.length = ll at *
      clear HFE HO HP HI HB hib hg8 hB8 heq
      go_wp2
      go_ret2
      exact ⟨.inr ⟨F, fa, fc, HS.out, by rw [HFl.out]; rfl, HEs8.out⟩, HK8.out⟩
    · have HNo : Hid (O = none) := hideQ (by
        cases hO : O with
        | none => rfl
        | some E =>
          have e1 := HFE.out E hO
          exact absurd (by rw [e1]; exact (HO.out E hO).1.symm) heq)
      have hne : strOfNums (img F) ≠ strOfNums l := fun e => heq (strD_inj (img_bytesN F) HI.out e)
      have hst : ((strOfNums (img F)).toList == (strOfNums l).toList) = false := by rw [toList_eqD]; exact decide_eq_false hne
      generalize strOfNums l = ST at *
      generalize strOfNums (img F) = SF at *
      generalize (img F).length = fl at *
      clear HFE HO HP HI HB hib hg8 hB8 heq hne
      go_wp2
      go_ret2
      exact ⟨.inl ⟨HNo.out, rfl⟩, HK8.out⟩
  · have HNo : Hid (O = none) := hideQ (by
      cases hO : O with
      | none => rfl
      | some E =>
        have e1 := HFE.out E hO
        rw [e1] at hgd
        exact absurd (HO.out E hO).2.1 hgd)
    have HK8 := hideQ (HK.out.trans k8 (fun _ f => f.elim))
    have hkb : (kz == 0) = false := by simpa using hkz
    have hkn : (kz != 0) = true := by simpa using hkz
    clear HFE HO HP HI HB hgd k8 hkz
    go_wp2
    go_ret2
    exact ⟨.inl ⟨HNo.out, rfl⟩, HK8.out⟩
end Go.Proofs.YtcanbhbhdgogoaaDoor
