import Derived.Test.YthbepejoffkdjaaDoorIze
import Derived.Test.YthbepejoffkdjaaDoorIzg
import Derived.Test.YthbepejoffkdjaaDoorMrg4
namespace Go.Proofs.YthbepejoffkdjaaDoor
open Go.ChangeShapes Go.WideShapes Go.ChangeAt Go.RowKit

theorem ivs_append (l m : List In) : ivs (l ++ m) = ivs l ++ ivs m := by simp [ivs]
theorem ivs_one (l : List In) : ∀ u ∈ ivs l, u.oneCell' = true := by
  intro u hu
  simp only [ivs, List.mem_flatten, List.mem_map] at hu
  obtain ⟨_, ⟨x, _, rfl⟩, hu⟩ := hu
  simp [iv1] at hu
  rcases hu with rfl | rfl | rfl <;> rfl
theorem ivs_cells {W : World} {b off : Nat} {l : List In} (h : ∀ (k : Nat) (h : k < l.length), W.cell? ⟨b, off + k * 3, none⟩ = some (.int .i64 l[k].op) ∧ W.cell? ⟨b, off + k * 3 + 1, none⟩ = some (.int .u64 l[k].a) ∧ W.cell? ⟨b, off + k * 3 + 2, none⟩ = some (.int .u64 l[k].b)) : ∀ j u, (ivs l)[j]? = some u → W.cell? ((⟨b, off, none⟩ : Addr).add j) = some u := by
  intro j u hu
  have hp : (⟨b, off, none⟩ : Addr).add j = ⟨b, off + j, none⟩ := by unfold Addr.add; split <;> simp_all
  rw [hp]
  have hj : j < (ivs l).length := by
    rcases Nat.lt_or_ge j (ivs l).length with h | h
    · exact h
    · rw [List.getElem?_eq_none h] at hu; cases hu
  rw [ivs_len] at hj
  have hk : j / 3 < l.length := by omega
  obtain ⟨c0, c1, c2⟩ := ivs_at l (j / 3) hk
  obtain ⟨d0, d1, d2⟩ := h (j / 3) hk
  obtain e | e | e : j = j / 3 * 3 ∨ j = j / 3 * 3 + 1 ∨ j = j / 3 * 3 + 2 := by omega
  · rw [e, c0] at hu; rw [e, ← hu]; exact d0
  · rw [e, c1] at hu; rw [e, ← hu, ← Nat.add_assoc]; exact d1
  · rw [e, c2] at hu; rw [e, ← hu, ← Nat.add_assoc]; exact d2
/-- 'append(s, x...)' of instructions, x empty or not. -/
theorem wpList_catIn {w0 W : World} {ops : Array Oper} {rest : List Oper} {o : Oper} {act : Act} {Q : Exit → Act → World → Prop} (hgd : o.guard = none) (s x : Operand)
    (ho : o.op = .call { callee := .builtin .append, args := #[s, x], argTypes := #[29, 29] }) (v : Value) (n : Nat) (l m : List In) (hs : act.eval s = v) (hG : Hid (Gro w0 W 48 3 v n (ivs l))) (a : Option Addr) (k c : Nat) (hx : act.eval x = .slice a k c) (hk : k = m.length) (ha : a = none → c = 0) (hI : Hid (InsAt W a m)) (t : Nat) (ht : t = n + k) (hb : n + k ≤ 4398046511104)
    (h : ∀ a' c' W', Hid (Gro w0 W' 48 3 (.slice a' t c') t (ivs (l ++ m))) → wpList Tryd.prog ops Q rest (act.put o.dst (.slice a' t c')) W') : wpList Tryd.prog ops Q (o :: rest) act W := by
  subst hk ht
  obtain ⟨i0, hi, hz0, hz1, hz2⟩ := info_parts Tryd.infoIn
  cases a with
  | none =>
    have hc0 := ha rfl
    subst hc0
    have hm : m = [] := by
      by_cases hm : m = []
      · exact hm
      · obtain ⟨b, off, e, _⟩ := hI.out hm
        cases e
    subst hm
    obtain ⟨a', c', rfl⟩ := hG.out.shape
    refine wpList_append_own_none hgd s x 29 ho w0.heap.size 48 i0 3 Tryd.underlying29 hi _ n (ivs l) hs hG.out.own hx ?_
    have := h a' c' W (hideI (by rw [List.append_nil]; exact hG.out))
    exact this
  | some p =>
    refine wpList_append_own W hgd s x 29 ho w0.heap.size 48 i0 _ 3 24 Tryd.underlying29 hi hz0 hz1 hz2 rfl (by decide) v n (ivs l) hs hG.out.own p m.length c (ivs m) hx (ivs_len m) (fun j u hu => ?_) (ivs_one m) (by unfold maxLen; omega) (by omega) hG.out.kept.size ?_
    · have hm : m ≠ [] := by rintro rfl; simp [ivs] at hu
      obtain ⟨b, off, e, hc⟩ := hI.out hm
      obtain rfl := Option.some.inj e
      exact ivs_cells hc j u hu
    · intro v' w1 ho1 hg1 _
      have q : Gro w0 w1 48 3 v' (n + m.length) (ivs l ++ ivs m) := ⟨ho1, hG.out.kept.trans (Kept.grown hg1) (fun i hi => .inr (hG.out.own.lt i hi).1)⟩
      obtain ⟨a', c', rfl⟩ := q.shape
      exact h a' c' w1 (hideI (by rw [ivs_append]; exact q))
end Go.Proofs.YthbepejoffkdjaaDoor
namespace Go.Proofs.YthbepejoffkdjaaDoor
open Go.ChangeShapes Go.WideShapes Go.ChangeAt Go.RowKit

theorem Tryd.elIn : Tryd.prog.elem 29 = 48 := by kernel_rfl
theorem Tryd.szIn (V : World) : (sizeOf 48).run Tryd.prog V = .ok 3 V := by
  obtain ⟨i0, hi, hz0, hz1, hz2⟩ := info_parts Tryd.infoIn
  simp [sizeOf, typeInfo, hi, hz1]
/-- A list of instructions that is cut in two. -/
theorem cut_two {W : World} {base c : Nat} {a : Option Addr} {l m : List In} (ho : W.ownsRow base 48 3 (.slice a (l ++ m).length c) (l ++ m).length (ivs (l ++ m))) :
    ∃ a6 c6, (∀ V, (Instr.sliceAt 29 (.slice a (l.length + m.length) c) none (some (.int .i64 (l.length : Int))) none).run Tryd.prog V = .ok (.slice a l.length c) V) ∧
      (∀ V, (Instr.sliceAt 29 (.slice a (l.length + m.length) c) (some (.int .i64 (l.length : Int))) none none).run Tryd.prog V = .ok (.slice a6 m.length c6) V) ∧ InsAt W a l ∧ InsAt W a6 m := by
  have hI := ins_of_own ho
  have hel : Tryd.prog.underlying 29 = some (.slice (Tryd.prog.elem 29)) := by rw [Tryd.elIn]; exact Tryd.underlying29
  have hcc : l.length + m.length ≤ c := by
    rcases ho.2 with ⟨e1, e2⟩ | ⟨g, cap, cur, e1, _, _, h1, _⟩
    · rw [List.length_append] at e2; omega
    · injection e1 with _ _ e3
      rw [List.length_append] at h1
      omega
  refine ⟨if c = l.length then a else a.map (·.add (l.length * 3)), c - l.length, fun V => ?_, fun V => ?_, ?_, ?_⟩
  · rw [run_sliceAt_slice _ _ _ _ _ _ hel, run_slice_h _ _ _ _ _ hel _ _ (by omega) (by omega), Tryd.elIn, Tryd.szIn]
    simp only [Result.andThen, sliced, Int.toNat_natCast, Nat.zero_mul, Nat.sub_zero]
    have e : (if c = 0 then a else a.map (fun x => x.add 0)) = a := by
      split
      · rfl
      · cases a with
        | none => rfl
        | some p => simp [Addr.add]
    rw [e]
  · rw [run_sliceAt_slice _ _ _ _ _ _ hel, run_slice_l _ _ _ _ _ hel _ _ (by omega) (by omega), Tryd.elIn, Tryd.szIn]
    simp only [Result.andThen, sliced, Int.toNat_natCast]
    rw [show l.length + m.length - l.length = m.length by omega]
  · intro hn
    obtain ⟨b, off, e, hc⟩ := hI (by simp [hn])
    refine ⟨b, off, e, fun k hk => ?_⟩
    have := hc k (by rw [List.length_append]; omega)
    rw [List.getElem_append_left hk] at this
    exact this
  · intro hn
    obtain ⟨b, off, e, hc⟩ := hI (by simp [hn])
    have hm := List.length_pos_iff.2 hn
    subst e
    rw [if_neg (by omega)]
    have hp : (⟨b, off, none⟩ : Addr).add (l.length * 3) = ⟨b, off + l.length * 3, none⟩ := by unfold Addr.add; split <;> simp_all
    refine ⟨b, off + l.length * 3, by simp [hp], fun k hk => ?_⟩
    have := hc (l.length + k) (by rw [List.length_append]; omega)
    rw [List.getElem_append_right (by omega)] at this
    simp only [Nat.add_sub_cancel_left] at this
    rw [show off + (l.length + k) * 3 = off + l.length * 3 + k * 3 by omega] at this
    exact this
theorem strOf_append (A B : List Int) : strOfNums (A ++ B) = strOfNums A ++ strOfNums B := by
  apply ByteArray.ext
  rw [ByteArray.data_append]
  simp [strOfNums]
end Go.Proofs.YthbepejoffkdjaaDoor
namespace Go.Proofs.YthbepejoffkdjaaDoor
open Go.ChangeShapes Go.WideShapes Go.ChangeAt Go.RowKit

theorem uvb_bytesI : ∀ (n : Nat), IsBytes (uvb n) := by
  intro n
  induction n using Nat.strongRecOn with
  | ind n ih =>
    by_cases h : n < 128
    · rw [uvb_small h]; intro x hx; simp at hx; subst hx; omega
    · rw [uvb_big h]
      intro x hx
      rcases List.mem_cons.1 hx with e | e
      · rw [e]; omega
      · exact ih (n / 128) (by omega) x e
/-- string(b) of bytes wherever they lie. -/
theorem conv_arg {w : World} {a : Option Addr} {c : Nat} {l : List Int} (h : BytesAt w a l) : (convert 30 9 (.slice a l.length c)).run Tryd.prog w = .ok (.string (strOfNums l)) w := by
  by_cases hn : l = []
  · subst hn
    cases a with
    | none => exact run_convert_bytes_nil w 30 5 Tryd.underlying30 Tryd.underlying5 0 c 9 Tryd.underlying9
    | some p =>
      obtain ⟨b, off, sp⟩ := p
      have q := run_convert_bytes_back w 30 9 5 ⟨b, off, sp⟩ c ([] : List UInt8) Tryd.underlying30 Tryd.underlying5 Tryd.underlying9 (fun j hj => by simp at hj)
      exact q
  · obtain ⟨b, off, rfl, hc⟩ := h hn
    refine run_convert_bytes_arg w 30 5 Tryd.underlying30 Tryd.underlying5 b off l.length c l rfl (fun i hi => ?_) 9 Tryd.underlying9
    rw [List.getD_eq_getElem?_getD]
    exact hc i hi
theorem ib_bytes {l : List In} (hk : ∀ x ∈ l, okI x = true) : IsBytes (ibL l) := by
  intro y hy
  simp only [ibL, List.mem_flatten, List.mem_map] at hy
  obtain ⟨_, ⟨x, hx, rfl⟩, hy⟩ := hy
  rw [ib] at hy
  rcases List.mem_cons.1 hy with e | e
  · have := (okI_iff.1 (hk x hx)).1
    omega
  · simp only [List.mem_flatten, List.mem_map] at e
    obtain ⟨_, ⟨v, hv, rfl⟩, e⟩ := e
    exact uvb_bytesI v y e
theorem enc_some {w : World} {l : List In} {ac : Addr} {e : Ending} {w' : World} (h : encP w l ac e w') : ∃ r2 r3, e = .returned (.tuple #[r2, r3]) := by
  by_cases hk : ∀ x ∈ l, okI x = true
  · obtain ⟨g, _, he, _⟩ := h.1 hk
    exact ⟨_, _, he⟩
  · exact ⟨_, _, h.2.1 hk⟩
set_option maxRecDepth 20000 in
set_option maxHeartbeats 16000000 in
theorem there_an (l m : List In) (B : List Int) (a b d : Option Addr) (c1 c2 c3 : Nat) (ad : Nat → Addr) (w : World) (hL : InsAt w a l) (hM : InsAt w b m) (hB : BytesAt w d B) (hIB : IsBytes B) (hO1 : ∀ x ∈ l, x.Ok) (hO2 : ∀ x ∈ m, x.Ok) (hl : l.length ≤ 16777216) (hm : m.length ≤ 16777216) (hb : B.length ≤ 16777216) (ha : a = none → c1 = 0) (hbn : b = none → c2 = 0) (hE : Env21 w ad) (hk1 : ∀ x ∈ l, okI x = true) (hk2 : ∀ x ∈ m, okI x = true) (hd : dcI B = none) :
    Calls Tryd.prog 6 #[.slice a l.length c1, .slice b m.length c2, .slice d B.length c3] w fun e w' => e = .returned (.bool true) ∧ Kept (fun _ => False) w w' := by
  have HLv := hideI (ilives_any _ _ _ w hE.env)
  have HE := hideI hE
  have HL := hideI hL
  have HM := hideI hM
  have HA1 := fun W (k : Kept (fun _ => False) w W) => hideI (encode_any l a c1 (ad 20) W (hL.kept k (fun _ _ f => f)) hO1 (by omega) (hE.kept k).e.s20.var (hE.kept k).t)
  have HA2 := fun W (k : Kept (fun _ => False) w W) => hideI (encode_any m b c2 (ad 20) W (hM.kept k (fun _ _ f => f)) hO2 (by omega) (hE.kept k).e.s20.var (hE.kept k).t)
  have hO3 : ∀ x ∈ l ++ m, x.Ok := fun x hx => (List.mem_append.1 hx).elim (hO1 x) (hO2 x)
  have HA3 := fun W (a' : Option Addr) (c' : Nat) (hI : InsAt W a' (l ++ m)) (k : Kept (fun _ => False) w W) => hideI (by have q := encode_any (l ++ m) a' c' (ad 20) W hI hO3 (by rw [List.length_append]; omega) (hE.kept k).e.s20.var (hE.kept k).t; rw [List.length_append] at q; exact q)
  have HDb := fun W (k : Kept (fun _ => False) w W) => hideI (decode_any B d c3 (ad 0) (ad 1) (ad 20) W (hB.keptI k) hIB (by omega) (hE.kept k).e.ew (hE.kept k).t)
  have HN0 := fun W => hideI (num_nil W)
  have HNC := fun W (h : Errs21 W ad) => hideI (num_code h)
  have HNC2 := fun W (h : Errs21 W ad) => hideI (num_code h)
  rw [hd] at HDb
  have HOK1 := hideI hk1
  have HOK2 := hideI hk2
  have HOK3 : Hid (∀ x ∈ l ++ m, okI x = true) := hideI (fun x hx => (List.mem_append.1 hx).elim (hk1 x) (hk2 x))
  have HSA : Hid (strOfNums (ibL (l ++ m)) = strOfNums (ibL l) ++ strOfNums (ibL m)) := hideI (by rw [ibL_append, strOf_append])
  have HSX : Hid ((strOfNums (ibL l)).size ≤ 400000000) := hideI (by rw [strOfNums_size]; have := ibL_len l hO1; omega)
  have HSY : Hid ((strOfNums (ibL m)).size ≤ 400000000) := hideI (by rw [strOfNums_size]; have := ibL_len m hO2; omega)
  have HDz := fun W (a' : Option Addr) (c' : Nat) (hz : BytesAt W a' (ibL (l ++ m))) (k : Kept (fun _ => False) w W) => (by have q := decode_any (ibL (l ++ m)) a' c' (ad 0) (ad 1) (ad 20) W hz (ib_bytes (fun x hx => (List.mem_append.1 hx).elim (hk1 x) (hk2 x))) (by have h1 := ibL_len (l ++ m) hO3; rw [List.length_append] at h1; omega) (hE.kept k).e.ew (hE.kept k).t; rw [dcI_back (l ++ m) hO3 (fun x hx => (List.mem_append.1 hx).elim (hk1 x) (hk2 x))] at q; exact q)
  have HA := hideI ha
  have HBN := hideI hbn
  have HCB : Hid (∀ W, Kept (fun _ => False) w W → (convert 30 9 (.slice d B.length c3)).run Tryd.prog W = .ok (.string (strOfNums B)) W) := hideI (fun W k => conv_arg (hB.keptI k))
  have HIB := hideI hIB
  clear hk1 hk2
  clear hd
  clear hL hM hB hIB hO1 hO2 hO3 hE ha hbn
  obtain ⟨nl, hnl⟩ : ∃ n, n = l.length := ⟨_, rfl⟩
  obtain ⟨nm, hnm⟩ : ∃ n, n = m.length := ⟨_, rfl⟩
  obtain ⟨nb, hnb⟩ : ∃ n, n = B.length := ⟨_, rfl⟩
  rw [← hnl, ← hnm] at HA3
  rw [← hnl] at HA1 hl
  rw [← hnm] at HA2 hm
  rw [← hnb] at HDb HCB hb
  rw [← hnl, ← hnm, ← hnb]
  have HNL := hideI hnl
  have HNM := hideI hnm
  have HNB := hideI hnb
  clear hnl hnm hnb
  go_enter Tryd.func6, Tryd.ntmps6
  go_wp2_with (first
    | (go_at_call 7; refine HLv.out.mono ?_; clear HLv; rintro e W1 ⟨rfl, K1⟩; have HK1 := hideI K1; clear K1)
    | (go_at_call 12; refine (HA1 _ HK1.out).out.mono ?_; clear HA1; rintro e W2 ⟨h2, -, K2⟩; obtain ⟨g2, -, h2e, ho2⟩ := h2 HOK1.out; subst h2e; have HR2 := hideI ho2; have HK2 := hideI (HK1.out.trans K2 (fun _ f => f.elim)); have HKS2 := hideI K2; clear h2 K2 ho2)
    | (go_at_call 12; refine (HA2 _ HK2.out).out.mono ?_; clear HA2; rintro e W3 ⟨h2, -, K2⟩; obtain ⟨g3, -, h2e, ho2⟩ := h2 HOK2.out; subst h2e; have HR3 := hideI ho2; have HK3 := hideI (HK2.out.trans K2 (fun _ f => f.elim)); have HKS3 := hideI K2; clear h2 K2 ho2; have HGa := hideI (gro_empty W3 W3 48 3 (Kept.refl _ _)); have HIl := hideI (HL.out.kept (HK3.out.trans (Kept.alloc W3 (.cells #[] 48)) (fun _ f => f.elim)) (fun _ _ f => f)))
    | (at_builtin; refine wpList_catIn (w0 := W3) rfl _ _ rfl _ 0 [] l rfl HGa a nl c1 rfl HNL.out HA.out HIl nl (by omega) (by omega) ?_; clear HGa HIl; intro a4 c4 W4 HGb; have HK4 := hideI (HK3.out.trans HGb.out.kept (fun _ f => f.elim)); have HIm := hideI (HM.out.kept HK4.out (fun _ _ f => f)))
    | (at_builtin; refine wpList_catIn (w0 := W3) rfl _ _ rfl _ nl ([] ++ l) m rfl HGb b nm c2 rfl HNM.out HBN.out HIm (nl + nm) rfl (by omega) ?_; clear HGb HIm; intro a5 c5 W5 HGc; have HK5 := hideI (HK3.out.trans HGc.out.kept (fun _ f => f.elim)); have HKS5 := hideI HGc.out.kept; have HIj : Hid (InsAt W5 a5 (l ++ m)) := hideI (ins_of_own (by have q := HGc.out.own; rw [HNL.out, HNM.out, ← List.length_append] at q; exact q)))
    | (go_at_call 12; refine (HA3 _ a5 c5 HIj.out HK5.out).out.mono ?_; clear HA3; rintro e W6 ⟨h2, -, K2⟩; obtain ⟨g6, -, h2e, ho6⟩ := h2 HOK3.out; subst h2e; have HK6 := hideI (HK5.out.trans K2 (fun _ f => f.elim)); have hcz : (convert 30 9 (.slice (some ⟨g6, 0, none⟩) (ibL (l ++ m)).length (ibL (l ++ m)).length)).run Tryd.prog W6 = .ok (.string (strOfNums (ibL l) ++ strOfNums (ibL m))) W6 := (by rw [← HSA.out]; exact conv_any ho6); have hcx := conv_any (K2.row (HKS5.out.row (HKS3.out.row HR2.out (fun _ _ f => f)) (fun _ _ f => f)) (fun _ _ f => f)); have hcy := conv_any (K2.row (HKS5.out.row HR3.out (fun _ _ f => f)) (fun _ _ f => f)); have HBz := hideI (by obtain ⟨az, cz, ez, hbz, _⟩ := bytes_of_own ho6; simp only [Value.slice.injEq] at ez; obtain ⟨rfl, _, _⟩ := ez; exact hbz : BytesAt W6 (some ⟨g6, 0, none⟩) (ibL (l ++ m))); have hDz := HDz W6 (some ⟨g6, 0, none⟩) (ibL (l ++ m)).length HBz.out HK6.out; have HDz2 := hideI hDz; clear HDz hDz h2 K2 ho6 HR2 HR3; have hs1 := HSX.out; have hs2 := HSY.out; generalize strOfNums (ibL l) = sx at *; generalize strOfNums (ibL m) = sy at *; generalize (ibL l).length = nx at *; generalize (ibL m).length = ny at *; generalize (ibL (l ++ m)).length = nz at *)
    | (go_at_call 15; refine HDz2.out.mono ?_; clear HDz2; rintro e W7 ⟨-, h7, K7⟩; obtain ⟨a7, c7, h7e, ho7⟩ := h7 (l ++ m) rfl; obtain ⟨b7, d7, hcut1, hcut2, hi1, hi2⟩ := cut_two ho7; rw [← HNL.out, ← HNM.out] at hcut1 hcut2; rw [List.length_append, ← HNL.out, ← HNM.out] at h7e; subst h7e; have HK7 := hideI (HK6.out.trans K7 (fun _ f => f.elim)); have HS1 := hideI (by have q := sameCode_true l a7 a c7 c1 W7 hi1 (HL.out.kept HK7.out (fun _ _ f => f)) (by have := HNL.out; omega); rw [← HNL.out] at q; exact q); have HI7 := hideI hi2; clear h7 K7 ho7 hi1 hi2)
    | (go_at_call 17; refine HS1.out.mono ?_; clear HS1; rintro e W8 ⟨rfl, K8⟩; have HK8 := hideI (HK7.out.trans K8 (fun _ f => f.elim)); have HS2 := hideI (by have q := sameCode_true m b7 b d7 c2 W8 (HI7.out.kept K8 (fun _ _ f => f)) (HM.out.kept HK8.out (fun _ _ f => f)) (by have := HNM.out; omega); rw [← HNM.out] at q; exact q); clear K8)
    | (go_at_call 17; refine HS2.out.mono ?_; clear HS2; rintro e W9 ⟨rfl, K9⟩; have HKF := hideI (HK8.out.trans K9 (fun _ f => f.elim)); clear K9)
    | (go_at_call 15; refine (HDb _ HKF.out).out.mono ?_; clear HDb; rintro e Wa ⟨h2, -, K2⟩; have h2e := h2 rfl; subst h2e; have HKa := hideI (HKF.out.trans K2 (fun _ f => f.elim)); unfold errV; clear h2 K2)
    | (go_at_call 14; refine (HNC2 _ (HE.out.kept HKa.out).e).out.mono ?_; clear HNC2; rintro e Wb ⟨rfl, eb⟩; subst eb))
  go_ret
  exact ⟨rfl, HKa.out⟩
set_option maxRecDepth 20000 in
set_option maxHeartbeats 16000000 in
theorem there_as (l m : List In) (B : List Int) (a b d : Option Addr) (c1 c2 c3 : Nat) (ad : Nat → Addr) (w : World) (hL : InsAt w a l) (hM : InsAt w b m) (hB : BytesAt w d B) (hIB : IsBytes B) (hO1 : ∀ x ∈ l, x.Ok) (hO2 : ∀ x ∈ m, x.Ok) (hl : l.length ≤ 16777216) (hm : m.length ≤ 16777216) (hb : B.length ≤ 16777216) (ha : a = none → c1 = 0) (hbn : b = none → c2 = 0) (hE : Env21 w ad) (hk1 : ∀ x ∈ l, okI x = true) (hk2 : ∀ x ∈ m, okI x = true) (M : List In) (hd : dcI B = some M) :
    Calls Tryd.prog 6 #[.slice a l.length c1, .slice b m.length c2, .slice d B.length c3] w fun e w' => e = .returned (.bool true) ∧ Kept (fun _ => False) w w' := by
  have HLv := hideI (ilives_any _ _ _ w hE.env)
  have HE := hideI hE
  have HL := hideI hL
  have HM := hideI hM
  have HA1 := fun W (k : Kept (fun _ => False) w W) => hideI (encode_any l a c1 (ad 20) W (hL.kept k (fun _ _ f => f)) hO1 (by omega) (hE.kept k).e.s20.var (hE.kept k).t)
  have HA2 := fun W (k : Kept (fun _ => False) w W) => hideI (encode_any m b c2 (ad 20) W (hM.kept k (fun _ _ f => f)) hO2 (by omega) (hE.kept k).e.s20.var (hE.kept k).t)
  have hO3 : ∀ x ∈ l ++ m, x.Ok := fun x hx => (List.mem_append.1 hx).elim (hO1 x) (hO2 x)
  have HA3 := fun W (a' : Option Addr) (c' : Nat) (hI : InsAt W a' (l ++ m)) (k : Kept (fun _ => False) w W) => hideI (by have q := encode_any (l ++ m) a' c' (ad 20) W hI hO3 (by rw [List.length_append]; omega) (hE.kept k).e.s20.var (hE.kept k).t; rw [List.length_append] at q; exact q)
  have HDb := fun W (k : Kept (fun _ => False) w W) => hideI (decode_any B d c3 (ad 0) (ad 1) (ad 20) W (hB.keptI k) hIB (by omega) (hE.kept k).e.ew (hE.kept k).t)
  have HN0 := fun W => hideI (num_nil W)
  have HNC := fun W (h : Errs21 W ad) => hideI (num_code h)
  have HNC2 := fun W (h : Errs21 W ad) => hideI (num_code h)
  rw [hd] at HDb
  have HOK1 := hideI hk1
  have HOK2 := hideI hk2
  have HOK3 : Hid (∀ x ∈ l ++ m, okI x = true) := hideI (fun x hx => (List.mem_append.1 hx).elim (hk1 x) (hk2 x))
  have HSA : Hid (strOfNums (ibL (l ++ m)) = strOfNums (ibL l) ++ strOfNums (ibL m)) := hideI (by rw [ibL_append, strOf_append])
  have HSX : Hid ((strOfNums (ibL l)).size ≤ 400000000) := hideI (by rw [strOfNums_size]; have := ibL_len l hO1; omega)
  have HSY : Hid ((strOfNums (ibL m)).size ≤ 400000000) := hideI (by rw [strOfNums_size]; have := ibL_len m hO2; omega)
  have HDz := fun W (a' : Option Addr) (c' : Nat) (hz : BytesAt W a' (ibL (l ++ m))) (k : Kept (fun _ => False) w W) => (by have q := decode_any (ibL (l ++ m)) a' c' (ad 0) (ad 1) (ad 20) W hz (ib_bytes (fun x hx => (List.mem_append.1 hx).elim (hk1 x) (hk2 x))) (by have h1 := ibL_len (l ++ m) hO3; rw [List.length_append] at h1; omega) (hE.kept k).e.ew (hE.kept k).t; rw [dcI_back (l ++ m) hO3 (fun x hx => (List.mem_append.1 hx).elim (hk1 x) (hk2 x))] at q; exact q)
  obtain ⟨hf1, hf2, hf3⟩ := dcI_form _ B M (Nat.le_refl _) hIB hd
  have HMB := hideI hf1
  have HMO := hideI hf2
  have HMK := hideI hf3
  have HML : Hid (M.length ≤ 16777216) := hideI (by have h1 := dcI_count M; rw [hf1] at h1; omega)
  have HA := hideI ha
  have HBN := hideI hbn
  have HCB : Hid (∀ W, Kept (fun _ => False) w W → (convert 30 9 (.slice d B.length c3)).run Tryd.prog W = .ok (.string (strOfNums B)) W) := hideI (fun W k => conv_arg (hB.keptI k))
  have HIB := hideI hIB
  clear hk1 hk2
  clear hf1 hf2 hf3
  clear hd
  clear hL hM hB hIB hO1 hO2 hO3 hE ha hbn
  obtain ⟨nl, hnl⟩ : ∃ n, n = l.length := ⟨_, rfl⟩
  obtain ⟨nm, hnm⟩ : ∃ n, n = m.length := ⟨_, rfl⟩
  obtain ⟨nb, hnb⟩ : ∃ n, n = B.length := ⟨_, rfl⟩
  rw [← hnl, ← hnm] at HA3
  rw [← hnl] at HA1 hl
  rw [← hnm] at HA2 hm
  rw [← hnb] at HDb HCB hb
  rw [← hnl, ← hnm, ← hnb]
  have HNL := hideI hnl
  have HNM := hideI hnm
  have HNB := hideI hnb
  clear hnl hnm hnb
  go_enter Tryd.func6, Tryd.ntmps6
  go_wp2_with (first
    | (go_at_call 7; refine HLv.out.mono ?_; clear HLv; rintro e W1 ⟨rfl, K1⟩; have HK1 := hideI K1; clear K1)
    | (go_at_call 12; refine (HA1 _ HK1.out).out.mono ?_; clear HA1; rintro e W2 ⟨h2, -, K2⟩; obtain ⟨g2, -, h2e, ho2⟩ := h2 HOK1.out; subst h2e; have HR2 := hideI ho2; have HK2 := hideI (HK1.out.trans K2 (fun _ f => f.elim)); have HKS2 := hideI K2; clear h2 K2 ho2)
    | (go_at_call 12; refine (HA2 _ HK2.out).out.mono ?_; clear HA2; rintro e W3 ⟨h2, -, K2⟩; obtain ⟨g3, -, h2e, ho2⟩ := h2 HOK2.out; subst h2e; have HR3 := hideI ho2; have HK3 := hideI (HK2.out.trans K2 (fun _ f => f.elim)); have HKS3 := hideI K2; clear h2 K2 ho2; have HGa := hideI (gro_empty W3 W3 48 3 (Kept.refl _ _)); have HIl := hideI (HL.out.kept (HK3.out.trans (Kept.alloc W3 (.cells #[] 48)) (fun _ f => f.elim)) (fun _ _ f => f)))
    | (at_builtin; refine wpList_catIn (w0 := W3) rfl _ _ rfl _ 0 [] l rfl HGa a nl c1 rfl HNL.out HA.out HIl nl (by omega) (by omega) ?_; clear HGa HIl; intro a4 c4 W4 HGb; have HK4 := hideI (HK3.out.trans HGb.out.kept (fun _ f => f.elim)); have HIm := hideI (HM.out.kept HK4.out (fun _ _ f => f)))
    | (at_builtin; refine wpList_catIn (w0 := W3) rfl _ _ rfl _ nl ([] ++ l) m rfl HGb b nm c2 rfl HNM.out HBN.out HIm (nl + nm) rfl (by omega) ?_; clear HGb HIm; intro a5 c5 W5 HGc; have HK5 := hideI (HK3.out.trans HGc.out.kept (fun _ f => f.elim)); have HKS5 := hideI HGc.out.kept; have HIj : Hid (InsAt W5 a5 (l ++ m)) := hideI (ins_of_own (by have q := HGc.out.own; rw [HNL.out, HNM.out, ← List.length_append] at q; exact q)))
    | (go_at_call 12; refine (HA3 _ a5 c5 HIj.out HK5.out).out.mono ?_; clear HA3; rintro e W6 ⟨h2, -, K2⟩; obtain ⟨g6, -, h2e, ho6⟩ := h2 HOK3.out; subst h2e; have HK6 := hideI (HK5.out.trans K2 (fun _ f => f.elim)); have hcz : (convert 30 9 (.slice (some ⟨g6, 0, none⟩) (ibL (l ++ m)).length (ibL (l ++ m)).length)).run Tryd.prog W6 = .ok (.string (strOfNums (ibL l) ++ strOfNums (ibL m))) W6 := (by rw [← HSA.out]; exact conv_any ho6); have hcx := conv_any (K2.row (HKS5.out.row (HKS3.out.row HR2.out (fun _ _ f => f)) (fun _ _ f => f)) (fun _ _ f => f)); have hcy := conv_any (K2.row (HKS5.out.row HR3.out (fun _ _ f => f)) (fun _ _ f => f)); have HBz := hideI (by obtain ⟨az, cz, ez, hbz, _⟩ := bytes_of_own ho6; simp only [Value.slice.injEq] at ez; obtain ⟨rfl, _, _⟩ := ez; exact hbz : BytesAt W6 (some ⟨g6, 0, none⟩) (ibL (l ++ m))); have hDz := HDz W6 (some ⟨g6, 0, none⟩) (ibL (l ++ m)).length HBz.out HK6.out; have HDz2 := hideI hDz; clear HDz hDz h2 K2 ho6 HR2 HR3; have hs1 := HSX.out; have hs2 := HSY.out; generalize strOfNums (ibL l) = sx at *; generalize strOfNums (ibL m) = sy at *; generalize (ibL l).length = nx at *; generalize (ibL m).length = ny at *; generalize (ibL (l ++ m)).length = nz at *)
    | (go_at_call 15; refine HDz2.out.mono ?_; clear HDz2; rintro e W7 ⟨-, h7, K7⟩; obtain ⟨a7, c7, h7e, ho7⟩ := h7 (l ++ m) rfl; obtain ⟨b7, d7, hcut1, hcut2, hi1, hi2⟩ := cut_two ho7; rw [← HNL.out, ← HNM.out] at hcut1 hcut2; rw [List.length_append, ← HNL.out, ← HNM.out] at h7e; subst h7e; have HK7 := hideI (HK6.out.trans K7 (fun _ f => f.elim)); have HS1 := hideI (by have q := sameCode_true l a7 a c7 c1 W7 hi1 (HL.out.kept HK7.out (fun _ _ f => f)) (by have := HNL.out; omega); rw [← HNL.out] at q; exact q); have HI7 := hideI hi2; clear h7 K7 ho7 hi1 hi2)
    | (go_at_call 17; refine HS1.out.mono ?_; clear HS1; rintro e W8 ⟨rfl, K8⟩; have HK8 := hideI (HK7.out.trans K8 (fun _ f => f.elim)); have HS2 := hideI (by have q := sameCode_true m b7 b d7 c2 W8 (HI7.out.kept K8 (fun _ _ f => f)) (HM.out.kept HK8.out (fun _ _ f => f)) (by have := HNM.out; omega); rw [← HNM.out] at q; exact q); clear K8)
    | (go_at_call 17; refine HS2.out.mono ?_; clear HS2; rintro e W9 ⟨rfl, K9⟩; have HKF := hideI (HK8.out.trans K9 (fun _ f => f.elim)); clear K9)
    | (go_at_call 15; refine (HDb _ HKF.out).out.mono ?_; clear HDb; rintro e Wa ⟨-, h2, K2⟩; obtain ⟨a9, c9, h2e, ho9⟩ := h2 M rfl; subst h2e; have HKa := hideI (HKF.out.trans K2 (fun _ f => f.elim)); have HAM := hideI (encode_any M a9 c9 (ad 20) Wa (ins_of_own ho9) HMO.out (by have := HML.out; omega) (HE.out.kept HKa.out).e.s20.var (HE.out.kept HKa.out).t); clear h2 K2 ho9)
    | (go_at_call 12; refine HAM.out.mono ?_; clear HAM; rintro e Wb ⟨h2, -, K2⟩; obtain ⟨gb, -, h2e, hob⟩ := h2 HMK.out; rw [HMB.out] at h2e hob; subst h2e; have HKa2 := hideI (HKa.out.trans K2 (fun _ f => f.elim)); have hcb1 := conv_any hob; have hcb2 := HCB.out Wb HKa2.out; clear h2 K2 hob; generalize strOfNums B = sB at *; generalize B.length = nB2 at *))
  go_ret
  exact ⟨rfl, HKa2.out⟩
set_option maxRecDepth 20000 in
set_option maxHeartbeats 16000000 in
theorem there_bn (l m : List In) (B : List Int) (a b d : Option Addr) (c1 c2 c3 : Nat) (ad : Nat → Addr) (w : World) (hL : InsAt w a l) (hM : InsAt w b m) (hB : BytesAt w d B) (hIB : IsBytes B) (hO1 : ∀ x ∈ l, x.Ok) (hO2 : ∀ x ∈ m, x.Ok) (hl : l.length ≤ 16777216) (hm : m.length ≤ 16777216) (hb : B.length ≤ 16777216) (ha : a = none → c1 = 0) (hbn : b = none → c2 = 0) (hE : Env21 w ad) (hk1 : ¬ ∀ x ∈ l, okI x = true) (hd : dcI B = none) :
    Calls Tryd.prog 6 #[.slice a l.length c1, .slice b m.length c2, .slice d B.length c3] w fun e w' => e = .returned (.bool true) ∧ Kept (fun _ => False) w w' := by
  have HLv := hideI (ilives_any _ _ _ w hE.env)
  have HE := hideI hE
  have HL := hideI hL
  have HM := hideI hM
  have HA1 := fun W (k : Kept (fun _ => False) w W) => hideI (encode_any l a c1 (ad 20) W (hL.kept k (fun _ _ f => f)) hO1 (by omega) (hE.kept k).e.s20.var (hE.kept k).t)
  have HA2 := fun W (k : Kept (fun _ => False) w W) => hideI (encode_any m b c2 (ad 20) W (hM.kept k (fun _ _ f => f)) hO2 (by omega) (hE.kept k).e.s20.var (hE.kept k).t)
  have hO3 : ∀ x ∈ l ++ m, x.Ok := fun x hx => (List.mem_append.1 hx).elim (hO1 x) (hO2 x)
  have HA3 := fun W (a' : Option Addr) (c' : Nat) (hI : InsAt W a' (l ++ m)) (k : Kept (fun _ => False) w W) => hideI (by have q := encode_any (l ++ m) a' c' (ad 20) W hI hO3 (by rw [List.length_append]; omega) (hE.kept k).e.s20.var (hE.kept k).t; rw [List.length_append] at q; exact q)
  have HDb := fun W (k : Kept (fun _ => False) w W) => hideI (decode_any B d c3 (ad 0) (ad 1) (ad 20) W (hB.keptI k) hIB (by omega) (hE.kept k).e.ew (hE.kept k).t)
  have HN0 := fun W => hideI (num_nil W)
  have HNC := fun W (h : Errs21 W ad) => hideI (num_code h)
  have HNC2 := fun W (h : Errs21 W ad) => hideI (num_code h)
  rw [hd] at HDb
  have HBAD1 := hideI hk1
  have HBAD3 : Hid (¬ ∀ x ∈ l ++ m, okI x = true) := hideI (fun h => hk1 (fun x hx => h x (List.mem_append_left _ hx)))
  have HA := hideI ha
  have HBN := hideI hbn
  have HCB : Hid (∀ W, Kept (fun _ => False) w W → (convert 30 9 (.slice d B.length c3)).run Tryd.prog W = .ok (.string (strOfNums B)) W) := hideI (fun W k => conv_arg (hB.keptI k))
  have HIB := hideI hIB
  clear hk1
  clear hd
  clear hL hM hB hIB hO1 hO2 hO3 hE ha hbn
  obtain ⟨nl, hnl⟩ : ∃ n, n = l.length := ⟨_, rfl⟩
  obtain ⟨nm, hnm⟩ : ∃ n, n = m.length := ⟨_, rfl⟩
  obtain ⟨nb, hnb⟩ : ∃ n, n = B.length := ⟨_, rfl⟩
  rw [← hnl, ← hnm] at HA3
  rw [← hnl] at HA1 hl
  rw [← hnm] at HA2 hm
  rw [← hnb] at HDb HCB hb
  rw [← hnl, ← hnm, ← hnb]
  have HNL := hideI hnl
  have HNM := hideI hnm
  have HNB := hideI hnb
  clear hnl hnm hnb
  go_enter Tryd.func6, Tryd.ntmps6
  go_wp2_with (first
    | (go_at_call 7; refine HLv.out.mono ?_; clear HLv; rintro e W1 ⟨rfl, K1⟩; have HK1 := hideI K1; clear K1)
    | (go_at_call 12; refine (HA1 _ HK1.out).out.mono ?_; clear HA1; rintro e W2 ⟨-, h2, K2⟩; have h2e := h2 HBAD1.out; subst h2e; have HK2 := hideI (HK1.out.trans K2 (fun _ f => f.elim)); have HKS2 := hideI K2; unfold errV; clear h2 K2)
    | (go_at_call 12; refine (HA2 _ HK2.out).out.mono ?_; clear HA2; rintro e W3 h2w; have K2 := h2w.2.2; obtain ⟨r2, r3, h2e⟩ := enc_some h2w; subst h2e; have HK3 := hideI (HK2.out.trans K2 (fun _ f => f.elim)); clear h2w K2; have HGa := hideI (gro_empty W3 W3 48 3 (Kept.refl _ _)); have HIl := hideI (HL.out.kept (HK3.out.trans (Kept.alloc W3 (.cells #[] 48)) (fun _ f => f.elim)) (fun _ _ f => f)))
    | (at_builtin; refine wpList_catIn (w0 := W3) rfl _ _ rfl _ 0 [] l rfl HGa a nl c1 rfl HNL.out HA.out HIl nl (by omega) (by omega) ?_; clear HGa HIl; intro a4 c4 W4 HGb; have HK4 := hideI (HK3.out.trans HGb.out.kept (fun _ f => f.elim)); have HIm := hideI (HM.out.kept HK4.out (fun _ _ f => f)))
    | (at_builtin; refine wpList_catIn (w0 := W3) rfl _ _ rfl _ nl ([] ++ l) m rfl HGb b nm c2 rfl HNM.out HBN.out HIm (nl + nm) rfl (by omega) ?_; clear HGb HIm; intro a5 c5 W5 HGc; have HK5 := hideI (HK3.out.trans HGc.out.kept (fun _ f => f.elim)); have HKS5 := hideI HGc.out.kept; have HIj : Hid (InsAt W5 a5 (l ++ m)) := hideI (ins_of_own (by have q := HGc.out.own; rw [HNL.out, HNM.out, ← List.length_append] at q; exact q)))
    | (go_at_call 12; refine (HA3 _ a5 c5 HIj.out HK5.out).out.mono ?_; clear HA3; rintro e W6 ⟨-, h2, K2⟩; have h2e := h2 HBAD3.out; subst h2e; have HK6 := hideI (HK5.out.trans K2 (fun _ f => f.elim)); unfold errV; clear h2 K2)
    | (go_at_call 14; refine (HNC _ (HE.out.kept HK6.out).e).out.mono ?_; clear HNC; rintro e W9 ⟨rfl, e9⟩; subst e9; have HKF := HK6)
    | (go_at_call 15; refine (HDb _ HKF.out).out.mono ?_; clear HDb; rintro e Wa ⟨h2, -, K2⟩; have h2e := h2 rfl; subst h2e; have HKa := hideI (HKF.out.trans K2 (fun _ f => f.elim)); unfold errV; clear h2 K2)
    | (go_at_call 14; refine (HNC2 _ (HE.out.kept HKa.out).e).out.mono ?_; clear HNC2; rintro e Wb ⟨rfl, eb⟩; subst eb))
  go_ret
  exact ⟨rfl, HKa.out⟩
set_option maxRecDepth 20000 in
set_option maxHeartbeats 16000000 in
theorem there_bs (l m : List In) (B : List Int) (a b d : Option Addr) (c1 c2 c3 : Nat) (ad : Nat → Addr) (w : World) (hL : InsAt w a l) (hM : InsAt w b m) (hB : BytesAt w d B) (hIB : IsBytes B) (hO1 : ∀ x ∈ l, x.Ok) (hO2 : ∀ x ∈ m, x.Ok) (hl : l.length ≤ 16777216) (hm : m.length ≤ 16777216) (hb : B.length ≤ 16777216) (ha : a = none → c1 = 0) (hbn : b = none → c2 = 0) (hE : Env21 w ad) (hk1 : ¬ ∀ x ∈ l, okI x = true) (M : List In) (hd : dcI B = some M) :
    Calls Tryd.prog 6 #[.slice a l.length c1, .slice b m.length c2, .slice d B.length c3] w fun e w' => e = .returned (.bool true) ∧ Kept (fun _ => False) w w' := by
  have HLv := hideI (ilives_any _ _ _ w hE.env)
  have HE := hideI hE
  have HL := hideI hL
  have HM := hideI hM
  have HA1 := fun W (k : Kept (fun _ => False) w W) => hideI (encode_any l a c1 (ad 20) W (hL.kept k (fun _ _ f => f)) hO1 (by omega) (hE.kept k).e.s20.var (hE.kept k).t)
  have HA2 := fun W (k : Kept (fun _ => False) w W) => hideI (encode_any m b c2 (ad 20) W (hM.kept k (fun _ _ f => f)) hO2 (by omega) (hE.kept k).e.s20.var (hE.kept k).t)
  have hO3 : ∀ x ∈ l ++ m, x.Ok := fun x hx => (List.mem_append.1 hx).elim (hO1 x) (hO2 x)
  have HA3 := fun W (a' : Option Addr) (c' : Nat) (hI : InsAt W a' (l ++ m)) (k : Kept (fun _ => False) w W) => hideI (by have q := encode_any (l ++ m) a' c' (ad 20) W hI hO3 (by rw [List.length_append]; omega) (hE.kept k).e.s20.var (hE.kept k).t; rw [List.length_append] at q; exact q)
  have HDb := fun W (k : Kept (fun _ => False) w W) => hideI (decode_any B d c3 (ad 0) (ad 1) (ad 20) W (hB.keptI k) hIB (by omega) (hE.kept k).e.ew (hE.kept k).t)
  have HN0 := fun W => hideI (num_nil W)
  have HNC := fun W (h : Errs21 W ad) => hideI (num_code h)
  have HNC2 := fun W (h : Errs21 W ad) => hideI (num_code h)
  rw [hd] at HDb
  have HBAD1 := hideI hk1
  have HBAD3 : Hid (¬ ∀ x ∈ l ++ m, okI x = true) := hideI (fun h => hk1 (fun x hx => h x (List.mem_append_left _ hx)))
  obtain ⟨hf1, hf2, hf3⟩ := dcI_form _ B M (Nat.le_refl _) hIB hd
  have HMB := hideI hf1
  have HMO := hideI hf2
  have HMK := hideI hf3
  have HML : Hid (M.length ≤ 16777216) := hideI (by have h1 := dcI_count M; rw [hf1] at h1; omega)
  have HA := hideI ha
  have HBN := hideI hbn
  have HCB : Hid (∀ W, Kept (fun _ => False) w W → (convert 30 9 (.slice d B.length c3)).run Tryd.prog W = .ok (.string (strOfNums B)) W) := hideI (fun W k => conv_arg (hB.keptI k))
  have HIB := hideI hIB
  clear hk1
  clear hf1 hf2 hf3
  clear hd
  clear hL hM hB hIB hO1 hO2 hO3 hE ha hbn
  obtain ⟨nl, hnl⟩ : ∃ n, n = l.length := ⟨_, rfl⟩
  obtain ⟨nm, hnm⟩ : ∃ n, n = m.length := ⟨_, rfl⟩
  obtain ⟨nb, hnb⟩ : ∃ n, n = B.length := ⟨_, rfl⟩
  rw [← hnl, ← hnm] at HA3
  rw [← hnl] at HA1 hl
  rw [← hnm] at HA2 hm
  rw [← hnb] at HDb HCB hb
  rw [← hnl, ← hnm, ← hnb]
  have HNL := hideI hnl
  have HNM := hideI hnm
  have HNB := hideI hnb
  clear hnl hnm hnb
  go_enter Tryd.func6, Tryd.ntmps6
  go_wp2_with (first
    | (go_at_call 7; refine HLv.out.mono ?_; clear HLv; rintro e W1 ⟨rfl, K1⟩; have HK1 := hideI K1; clear K1)
    | (go_at_call 12; refine (HA1 _ HK1.out).out.mono ?_; clear HA1; rintro e W2 ⟨-, h2, K2⟩; have h2e := h2 HBAD1.out; subst h2e; have HK2 := hideI (HK1.out.trans K2 (fun _ f => f.elim)); have HKS2 := hideI K2; unfold errV; clear h2 K2)
    | (go_at_call 12; refine (HA2 _ HK2.out).out.mono ?_; clear HA2; rintro e W3 h2w; have K2 := h2w.2.2; obtain ⟨r2, r3, h2e⟩ := enc_some h2w; subst h2e; have HK3 := hideI (HK2.out.trans K2 (fun _ f => f.elim)); clear h2w K2; have HGa := hideI (gro_empty W3 W3 48 3 (Kept.refl _ _)); have HIl := hideI (HL.out.kept (HK3.out.trans (Kept.alloc W3 (.cells #[] 48)) (fun _ f => f.elim)) (fun _ _ f => f)))
    | (at_builtin; refine wpList_catIn (w0 := W3) rfl _ _ rfl _ 0 [] l rfl HGa a nl c1 rfl HNL.out HA.out HIl nl (by omega) (by omega) ?_; clear HGa HIl; intro a4 c4 W4 HGb; have HK4 := hideI (HK3.out.trans HGb.out.kept (fun _ f => f.elim)); have HIm := hideI (HM.out.kept HK4.out (fun _ _ f => f)))
    | (at_builtin; refine wpList_catIn (w0 := W3) rfl _ _ rfl _ nl ([] ++ l) m rfl HGb b nm c2 rfl HNM.out HBN.out HIm (nl + nm) rfl (by omega) ?_; clear HGb HIm; intro a5 c5 W5 HGc; have HK5 := hideI (HK3.out.trans HGc.out.kept (fun _ f => f.elim)); have HKS5 := hideI HGc.out.kept; have HIj : Hid (InsAt W5 a5 (l ++ m)) := hideI (ins_of_own (by have q := HGc.out.own; rw [HNL.out, HNM.out, ← List.length_append] at q; exact q)))
    | (go_at_call 12; refine (HA3 _ a5 c5 HIj.out HK5.out).out.mono ?_; clear HA3; rintro e W6 ⟨-, h2, K2⟩; have h2e := h2 HBAD3.out; subst h2e; have HK6 := hideI (HK5.out.trans K2 (fun _ f => f.elim)); unfold errV; clear h2 K2)
    | (go_at_call 14; refine (HNC _ (HE.out.kept HK6.out).e).out.mono ?_; clear HNC; rintro e W9 ⟨rfl, e9⟩; subst e9; have HKF := HK6)
    | (go_at_call 15; refine (HDb _ HKF.out).out.mono ?_; clear HDb; rintro e Wa ⟨-, h2, K2⟩; obtain ⟨a9, c9, h2e, ho9⟩ := h2 M rfl; subst h2e; have HKa := hideI (HKF.out.trans K2 (fun _ f => f.elim)); have HAM := hideI (encode_any M a9 c9 (ad 20) Wa (ins_of_own ho9) HMO.out (by have := HML.out; omega) (HE.out.kept HKa.out).e.s20.var (HE.out.kept HKa.out).t); clear h2 K2 ho9)
    | (go_at_call 12; refine HAM.out.mono ?_; clear HAM; rintro e Wb ⟨h2, -, K2⟩; obtain ⟨gb, -, h2e, hob⟩ := h2 HMK.out; rw [HMB.out] at h2e hob; subst h2e; have HKa2 := hideI (HKa.out.trans K2 (fun _ f => f.elim)); have hcb1 := conv_any hob; have hcb2 := HCB.out Wb HKa2.out; clear h2 K2 hob; generalize strOfNums B = sB at *; generalize B.length = nB2 at *))
  go_ret
  exact ⟨rfl, HKa2.out⟩
set_option maxRecDepth 20000 in
set_option maxHeartbeats 16000000 in
theorem there_cn (l m : List In) (B : List Int) (a b d : Option Addr) (c1 c2 c3 : Nat) (ad : Nat → Addr) (w : World) (hL : InsAt w a l) (hM : InsAt w b m) (hB : BytesAt w d B) (hIB : IsBytes B) (hO1 : ∀ x ∈ l, x.Ok) (hO2 : ∀ x ∈ m, x.Ok) (hl : l.length ≤ 16777216) (hm : m.length ≤ 16777216) (hb : B.length ≤ 16777216) (ha : a = none → c1 = 0) (hbn : b = none → c2 = 0) (hE : Env21 w ad) (hk1 : ∀ x ∈ l, okI x = true) (hk2 : ¬ ∀ x ∈ m, okI x = true) (hd : dcI B = none) :
    Calls Tryd.prog 6 #[.slice a l.length c1, .slice b m.length c2, .slice d B.length c3] w fun e w' => e = .returned (.bool true) ∧ Kept (fun _ => False) w w' := by
  have HLv := hideI (ilives_any _ _ _ w hE.env)
  have HE := hideI hE
  have HL := hideI hL
  have HM := hideI hM
  have HA1 := fun W (k : Kept (fun _ => False) w W) => hideI (encode_any l a c1 (ad 20) W (hL.kept k (fun _ _ f => f)) hO1 (by omega) (hE.kept k).e.s20.var (hE.kept k).t)
  have HA2 := fun W (k : Kept (fun _ => False) w W) => hideI (encode_any m b c2 (ad 20) W (hM.kept k (fun _ _ f => f)) hO2 (by omega) (hE.kept k).e.s20.var (hE.kept k).t)
  have hO3 : ∀ x ∈ l ++ m, x.Ok := fun x hx => (List.mem_append.1 hx).elim (hO1 x) (hO2 x)
  have HA3 := fun W (a' : Option Addr) (c' : Nat) (hI : InsAt W a' (l ++ m)) (k : Kept (fun _ => False) w W) => hideI (by have q := encode_any (l ++ m) a' c' (ad 20) W hI hO3 (by rw [List.length_append]; omega) (hE.kept k).e.s20.var (hE.kept k).t; rw [List.length_append] at q; exact q)
  have HDb := fun W (k : Kept (fun _ => False) w W) => hideI (decode_any B d c3 (ad 0) (ad 1) (ad 20) W (hB.keptI k) hIB (by omega) (hE.kept k).e.ew (hE.kept k).t)
  have HN0 := fun W => hideI (num_nil W)
  have HNC := fun W (h : Errs21 W ad) => hideI (num_code h)
  have HNC2 := fun W (h : Errs21 W ad) => hideI (num_code h)
  rw [hd] at HDb
  have HOK1 := hideI hk1
  have HBAD2 := hideI hk2
  have HBAD3 : Hid (¬ ∀ x ∈ l ++ m, okI x = true) := hideI (fun h => hk2 (fun x hx => h x (List.mem_append_right _ hx)))
  have HA := hideI ha
  have HBN := hideI hbn
  have HCB : Hid (∀ W, Kept (fun _ => False) w W → (convert 30 9 (.slice d B.length c3)).run Tryd.prog W = .ok (.string (strOfNums B)) W) := hideI (fun W k => conv_arg (hB.keptI k))
  have HIB := hideI hIB
  clear hk1 hk2
  clear hd
  clear hL hM hB hIB hO1 hO2 hO3 hE ha hbn
  obtain ⟨nl, hnl⟩ : ∃ n, n = l.length := ⟨_, rfl⟩
  obtain ⟨nm, hnm⟩ : ∃ n, n = m.length := ⟨_, rfl⟩
  obtain ⟨nb, hnb⟩ : ∃ n, n = B.length := ⟨_, rfl⟩
  rw [← hnl, ← hnm] at HA3
  rw [← hnl] at HA1 hl
  rw [← hnm] at HA2 hm
  rw [← hnb] at HDb HCB hb
  rw [← hnl, ← hnm, ← hnb]
  have HNL := hideI hnl
  have HNM := hideI hnm
  have HNB := hideI hnb
  clear hnl hnm hnb
  go_enter Tryd.func6, Tryd.ntmps6
  go_wp2_with (first
    | (go_at_call 7; refine HLv.out.mono ?_; clear HLv; rintro e W1 ⟨rfl, K1⟩; have HK1 := hideI K1; clear K1)
    | (go_at_call 12; refine (HA1 _ HK1.out).out.mono ?_; clear HA1; rintro e W2 ⟨h2, -, K2⟩; obtain ⟨g2, -, h2e, ho2⟩ := h2 HOK1.out; subst h2e; have HR2 := hideI ho2; have HK2 := hideI (HK1.out.trans K2 (fun _ f => f.elim)); have HKS2 := hideI K2; clear h2 K2 ho2)
    | (go_at_call 12; refine (HA2 _ HK2.out).out.mono ?_; clear HA2; rintro e W3 ⟨-, h2, K2⟩; have h2e := h2 HBAD2.out; subst h2e; have HK3 := hideI (HK2.out.trans K2 (fun _ f => f.elim)); have HKS3 := hideI K2; unfold errV; clear h2 K2; have HGa := hideI (gro_empty W3 W3 48 3 (Kept.refl _ _)); have HIl := hideI (HL.out.kept (HK3.out.trans (Kept.alloc W3 (.cells #[] 48)) (fun _ f => f.elim)) (fun _ _ f => f)))
    | (at_builtin; refine wpList_catIn (w0 := W3) rfl _ _ rfl _ 0 [] l rfl HGa a nl c1 rfl HNL.out HA.out HIl nl (by omega) (by omega) ?_; clear HGa HIl; intro a4 c4 W4 HGb; have HK4 := hideI (HK3.out.trans HGb.out.kept (fun _ f => f.elim)); have HIm := hideI (HM.out.kept HK4.out (fun _ _ f => f)))
    | (at_builtin; refine wpList_catIn (w0 := W3) rfl _ _ rfl _ nl ([] ++ l) m rfl HGb b nm c2 rfl HNM.out HBN.out HIm (nl + nm) rfl (by omega) ?_; clear HGb HIm; intro a5 c5 W5 HGc; have HK5 := hideI (HK3.out.trans HGc.out.kept (fun _ f => f.elim)); have HKS5 := hideI HGc.out.kept; have HIj : Hid (InsAt W5 a5 (l ++ m)) := hideI (ins_of_own (by have q := HGc.out.own; rw [HNL.out, HNM.out, ← List.length_append] at q; exact q)))
    | (go_at_call 12; refine (HA3 _ a5 c5 HIj.out HK5.out).out.mono ?_; clear HA3; rintro e W6 ⟨-, h2, K2⟩; have h2e := h2 HBAD3.out; subst h2e; have HK6 := hideI (HK5.out.trans K2 (fun _ f => f.elim)); unfold errV; clear h2 K2)
    | (go_at_call 14; refine (HNC _ (HE.out.kept HK6.out).e).out.mono ?_; clear HNC; rintro e W9 ⟨rfl, e9⟩; subst e9; have HKF := HK6)
    | (go_at_call 15; refine (HDb _ HKF.out).out.mono ?_; clear HDb; rintro e Wa ⟨h2, -, K2⟩; have h2e := h2 rfl; subst h2e; have HKa := hideI (HKF.out.trans K2 (fun _ f => f.elim)); unfold errV; clear h2 K2)
    | (go_at_call 14; refine (HNC2 _ (HE.out.kept HKa.out).e).out.mono ?_; clear HNC2; rintro e Wb ⟨rfl, eb⟩; subst eb))
  go_ret
  exact ⟨rfl, HKa.out⟩
set_option maxRecDepth 20000 in
set_option maxHeartbeats 16000000 in
theorem there_cs (l m : List In) (B : List Int) (a b d : Option Addr) (c1 c2 c3 : Nat) (ad : Nat → Addr) (w : World) (hL : InsAt w a l) (hM : InsAt w b m) (hB : BytesAt w d B) (hIB : IsBytes B) (hO1 : ∀ x ∈ l, x.Ok) (hO2 : ∀ x ∈ m, x.Ok) (hl : l.length ≤ 16777216) (hm : m.length ≤ 16777216) (hb : B.length ≤ 16777216) (ha : a = none → c1 = 0) (hbn : b = none → c2 = 0) (hE : Env21 w ad) (hk1 : ∀ x ∈ l, okI x = true) (hk2 : ¬ ∀ x ∈ m, okI x = true) (M : List In) (hd : dcI B = some M) :
    Calls Tryd.prog 6 #[.slice a l.length c1, .slice b m.length c2, .slice d B.length c3] w fun e w' => e = .returned (.bool true) ∧ Kept (fun _ => False) w w' := by
  have HLv := hideI (ilives_any _ _ _ w hE.env)
  have HE := hideI hE
  have HL := hideI hL
  have HM := hideI hM
  have HA1 := fun W (k : Kept (fun _ => False) w W) => hideI (encode_any l a c1 (ad 20) W (hL.kept k (fun _ _ f => f)) hO1 (by omega) (hE.kept k).e.s20.var (hE.kept k).t)
  have HA2 := fun W (k : Kept (fun _ => False) w W) => hideI (encode_any m b c2 (ad 20) W (hM.kept k (fun _ _ f => f)) hO2 (by omega) (hE.kept k).e.s20.var (hE.kept k).t)
  have hO3 : ∀ x ∈ l ++ m, x.Ok := fun x hx => (List.mem_append.1 hx).elim (hO1 x) (hO2 x)
  have HA3 := fun W (a' : Option Addr) (c' : Nat) (hI : InsAt W a' (l ++ m)) (k : Kept (fun _ => False) w W) => hideI (by have q := encode_any (l ++ m) a' c' (ad 20) W hI hO3 (by rw [List.length_append]; omega) (hE.kept k).e.s20.var (hE.kept k).t; rw [List.length_append] at q; exact q)
  have HDb := fun W (k : Kept (fun _ => False) w W) => hideI (decode_any B d c3 (ad 0) (ad 1) (ad 20) W (hB.keptI k) hIB (by omega) (hE.kept k).e.ew (hE.kept k).t)
  have HN0 := fun W => hideI (num_nil W)
  have HNC := fun W (h : Errs21 W ad) => hideI (num_code h)
  have HNC2 := fun W (h : Errs21 W ad) => hideI (num_code h)
  rw [hd] at HDb
  have HOK1 := hideI hk1
  have HBAD2 := hideI hk2
  have HBAD3 : Hid (¬ ∀ x ∈ l ++ m, okI x = true) := hideI (fun h => hk2 (fun x hx => h x (List.mem_append_right _ hx)))
  obtain ⟨hf1, hf2, hf3⟩ := dcI_form _ B M (Nat.le_refl _) hIB hd
  have HMB := hideI hf1
  have HMO := hideI hf2
  have HMK := hideI hf3
  have HML : Hid (M.length ≤ 16777216) := hideI (by have h1 := dcI_count M; rw [hf1] at h1; omega)
  have HA := hideI ha
  have HBN := hideI hbn
  have HCB : Hid (∀ W, Kept (fun _ => False) w W → (convert 30 9 (.slice d B.length c3)).run Tryd.prog W = .ok (.string (strOfNums B)) W) := hideI (fun W k => conv_arg (hB.keptI k))
  have HIB := hideI hIB
  clear hk1 hk2
  clear hf1 hf2 hf3
  clear hd
  clear hL hM hB hIB hO1 hO2 hO3 hE ha hbn
  obtain ⟨nl, hnl⟩ : ∃ n, n = l.length := ⟨_, rfl⟩
  obtain ⟨nm, hnm⟩ : ∃ n, n = m.length := ⟨_, rfl⟩
  obtain ⟨nb, hnb⟩ : ∃ n, n = B.length := ⟨_, rfl⟩
  rw [← hnl, ← hnm] at HA3
  rw [← hnl] at HA1 hl
  rw [← hnm] at HA2 hm
  rw [← hnb] at HDb HCB hb
  rw [← hnl, ← hnm, ← hnb]
  have HNL := hideI hnl
  have HNM := hideI hnm
  have HNB := hideI hnb
  clear hnl hnm hnb
  go_enter Tryd.func6, Tryd.ntmps6
  go_wp2_with (first
    | (go_at_call 7; refine HLv.out.mono ?_; clear HLv; rintro e W1 ⟨rfl, K1⟩; have HK1 := hideI K1; clear K1)
    | (go_at_call 12; refine (HA1 _ HK1.out).out.mono ?_; clear HA1; rintro e W2 ⟨h2, -, K2⟩; obtain ⟨g2, -, h2e, ho2⟩ := h2 HOK1.out; subst h2e; have HR2 := hideI ho2; have HK2 := hideI (HK1.out.trans K2 (fun _ f => f.elim)); have HKS2 := hideI K2; clear h2 K2 ho2)
    | (go_at_call 12; refine (HA2 _ HK2.out).out.mono ?_; clear HA2; rintro e W3 ⟨-, h2, K2⟩; have h2e := h2 HBAD2.out; subst h2e; have HK3 := hideI (HK2.out.trans K2 (fun _ f => f.elim)); have HKS3 := hideI K2; unfold errV; clear h2 K2; have HGa := hideI (gro_empty W3 W3 48 3 (Kept.refl _ _)); have HIl := hideI (HL.out.kept (HK3.out.trans (Kept.alloc W3 (.cells #[] 48)) (fun _ f => f.elim)) (fun _ _ f => f)))
    | (at_builtin; refine wpList_catIn (w0 := W3) rfl _ _ rfl _ 0 [] l rfl HGa a nl c1 rfl HNL.out HA.out HIl nl (by omega) (by omega) ?_; clear HGa HIl; intro a4 c4 W4 HGb; have HK4 := hideI (HK3.out.trans HGb.out.kept (fun _ f => f.elim)); have HIm := hideI (HM.out.kept HK4.out (fun _ _ f => f)))
    | (at_builtin; refine wpList_catIn (w0 := W3) rfl _ _ rfl _ nl ([] ++ l) m rfl HGb b nm c2 rfl HNM.out HBN.out HIm (nl + nm) rfl (by omega) ?_; clear HGb HIm; intro a5 c5 W5 HGc; have HK5 := hideI (HK3.out.trans HGc.out.kept (fun _ f => f.elim)); have HKS5 := hideI HGc.out.kept; have HIj : Hid (InsAt W5 a5 (l ++ m)) := hideI (ins_of_own (by have q := HGc.out.own; rw [HNL.out, HNM.out, ← List.length_append] at q; exact q)))
    | (go_at_call 12; refine (HA3 _ a5 c5 HIj.out HK5.out).out.mono ?_; clear HA3; rintro e W6 ⟨-, h2, K2⟩; have h2e := h2 HBAD3.out; subst h2e; have HK6 := hideI (HK5.out.trans K2 (fun _ f => f.elim)); unfold errV; clear h2 K2)
    | (go_at_call 14; refine (HNC _ (HE.out.kept HK6.out).e).out.mono ?_; clear HNC; rintro e W9 ⟨rfl, e9⟩; subst e9; have HKF := HK6)
    | (go_at_call 15; refine (HDb _ HKF.out).out.mono ?_; clear HDb; rintro e Wa ⟨-, h2, K2⟩; obtain ⟨a9, c9, h2e, ho9⟩ := h2 M rfl; subst h2e; have HKa := hideI (HKF.out.trans K2 (fun _ f => f.elim)); have HAM := hideI (encode_any M a9 c9 (ad 20) Wa (ins_of_own ho9) HMO.out (by have := HML.out; omega) (HE.out.kept HKa.out).e.s20.var (HE.out.kept HKa.out).t); clear h2 K2 ho9)
    | (go_at_call 12; refine HAM.out.mono ?_; clear HAM; rintro e Wb ⟨h2, -, K2⟩; obtain ⟨gb, -, h2e, hob⟩ := h2 HMK.out; rw [HMB.out] at h2e hob; subst h2e; have HKa2 := hideI (HKa.out.trans K2 (fun _ f => f.elim)); have hcb1 := conv_any hob; have hcb2 := HCB.out Wb HKa2.out; clear h2 K2 hob; generalize strOfNums B = sB at *; generalize B.length = nB2 at *))
  go_ret
  exact ⟨rfl, HKa2.out⟩
end Go.Proofs.YthbepejoffkdjaaDoor
namespace Go.Proofs.YthbepejoffkdjaaDoor
open Go.ChangeShapes Go.WideShapes Go.ChangeAt Go.RowKit

theorem there_all (l m : List In) (B : List Int) (a b d : Option Addr) (c1 c2 c3 : Nat) (ad : Nat → Addr) (w : World) (hL : InsAt w a l) (hM : InsAt w b m) (hB : BytesAt w d B) (hIB : IsBytes B) (hO1 : ∀ x ∈ l, x.Ok) (hO2 : ∀ x ∈ m, x.Ok) (hl : l.length ≤ 16777216) (hm : m.length ≤ 16777216) (hb : B.length ≤ 16777216) (ha : a = none → c1 = 0) (hbn : b = none → c2 = 0) (hE : Env21 w ad) :
    Calls Tryd.prog 6 #[.slice a l.length c1, .slice b m.length c2, .slice d B.length c3] w fun e w' => e = .returned (.bool true) ∧ Kept (fun _ => False) w w' := by
  by_cases hk1 : ∀ x ∈ l, okI x = true
  · by_cases hk2 : ∀ x ∈ m, okI x = true
    · cases hd : dcI B with
      | none => exact there_an l m B a b d c1 c2 c3 ad w hL hM hB hIB hO1 hO2 hl hm hb ha hbn hE hk1 hk2 hd
      | some M => exact there_as l m B a b d c1 c2 c3 ad w hL hM hB hIB hO1 hO2 hl hm hb ha hbn hE hk1 hk2 M hd
    · cases hd : dcI B with
      | none => exact there_cn l m B a b d c1 c2 c3 ad w hL hM hB hIB hO1 hO2 hl hm hb ha hbn hE hk1 hk2 hd
      | some M => exact there_cs l m B a b d c1 c2 c3 ad w hL hM hB hIB hO1 hO2 hl hm hb ha hbn hE hk1 hk2 M hd
  · cases hd : dcI B with
    | none => exact there_bn l m B a b d c1 c2 c3 ad w hL hM hB hIB hO1 hO2 hl hm hb ha hbn hE hk1 hd
    | some M => exact there_bs l m B a b d c1 c2 c3 ad w hL hM hB hIB hO1 hO2 hl hm hb ha hbn hE hk1 M hd
end Go.Proofs.YthbepejoffkdjaaDoor
