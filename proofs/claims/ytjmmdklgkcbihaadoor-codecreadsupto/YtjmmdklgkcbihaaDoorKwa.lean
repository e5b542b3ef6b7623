import Derived.Test.YtjmmdklgkcbihaaDoorHne
import Derived.Test.YtjmmdklgkcbihaaDoorPack
namespace Go.Proofs.YtjmmdklgkcbihaaDoor
open Go.ChangeShapes Go.WideShapes Go.ChangeAt Go.RowKit

theorem uvb_le10K (n : Nat) (h : n < 18446744073709551616) : (uvb n).length ≤ 10 := by
  rw [uvb_length]
  exact (ulen_le n (by simpa using h)).2
theorem IntsAt.keptK {w w' : World} {a : Option Addr} {l : List Int} (h : IntsAt w a l) (k : Kept (fun _ => False) w w') : IntsAt w' a l := by
  intro hne
  obtain ⟨b, off, e, hc⟩ := h hne
  exact ⟨b, off, e, fun j hj => k.cell (hc j hj) (fun f => f)⟩
/-- A list that is grown, in memory younger than w0. -/
structure GroK (w0 w : World) (e : TypeId) (sz : Nat) (v : Value) (n : Nat) (xs : List Value) : Prop where
  own : w.ownsRow w0.heap.size e sz v n xs
  kept : Kept (fun _ => False) w0 w
theorem GroK.shape {w0 w : World} {e : TypeId} {sz : Nat} {v : Value} {n : Nat} {xs : List Value} (h : GroK w0 w e sz v n xs) : ∃ a c, v = .slice a n c := by
  rcases h.own.2 with ⟨rfl, rfl⟩ | ⟨g, cap, cur, rfl, _⟩
  · exact ⟨_, _, rfl⟩
  · exact ⟨_, _, rfl⟩
theorem GroK.later {w0 w w' : World} {e : TypeId} {sz : Nat} {v : Value} {n : Nat} {xs : List Value} (h : GroK w0 w e sz v n xs) (k : Kept (fun _ => False) w w') : GroK w0 w' e sz v n xs :=
  ⟨k.row h.own (fun _ _ f => f), h.kept.trans k (fun _ f => f.elim)⟩
theorem GroK.cell {w0 w : World} {e : TypeId} {sz : Nat} {a : Option Addr} {c n : Nat} {xs : List Value} (h : GroK w0 w e sz (.slice a n c) n xs) (hn : 0 < n) : ∃ g, a = some ⟨g, 0, none⟩ ∧ w0.heap.size ≤ g ∧ ∀ j u, xs[j]? = some u → w.cell? ⟨g, j, none⟩ = some u := by
  rcases h.own.2 with ⟨_, e2⟩ | ⟨g, cap, cur, e1, hg, _⟩
  · omega
  · have ea : a = some ⟨g, 0, none⟩ := by injection e1
    subst ea
    refine ⟨g, rfl, hg, fun j u hu => ?_⟩
    have := h.own.cells (g := g) rfl j u hu
    have hplain : (⟨g, 0, none⟩ : Addr).add j = ⟨g, j, none⟩ := by unfold Addr.add; split <;> simp_all
    rwa [hplain] at this
theorem gro_emptyK (w0 w : World) (e : TypeId) (sz : Nat) (k : Kept (fun _ => False) w0 w) : GroK w0 (w.alloc (.cells #[] e)) e sz (.slice (some ⟨w.heap.size, 0, none⟩) 0 0) 0 [] :=
  ⟨⟨(Nat.zero_mul sz).symm, .inr ⟨w.heap.size, 0, #[], rfl, k.size, heap_alloc_new w _, Nat.le_refl _, Nat.zero_le _, (Nat.zero_mul sz).symm, by rw [Nat.zero_mul]; rfl⟩⟩, k.trans (Kept.alloc _ _) (fun _ f => f.elim)⟩
theorem gro_nilK (w : World) (e : TypeId) (sz : Nat) : GroK w w e sz (.slice none 0 0) 0 [] := ⟨⟨(Nat.zero_mul sz).symm, .inl ⟨rfl, rfl⟩⟩, Kept.refl _ _⟩
theorem row_newsK (w : World) (l : List Value) (t : TypeId) : ∀ (j : Nat) (u : Value), l[j]? = some u → (w.alloc (.cells l.toArray t)).cell? ((⟨w.heap.size, 0, none⟩ : Addr).add j) = some u := by
  intro j u hj
  have hplain : (⟨w.heap.size, 0, none⟩ : Addr).add j = ⟨w.heap.size, j, none⟩ := by unfold Addr.add; split <;> simp_all
  rw [hplain]
  simpa using hj
/-- One place of a list of single cells written over. -/
theorem GroK.set {w0 w : World} {e : TypeId} {g c n : Nat} {xs : List Value} (h : GroK w0 w e 1 (.slice (some ⟨g, 0, none⟩) n c) n xs) (k : Nat) (v : Value) :
    GroK w0 (w.setCell ⟨g, k, none⟩ v) e 1 (.slice (some ⟨g, 0, none⟩) n c) n (xs.set k v) ∧ w.frozen? ⟨g, k, none⟩ = false := by
  rcases h.own.2 with ⟨e1, e2⟩ | ⟨g', cap, cur, e1, hg, hh, hn, hm, hs, ht⟩
  · cases e1
  · simp only [Value.slice.injEq, Option.some.injEq, Addr.mk.injEq, and_true, true_and] at e1
    obtain ⟨rfl, rfl⟩ := e1
    refine ⟨⟨⟨by rw [List.length_set]; exact h.own.1, .inr ⟨g, c, cur.setIfInBounds k v, rfl, hg, heap_setCell_same w g k cur e v hh, hn, hm, by rw [Array.size_setIfInBounds]; exact hs, ?_⟩⟩, h.kept.trans (Kept.setCell _ _ _) (fun i e => .inr (by simp only at e; omega))⟩, ?_⟩
    · rw [Array.toList_setIfInBounds, List.take_set, ht]
    · simp [World.frozen?, hh]
theorem GroK.at {w0 w : World} {e : TypeId} {sz g c n : Nat} {xs : List Value} (h : GroK w0 w e sz (.slice (some ⟨g, 0, none⟩) n c) n xs) {j : Nat} {u : Value} (hu : xs[j]? = some u) : w.cell? ⟨g, j, none⟩ = some u := by
  have := h.own.cells (g := g) rfl j u hu
  have hplain : (⟨g, 0, none⟩ : Addr).add j = ⟨g, j, none⟩ := by unfold Addr.add; split <;> simp_all
  rwa [hplain] at this
/-- A list that is grown: what may have changed. -/
structure GStepK (w w' : World) (v v' : Value) : Prop where
  kept : Kept (fun k => v.ownBlock = some k) w w'
  new : ∀ k, v'.ownBlock = some k → v.ownBlock = some k ∨ w.heap.size ≤ k
theorem GStepK.refl (w : World) (v : Value) : GStepK w w v v := ⟨Kept.refl _ _, fun _ h => .inl h⟩
theorem GStepK.trans {a b c : World} {v v1 v2 : Value} (h : GStepK a b v v1) (k : GStepK b c v1 v2) : GStepK a c v v2 :=
  ⟨h.kept.trans k.kept (fun i hi => h.new i hi), fun i hi => (k.new i hi).elim (fun x => h.new i x) (fun x => .inr (Nat.le_trans h.kept.size x))⟩
theorem GStepK.later {a b c : World} {v v1 : Value} (h : GStepK a b v v1) (k : Kept (fun _ => False) b c) : GStepK a c v v1 :=
  ⟨h.kept.trans k (fun _ f => f.elim), h.new⟩
theorem GStepK.ahead {a b c : World} {v v1 : Value} (k : Kept (fun _ => False) a b) (h : GStepK b c v v1) : GStepK a c v v1 :=
  ⟨(k.mono (fun _ f => f.elim)).trans h.kept (fun _ hi => .inl hi), fun i hi => (h.new i hi).imp id (fun x => Nat.le_trans k.size x)⟩
/-- 'append(s, x...)' of what lies elsewhere. -/
theorem wpList_catXK {w0 W : World} {ops : Array Oper} {rest : List Oper} {o : Oper} {act : Act} {Q : Exit → Act → World → Prop} (hgd : o.guard = none) (s x : Operand) (t : TypeId)
    (ho : o.op = .call { callee := .builtin .append, args := #[s, x], argTypes := #[t, t] }) (e : TypeId) (i : TypeInfo) (z : Value) (size bytes : Nat)
    (ht : Tryd.prog.underlying t = some (.slice e)) (hi : Tryd.prog.info? e = some i) (hz : i.zero = some z) (hsize : i.size = size) (hby : i.bytes = bytes) (hzs : z.cells.size = size) (hsz : 0 < size)
    (v : Value) (n : Nat) (xs news : List Value) (hs : act.eval s = v) (hG : Hid (GroK w0 W e size v n xs)) (a : Addr) (m c : Nat) (hx : act.eval x = .slice (some a) m c)
    (hl : news.length = m * size) (hc : ∀ j u, news[j]? = some u → W.cell? (a.add j) = some u) (h1 : ∀ u ∈ news, u.oneCell' = true) (hm : 0 < m) (hb : (n + m) * bytes ≤ 140737488355328) (h63 : n + m ≤ maxLen)
    (h : ∀ g c' W', Hid (GroK w0 W' e size (.slice (some ⟨g, 0, none⟩) (n + m) c') (n + m) (xs ++ news)) → Hid (GStepK W W' v (.slice (some ⟨g, 0, none⟩) (n + m) c')) → wpList Tryd.prog ops Q rest (act.put o.dst (.slice (some ⟨g, 0, none⟩) (n + m) c')) W') : wpList Tryd.prog ops Q (o :: rest) act W := by
  refine wpList_append_lies W hgd s x t ho w0.heap.size e i z size bytes ht hi hz hsize hby hzs hsz v n xs hs hG.out.own a m c news hx hl hc h1 hm h63 hb hG.out.kept.size _ rfl ?_
  intro g c' W' ho2 hg2 hat _
  refine h g c' W' (hideH ⟨ho2, hG.out.kept.trans (Kept.grown hg2) (fun i hi => .inr (hG.out.own.lt i hi).1)⟩) (hideH ⟨Kept.grown hg2, fun k hk => ?_⟩)
  simp [Value.ownBlock] at hk
  subst hk
  exact hat.imp id (fun e => by rw [e]; exact Nat.le_refl _)
/-- 'append(s, x...)' of bytes. -/
theorem wpList_catBK {w0 W : World} {ops : Array Oper} {rest : List Oper} {o : Oper} {act : Act} {Q : Exit → Act → World → Prop} (hgd : o.guard = none) (s x : Operand)
    (ho : o.op = .call { callee := .builtin .append, args := #[s, x], argTypes := #[26, 26] }) (v : Value) (n : Nat) (xs ys : List Int) (hs : act.eval s = v) (hG : Hid (GroK w0 W 5 1 v n (bs xs))) (a : Option Addr) (m c : Nat) (hx : act.eval x = .slice a m c) (hm : m = ys.length) (hB : Hid (BytesAt W a ys)) (hm0 : 0 < m) (hb : n + m ≤ 70368744177664)
    (h : ∀ g c' W', Hid (GroK w0 W' 5 1 (.slice (some ⟨g, 0, none⟩) (n + m) c') (n + m) (bs (xs ++ ys))) → Hid (GStepK W W' v (.slice (some ⟨g, 0, none⟩) (n + m) c')) → wpList Tryd.prog ops Q rest (act.put o.dst (.slice (some ⟨g, 0, none⟩) (n + m) c')) W') : wpList Tryd.prog ops Q (o :: rest) act W := by
  obtain ⟨i0, hi, hz0, hz1, hz2⟩ := info_parts Tryd.infoB
  obtain ⟨b, off, rfl, hc⟩ := hB.out (by intro e; rw [e] at hm; simp at hm; omega)
  rw [bs_append] at h
  exact wpList_catXK hgd s x 26 ho 5 i0 (.int .u8 0) 1 1 Tryd.underlying26 hi hz0 hz1 hz2 rfl (by decide) v n (bs xs) (bs ys) hs hG ⟨b, off, none⟩ m c hx (by rw [bs_length, hm, Nat.mul_one]) (BytesAt.cells hc) (bs_one _) hm0 (by omega) (by unfold maxLen; omega) h
/-- 'append(s, x)' of one byte. -/
theorem wpList_pushZK {w0 W : World} {ops : Array Oper} {rest : List Oper} {o : Oper} {act : Act} {Q : Exit → Act → World → Prop} (hgd : o.guard = none) (s x : Operand)
    (ho : o.op = .call { callee := .builtin .append, args := #[s, x], argTypes := #[26, 26] }) (v : Value) (n : Nat) (xs : List Int) (y : Int) (hs : act.eval s = v) (hG : Hid (GroK w0 W 5 1 v n (bs xs))) (b : Nat) (hbb : b = W.heap.size) (hx : act.eval x = .slice (some ⟨b, 0, none⟩) 1 1) (hb : n ≤ 70368744177664)
    (h : ∀ g c' W', Hid (GroK w0 W' 5 1 (.slice (some ⟨g, 0, none⟩) (n + 1) c') (n + 1) (bs (xs ++ [y]))) → Hid (GStepK W W' v (.slice (some ⟨g, 0, none⟩) (n + 1) c')) → wpList Tryd.prog ops Q rest (act.put o.dst (.slice (some ⟨g, 0, none⟩) (n + 1) c')) W') : wpList Tryd.prog ops Q (o :: rest) act (W.alloc (.cells #[.int .u8 y] 5)) := by
  subst hbb
  obtain ⟨i0, hi, hz0, hz1, hz2⟩ := info_parts Tryd.infoB
  rw [bs_append] at h
  refine wpList_catXK hgd s x 26 ho 5 i0 (.int .u8 0) 1 1 Tryd.underlying26 hi hz0 hz1 hz2 rfl (by decide) v n (bs xs) (bs [y]) hs (hideH (hG.out.later (Kept.alloc W _))) ⟨W.heap.size, 0, none⟩ 1 1 hx (by rw [bs_length]; rfl) (row_newsK W [.int .u8 y] 5) (bs_one _) (by decide) (by omega) (by unfold maxLen; omega) ?_
  intro g c' W' hG2 hS
  exact h g c' W' hG2 (hideH (GStepK.ahead (Kept.alloc W _) hS.out))
theorem gro_bytesK {w0 W : World} {a : Option Addr} {n c : Nat} {xs : List Int} (h : GroK w0 W 5 1 (.slice a n c) n (bs xs)) : BytesAt W a xs ∧ n = xs.length ∧ n ≤ c := by
  have hn : n = xs.length := by have := h.own.1; rw [bs_length] at this; omega
  rcases h.own.2 with ⟨e1, e2⟩ | ⟨g, cap, cur, e1, hg, hh, hnc, _⟩
  · simp only [Value.slice.injEq] at e1
    obtain ⟨rfl, rfl, rfl⟩ := e1
    exact ⟨fun hne => absurd (List.eq_nil_of_length_eq_zero hn.symm) hne, hn, Nat.le_refl _⟩
  · simp only [Value.slice.injEq] at e1
    obtain ⟨rfl, _, rfl⟩ := e1
    refine ⟨fun _ => ⟨g, 0, rfl, fun k hk => ?_⟩, hn, hnc⟩
    have q0 := h.own.cells (g := g) rfl k (.int .u8 (xs[k]?.getD 0)) (by unfold bs; rw [List.getElem?_map, List.getElem?_eq_getElem hk]; simp)
    have hp : (⟨g, 0, none⟩ : Addr).add k = ⟨g, k, none⟩ := by unfold Addr.add; split <;> simp_all
    rw [hp] at q0
    rw [Nat.zero_add]
    exact q0
set_option maxRecDepth 20000 in
set_option maxHeartbeats 4000000 in
/-- The document's Uvarint. -/
theorem duv_anyK (n : Nat) (w : World) (hn : n < 18446744073709551616) :
    Calls Tryd.prog 31 #[.int .u64 n] w fun e w' => ∃ g c, e = .returned (.slice (some ⟨g, 0, none⟩) (uvb n).length c) ∧ GroK w w' 5 1 (.slice (some ⟨g, 0, none⟩) (uvb n).length c) (uvb n).length (bs (uvb n)) := by
  have HG0 := hideH (gro_emptyK w w 5 1 (Kept.refl _ _))
  go_enter Tryd.func31, Tryd.ntmps31
  go_wp2_with fail
  have HLn : Hid (∀ (zs : List Int) (m : Nat), zs ++ uvb m = uvb n → zs.length ≤ 10) := hideH (fun zs m e => by
    have h8 := congrArg List.length e
    rw [List.length_append] at h8
    have h9 := uvb_le10K n (by omega)
    omega)
  go_loopw [0, 3] (fun v0 v3 wr => ∃ (m : Nat) (va : Value) (zs : List Int), v0 = .int .u64 m ∧ v3 = va ∧ m < 18446744073709551616 ∧ Hid (GroK w wr 5 1 va zs.length (bs zs)) ∧ Hid (zs ++ uvb m = uvb n)) (fun v0 _ _ => (intOf v0).toNat)
  case atStart => exact ⟨n, _, [], rfl, rfl, hn, HG0, hideH rfl⟩
  case round =>
    obtain ⟨m, va, zs, rfl, rfl, hm, HG, HF⟩ := hrel
    have hzl := HLn.out zs m HF.out
    by_cases h128 : m < 128
    · have d1 : ¬ (128 : Int) ≤ (m : Int) := by omega
      have d2 : decide ((128 : Int) ≤ (m : Int)) = false := decide_eq_false d1
      have d3 : decide (128 ≤ m) = false := decide_eq_false (by omega)
      have w1 : IntKind.u8.wrap (m : Int) = (m : Int) := by rw [IntKind.wrap_u8]; omega
      rw [uvb_small h128] at HF
      go_wp2_with (at_builtin; refine StpH.go ?_)
      refine ⟨?_⟩
      refine wpList_pushZK rfl (.tmp 16) (.tmp 19) rfl _ zs.length zs (m : Int) rfl HG _ rfl rfl (by omega) ?_
      intro g7 c7 W7 HG7 _
      go_wp2
      go_ret
      have e : (uvb n).length = zs.length + 1 := by rw [← HF.out]; simp
      rw [e, ← HF.out]
      exact ⟨g7, c7, rfl, HG7.out⟩
    · obtain ⟨r, hr⟩ : ∃ r, r = m % 128 := ⟨_, rfl⟩
      obtain ⟨q, hq⟩ : ∃ q, q = m / 128 := ⟨_, rfl⟩
      have hr128 : r < 128 := by omega
      have hqm : q < m := by omega
      have e1 : (m : Int).tmod 128 = (r : Int) := by rw [Int.tmod_eq_emod_of_nonneg (by omega)]; omega
      have e2 : (m : Int).tdiv 128 = (q : Int) := by rw [Int.tdiv_eq_ediv_of_nonneg (by omega)]; omega
      have e3 : (m : Int) % 128 = (r : Int) := by omega
      have e4 : (m : Int) / 128 = (q : Int) := by omega
      have HF2 : Hid ((zs ++ [(128 + (r : Int))]) ++ uvb q = uvb n) := hideH (by
        rw [← HF.out, uvb_big h128, e3, ← hq, List.append_assoc]
        rfl)
      have d1 : (128 : Int) ≤ (m : Int) := by omega
      have d2 : decide ((128 : Int) ≤ (m : Int)) = true := decide_eq_true d1
      have d3 : decide (128 ≤ m) = true := decide_eq_true (by omega)
      have w1 : IntKind.u8.wrap (128 + (r : Int)) = 128 + (r : Int) := by rw [IntKind.wrap_u8]; omega
      clear HF hr hq
      go_wp2_with (at_builtin; refine StpH.go ?_)
      refine ⟨?_⟩
      refine wpList_pushZK rfl (.tmp 7) (.tmp 12) rfl _ zs.length zs (128 + (r : Int)) rfl HG _ rfl rfl (by omega) ?_
      intro g7 c7 W7 HG7 _
      go_wp2
      go_roundw
      case rel => exact ⟨q, _, zs ++ [(128 + (r : Int))], rfl, rfl, by omega, hideH (by rw [List.length_append]; exact HG7.out), HF2⟩
      case measure => simp [intOf]; omega
theorem bitLen_gtK (n k : Nat) : k < bitLen n ↔ 2 ^ k ≤ n := by
  have := bitLen_le_iff n k
  omega
theorem shr_posK {n k : Nat} : n / 2 ^ k ≠ 0 ↔ k < bitLen n := by
  rw [bitLen_gtK, Ne, Nat.div_eq_zero_iff]
  have := Nat.two_pow_pos k
  omega
theorem shr_castK (X q : Nat) : (X : Int) / (2 : Int) ^ q = ((X / 2 ^ q : Nat) : Int) := by rw [Int.natCast_ediv, Int.natCast_pow]; rfl
theorem shr_yesK {X q : Nat} (h : q < bitLen X) : ((X : Int) / (2 : Int) ^ q != 0) = true := by
  rw [shr_castK, bne_iff_ne]
  have := shr_posK.2 h
  omega
theorem shr_noK {X q : Nat} (h : ¬ q < bitLen X) : ((X : Int) / (2 : Int) ^ q != 0) = false := by
  rw [shr_castK, bne_eq_false_iff_eq]
  have := mt shr_posK.1 h
  omega
set_option maxRecDepth 20000 in
set_option maxHeartbeats 2000000 in
theorem dwid_anyK (l : List Int) (a : Option Addr) (c : Nat) (w : World) (hA : IntsAt w a l) (h0 : ∀ x ∈ l, 0 ≤ x) (hI : IsInts l) (hl : l.length ≤ 1099511627776) :
    Calls Tryd.prog 85 #[.slice a l.length c] w fun e w' => e = .returned (.int .i64 ((bitLen (orl l) : Nat) : Int)) ∧ w' = w := by
  have HA := hideH hA
  have H0 := hideH h0
  have HI := hideH hI
  obtain ⟨n, hn⟩ : ∃ n, n = l.length := ⟨_, rfl⟩
  rw [← hn] at hl ⊢
  have HN := hideH hn
  clear hA h0 hI hn
  go_enter Tryd.func85, Tryd.ntmps85
  go_wp2
  go_loop [3, 8] (fun v3 v8 => ∃ (j wd : Nat), j ≤ n ∧ wd ≤ 63 ∧ v8 = .int .i64 j ∧ v3 = .int .i64 wd ∧ Hid (wd = bitLen (orl (l.take j)))) (fun _ v8 => n - (intOf v8).toNat)
  case atStart => exact ⟨0, 0, by omega, by omega, rfl, rfl, hideH rfl⟩
  case round =>
    obtain ⟨j, wd, hj, hwd, rfl, rfl, HW⟩ := hrel
    by_cases hlt : j < n
    · have hjj : (j : Int) < (n : Int) := by omega
      have hjl : j < l.length := by rw [← HN.out]; exact hlt
      obtain ⟨b, off, rfl, hc⟩ := HA.out.get (k := j) hjl
      have hmem : l[j]?.getD 0 ∈ l := by rw [List.getElem?_eq_getElem hjl]; exact List.getElem_mem hjl
      have hx0 := H0.out _ hmem
      have hx1 := HI.out _ hmem
      have HS : Hid (bitLen (orl (l.take (j + 1))) = max wd (bitLen (l[j]?.getD 0).toNat)) := hideH (by
        rw [List.take_add_one, List.getElem?_eq_getElem hjl, HW.out]
        simp only [Option.toList_some, Option.getD_some]
        rw [orl_snoc, bitLen_or])
      generalize l[j]?.getD 0 = x at *
      obtain ⟨X, rfl⟩ := Int.eq_ofNat_of_zero_le hx0
      have hX : X < 2 ^ 63 := by omega
      have hB : bitLen X ≤ 63 := (bitLen_le_iff X 63).2 hX
      rw [Int.toNat_natCast] at HS
      go_wp2
      go_loop [3] (fun v3 => ∃ q : Nat, q ≤ 63 ∧ v3 = .int .i64 q ∧ Hid (wd ≤ q) ∧ Hid (q ≤ max wd (bitLen X))) (fun v3 => 63 - (intOf v3).toNat)
      case atStart => exact ⟨wd, hwd, rfl, hideH (Nat.le_refl _), hideH (Nat.le_max_left ..)⟩
      case round =>
        obtain ⟨q, hq, rfl, HQ1, HQ2⟩ := hrel
        by_cases hb : q < bitLen X
        · have hqq : (q : Int) < 63 := by omega
          have hs := shr_yesK hb
          go_wp2
          go_round
          case rel => exact ⟨q + 1, by omega, by go_num, hideH (by have := HQ1.out; omega), hideH (by omega)⟩
          case measure => simp [intOf]; omega
        · have HE : Hid (q = bitLen (orl (l.take (j + 1)))) := hideH (by rw [HS.out]; have := HQ1.out; have := HQ2.out; omega)
          by_cases hq63 : q < 63
          · have hqq : (q : Int) < 63 := by omega
            have hs := shr_noK hb
            go_wp2
            go_round
            case rel => exact ⟨j + 1, q, by omega, hq, by go_num, rfl, HE⟩
            case measure => simp [intOf]; omega
          · have hqq : ¬ (q : Int) < 63 := by omega
            go_wp2
            go_round
            case rel => exact ⟨j + 1, q, by omega, hq, by go_num, rfl, HE⟩
            case measure => simp [intOf]; omega
    · have hjj : ¬ (j : Int) < (n : Int) := by omega
      have HE : Hid (wd = bitLen (orl l)) := hideH (by rw [HW.out, List.take_of_length_le (by rw [← HN.out]; omega)])
      go_wp2
      go_ret
      exact ⟨by rw [HE.out]; rfl, rfl⟩
end Go.Proofs.YtjmmdklgkcbihaaDoor
