import Derived.Test.YtcanbhbhdgogoaaDoorDrc
namespace Go.Proofs.YtcanbhbhdgogoaaDoor
open Go.ChangeShapes Go.WideShapes Go.ChangeAt Go.RowKit

/-- 'append(s, x)' to an owned row, and where the row then lies. -/
theorem wpList_pushS {base : Nat} {W : World} {ops : Array Oper} {rest : List Oper} {o : Oper} {act : Act} {Q : Exit → Act → World → Prop} (hgd : o.guard = none) (s x : Operand) (t : TypeId)
    (ho : o.op = .call { callee := .builtin .append, args := #[s, x], argTypes := #[t, t] }) (e : TypeId) (i : TypeInfo) (z : Value) (size bytes : Nat)
    (ht : Tryd.prog.underlying t = some (.slice e)) (hi : Tryd.prog.info? e = some i) (hz : i.zero = some z) (hsize : i.size = size) (hby : i.bytes = bytes) (hzs : z.cells.size = size) (hsz : 0 < size)
    (v : Value) (n : Nat) (xs news : List Value) (hs : act.eval s = v) (hG : Hid (W.ownsRow base e size v n xs)) (hb0 : base ≤ W.heap.size) (hx : act.eval x = .slice (some ⟨W.heap.size, 0, none⟩) 1 1)
    (hl : news.length = size) (h1 : ∀ u ∈ news, u.oneCell' = true) (hb : Hid ((n + 1) * bytes ≤ 140737488355328)) (h63 : Hid (n + 1 ≤ maxLen))
    (h : ∀ a' c' W', Hid (W'.ownsRow base e size (.slice a' (n + 1) c') (n + 1) (xs ++ news)) → Hid (Kept (fun k => v.ownBlock = some k) W W') → Hid (∀ k, (Value.slice a' (n + 1) c').ownBlock = some k → v.ownBlock = some k ∨ W.heap.size ≤ k) → wpList Tryd.prog ops Q rest (act.put o.dst (.slice a' (n + 1) c')) W') : wpList Tryd.prog ops Q (o :: rest) act (W.alloc (.cells news.toArray e)) := by
  refine wpList_append_own_at _ hgd s x t ho base e i z size bytes ht hi hz hsize hby hzs hsz v n xs hs (hG.out.alloc _) ⟨W.heap.size, 0, none⟩ 1 1 news hx (by omega) (row_newsD W news e) h1 h63.out hb.out (by simp; omega) ?_
  intro v' W' ho2 hg2 _ hat
  obtain ⟨a', c', rfl⟩ := row_shape ho2
  refine h a' c' W' ho2 (((Kept.alloc W _).mono (fun _ f => f.elim)).trans (Kept.grown hg2) (fun i hi => .inl hi)) (fun k hk => ?_)
  rcases hat with e1 | e1
  · exact .inl (e1 ▸ hk)
  · rw [e1] at hk
    injection hk with hk
    simp at hk
    exact .inr (by omega)
def ecs (E : List En) : List Value := (E.map En.cells).flatten
theorem ecs_snoc (E : List En) (e : En) : ecs (E ++ [e]) = ecs E ++ e.cells := by simp [ecs]
theorem ecs_at : ∀ (F : List En) (k j : Nat) (h : k < F.length), j < 5 → (ecs F)[k * 5 + j]? = (F[k]).cells[j]?
  | f :: F, 0, j, _, hj => by
    have hl : f.cells.length = 5 := rfl
    rw [ecs, List.map_cons, List.flatten_cons, Nat.zero_mul, Nat.zero_add, List.getElem?_append_left (by omega)]; rfl
  | f :: F, k + 1, j, h, hj => by
    have hl : f.cells.length = 5 := rfl
    rw [ecs, List.map_cons, List.flatten_cons, List.getElem?_append_right (by omega), hl, show (k + 1) * 5 + j - 5 = k * 5 + j by omega]
    exact ecs_at F k j (by simpa using h) hj
/-- A list of entries. -/
def EsAt (w : World) (a : Option Addr) (l : List En) : Prop :=
  l ≠ [] → ∃ b off, a = some ⟨b, off, none⟩ ∧ ∀ k (h : k < l.length), w.cell? ⟨b, off + k * 5, none⟩ = some (.string l[k].k) ∧ w.cell? ⟨b, off + k * 5 + 1, none⟩ = some (.int .i64 l[k].d) ∧ w.cell? ⟨b, off + k * 5 + 2, none⟩ = some (.int .i64 l[k].t) ∧ w.cell? ⟨b, off + k * 5 + 3, none⟩ = some (.int .i64 l[k].p) ∧ w.cell? ⟨b, off + k * 5 + 4, none⟩ = some (.int .i64 l[k].s)
theorem ecell_of_own {w : World} {base : Nat} {g n c : Nat} {F : List En} (h : w.ownsRow base 31 5 (.slice (some ⟨g, 0, none⟩) n c) n (ecs F)) {k j : Nat} (hk : k < F.length) (hj : j < 5) {u : Value} (hu : (F[k]).cells[j]? = some u) : w.cell? ⟨g, k * 5 + j, none⟩ = some u := by
  have := h.cells (g := g) rfl (k * 5 + j) u (by rw [ecs_at F k j hk hj]; exact hu)
  have hplain : (⟨g, 0, none⟩ : Addr).add (k * 5 + j) = ⟨g, k * 5 + j, none⟩ := by unfold Addr.add; split <;> simp_all
  rwa [hplain] at this
theorem es_of_own {w : World} {base : Nat} {a : Option Addr} {n c : Nat} {F : List En} (h : w.ownsRow base 31 5 (.slice a n c) n (ecs F)) (hn : n = F.length) : EsAt w a F := by
  intro hne
  have hpos : 0 < F.length := List.length_pos_iff.2 hne
  rcases h.2 with ⟨e, e2⟩ | ⟨g, cap, cur, e, _⟩
  · omega
  · have ea : a = some ⟨g, 0, none⟩ := by injection e
    subst ea
    refine ⟨g, 0, rfl, fun k hk => ?_⟩
    rw [Nat.zero_add]
    exact ⟨ecell_of_own h hk (j := 0) (by omega) rfl, ecell_of_own h hk (j := 1) (by omega) rfl, ecell_of_own h hk (j := 2) (by omega) rfl, ecell_of_own h hk (j := 3) (by omega) rfl, ecell_of_own h hk (j := 4) (by omega) rfl⟩
theorem lastk_get : ∀ (b : ByteArray) (l : List En) (n : Nat) (h : l.length = n + 1), lastk b l = (l[n]'(by omega)).k
  | b, [e], 0, _ => rfl
  | b, e :: f :: r, n + 1, h => by
    have := lastk_get e.k (f :: r) n (by simpa using h)
    show lastk e.k (f :: r) = _
    rw [this]
    rfl
  | b, [], n, h => by simp at h
  | b, e :: f :: r, 0, h => by simp at h
  | b, [e], n + 1, h => by simp at h
def prb (F : List En) : Option (List En × Nat) → Option (List En × Nat)
  | none => none
  | some (F', q) => some (F ++ F', q)
theorem rbk_none {l : List Int} {c p : Nat} {b : ByteArray} (h : rde l b p = none) : rbk l (c + 1) b p = none := by rw [rbk, h]
theorem rbk_first {l : List Int} {c p q : Nat} {b : ByteArray} {e : En} (h : rde l b p = some (e, q)) : rbk l (c + 1) b p = prb [e] (rbk l c e.k q) := by
  rw [rbk, h]
  simp only
  cases rbk l c e.k q with
  | none => rfl
  | some y => obtain ⟨E, r⟩ := y; rfl
theorem prb_prb (F G : List En) (x : Option (List En × Nat)) : prb F (prb G x) = prb (F ++ G) x := by
  match x with
  | none => rfl
  | some (E, r) => simp [prb]
theorem prb_headk {e : En} {F : List En} {x : Option (List En × Nat)} {G : List En} {q : Nat} (h : prb (e :: F) x = some (G, q)) : headk G = e.k := by
  match x, h with
  | some (E, r), h =>
    injection h with h
    injection h with h1 h2
    subst h1
    rfl
def rbPost (base ws : Nat) (l : List Int) (br : Nat) (v : Value) (ob : Option Nat) (a : Addr) (E : List En) (x : Option (List En × Nat)) (e : Ending) (w' : World) : Prop := match x with
  | none => e = pan a
  | some (F, q) => if klt (lastk ByteArray.empty E) (headk F) = true then (∃ va', e = .returned va' ∧ w'.ownsRow base 31 5 va' (E ++ F).length (ecs (E ++ F)) ∧ Rd w' br v l q ∧ ∀ k, va'.ownBlock = some k → ob = some k ∨ ws ≤ k) else e = pan a
theorem rbp_none {base ws : Nat} {l : List Int} {br : Nat} {v : Value} {ob : Option Nat} {a : Addr} {E : List En} {x : Option (List En × Nat)} {W : World} (h : x = none) : rbPost base ws l br v ob a E x (.panicked [{ v := errV a, recovered := false }]) W := by rw [h]; rfl
theorem rbp_low {base ws : Nat} {l : List Int} {br : Nat} {v : Value} {ob : Option Nat} {a : Addr} {E : List En} {x : Option (List En × Nat)} {W : World} (h : ∀ F q, x = some (F, q) → ¬ klt (lastk ByteArray.empty E) (headk F) = true) : rbPost base ws l br v ob a E x (.panicked [{ v := errV a, recovered := false }]) W := by
  match x, h with
  | none, _ => rfl
  | some (F, q), h =>
    show (if _ then _ else _)
    rw [if_neg (h F q rfl)]
    rfl
theorem rbp_ok {base ws : Nat} {l : List Int} {br : Nat} {v va' : Value} {ob : Option Nat} {a : Addr} {E F : List En} {q : Nat} {x : Option (List En × Nat)} {W : World} (h : x = some (F, q)) (hk : klt (lastk ByteArray.empty E) (headk F) = true) (ho : W.ownsRow base 31 5 va' (E ++ F).length (ecs (E ++ F))) (hR : Rd W br v l q) (hn : ∀ k, va'.ownBlock = some k → ob = some k ∨ ws ≤ k) : rbPost base ws l br v ob a E x (.returned va') W := by
  rw [h]
  show (if _ then _ else _)
  rw [if_pos hk]
  exact ⟨va', rfl, ho, hR, hn⟩
/-- The walk is stopped here. -/
structure Stp (p : Prop) : Prop where
  go : p
theorem lss_strD (t : TypeId) (a b : ByteArray) : binOp .lss t (.string a) (.string b) = pure (.bool (Op.bytesLess a.toList b.toList)) := by simp [binOp, Op.stringOp]
set_option maxRecDepth 20000 in
set_option maxHeartbeats 8000000 in
/-- readBlock's first entry is read, and rises. -/
theorem readBlock_any (l : List Int) (E : List En) (cnt p br base : Nat) (v va : Value) (ob : Option Nat) (hob : va.ownBlock = ob) (ad : Nat → Addr) (w : World) (h : Rd w br v l p) (hE : ErD w br ad) (ho : w.ownsRow base 31 5 va E.length (ecs E)) (hbr : br < base) (hv : ∀ i, v.ownBlock = some i → i < base)
    (hg : 2 < base ∧ 3 < base ∧ 0 < base ∧ 4 < base ∧ 9 < base) (hbw : base ≤ w.heap.size) (hc : cnt ≤ 16) (hn : E.length ≤ 1099511627776) :
    Calls Tryd.prog 58 #[.pointer (some ⟨br, 0, none⟩), va, .int .i64 ((cnt : Int) + 1)] w fun e w' => rbPost base w.heap.size l br v ob (ad 9) E (rbk l (cnt + 1) ByteArray.empty p) e w' ∧ Kept (fun i => i = br ∨ ob = some i) w w' := by
  have CE := hideQ (readEntry_any l ByteArray.empty p br v ad w h hE (by decide))
  have HI := hideQ h.isb
  have HE := hideQ hE
  have HO := hideQ ho
  have HV := hideQ hv
  have HG := hideQ hg
  obtain ⟨i0, hi0, hz0, hz1, hz2⟩ := info_parts Tryd.infoE
  obtain ⟨a0, c0, hva⟩ := row_shape ho
  have HOb : Hid (∀ n, (Value.slice a0 n c0).ownBlock = ob) := hideQ (fun n => by rw [← hob, hva]; cases a0 <;> rfl)
  clear h hE ho hv hg hob
  subst hva
  go_enter Tryd.func58, Tryd.ntmps58
  go_wp2_with fail
  go_at_call 68
  refine CE.out.mono ?_
  rintro e W1 ⟨hp, K1⟩
  clear CE
  have HK1 : Hid (Kept (fun i => i = br ∨ ob = some i) w W1) := hideQ (K1.mono (fun _ h => .inl (.inl h)))
  cases hD : rde l ByteArray.empty p with
  | none =>
    rw [hD] at hp
    obtain rfl : e = pan (ad 9) := hp
    exact ⟨rfl, rbp_none (rbk_none hD), HK1.out⟩
  | some eq =>
    obtain ⟨⟨k1, d1, t1, p1, s1⟩, q1⟩ := eq
    rw [hD] at hp
    obtain ⟨rfl, hR1⟩ := hp
    have HB := hideQ (rde_back HI.out hD)
    have HF := hideQ (rbk_first (c := cnt) hD)
    have HR1 := hideQ hR1
    have HE1 := hideQ (HE.out.kept K1)
    have HO1 := hideQ (row_keptB HO.out K1 hbr)
    have hs1 : w.heap.size ≤ W1.heap.size := K1.size
    clear hR1 K1 hD HE HO HI
    simp only [enV]
    have HY1 := hideQ (enO_new W1 k1 d1 t1 p1 s1)
    have HKa := hideQ (Kept.alloc W1 (.cells #[.string k1, .int .i64 d1, .int .i64 t1, .int .i64 p1, .int .i64 s1] 31))
    obtain ⟨nE, hnE⟩ : ∃ nE, nE = E.length := ⟨_, rfl⟩
    rw [← hnE] at HO1 hn ⊢
    have HEl := hideQ hnE
    by_cases hE0 : E = []
    · have hE1 : nE = 0 := by rw [hnE, hE0]; rfl
      have HKl : Hid (klt (lastk ByteArray.empty E) k1 = true) := hideQ (by rw [hE0]; exact klt_empty HB.out.2.2.2.1.k1)
      clear hnE
      subst hE1
      clear hE0
      have CN : ∀ n, Hid (Calls Tryd.prog 30 #[.bool true] ((W1.alloc (.cells #[.string k1, .int .i64 d1, .int .i64 t1, .int .i64 p1, .int .i64 s1] 31)).drewN n) fun e w' => e = .returned (.tuple #[]) ∧ ∃ m, w' = (W1.alloc (.cells #[.string k1, .int .i64 d1, .int .i64 t1, .int .i64 p1, .int .i64 s1] 31)).drewN m) := fun n => hideQ ((need_ok _).mono (fun e w' ⟨h1, h2⟩ => ⟨h1, n, h2⟩))
      go_wp2_with fail
      go_quiet ((exact (CN _).out))
      clear CN
      have HKq := hideQ (HKa.out.trans (Kept.drewN _ nq) (fun _ f => f.elim))
      have HYr : Hid (((W1.alloc (.cells #[.string k1, .int .i64 d1, .int .i64 t1, .int .i64 p1, .int .i64 s1] 31)).drewN nq).heap[W1.heap.size]? = some (enO k1 d1 t1 p1 s1)) := HY1
      generalize (W1.alloc (.cells #[.string k1, .int .i64 d1, .int .i64 t1, .int .i64 p1, .int .i64 s1] 31)).drewN nq = V at *
      have HRr := hideQ (HR1.out.kept HKq.out (fun f => f) (fun _ _ f => f))
      have HEr := hideQ (HE1.out.keptF HKq.out)
      have HOr := hideQ (HKq.out.row HO1.out (fun _ _ f => f))
      have HKr := hideQ (HK1.out.trans HKq.out (fun _ f => f.elim))
      have HBl : Hid (∀ k, (Value.slice a0 (0) c0).ownBlock = some k → ¬ k = W1.heap.size) := hideQ (fun k hk e => by have := (HO1.out.lt _ hk).2; omega)
      have hb7v : W1.heap.size < V.heap.size := lt_of_block HYr.out
      have hbv : base ≤ V.heap.size := by omega
      have hb7 : ¬ W1.heap.size = br := by omega
      have hwb7 : w.heap.size ≤ W1.heap.size := hs1
      clear HKa HKq HR1 HE1 HO1 HK1 HY1
      obtain ⟨b7, hb7e⟩ : ∃ b7, b7 = W1.heap.size := ⟨_, rfl⟩
      rw [← hb7e] at HYr HBl hb7v hb7 hwb7 ⊢
      clear hb7e hs1
      obtain ⟨⟨y0, y1, y2, y3, y4⟩, -⟩ := enO_cells HYr.out
      have HF2 := hideQ HF.out
      clear HF
      go_wp2_with (at_builtin; refine wpList_pushS (base := base) rfl (.tmp 26) (.tmp 28) 22 rfl 31 i0 _ 5 48 Tryd.underlying22 hi0 hz0 hz1 hz2 rfl (by decide) _ (0) (ecs E) [.string k1, .int .i64 d1, .int .i64 t1, .int .i64 p1, .int .i64 s1] rfl HOr hbv rfl rfl ?one (hideQ (by omega)) (hideQ (by unfold maxLen; omega)) ?_; (case one => intro u hu; simp at hu; rcases hu with rfl | rfl | rfl | rfl | rfl <;> rfl); intro a5 c5 W5 HO5 HK5 HN5)
      have HY5 := hideQ (HK5.out.heap HYr.out (fun f => HBl.out _ f rfl))
      have HR5 := hideQ (HRr.out.keptR HK5.out HOr.out hbr HV.out)
      have HE5 := hideQ (HEr.out.keptR HK5.out HOr.out HG.out)
      have HK5w := hideQ (HKr.out.trans HK5.out (fun j hj => .inl (.inr ((HOb.out _).symm.trans hj))))
      have HB5 : Hid (∀ k, (Value.slice a5 (0 + 1) c5).ownBlock = some k → ¬ k = b7) := hideQ (fun k hk e => by
        rcases HN5.out k hk with f | f
        · exact HBl.out k f e
        · omega)
      have HN5w : Hid (∀ k, (Value.slice a5 (0 + 1) c5).ownBlock = some k → ob = some k ∨ w.heap.size ≤ k) := hideQ (fun k hk => (HN5.out k hk).imp (fun f => (HOb.out _).symm.trans f) (fun f => by omega))
      clear HRr HEr HOr HKr HBl HYr y0 y1 y2 y3 y4 HK5 HN5
      go_loopw [1, 32] (fun v1 v32 wr => ∃ (i p' : Nat) (F : List En) (en : En) (vb : Value), i ≤ cnt ∧ v32 = .int .i64 i ∧ v1 = vb ∧ Hid (Rd wr br v l p') ∧ Hid (ErD wr br ad) ∧ Hid (wr.ownsRow base 31 5 vb (0 + 1 + i) (ecs (E ++ F))) ∧ Hid (wr.heap[b7]? = some (enO en.k en.d en.t en.p en.s)) ∧ Hid (F.length = i + 1 ∧ rbk l (cnt + 1) ByteArray.empty p = prb F (rbk l (cnt - i) en.k p') ∧ headk F = k1 ∧ en.k.size ≤ 65) ∧ Hid (∀ k, vb.ownBlock = some k → ob = some k ∨ w.heap.size ≤ k) ∧ Hid (∀ k, vb.ownBlock = some k → ¬ k = b7) ∧ Hid (Kept (fun i => i = br ∨ ob = some i) w wr)) (fun _ v32 _ => cnt - (intOf v32).toNat)
      case atStart => exact ⟨0, q1, [⟨k1, d1, t1, p1, s1⟩], ⟨k1, d1, t1, p1, s1⟩, _, by omega, rfl, rfl, HR5, HE5, hideQ (by rw [ecs_snoc]; exact HO5.out), HY5, hideQ ⟨rfl, HF2.out, rfl, HB.out.2.2.2.1.k2⟩, HN5w, HB5, HK5w⟩
      case round =>
        obtain ⟨i, p', F, en, vb, hi, rfl, rfl, HRr, HEr, HOr, HYr, HFr, HNr, HBr, HKr⟩ := hrel
        clear HR5 HE5 HO5 HY5 HN5w HB5 HK5w HF2
        by_cases hlt : i < cnt
        · have hii : (i : Int) < (cnt : Int) := by omega
          obtain ⟨c', hc'⟩ : ∃ c', cnt - i = c' + 1 := ⟨cnt - i - 1, by omega⟩
          obtain ⟨hF1, hF2, hF3, hF4⟩ := HFr.out
          have HFl := hideQ hF1
          have HFe := hideQ hF2
          have HFh := hideQ hF3
          rw [hc'] at HFe
          have HC' := hideQ hc'
          have CE := hideQ (readEntry_any l en.k p' br v ad wr HRr.out HEr.out hF4)
          clear hc' hF1 hF2 hF3 hF4 HFr
          obtain ⟨⟨y0, y1, y2, y3, y4⟩, -⟩ := enO_cells HYr.out
          go_wp2_with fail
          go_at_call 68
          refine CE.out.mono ?_
          rintro e W2 ⟨hp, K2⟩
          clear CE y0 y1 y2 y3 y4
          cases hD : rde l en.k p' with
          | none =>
            rw [hD] at hp
            obtain rfl : e = pan (ad 9) := hp
            exact ⟨rfl, rbp_none (by rw [HFe.out, rbk_none hD]; rfl), HKr.out.trans K2 (fun _ h => .inl (.inl h))⟩
          | some eq =>
            obtain ⟨⟨k2, d2, t2, p2, s2⟩, q2⟩ := eq
            rw [hD] at hp
            obtain ⟨rfl, hR2⟩ := hp
            have HBk := hideQ (rde_back HRr.out.isb hD)
            have HFn : Hid (rbk l (cnt + 1) ByteArray.empty p = prb (F ++ [⟨k2, d2, t2, p2, s2⟩]) (rbk l c' k2 q2)) := hideQ (by rw [HFe.out, rbk_first hD, prb_prb])
            replace HEr := hideQ (HEr.out.kept K2)
            replace HOr := hideQ (row_keptB HOr.out K2 hbr)
            replace HYr := hideQ (K2.heap HYr.out hb7)
            replace HKr := hideQ (HKr.out.trans K2 (fun _ h => .inl (.inl h)))
            replace HRr := hideQ hR2
            have hsz2 : b7 < W2.heap.size := lt_of_block HYr.out
            clear hR2 K2 hD HFe
            simp only [enV]
            have HP := hideQ (putE_kept W2 b7 ⟨k2, d2, t2, p2, s2⟩)
            have HYp := hideQ (putE_heap HYr.out ⟨k2, d2, t2, p2, s2⟩)
            have HRp := hideQ (HRr.out.kept HP.out (fun e => hb7 e.symm) (fun j hj e => by have := HV.out j hj; omega))
            have HEp := hideQ (HEr.out.keptN HP.out (by have := HG.out; omega))
            have HOp := hideQ (HP.out.row HOr.out (fun k hk e => HBr.out k hk e))
            have HKp := hideQ (HKr.out.trans HP.out (fun j hj => .inr (by omega)))
            have hbp : base ≤ (putE W2 b7 ⟨k2, d2, t2, p2, s2⟩).heap.size := by have := HP.out.size; omega
            obtain ⟨⟨y0, y1, y2, y3, y4⟩, fz⟩ := enO_cells HYr.out
            have f0 := fz 0
            have f1 := fz 1
            have f2 := fz 2
            have f3 := fz 3
            have f4 := fz 4
            clear fz
            go_wp2_with (change wpList _ _ _ _ _ (putE W2 b7 ⟨k2, d2, t2, p2, s2⟩); refine Stp.go ?_)
            refine ⟨?_⟩
            generalize putE W2 b7 ⟨k2, d2, t2, p2, s2⟩ = Vp at *
            clear y0 y1 y2 y3 y4 f0 f1 f2 f3 f4
            obtain ⟨⟨y0, y1, y2, y3, y4⟩, -⟩ := enO_cells HYp.out
            go_wp2_with (at_builtin; refine Stp.go ?_)
            refine ⟨?_⟩
            refine wpList_pushS (base := base) rfl (.tmp 38) (.tmp 40) 22 rfl 31 i0 _ 5 48 Tryd.underlying22 hi0 hz0 hz1 hz2 rfl (by decide) _ (0 + 1 + i) (ecs (E ++ F)) [.string k2, .int .i64 d2, .int .i64 t2, .int .i64 p2, .int .i64 s2] rfl HOp hbp rfl rfl ?one (hideQ (by omega)) (hideQ (by unfold maxLen; omega)) ?_
            case one => intro u hu; simp at hu; rcases hu with rfl | rfl | rfl | rfl | rfl <;> rfl
            intro a6 c6 W6 HO6 HK6 HN6
            go_wp2
            have HY6 := hideQ (HK6.out.heap HYp.out (fun f => HBr.out _ f rfl))
            have HR6 := hideQ (HRp.out.keptR HK6.out HOp.out hbr HV.out)
            have HE6 := hideQ (HEp.out.keptR HK6.out HOp.out HG.out)
            have HK6w := hideQ (HKp.out.trans HK6.out (fun j hj => (HNr.out j hj).imp (fun e => .inr e) id))
            have hpz := HP.out.size
            have HB6 : Hid (∀ k, (Value.slice a6 (0 + 1 + i + 1) c6).ownBlock = some k → ¬ k = b7) := hideQ (fun k hk e => by
              rcases HN6.out k hk with f | f
              · exact HBr.out k f e
              · omega)
            have HN6w : Hid (∀ k, (Value.slice a6 (0 + 1 + i + 1) c6).ownBlock = some k → ob = some k ∨ w.heap.size ≤ k) := hideQ (fun k hk => by
              rcases HN6.out k hk with f | f
              · exact HNr.out k f
              · exact .inr (by omega))
            go_roundw
            case rel => exact ⟨i + 1, q2, F ++ [⟨k2, d2, t2, p2, s2⟩], ⟨k2, d2, t2, p2, s2⟩, _, hlt, by go_num, rfl, HR6, HE6, hideQ (by rw [← List.append_assoc, ecs_snoc]; exact HO6.out), HY6, hideQ ⟨by rw [List.length_append, HFl.out]; rfl, by rw [show cnt - (i + 1) = c' from by have := HC'.out; omega]; exact HFn.out, by rw [← HFh.out]; (match F, HFl.out with | f :: r, _ => rfl), HBk.out.2.2.2.1.k2⟩, HN6w, HB6, HK6w⟩
            case measure => simp [intOf]; omega
        · obtain rfl : i = cnt := by omega
          obtain ⟨hF1, hF2, hF3, hF4⟩ := HFr.out
          rw [Nat.sub_self] at hF2
          have HOk : Hid (rbk l (i + 1) ByteArray.empty p = some (F, p')) := hideQ (by rw [hF2]; simp [rbk, prb])
          have HFl := hideQ hF1
          have HFh := hideQ hF3
          clear hF1 hF2 hF3 hF4 HFr
          go_wp2
          go_ret
          refine ⟨rbp_ok HOk.out (by rw [HFh.out]; exact HKl.out) (by rw [List.length_append, HFl.out, ← HEl.out, show (0) + (i + 1) = (0) + 1 + i by omega]; exact HOr.out) HRr.out HNr.out, HKr.out⟩
    · obtain ⟨n', hn'⟩ : ∃ n', nE = n' + 1 := ⟨nE - 1, by have := List.length_pos_iff.2 hE0; omega⟩
      have hnl : n' < E.length := by omega
      have hlk : lastk ByteArray.empty E = (E[n']'hnl).k := lastk_get ByteArray.empty E n' (hnE.symm.trans hn')
      clear hnE
      subst hn'
      obtain ⟨g, hga⟩ : ∃ g, a0 = some ⟨g, 0, none⟩ := by
        rcases HO1.out.2 with ⟨e, e2⟩ | ⟨g, cap, cur, e, _⟩
        · omega
        · exact ⟨g, by injection e⟩
      subst hga
      have hcl : W1.cell? ⟨g, n' * 5, none⟩ = some (.string (lastk ByteArray.empty E)) := by
        rw [hlk]
        exact ecell_of_own HO1.out hnl (j := 0) (by omega) rfl
      cases hkl : klt (lastk ByteArray.empty E) k1 with
      | false =>
        have HLo : Hid (∀ F q, rbk l (cnt + 1) ByteArray.empty p = some (F, q) → ¬ klt (lastk ByteArray.empty E) (headk F) = true) := hideQ (fun F q hq => by
          rw [HF.out] at hq
          rw [prb_headk hq, hkl]
          simp)
        obtain ⟨lk, hlk2⟩ : ∃ lk, lk = lastk ByteArray.empty E := ⟨_, rfl⟩
        rw [← hlk2] at hcl hkl
        have l6 : IntKind.i64.wrap (n' : Int) = (n' : Int) := by rw [IntKind.wrap_i64]; omega
        have g1 := lss_strD 9 lk k1
        rw [show Op.bytesLess lk.toList k1.toList = false from hkl] at g1
        have hc7 := (enO_cells HY1.out).1.1
        have hcg : (W1.alloc (.cells #[.string k1, .int .i64 d1, .int .i64 t1, .int .i64 p1, .int .i64 s1] 31)).cell? ⟨g, n' * 5, none⟩ = some (.string lk) := HKa.out.cell hcl (fun f => f)
        clear hkl hlk hlk2
        go_wp2_with fail
        refine wp_region_held (S := fun W => W.cell? ⟨g, n' * 5, none⟩ = some (.string lk) ∧ W.cell? ⟨W1.heap.size, 0, none⟩ = some (.string k1)) (by kernel_rfl) ?_
        change wpAnyH _ _ _ _ _ _ _ _ (World.drew _)
        have HSd : Hid (((W1.alloc (.cells #[.string k1, .int .i64 d1, .int .i64 t1, .int .i64 p1, .int .i64 s1] 31)).drew).cell? ⟨g, n' * 5, none⟩ = some (.string lk) ∧ ((W1.alloc (.cells #[.string k1, .int .i64 d1, .int .i64 t1, .int .i64 p1, .int .i64 s1] 31)).drew).cell? ⟨W1.heap.size, 0, none⟩ = some (.string k1)) := hideQ ⟨hcg, hc7⟩
        refine takeZ (i := 0) (d := 10) (v := .slice (some ⟨g, 0, none⟩) (n' + 1) c0) rfl rfl (by kernel_rfl) (by kernel_rfl) (by kernel_rfl) (fun _ _ _ h => h) (Or.inl ⟨by rfl, fun W hW => ?_⟩) HSd.out ?_
        · obtain ⟨s1, s2⟩ := hW
          go_simp
          try (intro hx; omega)
        try simp only [Act.put, List.setIfInBounds_toArray, List.set_cons_zero, List.set_cons_succ]
        refine takeZ (i := 1) (d := 11) (v := .int .i64 ((n' : Int) + 1)) rfl rfl (by kernel_rfl) (by kernel_rfl) (by kernel_rfl) (fun _ _ _ h => h) (Or.inl ⟨by rfl, fun W hW => ?_⟩) HSd.out ?_
        · obtain ⟨s1, s2⟩ := hW
          go_simp
          try (intro hx; omega)
        try simp only [Act.put, List.setIfInBounds_toArray, List.set_cons_zero, List.set_cons_succ]
        refine takeZ (i := 2) (d := 12) (v := .bool false) rfl rfl (by kernel_rfl) (by kernel_rfl) (by kernel_rfl) (fun _ _ _ h => h) (Or.inl ⟨by rfl, fun W hW => ?_⟩) HSd.out ?_
        · obtain ⟨s1, s2⟩ := hW
          go_simp
          try (intro hx; omega)
        try simp only [Act.put, List.setIfInBounds_toArray, List.set_cons_zero, List.set_cons_succ]
        refine takeZ (i := 3) (d := 13) (v := .bool false) rfl rfl (by kernel_rfl) (by kernel_rfl) (by kernel_rfl) (fun _ _ _ h => h) (Or.inl ⟨by rfl, fun W hW => ?_⟩) HSd.out ?_
        · obtain ⟨s1, s2⟩ := hW
          go_simp
          try (intro hx; omega)
        try simp only [Act.put, List.setIfInBounds_toArray, List.set_cons_zero, List.set_cons_succ]
        refine takeZ (i := 4) (d := 14) (v := .slice (some ⟨g, 0, none⟩) (n' + 1) c0) rfl rfl (by kernel_rfl) (by kernel_rfl) (by kernel_rfl) (fun _ _ _ h => h) (Or.inl ⟨by rfl, fun W hW => ?_⟩) HSd.out ?_
        · obtain ⟨s1, s2⟩ := hW
          go_simp
          try (intro hx; omega)
        try simp only [Act.put, List.setIfInBounds_toArray, List.set_cons_zero, List.set_cons_succ]
        refine takeZ (i := 5) (d := 15) (v := .slice (some ⟨g, 0, none⟩) (n' + 1) c0) rfl rfl (by kernel_rfl) (by kernel_rfl) (by kernel_rfl) (fun _ _ _ h => h) (Or.inl ⟨by rfl, fun W hW => ?_⟩) HSd.out ?_
        · obtain ⟨s1, s2⟩ := hW
          go_simp
          try (intro hx; omega)
        try simp only [Act.put, List.setIfInBounds_toArray, List.set_cons_zero, List.set_cons_succ]
        refine takeZ (i := 6) (d := 16) (v := .int .i64 ((n' : Int) + 1)) rfl rfl (by kernel_rfl) (by kernel_rfl) (by kernel_rfl) (fun _ _ _ h => h) (Or.inl ⟨by rfl, fun W hW => ?_⟩) HSd.out ?_
        · obtain ⟨s1, s2⟩ := hW
          go_simp
          try (intro hx; omega)
        try simp only [Act.put, List.setIfInBounds_toArray, List.set_cons_zero, List.set_cons_succ]
        refine takeZ (i := 7) (d := 17) (v := .int .i64 (n' : Int)) rfl rfl (by kernel_rfl) (by kernel_rfl) (by kernel_rfl) (fun _ _ _ h => h) (Or.inl ⟨by rfl, fun W hW => ?_⟩) HSd.out ?_
        · obtain ⟨s1, s2⟩ := hW
          go_simp
          try (intro hx; omega)
        try simp only [Act.put, List.setIfInBounds_toArray, List.set_cons_zero, List.set_cons_succ]
        refine takeZ (i := 8) (d := 18) (v := .pointer (some ⟨g, n' * 5, none⟩)) rfl rfl (by kernel_rfl) (by kernel_rfl) (by kernel_rfl) (fun _ _ _ h => h) (Or.inl ⟨by rfl, fun W hW => ?_⟩) HSd.out ?_
        · obtain ⟨s1, s2⟩ := hW
          go_simp
          try (intro hx; omega)
        try simp only [Act.put, List.setIfInBounds_toArray, List.set_cons_zero, List.set_cons_succ]
        refine takeZ (i := 9) (d := 19) (v := .pointer (some ⟨g, n' * 5, none⟩)) rfl rfl (by kernel_rfl) (by kernel_rfl) (by kernel_rfl) (fun _ _ _ h => h) (Or.inl ⟨by rfl, fun W hW => ?_⟩) HSd.out ?_
        · obtain ⟨s1, s2⟩ := hW
          go_simp
          try (intro hx; omega)
        try simp only [Act.put, List.setIfInBounds_toArray, List.set_cons_zero, List.set_cons_succ]
        refine takeZ (i := 10) (d := 20) (v := .string lk) rfl rfl (by kernel_rfl) (by kernel_rfl) (by kernel_rfl) (fun _ _ _ h => h) (Or.inl ⟨by rfl, fun W hW => ?_⟩) HSd.out ?_
        · obtain ⟨s1, s2⟩ := hW
          go_simp
          try (intro hx; omega)
        try simp only [Act.put, List.setIfInBounds_toArray, List.set_cons_zero, List.set_cons_succ]
        refine takeZ (i := 11) (d := 21) (v := .pointer (some ⟨W1.heap.size, 0, none⟩)) rfl rfl (by kernel_rfl) (by kernel_rfl) (by kernel_rfl) (fun _ _ _ h => h) (Or.inl ⟨by rfl, fun W hW => ?_⟩) HSd.out ?_
        · obtain ⟨s1, s2⟩ := hW
          go_simp
          try (intro hx; omega)
        try simp only [Act.put, List.setIfInBounds_toArray, List.set_cons_zero, List.set_cons_succ]
        refine takeZ (i := 12) (d := 22) (v := .string k1) rfl rfl (by kernel_rfl) (by kernel_rfl) (by kernel_rfl) (fun _ _ _ h => h) (Or.inl ⟨by rfl, fun W hW => ?_⟩) HSd.out ?_
        · obtain ⟨s1, s2⟩ := hW
          go_simp
          try (intro hx; omega)
        try simp only [Act.put, List.setIfInBounds_toArray, List.set_cons_zero, List.set_cons_succ]
        refine takeZ (i := 13) (d := 23) (v := .bool false) rfl rfl (by kernel_rfl) (by kernel_rfl) (by kernel_rfl) (fun _ _ _ h => h) (Or.inl ⟨by rfl, fun W hW => ?_⟩) HSd.out ?_
        · obtain ⟨s1, s2⟩ := hW
          go_simp
          try (intro hx; omega)
        try simp only [Act.put, List.setIfInBounds_toArray, List.set_cons_zero, List.set_cons_succ]
        refine takeZ (i := 14) (d := 24) (v := .bool false) rfl rfl (by kernel_rfl) (by kernel_rfl) (by kernel_rfl) (fun _ _ _ h => h) (Or.inl ⟨by rfl, fun W hW => ?_⟩) HSd.out ?_
        · obtain ⟨s1, s2⟩ := hW
          go_simp
          try (intro hx; omega)
        try simp only [Act.put, List.setIfInBounds_toArray, List.set_cons_zero, List.set_cons_succ]
        refine wpAnyH_all (rs := [15]) (by kernel_rfl) (by simp) ?_
        intro i hi
        obtain rfl : i = 15 := by simpa using hi
        unfold wpOp
        go_simp
        refine Or.inl ((need_no (ad 9) _ ((HE1.out.keptF HKa.out).keptF (Kept.drew _)).s9).mono ?_)
        rintro e W9 ⟨rfl, rfl⟩
        exact ⟨rfl, rbp_low HLo.out, (HK1.out.trans HKa.out (fun _ f => f.elim)).trans (Kept.drew _) (fun _ f => f.elim)⟩
      | true =>
        have HKl := hideQ hkl
        obtain ⟨lk, hlk2⟩ : ∃ lk, lk = lastk ByteArray.empty E := ⟨_, rfl⟩
        rw [← hlk2] at hcl hkl
        have l6 : IntKind.i64.wrap (n' : Int) = (n' : Int) := by rw [IntKind.wrap_i64]; omega
        have g1 := lss_strD 9 lk k1
        rw [show Op.bytesLess lk.toList k1.toList = true from hkl] at g1
        have hc7 := (enO_cells HY1.out).1.1
        have hcg : (W1.alloc (.cells #[.string k1, .int .i64 d1, .int .i64 t1, .int .i64 p1, .int .i64 s1] 31)).cell? ⟨g, n' * 5, none⟩ = some (.string lk) := HKa.out.cell hcl (fun f => f)
        have CN : ∀ n, Hid (Calls Tryd.prog 30 #[.bool true] ((W1.alloc (.cells #[.string k1, .int .i64 d1, .int .i64 t1, .int .i64 p1, .int .i64 s1] 31)).drewN n) fun e w' => e = .returned (.tuple #[]) ∧ ∃ m, w' = (W1.alloc (.cells #[.string k1, .int .i64 d1, .int .i64 t1, .int .i64 p1, .int .i64 s1] 31)).drewN m) := fun n => hideQ ((need_ok _).mono (fun e w' ⟨h1, h2⟩ => ⟨h1, n, h2⟩))
        have z0 : (((n' : Int) + 1) == 0) = false := by rw [beq_eq_false_iff_ne]; omega
        clear hkl hlk hlk2
        go_wp2_with fail
        go_quiet ((exact (CN _).out))
        clear CN hcl g1 hc7 hcg
        have HKq := hideQ (HKa.out.trans (Kept.drewN _ nq) (fun _ f => f.elim))
        have HYr : Hid (((W1.alloc (.cells #[.string k1, .int .i64 d1, .int .i64 t1, .int .i64 p1, .int .i64 s1] 31)).drewN nq).heap[W1.heap.size]? = some (enO k1 d1 t1 p1 s1)) := HY1
        generalize (W1.alloc (.cells #[.string k1, .int .i64 d1, .int .i64 t1, .int .i64 p1, .int .i64 s1] 31)).drewN nq = V at *
        have HRr := hideQ (HR1.out.kept HKq.out (fun f => f) (fun _ _ f => f))
        have HEr := hideQ (HE1.out.keptF HKq.out)
        have HOr := hideQ (HKq.out.row HO1.out (fun _ _ f => f))
        have HKr := hideQ (HK1.out.trans HKq.out (fun _ f => f.elim))
        have HBl : Hid (∀ k, (Value.slice (some ⟨g, 0, none⟩) (n' + 1) c0).ownBlock = some k → ¬ k = W1.heap.size) := hideQ (fun k hk e => by have := (HO1.out.lt _ hk).2; omega)
        have hb7v : W1.heap.size < V.heap.size := lt_of_block HYr.out
        have hbv : base ≤ V.heap.size := by omega
        have hb7 : ¬ W1.heap.size = br := by omega
        have hwb7 : w.heap.size ≤ W1.heap.size := hs1
        clear HKa HKq HR1 HE1 HO1 HK1 HY1
        obtain ⟨b7, hb7e⟩ : ∃ b7, b7 = W1.heap.size := ⟨_, rfl⟩
        rw [← hb7e] at HYr HBl hb7v hb7 hwb7 ⊢
        clear hb7e hs1
        obtain ⟨⟨y0, y1, y2, y3, y4⟩, -⟩ := enO_cells HYr.out
        have HF2 := hideQ HF.out
        clear HF
        go_wp2_with (at_builtin; refine wpList_pushS (base := base) rfl (.tmp 26) (.tmp 28) 22 rfl 31 i0 _ 5 48 Tryd.underlying22 hi0 hz0 hz1 hz2 rfl (by decide) _ (n' + 1) (ecs E) [.string k1, .int .i64 d1, .int .i64 t1, .int .i64 p1, .int .i64 s1] rfl HOr hbv rfl rfl ?one (hideQ (by omega)) (hideQ (by unfold maxLen; omega)) ?_; (case one => intro u hu; simp at hu; rcases hu with rfl | rfl | rfl | rfl | rfl <;> rfl); intro a5 c5 W5 HO5 HK5 HN5)
        have HY5 := hideQ (HK5.out.heap HYr.out (fun f => HBl.out _ f rfl))
        have HR5 := hideQ (HRr.out.keptR HK5.out HOr.out hbr HV.out)
        have HE5 := hideQ (HEr.out.keptR HK5.out HOr.out HG.out)
        have HK5w := hideQ (HKr.out.trans HK5.out (fun j hj => .inl (.inr ((HOb.out _).symm.trans hj))))
        have HB5 : Hid (∀ k, (Value.slice a5 (n' + 1 + 1) c5).ownBlock = some k → ¬ k = b7) := hideQ (fun k hk e => by
          rcases HN5.out k hk with f | f
          · exact HBl.out k f e
          · omega)
        have HN5w : Hid (∀ k, (Value.slice a5 (n' + 1 + 1) c5).ownBlock = some k → ob = some k ∨ w.heap.size ≤ k) := hideQ (fun k hk => (HN5.out k hk).imp (fun f => (HOb.out _).symm.trans f) (fun f => by omega))
        clear HRr HEr HOr HKr HBl HYr y0 y1 y2 y3 y4 HK5 HN5
        go_loopw [1, 32] (fun v1 v32 wr => ∃ (i p' : Nat) (F : List En) (en : En) (vb : Value), i ≤ cnt ∧ v32 = .int .i64 i ∧ v1 = vb ∧ Hid (Rd wr br v l p') ∧ Hid (ErD wr br ad) ∧ Hid (wr.ownsRow base 31 5 vb (n' + 1 + 1 + i) (ecs (E ++ F))) ∧ Hid (wr.heap[b7]? = some (enO en.k en.d en.t en.p en.s)) ∧ Hid (F.length = i + 1 ∧ rbk l (cnt + 1) ByteArray.empty p = prb F (rbk l (cnt - i) en.k p') ∧ headk F = k1 ∧ en.k.size ≤ 65) ∧ Hid (∀ k, vb.ownBlock = some k → ob = some k ∨ w.heap.size ≤ k) ∧ Hid (∀ k, vb.ownBlock = some k → ¬ k = b7) ∧ Hid (Kept (fun i => i = br ∨ ob = some i) w wr)) (fun _ v32 _ => cnt - (intOf v32).toNat)
        case atStart => exact ⟨0, q1, [⟨k1, d1, t1, p1, s1⟩], ⟨k1, d1, t1, p1, s1⟩, _, by omega, rfl, rfl, HR5, HE5, hideQ (by rw [ecs_snoc]; exact HO5.out), HY5, hideQ ⟨rfl, HF2.out, rfl, HB.out.2.2.2.1.k2⟩, HN5w, HB5, HK5w⟩
        case round =>
          obtain ⟨i, p', F, en, vb, hi, rfl, rfl, HRr, HEr, HOr, HYr, HFr, HNr, HBr, HKr⟩ := hrel
          clear HR5 HE5 HO5 HY5 HN5w HB5 HK5w HF2
          by_cases hlt : i < cnt
          · have hii : (i : Int) < (cnt : Int) := by omega
            obtain ⟨c', hc'⟩ : ∃ c', cnt - i = c' + 1 := ⟨cnt - i - 1, by omega⟩
            obtain ⟨hF1, hF2, hF3, hF4⟩ := HFr.out
            have HFl := hideQ hF1
            have HFe := hideQ hF2
            have HFh := hideQ hF3
            rw [hc'] at HFe
            have HC' := hideQ hc'
            have CE := hideQ (readEntry_any l en.k p' br v ad wr HRr.out HEr.out hF4)
            clear hc' hF1 hF2 hF3 hF4 HFr
            obtain ⟨⟨y0, y1, y2, y3, y4⟩, -⟩ := enO_cells HYr.out
            go_wp2_with fail
            go_at_call 68
            refine CE.out.mono ?_
            rintro e W2 ⟨hp, K2⟩
            clear CE y0 y1 y2 y3 y4
            cases hD : rde l en.k p' with
            | none =>
              rw [hD] at hp
              obtain rfl : e = pan (ad 9) := hp
              exact ⟨rfl, rbp_none (by rw [HFe.out, rbk_none hD]; rfl), HKr.out.trans K2 (fun _ h => .inl (.inl h))⟩
            | some eq =>
              obtain ⟨⟨k2, d2, t2, p2, s2⟩, q2⟩ := eq
              rw [hD] at hp
              obtain ⟨rfl, hR2⟩ := hp
              have HBk := hideQ (rde_back HRr.out.isb hD)
              have HFn : Hid (rbk l (cnt + 1) ByteArray.empty p = prb (F ++ [⟨k2, d2, t2, p2, s2⟩]) (rbk l c' k2 q2)) := hideQ (by rw [HFe.out, rbk_first hD, prb_prb])
              replace HEr := hideQ (HEr.out.kept K2)
              replace HOr := hideQ (row_keptB HOr.out K2 hbr)
              replace HYr := hideQ (K2.heap HYr.out hb7)
              replace HKr := hideQ (HKr.out.trans K2 (fun _ h => .inl (.inl h)))
              replace HRr := hideQ hR2
              have hsz2 : b7 < W2.heap.size := lt_of_block HYr.out
              clear hR2 K2 hD HFe
              simp only [enV]
              have HP := hideQ (putE_kept W2 b7 ⟨k2, d2, t2, p2, s2⟩)
              have HYp := hideQ (putE_heap HYr.out ⟨k2, d2, t2, p2, s2⟩)
              have HRp := hideQ (HRr.out.kept HP.out (fun e => hb7 e.symm) (fun j hj e => by have := HV.out j hj; omega))
              have HEp := hideQ (HEr.out.keptN HP.out (by have := HG.out; omega))
              have HOp := hideQ (HP.out.row HOr.out (fun k hk e => HBr.out k hk e))
              have HKp := hideQ (HKr.out.trans HP.out (fun j hj => .inr (by omega)))
              have hbp : base ≤ (putE W2 b7 ⟨k2, d2, t2, p2, s2⟩).heap.size := by have := HP.out.size; omega
              obtain ⟨⟨y0, y1, y2, y3, y4⟩, fz⟩ := enO_cells HYr.out
              have f0 := fz 0
              have f1 := fz 1
              have f2 := fz 2
              have f3 := fz 3
              have f4 := fz 4
              clear fz
              go_wp2_with (change wpList _ _ _ _ _ (putE W2 b7 ⟨k2, d2, t2, p2, s2⟩); refine Stp.go ?_)
              refine ⟨?_⟩
              generalize putE W2 b7 ⟨k2, d2, t2, p2, s2⟩ = Vp at *
              clear y0 y1 y2 y3 y4 f0 f1 f2 f3 f4
              obtain ⟨⟨y0, y1, y2, y3, y4⟩, -⟩ := enO_cells HYp.out
              go_wp2_with (at_builtin; refine Stp.go ?_)
              refine ⟨?_⟩
              refine wpList_pushS (base := base) rfl (.tmp 38) (.tmp 40) 22 rfl 31 i0 _ 5 48 Tryd.underlying22 hi0 hz0 hz1 hz2 rfl (by decide) _ (n' + 1 + 1 + i) (ecs (E ++ F)) [.string k2, .int .i64 d2, .int .i64 t2, .int .i64 p2, .int .i64 s2] rfl HOp hbp rfl rfl ?one (hideQ (by omega)) (hideQ (by unfold maxLen; omega)) ?_
              case one => intro u hu; simp at hu; rcases hu with rfl | rfl | rfl | rfl | rfl <;> rfl
              intro a6 c6 W6 HO6 HK6 HN6
              go_wp2
              have HY6 := hideQ (HK6.out.heap HYp.out (fun f => HBr.out _ f rfl))
              have HR6 := hideQ (HRp.out.keptR HK6.out HOp.out hbr HV.out)
              have HE6 := hideQ (HEp.out.keptR HK6.out HOp.out HG.out)
              have HK6w := hideQ (HKp.out.trans HK6.out (fun j hj => (HNr.out j hj).imp (fun e => .inr e) id))
              have hpz := HP.out.size
              have HB6 : Hid (∀ k, (Value.slice a6 (n' + 1 + 1 + i + 1) c6).ownBlock = some k → ¬ k = b7) := hideQ (fun k hk e => by
                rcases HN6.out k hk with f | f
                · exact HBr.out k f e
                · omega)
              have HN6w : Hid (∀ k, (Value.slice a6 (n' + 1 + 1 + i + 1) c6).ownBlock = some k → ob = some k ∨ w.heap.size ≤ k) := hideQ (fun k hk => by
                rcases HN6.out k hk with f | f
                · exact HNr.out k f
                · exact .inr (by omega))
              go_roundw
              case rel => exact ⟨i + 1, q2, F ++ [⟨k2, d2, t2, p2, s2⟩], ⟨k2, d2, t2, p2, s2⟩, _, hlt, by go_num, rfl, HR6, HE6, hideQ (by rw [← List.append_assoc, ecs_snoc]; exact HO6.out), HY6, hideQ ⟨by rw [List.length_append, HFl.out]; rfl, by rw [show cnt - (i + 1) = c' from by have := HC'.out; omega]; exact HFn.out, by rw [← HFh.out]; (match F, HFl.out with | f :: r, _ => rfl), HBk.out.2.2.2.1.k2⟩, HN6w, HB6, HK6w⟩
              case measure => simp [intOf]; omega
          · obtain rfl : i = cnt := by omega
            obtain ⟨hF1, hF2, hF3, hF4⟩ := HFr.out
            rw [Nat.sub_self] at hF2
            have HOk : Hid (rbk l (i + 1) ByteArray.empty p = some (F, p')) := hideQ (by rw [hF2]; simp [rbk, prb])
            have HFl := hideQ hF1
            have HFh := hideQ hF3
            clear hF1 hF2 hF3 hF4 HFr
            go_wp2
            go_ret
            refine ⟨rbp_ok HOk.out (by rw [HFh.out]; exact HKl.out) (by rw [List.length_append, HFl.out, ← HEl.out, show (n' + 1) + (i + 1) = (n' + 1) + 1 + i by omega]; exact HOr.out) HRr.out HNr.out, HKr.out⟩
end Go.Proofs.YtcanbhbhdgogoaaDoor
