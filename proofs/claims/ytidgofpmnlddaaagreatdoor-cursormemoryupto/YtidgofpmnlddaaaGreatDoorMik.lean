import Derived.Test.YtidgofpmnlddaaaGreatDoorMij
namespace Go.Proofs.YtidgofpmnlddaaaGreatDoor
open Go.ChangeShapes Go.WideShapes Go.ChangeAt Go.RowKit

theorem Owi.congr {w W : World} {b off : Nat} {V : List Value} {X X' : Nat → List Int} (h : Owi w W b off V X) (e : ∀ t, t < V.length → X t = X' t) : Owi w W b off V X' :=
  ⟨h.out, fun t ht => by rw [← e t ht]; exact h.row t ht, h.kept⟩
theorem row_sliceI {W : World} {base n : Nat} {v : Value} {xs : List Value} (h : W.ownsRow base 3 1 v n xs) : ∃ a c, v = .slice a n c ∧ (0 < n → ∃ g, a = some ⟨g, 0, none⟩) ∧ (∀ ad, a = some ad → ad.off = 0 ∧ ad.spot = none) := by
  rcases h.2 with ⟨rfl, e⟩ | ⟨g, cap, cur, rfl, _⟩
  · exact ⟨none, 0, by rw [e], fun h => by omega, fun ad e => by cases e⟩
  · exact ⟨_, _, rfl, fun _ => ⟨g, rfl⟩, fun ad e => by cases e; exact ⟨rfl, rfl⟩⟩
theorem Tryz.infoSlI : (Tryz.prog.info? 24).map (fun i => (i.zero, i.size, i.bytes)) = some (some (.slice none 0 0), 1, 24) := by kernel_rfl
theorem og_startI {mk : Nat → Nat → Int} {w wr w1 : World} {b off gb : Nat} {V : List Value} {ns : Nat → Nat} {cs : Array Value} (h : Owi w wr b off V (fun t => mis mk t (ns t))) (ha : Apti b V) (hb : b < w.heap.size) (k : Kept (fun _ => False) wr w1) (hgb : wr.heap.size ≤ gb) (hc : w1.heap[gb]? = some (.cells cs 24 (0, 0))) (ht : cs.toList.take V.length = V) :
    Ogi mk w w1 b off gb V V ns (fun t => ns t + 0) := by
  have hsz := h.kept.size
  have rw1 : ∀ t (ht : t < V.length), w1.ownsRow 0 3 1 V[t] (ns t) (is (mis mk t (ns t))) := fun t ht => by
    have := k.row (h.row t ht) (fun _ _ f => f)
    rwa [mis_length] at this
  have hlt : ∀ t (ht : t < V.length) j, V[t].ownBlock = some j → j < wr.heap.size := fun t ht j e => ((h.row t ht).lt j e).2
  have hmem : ∀ v ∈ V, ∀ j, v.ownBlock = some j → j < wr.heap.size := fun v hv j e => by
    obtain ⟨t, ht, rfl⟩ := List.mem_iff_getElem.1 hv
    exact hlt t ht j e
  refine ⟨rfl, fun t ht => k.cell (h.out t ht) (fun f => f), fun t ht => ?_, ⟨cs, hc, fun t h2 => ?_⟩, fun t ht => by rw [Nat.add_zero]; exact rw1 t ht, ha.two, fun t s ht hs hts => ha.two t s ht hs hts, fun t _ => by rw [Nat.add_zero]; exact Nat.le_refl _, fun v hv => ⟨fun e => ?_, ha.outer v hv⟩, ⟨by omega, fun v hv e => ?_⟩, fun v hv g e => .inl ⟨v, hv, e⟩, by omega, fun t ht j e => Nat.lt_of_lt_of_le (hlt t ht j e) k.size, by have := k.size; omega, fun t ht g e => ?_, h.kept.trans k (fun _ f => f.elim)⟩
  · obtain ⟨a, c, e, hp, hz⟩ := row_sliceI (rw1 t ht)
    refine ⟨a, c, e, ?_, hz⟩
    have hr := rw1 t ht
    rw [e] at hr
    intro hne
    obtain ⟨g, rfl⟩ := hp (by have := List.length_pos_iff.2 hne; rw [mis_length] at this; exact this)
    exact own_intsM hr hne
  · have h3 : (cs.toList.take V.length)[t]? = V[t]? := by rw [ht]
    rw [List.getElem?_take, if_pos h2, Array.getElem?_toList, List.getElem?_eq_getElem h2] at h3
    exact h3
  · have := hmem v hv gb e
    omega
  · have := hmem v hv gb e
    omega
  · have hr := rw1 t ht
    rcases hr.2 with ⟨e2, _⟩ | ⟨g2, cap2, cur2, e2, _, hg2, hn2, _, hs2, _⟩
    · rw [e2] at e; simp [Value.ownBlock] at e
    · rw [e2] at e
      simp only [Value.ownBlock, Option.some.injEq] at e
      subst e
      exact ⟨cur2, hg2, by omega⟩
/-- What Own leaves: each list marked; nothing else written. -/
structure OwnPostI (mk : Nat → Nat → Int) (V : List Value) (L : Nat → List Int) (w w' : World) : Prop where
  marked : ∀ t (h : t < V.length), ∃ a c, V[t] = .slice a (L t).length c ∧ IntsAt w' a (mis mk t (L t).length)
  ow : ∀ t (h : t < V.length) g, V[t].ownBlock = some g → ∃ cur : Array Value, w'.heap[g]? = some (.cells cur 3 (0, 0)) ∧ (L t).length ≤ cur.size
  kept : Kept (fun k => ∃ v ∈ V, v.ownBlock = some k) w w'
theorem wpOp_ofI {P : Program} {ops : Array Oper} {Q : Exit → Act → World → Prop} {i : Nat} {o : Oper} {K : Act → World → Prop} {a : Act} {w : World} (hi : ops[i]? = some o) (h : if Region.wanted o (yielded ops a.tmps) = true then Oper.wp P o a w K Q else K (a.put o.dst undef) w) : wpOp P ops Q i K a w := by
  unfold wpOp
  simp only [hi]
  by_cases hw : Region.wanted o (yielded ops a.tmps) = true
  · rw [if_pos hw] at h ⊢
    exact .inl h
  · rw [if_neg hw] at h ⊢
    exact h
set_option maxRecDepth 20000 in
set_option maxHeartbeats 8000000 in
theorem ownI_any (mk : Nat → Nat → Int) (hmk : MarkI mk) (V : List Value) (L : Nat → List Int) (b off c N : Nat) (w : World) (hO : Owi w w b off V L) (hA : Apti b V) (hN : N = V.length) (hN0 : 0 < N) (hNb : N ≤ 68719476736) (hL : ∀ t, t < N → (L t).length ≤ 1099511620000) (hb : b < w.heap.size) :
    Calls Tryz.prog 14 #[.slice (some ⟨b, off, none⟩) N c] w fun e w' => e = .returned (.bool true) ∧ OwnPostI mk V L w w' := by
  have HM := hideP hmk
  have HA := hideP hA
  have HO := hideP hO
  have HL := hideP hL
  have HN := hideP hN
  clear hmk hA hO hL hN
  go_enter Tryz.func14, Tryz.ntmps14
  go_wp2
  go_loopw [15] (fun i wr => ∃ k : Nat, k ≤ N ∧ i = .int .i64 k ∧ Hid (Owi w wr b off V (fun t => if t < k then mid mk t (L t).length (L t) else L t))) (fun i _ => N - (intOf i).toNat)
  case atStart => exact ⟨0, Nat.zero_le _, rfl, HO.out.congr (fun t _ => by simp)⟩
  case round =>
    obtain ⟨k, hk, rfl, HK⟩ := hrel
    by_cases hlt : k < N
    · have hkV : k < V.length := by rw [← HN.out]; exact hlt
      have hx := HK.out.out k hkV
      have hrw := HK.out.row k hkV
      simp only [Nat.lt_irrefl, if_false] at hrw
      obtain ⟨a, cc, hv, hva, _⟩ := row_sliceI hrw
      have hlen := HL.out k hlt
      rw [hv] at hx
      obtain ⟨n, hn⟩ : ∃ n, n = (L k).length := ⟨_, rfl⟩
      rw [← hn] at hx hva hlen
      have HV := hideP hv
      have Hn := hideP hn
      have i1 : (k : Int) < (N : Int) := by omega
      clear hrw hv hn
      go_wp2
      go_loopw [22] (fun j wr => ∃ q : Nat, q ≤ n ∧ j = .int .i64 q ∧ Hid (Owi w wr b off V (fun t => if t < k then mid mk t (L t).length (L t) else if t = k then mid mk k q (L k) else L t))) (fun j _ => n - (intOf j).toNat)
      case atStart =>
        refine ⟨0, Nat.zero_le _, rfl, HK.out.congr (fun t _ => ?_)⟩
        by_cases e1 : t < k
        · rw [if_pos e1, if_pos e1]
        · rw [if_neg e1, if_neg e1]
          by_cases e2 : t = k
          · rw [if_pos e2, mid_zero, e2]
          · rw [if_neg e2]
      case round =>
        obtain ⟨q, hq, rfl, HQ⟩ := hrel
        clear HK hx
        by_cases hqn : q < n
        · obtain ⟨g, rfl⟩ := hva (by omega)
          have MC := hideP (fun (W : World) => HM.out k q (by omega) (by omega) W)
          have hput := fun (x : Int) => HQ.out.put (X' := fun t => if t < k then mid mk t (L t).length (L t) else if t = k then (mid mk k q (L k)).set q x else L t) (x := x) (j := q) HA.out hkV (by rw [← Hn.out] at HV; exact HV.out) (by simp only [Nat.lt_irrefl, if_false, if_true]; rw [mid_length _ _ _ _ (by rw [← Hn.out]; exact hq), Hn.out]) hqn (by simp) (fun t ht => by simp [ht])
          have hrow := HQ.out.row k hkV
          simp only [Nat.lt_irrefl, if_false, if_true] at hrow
          rw [mid_length _ _ _ _ (by rw [← Hn.out]; exact hq), HV.out, ← Hn.out] at hrow
          obtain ⟨_, c1, c2⟩ := row_setI (x := 0) hrow hqn (by rw [mid_length _ _ _ _ (by rw [← Hn.out]; exact hq), Hn.out])
          have HP : Hid (Owi w (wr.setCell ⟨g, q, none⟩ (.int .i64 (mk k q))) b off V (fun t => if t < k then mid mk t (L t).length (L t) else if t = k then mid mk k (q + 1) (L k) else L t)) := by
            refine (hput (mk k q)).congr (fun t _ => ?_)

            rw [mid_set _ _ _ _ (by rw [← Hn.out]; exact hqn)]
          generalize (mid mk k q (L k))[q]?.getD 0 = y0 at c1
          generalize mk k q = z at MC HP
          have i2 : (q : Int) < (n : Int) := by omega
          clear hput hrow HQ
          go_wp2_with (go_at_call 25; refine (MC.out _).mono ?_; rintro e W5 ⟨rfl, e5⟩; subst e5)
          go_roundw
          case rel => exact ⟨q + 1, by omega, by go_num, HP⟩
          case measure => simp [intOf]; omega
        · have hqe : q = n := by omega
          subst hqe
          have HF : Hid (Owi w wr b off V (fun t => if t < k + 1 then mid mk t (L t).length (L t) else L t)) := by
            refine HQ.out.congr (fun t _ => ?_)
            by_cases e1 : t < k
            · rw [if_pos e1, if_pos (by omega)]
            · rw [if_neg e1]
              by_cases e2 : t = k
              · rw [if_pos e2, if_pos (by omega), e2, Hn.out]
              · rw [if_neg e2, if_neg (by omega)]
          have i2 : ¬ ((q : Int) < (q : Int)) := by omega
          clear HQ
          go_wp2
          go_roundw
          case rel => exact ⟨k + 1, by omega, by go_num, HF⟩
          case measure => simp [intOf]; omega
    · obtain rfl : k = N := by omega
      obtain ⟨ns, hns⟩ : ∃ ns : Nat → Nat, ns = fun t => (L t).length := ⟨_, rfl⟩
      have H1 : Owi w wr b off V (fun t => mis mk t (ns t)) := by
        refine HK.out.congr (fun t ht => ?_)
        rw [if_pos (by rw [HN.out]; exact ht), mid_all, hns]
      clear HK hlt hk
      obtain ⟨j0, hj, hy0, hy1, hy2⟩ := info_partsP Tryz.infoSlI
      obtain ⟨o0, ho0⟩ : ∃ o : Obj, o = .cells #[] 24 := ⟨_, rfl⟩
      have kA := Kept.alloc wr o0
      have hnews : ∀ j u, V[j]? = some u → (wr.alloc o0).cell? ((⟨b, off, none⟩ : Addr).add j) = some u := by
        intro j u hju
        obtain ⟨hjl, rfl⟩ := List.getElem?_eq_some_iff.1 hju
        rw [Go.WideShapes.add_plain]
        exact kA.cell (H1.out j hjl) (fun f => f)
      have hone : ∀ u ∈ V, u.oneCell' = true := by
        intro u hu
        obtain ⟨t, ht, rfl⟩ := List.mem_iff_getElem.1 hu
        obtain ⟨a, c', e, _⟩ := row_sliceI (H1.row t ht)
        rw [e]; rfl
      have hown0 : (wr.alloc o0).ownsRow wr.heap.size 24 1 (.slice (some ⟨wr.heap.size, 0, none⟩) 0 0) 0 [] := by
        rw [ho0]
        exact ⟨rfl, .inr ⟨wr.heap.size, 0, #[], rfl, Nat.le_refl _, heap_alloc_new wr _, Nat.le_refl _, Nat.zero_le _, rfl, rfl⟩⟩
      have hlV : V.length = k * 1 := by rw [HN.out]; omega
      have hsz0 : wr.heap.size ≤ (wr.alloc o0).heap.size := kA.size
      have HH1 := hideP H1
      clear H1
      subst ho0
      have i1 : ¬ ((k : Int) < (k : Int)) := by omega
      go_wp2_with (at_builtin; refine wpList_append_own_at _ rfl _ _ 23 rfl wr.heap.size 24 j0 (.slice none 0 0) 1 24 Tryz.underlying23 hj hy0 hy1 hy2 rfl (by decide) _ _ _ rfl hown0 ⟨b, off, none⟩ k c V rfl hlV hnews hone (by unfold maxLen; omega) (by omega) hsz0 ?_; clear hown0 hnews hone; intro v1 w1 hown1 hgrow1 _ _)
      rw [Nat.zero_add, List.nil_append] at hown1
      obtain ⟨gb, cG, cs, hv1, hgb, hcs, htk⟩ : ∃ gb cG cs, v1 = .slice (some ⟨gb, 0, none⟩) k cG ∧ wr.heap.size ≤ gb ∧ w1.heap[gb]? = some (.cells cs 24 (0, 0)) ∧ cs.toList.take V.length = V := by
        rcases hown1.2 with ⟨_, e⟩ | ⟨g, cap, cur, e, hb', hg', _, _, _, ht'⟩
        · omega
        · exact ⟨g, cap, cur, e, hb', hg', by rw [hlV]; exact ht'⟩
      subst hv1
      have kw1 : Kept (fun _ => False) wr w1 := kA.trans (Kept.grown hgrow1) (fun i e => .inr (by have e' := Option.some.inj (show some wr.heap.size = some i from e); omega))
      have HG0 := hideP (og_startI (ns := ns) HH1.out HA.out hb kw1 hgb hcs htk)
      clear hown1 hgrow1 kw1 hgb hcs htk HH1 kA hj hy0 hy1 hy2 hlV hsz0
      obtain ⟨N, hNN⟩ : ∃ N, N = k := ⟨_, rfl⟩
      subst hNN
      have hnsb : ∀ t, t < N → ns t ≤ 1099511620000 := by rw [hns]; exact HL.out
      have HNS := hideP hns
      have HNB := hideP hnsb
      clear hns hnsb HL HO
      go_wp2
      go_loopw [7] (fun kk wr => ∃ (r : Nat) (V2 : List Value), r ≤ 80 ∧ kk = .int .i64 r ∧ Hid (Ogi mk w wr b off gb V V2 ns (fun t => ns t + r))) (fun kk _ => 80 - (intOf kk).toNat)
      case atStart => exact ⟨0, V, Nat.zero_le _, rfl, HG0⟩
      case round =>
        obtain ⟨r, V2, hr, rfl, HR⟩ := hrel
        clear HG0
        by_cases hr80 : r < 80
        · have i2 : (r : Int) < 80 := by omega
          go_wp2
          go_loopw [42] (fun ii wr => ∃ (q : Nat) (V3 : List Value), q ≤ N ∧ ii = .int .i64 q ∧ Hid (Ogi mk w wr b off gb V V3 ns (fun t => if t < q then ns t + r + 1 else ns t + r))) (fun ii _ => N - (intOf ii).toNat)
          case atStart => exact ⟨0, V2, Nat.zero_le _, rfl, by have h := HR.out; simp only [Nat.not_lt_zero, if_false]; exact h⟩
          case round =>
            obtain ⟨q, V3, hq, rfl, HQ⟩ := hrel
            clear HR
            by_cases hqN : q < N
            · have hq3 : q < V3.length := by rw [HQ.out.len, ← HN.out]; exact hqN
              have hrow := HQ.out.row q hq3
              simp only [Nat.lt_irrefl, if_false] at hrow
              obtain ⟨mq, hmq⟩ : ∃ m, m = ns q + r := ⟨_, rfl⟩
              rw [← hmq] at hrow
              have hnq := HNB.out q hqN
              have hmqb : mq ≤ 1099511627000 := by omega
              obtain ⟨a2, c2', hv2, _, _⟩ := row_sliceI hrow
              obtain ⟨cs2, hc2, hcs2⟩ := HQ.out.outG
              have x0 : wr.cell? ⟨gb, q, none⟩ = some (.slice a2 mq c2') := by rw [cell_of_row _ _ q _ _ _ hc2, hcs2 q hq3, hv2]
              have MC := hideP (fun (W : World) => HM.out q mq (by omega) (by omega) W)
              have hrowA : (wr.alloc (.cells #[.int .i64 (mk q mq)] 3)).drew.ownsRow 0 3 1 (.slice a2 mq c2') mq (is (mis mk q mq)) := by
                have h1 := (Kept.drewN (wr.alloc (.cells #[.int .i64 (mk q mq)] 3)) 1).row ((Kept.alloc wr (.cells #[.int .i64 (mk q mq)] 3)).row hrow (fun _ _ f => f)) (fun _ _ f => f)
                rwa [hv2] at h1
              have hcellA : (wr.alloc (.cells #[.int .i64 (mk q mq)] 3)).drew.cell? ⟨wr.heap.size, 0, none⟩ = some (.int .i64 (mk q mq)) := (Kept.drewN (wr.alloc (.cells #[.int .i64 (mk q mq)] 3)) 1).cell (cell_of_row _ _ 0 _ _ _ (heap_alloc_new wr _)) (fun f => f)
              have x0a : (wr.alloc (.cells #[.int .i64 (mk q mq)] 3)).cell? ⟨gb, q, none⟩ = some (.slice a2 mq c2') := (Kept.alloc wr _).cell x0 (fun f => f)
              have HGR : Hid (∀ g cap W1, W1.ownsRow 0 3 1 (.slice (some ⟨g, 0, none⟩) (mq + 1) cap) (mq + 1) (is (mis mk q (mq + 1))) → ((Value.slice a2 mq c2').ownBlock = some g ∧ Kept (fun k => k = g) (wr.alloc (.cells #[.int .i64 (mk q mq)] 3)).drew W1 ∨ (wr.alloc (.cells #[.int .i64 (mk q mq)] 3)).drew.heap.size ≤ g ∧ Kept (fun _ => False) (wr.alloc (.cells #[.int .i64 (mk q mq)] 3)).drew W1) → W1.cell? ⟨gb, q, none⟩ = some (.slice a2 mq c2') ∧ W1.frozen? ⟨gb, q, none⟩ = false ∧ Hid (Ogi mk w (W1.setCell ⟨gb, q, none⟩ (.slice (some ⟨g, 0, none⟩) (mq + 1) cap)) b off gb V (V3.set q (.slice (some ⟨g, 0, none⟩) (mq + 1) cap)) ns (fun t => if t < q + 1 then ns t + r + 1 else ns t + r))) := by
                intro g cap W1 r1 r2
                have hO := (HQ.out.same' (Kept.alloc wr (.cells #[.int .i64 (mk q mq)] 3))).same' (Kept.drewN _ 1)
                have hmm : (if q < q then ns q + r + 1 else ns q + r) = mq := by simp [hmq]
                have hgr := hO.grow (m' := fun t => if t < q + 1 then ns t + r + 1 else ns t + r) (g := g) (cap := cap) (W1 := W1) hq3 (by rw [hmm]; exact r1) (by rw [hv2]; exact r2) (by simp) (fun t ht => by
                  by_cases e1 : t < q
                  · simp [e1, show t < q + 1 by omega]
                  · simp [e1, show ¬ t < q + 1 by omega])
                rw [hmm, hv2] at hgr
                exact hgr
              generalize hz : mk q mq = z at MC hrowA hcellA HGR x0a
              have i3 : (q : Int) < (N : Int) := by omega
              clear hrow hv2 hc2 hcs2 HQ hmq hnq
              go_wp2
              refine wp_region_held (S := AnyZ) (by kernel_rfl) ?_
              change wpAnyH _ _ _ _ _ _ _ _ (World.drew _)
              refine takeZ (i := 0) (d := 50) (v := .slice (some ⟨gb, 0, none⟩) N cG) rfl rfl (by kernel_rfl) (by kernel_rfl) (by kernel_rfl) (fun _ _ _ h => h) (Or.inl ⟨by rfl, fun W _ => ?_⟩) (anyZ _) ?_
              · go_simp
              simp only [Act.put, List.setIfInBounds_toArray, List.set_cons_zero, List.set_cons_succ]
              refine takeZ (i := 1) (d := 51) (v := .int .i64 q) rfl rfl (by kernel_rfl) (by kernel_rfl) (by kernel_rfl) (fun _ _ _ h => h) (Or.inl ⟨by rfl, fun W _ => ?_⟩) (anyZ _) ?_
              · go_simp
              simp only [Act.put, List.setIfInBounds_toArray, List.set_cons_zero, List.set_cons_succ]
              refine takeZ (i := 2) (d := 52) (v := .slice (some ⟨gb, 0, none⟩) N cG) rfl rfl (by kernel_rfl) (by kernel_rfl) (by kernel_rfl) (fun _ _ _ h => h) (Or.inl ⟨by rfl, fun W _ => ?_⟩) (anyZ _) ?_
              · go_simp
              simp only [Act.put, List.setIfInBounds_toArray, List.set_cons_zero, List.set_cons_succ]
              refine takeZ (i := 3) (d := 53) (v := .int .i64 q) rfl rfl (by kernel_rfl) (by kernel_rfl) (by kernel_rfl) (fun _ _ _ h => h) (Or.inl ⟨by rfl, fun W _ => ?_⟩) (anyZ _) ?_
              · go_simp
              simp only [Act.put, List.setIfInBounds_toArray, List.set_cons_zero, List.set_cons_succ]
              refine takeZ (i := 6) (d := 56) (v := .int .i64 q) rfl rfl (by kernel_rfl) (by kernel_rfl) (by kernel_rfl) (fun _ _ _ h => h) (Or.inl ⟨by rfl, fun W _ => ?_⟩) (anyZ _) ?_
              · go_simp
              simp only [Act.put, List.setIfInBounds_toArray, List.set_cons_zero, List.set_cons_succ]
              refine takeZ (i := 7) (d := 57) (v := .int .i64 mq) rfl rfl (by kernel_rfl) (by kernel_rfl) (by kernel_rfl) (fun _ _ _ h => h) (Or.inl ⟨by rfl, fun W _ => ?_⟩) (anyZ _) ?_
              · go_simp
              simp only [Act.put, List.setIfInBounds_toArray, List.set_cons_zero, List.set_cons_succ]
              refine takeZ (i := 4) (d := 54) (v := .pointer (some ⟨gb, q, none⟩)) rfl rfl (by kernel_rfl) (by kernel_rfl) (by kernel_rfl) (fun _ _ _ h => h) (Or.inl ⟨by rfl, fun W _ => ?_⟩) (anyZ _) ?_
              · go_simp
              simp only [Act.put, List.setIfInBounds_toArray, List.set_cons_zero, List.set_cons_succ]
              refine wpAnyH_all (rs := [5, 8]) (by kernel_rfl) (by simp) ?_
              intro i hi
              rcases (by simpa using hi : i = 5 ∨ i = 8) with rfl | rfl
              · unfold wpOp
                go_simp
                first | refine ⟨anyZ _, ?_⟩ | refine Or.inl ⟨anyZ _, ?_⟩
                refine wpAnyH_all (rs := [8]) (by kernel_rfl) (by simp) ?_
                intro i hi
                obtain rfl : i = 8 := by simpa using hi
                unfold wpOp
                go_simp
                first | refine (MC.out _).mono ?_ | refine Or.inl ((MC.out _).mono ?_)
                rintro e W5 ⟨rfl, e5⟩
                subst e5
                refine ⟨anyZ _, ?_⟩
                refine wpAnyH_all (rs := [9]) (by kernel_rfl) (by simp) ?_
                intro i hi
                obtain rfl : i = 9 := by simpa using hi
                unfold wpOp
                go_simp
                first | refine ⟨anyZ _, ?_⟩ | refine Or.inl ⟨anyZ _, ?_⟩
                refine wpAnyH_all (rs := [10]) (by kernel_rfl) (by simp) ?_
                intro i hi
                obtain rfl : i = 10 := by simpa using hi
                refine wpOp_ofI rfl ?_
                refine step_growI (mk := mk) (t := q) (m := mq) rfl _ _ rfl hrowA rfl _ 1 rfl (by rw [hz]; exact hcellA) hmqb ?_
                intro g cap W1 r1 r2
                refine ⟨anyZ _, ?_⟩
                obtain ⟨c1, c2, HG⟩ := HGR.out g cap W1 r1 r2
                simp only [Act.put, List.setIfInBounds_toArray]
                refine takeZ (i := 11) (d := 61) (v := .pointer (some ⟨gb, q, none⟩)) rfl rfl (by kernel_rfl) (by kernel_rfl) (by kernel_rfl) (fun _ _ _ h => h) (Or.inl ⟨by rfl, fun W _ => ?_⟩) (anyZ _) ?_
                · go_simp
                simp only [Act.put]
                refine wpAnyH_all (rs := [12]) (by kernel_rfl) (by simp) ?_
                intro i hi
                obtain rfl : i = 12 := by simpa using hi
                unfold wpOp
                go_simp
                first | refine ⟨anyZ _, ?_⟩ | refine Or.inl ⟨anyZ _, ?_⟩
                refine wpAnyH_done (by kernel_rfl) ?_ _
                go_wp2
                go_roundw
                case rel => exact ⟨q + 1, _, by omega, by go_num, HG⟩
                case measure => simp [intOf]; omega
              · unfold wpOp
                go_simp
                first | refine (MC.out _).mono ?_ | refine Or.inl ((MC.out _).mono ?_)
                rintro e W5 ⟨rfl, e5⟩
                subst e5
                refine ⟨anyZ _, ?_⟩
                refine wpAnyH_all (rs := [5, 9]) (by kernel_rfl) (by simp) ?_
                intro i hi
                rcases (by simpa using hi : i = 5 ∨ i = 9) with rfl | rfl
                · unfold wpOp
                  go_simp
                  first | refine ⟨anyZ _, ?_⟩ | refine Or.inl ⟨anyZ _, ?_⟩
                  refine wpAnyH_all (rs := [9]) (by kernel_rfl) (by simp) ?_
                  intro i hi
                  obtain rfl : i = 9 := by simpa using hi
                  unfold wpOp
                  go_simp
                  first | refine ⟨anyZ _, ?_⟩ | refine Or.inl ⟨anyZ _, ?_⟩
                  refine wpAnyH_all (rs := [10]) (by kernel_rfl) (by simp) ?_
                  intro i hi
                  obtain rfl : i = 10 := by simpa using hi
                  refine wpOp_ofI rfl ?_
                  refine step_growI (mk := mk) (t := q) (m := mq) rfl _ _ rfl hrowA rfl _ 1 rfl (by rw [hz]; exact hcellA) hmqb ?_
                  intro g cap W1 r1 r2
                  refine ⟨anyZ _, ?_⟩
                  obtain ⟨c1, c2, HG⟩ := HGR.out g cap W1 r1 r2
                  simp only [Act.put, List.setIfInBounds_toArray]
                  refine takeZ (i := 11) (d := 61) (v := .pointer (some ⟨gb, q, none⟩)) rfl rfl (by kernel_rfl) (by kernel_rfl) (by kernel_rfl) (fun _ _ _ h => h) (Or.inl ⟨by rfl, fun W _ => ?_⟩) (anyZ _) ?_
                  · go_simp
                  simp only [Act.put]
                  refine wpAnyH_all (rs := [12]) (by kernel_rfl) (by simp) ?_
                  intro i hi
                  obtain rfl : i = 12 := by simpa using hi
                  unfold wpOp
                  go_simp
                  first | refine ⟨anyZ _, ?_⟩ | refine Or.inl ⟨anyZ _, ?_⟩
                  refine wpAnyH_done (by kernel_rfl) ?_ _
                  go_wp2
                  go_roundw
                  case rel => exact ⟨q + 1, _, by omega, by go_num, HG⟩
                  case measure => simp [intOf]; omega
                · unfold wpOp
                  go_simp
                  first | refine ⟨anyZ _, ?_⟩ | refine Or.inl ⟨anyZ _, ?_⟩
                  refine wpAnyH_all (rs := [5]) (by kernel_rfl) (by simp) ?_
                  intro i hi
                  obtain rfl : i = 5 := by simpa using hi
                  unfold wpOp
                  go_simp
                  first | refine ⟨anyZ _, ?_⟩ | refine Or.inl ⟨anyZ _, ?_⟩
                  refine wpAnyH_all (rs := [10]) (by kernel_rfl) (by simp) ?_
                  intro i hi
                  obtain rfl : i = 10 := by simpa using hi
                  refine wpOp_ofI rfl ?_
                  refine step_growI (mk := mk) (t := q) (m := mq) rfl _ _ rfl hrowA rfl _ 1 rfl (by rw [hz]; exact hcellA) hmqb ?_
                  intro g cap W1 r1 r2
                  refine ⟨anyZ _, ?_⟩
                  obtain ⟨c1, c2, HG⟩ := HGR.out g cap W1 r1 r2
                  simp only [Act.put, List.setIfInBounds_toArray]
                  refine takeZ (i := 11) (d := 61) (v := .pointer (some ⟨gb, q, none⟩)) rfl rfl (by kernel_rfl) (by kernel_rfl) (by kernel_rfl) (fun _ _ _ h => h) (Or.inl ⟨by rfl, fun W _ => ?_⟩) (anyZ _) ?_
                  · go_simp
                  simp only [Act.put]
                  refine wpAnyH_all (rs := [12]) (by kernel_rfl) (by simp) ?_
                  intro i hi
                  obtain rfl : i = 12 := by simpa using hi
                  unfold wpOp
                  go_simp
                  first | refine ⟨anyZ _, ?_⟩ | refine Or.inl ⟨anyZ _, ?_⟩
                  refine wpAnyH_done (by kernel_rfl) ?_ _
                  go_wp2
                  go_roundw
                  case rel => exact ⟨q + 1, _, by omega, by go_num, HG⟩
                  case measure => simp [intOf]; omega
            · have hqe : q = N := by omega
              subst hqe
              have HF : Hid (Ogi mk w wr b off gb V V3 ns (fun t => ns t + (r + 1))) := by
                have h := HQ.out
                refine ⟨h.len, h.out, h.old, h.outG, fun t ht => ?_, h.two, h.cross, fun t ht => by omega, h.far, h.farV, h.new, h.newb, h.vlt, h.blt, h.ow, h.kept⟩
                have h1 := h.row t ht
                have ht' : t < q := by rw [HN.out, ← h.len]; exact ht
                simp only [ht', if_true] at h1
                rw [← Nat.add_assoc]
                exact h1
              have i3 : ¬ ((q : Int) < (q : Int)) := by omega
              clear HQ
              go_wp2
              go_roundw
              case rel => exact ⟨r + 1, V3, by omega, by go_num, HF⟩
              case measure => simp [intOf]; omega
        · obtain rfl : r = 80 := by omega
          have z80 : ((80 : Nat) : Int) = 80 := rfl
          rw [z80]
          clear hr80 hr
          have hlen2 : V2.length = N := by rw [HR.out.len, HN.out]
          -- what every list reads, in every world that has only drawn since
          obtain ⟨W0, hW0⟩ : ∃ W0, W0 = wr := ⟨_, rfl⟩
          have RD : Hid (∀ q, q < N → ∃ g2 c2 a1 c1, ∀ W, Kept (fun _ => False) W0 W → W.cell? ⟨gb, q, none⟩ = some (.slice (some ⟨g2, 0, none⟩) (ns q + 80) c2) ∧ (∀ s, s < ns q + 80 → W.cell? ⟨g2, s, none⟩ = some (.int .i64 (mk q s))) ∧ W.cell? ⟨b, off + q, none⟩ = some (.slice a1 (ns q) c1) ∧ (0 < ns q → ∃ g1, a1 = some ⟨g1, 0, none⟩ ∧ ∀ s, s < ns q → W.cell? ⟨g1, s, none⟩ = some (.int .i64 (mk q s)))) := by
            intro q hq
            have hO := HR.out
            rw [← hW0] at hO
            have hq2 : q < V2.length := by omega
            have hqV : q < V.length := by rw [← hO.len]; exact hq2
            have hrow := hO.row q hq2
            obtain ⟨a2, c2, e2, hp2, _⟩ := row_sliceI hrow
            obtain ⟨g2, rfl⟩ := hp2 (by omega)
            obtain ⟨cs2, hc2, hcs2⟩ := hO.outG
            obtain ⟨a1, c1, e1, hb1, hz1⟩ := hO.old q hqV
            rw [e2] at hrow
            refine ⟨g2, c2, a1, c1, fun W kk => ⟨?_, fun s hs => ?_, ?_, fun hpos => ?_⟩⟩
            · refine kk.cell ?_ (fun f => f)
              rw [cell_of_row _ _ q _ _ _ hc2, hcs2 q hq2, e2]
            · obtain ⟨b2, o2, e3, hc3⟩ := own_intsM hrow (by intro e'; have := congrArg List.length e'; rw [mis_length] at this; simp at this)
              simp only [Option.some.injEq, Addr.mk.injEq, and_true] at e3
              obtain ⟨rfl, rfl⟩ := e3
              have h3 := kk.cell (hc3 s (by rw [mis_length]; exact hs)) (fun f => f)
              rw [Nat.zero_add, mis_get _ _ _ _ hs] at h3
              exact h3
            · refine kk.cell ?_ (fun f => f)
              rw [hO.out q hqV, e1]
            · obtain ⟨b2, o2, e3, hc3⟩ := hb1 (by intro e'; have := congrArg List.length e'; rw [mis_length] at this; simp at this; omega)
              have ho := (hz1 _ e3).1
              simp only at ho
              subst ho
              refine ⟨b2, e3, fun s hs => ?_⟩
              have h3 := kk.cell (hc3 s (by rw [mis_length]; exact hs)) (fun f => f)
              rw [Nat.zero_add, mis_get _ _ _ _ hs] at h3
              exact h3
          have FIN : Hid (∀ W, Kept (fun _ => False) W0 W → OwnPostI mk V L w W) := by
            intro W kk
            have hO := HR.out
            rw [← hW0] at hO
            refine ⟨fun t ht => ?_, fun t ht g e => ?_, hO.kept.trans kk (fun _ f => f.elim)⟩
            · obtain ⟨a1, c1, e1, hb1, _⟩ := hO.old t ht
              rw [HNS.out] at e1 hb1
              exact ⟨a1, c1, e1, hb1.kept kk⟩
            · obtain ⟨cur, e1, e2⟩ := hO.ow t ht g e
              rw [HNS.out] at e2
              exact ⟨cur, kk.heap e1 (fun f => f), e2⟩
          have K0 : Hid (Kept (fun _ => False) W0 wr) := by rw [hW0]; exact Kept.refl _ _
          clear HR HNS hW0 HA
          have i2 : ¬ ((80 : Int) < 80) := by omega
          go_wp2
          go_loopw [65] (fun ii wr => ∃ q : Nat, q ≤ N ∧ ii = .int .i64 q ∧ Hid (Kept (fun _ => False) W0 wr)) (fun ii _ => N - (intOf ii).toNat)
          case atStart => exact ⟨0, Nat.zero_le _, rfl, K0⟩
          case round =>
            obtain ⟨q, hq, rfl, HQ⟩ := hrel
            clear K0
            by_cases hqN : q < N
            · obtain ⟨g2, c2, a1, c1, HX⟩ := RD.out q hqN
              have x1 := (HX wr HQ.out).1
              have HXX := hideP HX
              clear HX
              obtain ⟨nq, hnq⟩ : ∃ n, n = ns q := ⟨_, rfl⟩
              have hnb := HNB.out q hqN
              rw [← hnq] at x1 hnb
              have HNQ := hideP hnq
              have i3 : (q : Int) < (N : Int) := by omega
              clear hnq
              go_wp2
              go_loopw [72] (fun jj wr => ∃ s : Nat, s ≤ nq + 80 ∧ jj = .int .i64 s ∧ Hid (Kept (fun _ => False) W0 wr)) (fun jj _ => nq + 80 - (intOf jj).toNat)
              case atStart => exact ⟨0, Nat.zero_le _, rfl, HQ⟩
              case round =>
                obtain ⟨s, hs, rfl, HS⟩ := hrel
                by_cases hsl : s < nq + 80
                · have YA : ∀ W, Kept (fun _ => False) W0 W → W.cell? ⟨b, off + q, none⟩ = some (.slice a1 nq c1) ∧ W.cell? ⟨g2, s, none⟩ = some (.int .i64 (mk q s)) ∧ (s < nq → ∃ g1, a1 = some ⟨g1, 0, none⟩ ∧ W.cell? ⟨g1, s, none⟩ = some (.int .i64 (mk q s))) := by
                    intro W kk
                    obtain ⟨_, y2, y3, y4⟩ := HXX.out W kk
                    rw [← HNQ.out] at y2 y3 y4
                    refine ⟨y3, y2 s hsl, fun h => ?_⟩
                    obtain ⟨g1, e1, h1⟩ := y4 (by omega)
                    exact ⟨g1, e1, h1 s h⟩
                  have MC := hideP (fun (W : World) => HM.out q s (by omega) (by omega) W)
                  generalize mk q s = z at MC YA
                  have y2s := (YA wr HS.out).2.1
                  have i4 : (s : Int) < (nq : Int) + 80 := by omega
                  have i5 : s < nq + 80 := hsl
                  have HD1 : Kept (fun _ => False) W0 wr.drew := HS.out.trans (Kept.drewN wr 1) (fun _ f => f.elim)
                  have HD : Kept (fun _ => False) W0 wr.drew.drew := (HS.out.trans (Kept.drewN wr 1) (fun _ f => f.elim)).trans (Kept.drewN _ 1) (fun _ f => f.elim)
                  by_cases hs1 : s < nq
                  · obtain ⟨g1, rfl, y5⟩ := (YA wr HS.out).2.2 hs1
                    have YY : Hid (∀ W, Kept (fun _ => False) W0 W → W.cell? ⟨b, off + q, none⟩ = some (.slice (some ⟨g1, 0, none⟩) nq c1) ∧ W.cell? ⟨g2, s, none⟩ = some (.int .i64 z) ∧ W.cell? ⟨g1, s, none⟩ = some (.int .i64 z)) := by
                      intro W kk
                      obtain ⟨u1, u2, u3⟩ := YA W kk
                      obtain ⟨g', e', h'⟩ := u3 hs1
                      cases e'
                      exact ⟨u1, u2, h'⟩
                    have i6 : (s : Int) < (nq : Int) := by omega
                    clear YA HXX RD FIN HM y5
                    go_wp2
                    refine wp_region_held (S := fun W => Kept (fun _ => False) W0 W) (by kernel_rfl) ?_
                    change wpAnyH _ _ _ _ _ _ _ _ (World.drew _)
                    refine takeZ (i := 0) (d := 75) (v := .slice (some ⟨g2, 0, none⟩) (nq + 80) c2) rfl rfl (by kernel_rfl) (by kernel_rfl) (by kernel_rfl) (fun _ _ _ h => h) (Or.inl ⟨by rfl, fun W hW => ?_⟩) HD1 ?_
                    · go_simp
                    simp only [Act.put, List.setIfInBounds_toArray, List.set_cons_zero, List.set_cons_succ]
                    refine takeZ (i := 1) (d := 76) (v := .int .i64 s) rfl rfl (by kernel_rfl) (by kernel_rfl) (by kernel_rfl) (fun _ _ _ h => h) (Or.inl ⟨by rfl, fun W hW => ?_⟩) HD1 ?_
                    · go_simp
                    simp only [Act.put, List.setIfInBounds_toArray, List.set_cons_zero, List.set_cons_succ]
                    refine takeZ (i := 2) (d := 77) (v := .pointer (some ⟨g2, s, none⟩)) rfl rfl (by kernel_rfl) (by kernel_rfl) (by kernel_rfl) (fun _ _ _ h => h) (Or.inl ⟨by rfl, fun W hW => ?_⟩) HD1 ?_
                    · go_simp
                    simp only [Act.put, List.setIfInBounds_toArray, List.set_cons_zero, List.set_cons_succ]
                    refine takeZ (i := 3) (d := 78) (v := .int .i64 z) rfl rfl (by kernel_rfl) (by kernel_rfl) (by kernel_rfl) (fun _ _ _ h => h) (Or.inl ⟨by rfl, fun W hW => ?_⟩) HD1 ?_
                    · (obtain ⟨w1, w2, w3⟩ := YY.out W hW; go_simp)
                    simp only [Act.put, List.setIfInBounds_toArray, List.set_cons_zero, List.set_cons_succ]
                    refine takeZ (i := 4) (d := 79) (v := .int .i64 q) rfl rfl (by kernel_rfl) (by kernel_rfl) (by kernel_rfl) (fun _ _ _ h => h) (Or.inl ⟨by rfl, fun W hW => ?_⟩) HD1 ?_
                    · go_simp
                    simp only [Act.put, List.setIfInBounds_toArray, List.set_cons_zero, List.set_cons_succ]
                    refine takeZ (i := 5) (d := 80) (v := .int .i64 s) rfl rfl (by kernel_rfl) (by kernel_rfl) (by kernel_rfl) (fun _ _ _ h => h) (Or.inl ⟨by rfl, fun W hW => ?_⟩) HD1 ?_
                    · go_simp
                    simp only [Act.put, List.setIfInBounds_toArray, List.set_cons_zero, List.set_cons_succ]
                    refine wpAnyH_all (rs := [6]) (by kernel_rfl) (by simp) ?_
                    intro i hi
                    obtain rfl : i = 6 := by simpa using hi
                    unfold wpOp
                    go_simp
                    first | refine (MC.out _).mono ?_ | refine Or.inl ((MC.out _).mono ?_)
                    rintro e W5 ⟨rfl, e5⟩
                    subst e5
                    refine ⟨HD1, ?_⟩
                    refine takeZ (i := 7) (d := 82) (v := .bool false) rfl rfl (by kernel_rfl) (by kernel_rfl) (by kernel_rfl) (fun _ _ _ h => h) (Or.inl ⟨by rfl, fun W hW => ?_⟩) HD1 ?_
                    · go_simp
                    simp only [Act.put, List.setIfInBounds_toArray, List.set_cons_zero, List.set_cons_succ]
                    refine wpAnyH_done (by kernel_rfl) ?_ _
                    go_wp2
                    refine wp_region_held (S := fun W => Kept (fun _ => False) W0 W) (by kernel_rfl) ?_
                    change wpAnyH _ _ _ _ _ _ _ _ (World.drew _)
                    refine takeZ (i := 0) (d := 83) (v := .int .i64 s) rfl rfl (by kernel_rfl) (by kernel_rfl) (by kernel_rfl) (fun _ _ _ h => h) (Or.inl ⟨by rfl, fun W hW => ?_⟩) HD ?_
                    · go_simp
                    simp only [Act.put, List.setIfInBounds_toArray, List.set_cons_zero, List.set_cons_succ]
                    refine takeZ (i := 1) (d := 84) (v := .slice (some ⟨b, off, none⟩) N c) rfl rfl (by kernel_rfl) (by kernel_rfl) (by kernel_rfl) (fun _ _ _ h => h) (Or.inl ⟨by rfl, fun W hW => ?_⟩) HD ?_
                    · go_simp
                    simp only [Act.put, List.setIfInBounds_toArray, List.set_cons_zero, List.set_cons_succ]
                    refine takeZ (i := 2) (d := 85) (v := .int .i64 q) rfl rfl (by kernel_rfl) (by kernel_rfl) (by kernel_rfl) (fun _ _ _ h => h) (Or.inl ⟨by rfl, fun W hW => ?_⟩) HD ?_
                    · go_simp
                    simp only [Act.put, List.setIfInBounds_toArray, List.set_cons_zero, List.set_cons_succ]
                    refine takeZ (i := 3) (d := 86) (v := .pointer (some ⟨b, off + q, none⟩)) rfl rfl (by kernel_rfl) (by kernel_rfl) (by kernel_rfl) (fun _ _ _ h => h) (Or.inl ⟨by rfl, fun W hW => ?_⟩) HD ?_
                    · go_simp
                    simp only [Act.put, List.setIfInBounds_toArray, List.set_cons_zero, List.set_cons_succ]
                    refine takeZ (i := 4) (d := 87) (v := .slice (some ⟨g1, 0, none⟩) nq c1) rfl rfl (by kernel_rfl) (by kernel_rfl) (by kernel_rfl) (fun _ _ _ h => h) (Or.inl ⟨by rfl, fun W hW => ?_⟩) HD ?_
                    · (obtain ⟨w1, w2, w3⟩ := YY.out W hW; go_simp)
                    simp only [Act.put, List.setIfInBounds_toArray, List.set_cons_zero, List.set_cons_succ]
                    refine takeZ (i := 5) (d := 88) (v := .int .i64 nq) rfl rfl (by kernel_rfl) (by kernel_rfl) (by kernel_rfl) (fun _ _ _ h => h) (Or.inl ⟨by rfl, fun W hW => ?_⟩) HD ?_
                    · go_simp
                    simp only [Act.put, List.setIfInBounds_toArray, List.set_cons_zero, List.set_cons_succ]
                    refine takeZ (i := 6) (d := 89) (v := .bool true) rfl rfl (by kernel_rfl) (by kernel_rfl) (by kernel_rfl) (fun _ _ _ h => h) (Or.inl ⟨by rfl, fun W hW => ?_⟩) HD ?_
                    · go_simp
                    simp only [Act.put, List.setIfInBounds_toArray, List.set_cons_zero, List.set_cons_succ]
                    refine takeZ (i := 7) (d := 90) (v := .bool true) rfl rfl (by kernel_rfl) (by kernel_rfl) (by kernel_rfl) (fun _ _ _ h => h) (Or.inl ⟨by rfl, fun W hW => ?_⟩) HD ?_
                    · go_simp
                    simp only [Act.put, List.setIfInBounds_toArray, List.set_cons_zero, List.set_cons_succ]
                    refine takeZ (i := 8) (d := 91) (v := .slice (some ⟨b, off, none⟩) N c) rfl rfl (by kernel_rfl) (by kernel_rfl) (by kernel_rfl) (fun _ _ _ h => h) (Or.inl ⟨by rfl, fun W hW => ?_⟩) HD ?_
                    · go_simp
                    simp only [Act.put, List.setIfInBounds_toArray, List.set_cons_zero, List.set_cons_succ]
                    refine takeZ (i := 9) (d := 92) (v := .int .i64 q) rfl rfl (by kernel_rfl) (by kernel_rfl) (by kernel_rfl) (fun _ _ _ h => h) (Or.inl ⟨by rfl, fun W hW => ?_⟩) HD ?_
                    · go_simp
                    simp only [Act.put, List.setIfInBounds_toArray, List.set_cons_zero, List.set_cons_succ]
                    refine takeZ (i := 10) (d := 93) (v := .pointer (some ⟨b, off + q, none⟩)) rfl rfl (by kernel_rfl) (by kernel_rfl) (by kernel_rfl) (fun _ _ _ h => h) (Or.inl ⟨by rfl, fun W hW => ?_⟩) HD ?_
                    · go_simp
                    simp only [Act.put, List.setIfInBounds_toArray, List.set_cons_zero, List.set_cons_succ]
                    refine takeZ (i := 11) (d := 94) (v := .slice (some ⟨g1, 0, none⟩) nq c1) rfl rfl (by kernel_rfl) (by kernel_rfl) (by kernel_rfl) (fun _ _ _ h => h) (Or.inl ⟨by rfl, fun W hW => ?_⟩) HD ?_
                    · (obtain ⟨w1, w2, w3⟩ := YY.out W hW; go_simp)
                    simp only [Act.put, List.setIfInBounds_toArray, List.set_cons_zero, List.set_cons_succ]
                    refine takeZ (i := 12) (d := 95) (v := .int .i64 s) rfl rfl (by kernel_rfl) (by kernel_rfl) (by kernel_rfl) (fun _ _ _ h => h) (Or.inl ⟨by rfl, fun W hW => ?_⟩) HD ?_
                    · go_simp
                    simp only [Act.put, List.setIfInBounds_toArray, List.set_cons_zero, List.set_cons_succ]
                    refine takeZ (i := 13) (d := 96) (v := .pointer (some ⟨g1, s, none⟩)) rfl rfl (by kernel_rfl) (by kernel_rfl) (by kernel_rfl) (fun _ _ _ h => h) (Or.inl ⟨by rfl, fun W hW => ?_⟩) HD ?_
                    · go_simp
                    simp only [Act.put, List.setIfInBounds_toArray, List.set_cons_zero, List.set_cons_succ]
                    refine takeZ (i := 14) (d := 97) (v := .int .i64 z) rfl rfl (by kernel_rfl) (by kernel_rfl) (by kernel_rfl) (fun _ _ _ h => h) (Or.inl ⟨by rfl, fun W hW => ?_⟩) HD ?_
                    · (obtain ⟨w1, w2, w3⟩ := YY.out W hW; go_simp)
                    simp only [Act.put, List.setIfInBounds_toArray, List.set_cons_zero, List.set_cons_succ]
                    refine takeZ (i := 15) (d := 98) (v := .slice (some ⟨g2, 0, none⟩) (nq + 80) c2) rfl rfl (by kernel_rfl) (by kernel_rfl) (by kernel_rfl) (fun _ _ _ h => h) (Or.inl ⟨by rfl, fun W hW => ?_⟩) HD ?_
                    · go_simp
                    simp only [Act.put, List.setIfInBounds_toArray, List.set_cons_zero, List.set_cons_succ]
                    refine takeZ (i := 16) (d := 99) (v := .int .i64 s) rfl rfl (by kernel_rfl) (by kernel_rfl) (by kernel_rfl) (fun _ _ _ h => h) (Or.inl ⟨by rfl, fun W hW => ?_⟩) HD ?_
                    · go_simp
                    simp only [Act.put, List.setIfInBounds_toArray, List.set_cons_zero, List.set_cons_succ]
                    refine takeZ (i := 17) (d := 100) (v := .pointer (some ⟨g2, s, none⟩)) rfl rfl (by kernel_rfl) (by kernel_rfl) (by kernel_rfl) (fun _ _ _ h => h) (Or.inl ⟨by rfl, fun W hW => ?_⟩) HD ?_
                    · go_simp
                    simp only [Act.put, List.setIfInBounds_toArray, List.set_cons_zero, List.set_cons_succ]
                    refine takeZ (i := 18) (d := 101) (v := .int .i64 z) rfl rfl (by kernel_rfl) (by kernel_rfl) (by kernel_rfl) (fun _ _ _ h => h) (Or.inl ⟨by rfl, fun W hW => ?_⟩) HD ?_
                    · (obtain ⟨w1, w2, w3⟩ := YY.out W hW; go_simp)
                    simp only [Act.put, List.setIfInBounds_toArray, List.set_cons_zero, List.set_cons_succ]
                    refine takeZ (i := 19) (d := 102) (v := .bool false) rfl rfl (by kernel_rfl) (by kernel_rfl) (by kernel_rfl) (fun _ _ _ h => h) (Or.inl ⟨by rfl, fun W hW => ?_⟩) HD ?_
                    · go_simp
                    simp only [Act.put, List.setIfInBounds_toArray, List.set_cons_zero, List.set_cons_succ]
                    refine takeZ (i := 20) (d := 103) (v := .bool false) rfl rfl (by kernel_rfl) (by kernel_rfl) (by kernel_rfl) (fun _ _ _ h => h) (Or.inl ⟨by rfl, fun W hW => ?_⟩) HD ?_
                    · go_simp
                    simp only [Act.put, List.setIfInBounds_toArray, List.set_cons_zero, List.set_cons_succ]
                    refine wpAnyH_done (by kernel_rfl) ?_ _
                    go_wp2
                    go_roundw
                    case rel => exact ⟨s + 1, by omega, by go_num, HD⟩
                    case measure => simp [intOf]; omega
                  · have YY : Hid (∀ W, Kept (fun _ => False) W0 W → W.cell? ⟨b, off + q, none⟩ = some (.slice a1 nq c1) ∧ W.cell? ⟨g2, s, none⟩ = some (.int .i64 z)) := fun W kk => ⟨(YA W kk).1, (YA W kk).2.1⟩
                    have i6 : ¬ ((s : Int) < (nq : Int)) := by omega
                    clear YA HXX RD FIN HM
                    go_wp2
                    refine wp_region_held (S := fun W => Kept (fun _ => False) W0 W) (by kernel_rfl) ?_
                    change wpAnyH _ _ _ _ _ _ _ _ (World.drew _)
                    refine takeZ (i := 0) (d := 75) (v := .slice (some ⟨g2, 0, none⟩) (nq + 80) c2) rfl rfl (by kernel_rfl) (by kernel_rfl) (by kernel_rfl) (fun _ _ _ h => h) (Or.inl ⟨by rfl, fun W hW => ?_⟩) HD1 ?_
                    · go_simp
                    simp only [Act.put, List.setIfInBounds_toArray, List.set_cons_zero, List.set_cons_succ]
                    refine takeZ (i := 1) (d := 76) (v := .int .i64 s) rfl rfl (by kernel_rfl) (by kernel_rfl) (by kernel_rfl) (fun _ _ _ h => h) (Or.inl ⟨by rfl, fun W hW => ?_⟩) HD1 ?_
                    · go_simp
                    simp only [Act.put, List.setIfInBounds_toArray, List.set_cons_zero, List.set_cons_succ]
                    refine takeZ (i := 2) (d := 77) (v := .pointer (some ⟨g2, s, none⟩)) rfl rfl (by kernel_rfl) (by kernel_rfl) (by kernel_rfl) (fun _ _ _ h => h) (Or.inl ⟨by rfl, fun W hW => ?_⟩) HD1 ?_
                    · go_simp
                    simp only [Act.put, List.setIfInBounds_toArray, List.set_cons_zero, List.set_cons_succ]
                    refine takeZ (i := 3) (d := 78) (v := .int .i64 z) rfl rfl (by kernel_rfl) (by kernel_rfl) (by kernel_rfl) (fun _ _ _ h => h) (Or.inl ⟨by rfl, fun W hW => ?_⟩) HD1 ?_
                    · (obtain ⟨w1, w2⟩ := YY.out W hW; go_simp)
                    simp only [Act.put, List.setIfInBounds_toArray, List.set_cons_zero, List.set_cons_succ]
                    refine takeZ (i := 4) (d := 79) (v := .int .i64 q) rfl rfl (by kernel_rfl) (by kernel_rfl) (by kernel_rfl) (fun _ _ _ h => h) (Or.inl ⟨by rfl, fun W hW => ?_⟩) HD1 ?_
                    · go_simp
                    simp only [Act.put, List.setIfInBounds_toArray, List.set_cons_zero, List.set_cons_succ]
                    refine takeZ (i := 5) (d := 80) (v := .int .i64 s) rfl rfl (by kernel_rfl) (by kernel_rfl) (by kernel_rfl) (fun _ _ _ h => h) (Or.inl ⟨by rfl, fun W hW => ?_⟩) HD1 ?_
                    · go_simp
                    simp only [Act.put, List.setIfInBounds_toArray, List.set_cons_zero, List.set_cons_succ]
                    refine wpAnyH_all (rs := [6]) (by kernel_rfl) (by simp) ?_
                    intro i hi
                    obtain rfl : i = 6 := by simpa using hi
                    unfold wpOp
                    go_simp
                    first | refine (MC.out _).mono ?_ | refine Or.inl ((MC.out _).mono ?_)
                    rintro e W5 ⟨rfl, e5⟩
                    subst e5
                    refine ⟨HD1, ?_⟩
                    refine takeZ (i := 7) (d := 82) (v := .bool false) rfl rfl (by kernel_rfl) (by kernel_rfl) (by kernel_rfl) (fun _ _ _ h => h) (Or.inl ⟨by rfl, fun W hW => ?_⟩) HD1 ?_
                    · go_simp
                    simp only [Act.put, List.setIfInBounds_toArray, List.set_cons_zero, List.set_cons_succ]
                    refine wpAnyH_done (by kernel_rfl) ?_ _
                    go_wp2
                    refine wp_region_held (S := fun W => Kept (fun _ => False) W0 W) (by kernel_rfl) ?_
                    change wpAnyH _ _ _ _ _ _ _ _ (World.drew _)
                    refine takeZ (i := 0) (d := 83) (v := .int .i64 s) rfl rfl (by kernel_rfl) (by kernel_rfl) (by kernel_rfl) (fun _ _ _ h => h) (Or.inl ⟨by rfl, fun W hW => ?_⟩) HD ?_
                    · go_simp
                    simp only [Act.put, List.setIfInBounds_toArray, List.set_cons_zero, List.set_cons_succ]
                    refine takeZ (i := 1) (d := 84) (v := .slice (some ⟨b, off, none⟩) N c) rfl rfl (by kernel_rfl) (by kernel_rfl) (by kernel_rfl) (fun _ _ _ h => h) (Or.inl ⟨by rfl, fun W hW => ?_⟩) HD ?_
                    · go_simp
                    simp only [Act.put, List.setIfInBounds_toArray, List.set_cons_zero, List.set_cons_succ]
                    refine takeZ (i := 2) (d := 85) (v := .int .i64 q) rfl rfl (by kernel_rfl) (by kernel_rfl) (by kernel_rfl) (fun _ _ _ h => h) (Or.inl ⟨by rfl, fun W hW => ?_⟩) HD ?_
                    · go_simp
                    simp only [Act.put, List.setIfInBounds_toArray, List.set_cons_zero, List.set_cons_succ]
                    refine takeZ (i := 3) (d := 86) (v := .pointer (some ⟨b, off + q, none⟩)) rfl rfl (by kernel_rfl) (by kernel_rfl) (by kernel_rfl) (fun _ _ _ h => h) (Or.inl ⟨by rfl, fun W hW => ?_⟩) HD ?_
                    · go_simp
                    simp only [Act.put, List.setIfInBounds_toArray, List.set_cons_zero, List.set_cons_succ]
                    refine takeZ (i := 4) (d := 87) (v := .slice a1 nq c1) rfl rfl (by kernel_rfl) (by kernel_rfl) (by kernel_rfl) (fun _ _ _ h => h) (Or.inl ⟨by rfl, fun W hW => ?_⟩) HD ?_
                    · (obtain ⟨w1, w2⟩ := YY.out W hW; go_simp)
                    simp only [Act.put, List.setIfInBounds_toArray, List.set_cons_zero, List.set_cons_succ]
                    refine takeZ (i := 5) (d := 88) (v := .int .i64 nq) rfl rfl (by kernel_rfl) (by kernel_rfl) (by kernel_rfl) (fun _ _ _ h => h) (Or.inl ⟨by rfl, fun W hW => ?_⟩) HD ?_
                    · go_simp
                    simp only [Act.put, List.setIfInBounds_toArray, List.set_cons_zero, List.set_cons_succ]
                    refine takeZ (i := 6) (d := 89) (v := .bool false) rfl rfl (by kernel_rfl) (by kernel_rfl) (by kernel_rfl) (fun _ _ _ h => h) (Or.inl ⟨by rfl, fun W hW => ?_⟩) HD ?_
                    · go_simp
                    simp only [Act.put, List.setIfInBounds_toArray, List.set_cons_zero, List.set_cons_succ]
                    refine takeZ (i := 7) (d := 90) (v := .bool false) rfl rfl (by kernel_rfl) (by kernel_rfl) (by kernel_rfl) (fun _ _ _ h => h) (Or.inl ⟨by rfl, fun W hW => ?_⟩) HD ?_
                    · go_simp
                    simp only [Act.put, List.setIfInBounds_toArray, List.set_cons_zero, List.set_cons_succ]
                    refine takeZ (i := 8) (d := 91) (v := undef) rfl rfl (by kernel_rfl) (by kernel_rfl) (by kernel_rfl) (fun _ _ _ h => h) (Or.inr ⟨by rfl, rfl⟩) HD ?_
                    simp only [Act.put, List.setIfInBounds_toArray, List.set_cons_zero, List.set_cons_succ]
                    refine takeZ (i := 9) (d := 92) (v := undef) rfl rfl (by kernel_rfl) (by kernel_rfl) (by kernel_rfl) (fun _ _ _ h => h) (Or.inr ⟨by rfl, rfl⟩) HD ?_
                    simp only [Act.put, List.setIfInBounds_toArray, List.set_cons_zero, List.set_cons_succ]
                    refine takeZ (i := 10) (d := 93) (v := undef) rfl rfl (by kernel_rfl) (by kernel_rfl) (by kernel_rfl) (fun _ _ _ h => h) (Or.inr ⟨by rfl, rfl⟩) HD ?_
                    simp only [Act.put, List.setIfInBounds_toArray, List.set_cons_zero, List.set_cons_succ]
                    refine takeZ (i := 11) (d := 94) (v := undef) rfl rfl (by kernel_rfl) (by kernel_rfl) (by kernel_rfl) (fun _ _ _ h => h) (Or.inr ⟨by rfl, rfl⟩) HD ?_
                    simp only [Act.put, List.setIfInBounds_toArray, List.set_cons_zero, List.set_cons_succ]
                    refine takeZ (i := 12) (d := 95) (v := undef) rfl rfl (by kernel_rfl) (by kernel_rfl) (by kernel_rfl) (fun _ _ _ h => h) (Or.inr ⟨by rfl, rfl⟩) HD ?_
                    simp only [Act.put, List.setIfInBounds_toArray, List.set_cons_zero, List.set_cons_succ]
                    refine takeZ (i := 13) (d := 96) (v := undef) rfl rfl (by kernel_rfl) (by kernel_rfl) (by kernel_rfl) (fun _ _ _ h => h) (Or.inr ⟨by rfl, rfl⟩) HD ?_
                    simp only [Act.put, List.setIfInBounds_toArray, List.set_cons_zero, List.set_cons_succ]
                    refine takeZ (i := 14) (d := 97) (v := undef) rfl rfl (by kernel_rfl) (by kernel_rfl) (by kernel_rfl) (fun _ _ _ h => h) (Or.inr ⟨by rfl, rfl⟩) HD ?_
                    simp only [Act.put, List.setIfInBounds_toArray, List.set_cons_zero, List.set_cons_succ]
                    refine takeZ (i := 15) (d := 98) (v := undef) rfl rfl (by kernel_rfl) (by kernel_rfl) (by kernel_rfl) (fun _ _ _ h => h) (Or.inr ⟨by rfl, rfl⟩) HD ?_
                    simp only [Act.put, List.setIfInBounds_toArray, List.set_cons_zero, List.set_cons_succ]
                    refine takeZ (i := 16) (d := 99) (v := undef) rfl rfl (by kernel_rfl) (by kernel_rfl) (by kernel_rfl) (fun _ _ _ h => h) (Or.inr ⟨by rfl, rfl⟩) HD ?_
                    simp only [Act.put, List.setIfInBounds_toArray, List.set_cons_zero, List.set_cons_succ]
                    refine takeZ (i := 17) (d := 100) (v := undef) rfl rfl (by kernel_rfl) (by kernel_rfl) (by kernel_rfl) (fun _ _ _ h => h) (Or.inr ⟨by rfl, rfl⟩) HD ?_
                    simp only [Act.put, List.setIfInBounds_toArray, List.set_cons_zero, List.set_cons_succ]
                    refine takeZ (i := 18) (d := 101) (v := undef) rfl rfl (by kernel_rfl) (by kernel_rfl) (by kernel_rfl) (fun _ _ _ h => h) (Or.inr ⟨by rfl, rfl⟩) HD ?_
                    simp only [Act.put, List.setIfInBounds_toArray, List.set_cons_zero, List.set_cons_succ]
                    refine takeZ (i := 19) (d := 102) (v := undef) rfl rfl (by kernel_rfl) (by kernel_rfl) (by kernel_rfl) (fun _ _ _ h => h) (Or.inr ⟨by rfl, rfl⟩) HD ?_
                    simp only [Act.put, List.setIfInBounds_toArray, List.set_cons_zero, List.set_cons_succ]
                    refine takeZ (i := 20) (d := 103) (v := .bool false) rfl rfl (by kernel_rfl) (by kernel_rfl) (by kernel_rfl) (fun _ _ _ h => h) (Or.inl ⟨by rfl, fun W hW => ?_⟩) HD ?_
                    · go_simp
                    simp only [Act.put, List.setIfInBounds_toArray, List.set_cons_zero, List.set_cons_succ]
                    refine wpAnyH_done (by kernel_rfl) ?_ _
                    go_wp2
                    go_roundw
                    case rel => exact ⟨s + 1, by omega, by go_num, HD⟩
                    case measure => simp [intOf]; omega
                · have hse : s = nq + 80 := by omega
                  have i4 : ¬ ((s : Int) < ((nq + 80 : Nat) : Int)) := by omega
                  go_wp2
                  go_roundw
                  case rel => exact ⟨q + 1, by omega, by go_num, HS⟩
                  case measure => simp [intOf]; omega
            · have i3 : ¬ ((q : Int) < (N : Int)) := by omega
              have HF := hideP (FIN.out wr HQ.out)
              clear RD FIN
              go_wp2
              go_ret
              exact ⟨rfl, HF.out⟩
end Go.Proofs.YtidgofpmnlddaaaGreatDoor
