import Derived.Test.YthbfmgbielmaeaaDoorDce
namespace Go.Proofs.YthbfmgbielmaeaaDoor
open Go.ChangeShapes Go.WideShapes Go.ChangeAt Go.RowKit

theorem OwnB.cap {w W : World} {a : Option Addr} {n c : Nat} {xs : List Int} (h : OwnB w W (.slice a n c) xs) : n ≤ c := by
  rcases h.row.2 with ⟨e, _⟩ | ⟨g, cap, cur, e, _, _, hnc, _⟩
  · simp only [Value.slice.injEq] at e; omega
  · simp only [Value.slice.injEq] at e; omega
set_option maxHeartbeats 2000000 in
theorem there_zero (l : List Int) (a : Option Addr) (c : Nat) (v : Value) (w : World) (hT : TabAt w) {a0 a1 a2 a3 a4 a5 a6 : Addr} (hE : Errs7 w a0 a1 a2 a3 a4 a5 a6) :
    Calls Tryd.prog 5 #[.int .u8 0, .slice a l.length c, v] w fun e w' => e = .returned (.bool true) ∧ Kept (fun _ => False) w w' := by
  have LV : Hid (Calls Tryd.prog 9 #[] w fun e W => e = .returned (.bool true) ∧ Hid (Kept (fun _ => False) w W)) := (lives2_any w hT).mono fun e W q => ⟨q.1, q.2⟩
  have EZ : Hid (∀ W, Hid (Kept (fun _ => False) w W) → Calls Tryd.prog 10 #[.int .u8 0, .slice a l.length c] W fun e W' => e = .returned (.tuple #[.slice none 0 0, .iface 98 (.pointer (some a5))]) ∧ Hid (Kept (fun _ => False) w W')) := by
    intro W q
    refine (encode_zero _ a5 W (hE.kept q.out).s5.var).mono ?_
    rintro e W' ⟨rfl, n, rfl⟩
    exact ⟨rfl, q.out.trans (Kept.drewN W n) (fun _ f => f.elim)⟩
  have NT : Hid (∀ W, Hid (Kept (fun _ => False) w W) → Calls Tryd.prog 12 #[.iface 98 (.pointer (some a5))] W fun e W' => e = .returned (.int .i64 6) ∧ W' = W) := fun W q => num_tag (hE.kept q.out)
  clear hT hE
  go_enter Tryd.func5, Tryd.ntmps5
  go_wp2_with (first | (go_at_call 9; refine LV.out.mono ?_; rintro e W2 ⟨rfl, K2⟩) | (go_at_call 10; refine (EZ.out W2 K2).mono ?_; rintro e W3 ⟨rfl, K3⟩) | (go_at_call 12; refine (NT.out W3 K3).mono ?_; rintro e W3 ⟨rfl, e2⟩; subst e2))
  go_ret
  exact ⟨rfl, K3.out⟩
set_option maxRecDepth 20000 in
set_option maxHeartbeats 4000000 in
theorem there_walk (tag : Nat) (l R : List Int) (a b : Option Addr) (c d : Nat) (w : World) (ht0 : 0 < tag) (ht2 : tag < 256) (hA : BytesAt w a l) (hR : BytesAt w b R) (bA : IsBytes l) (bR : IsBytes R) (zA : a = none → c = 0) (zR : b = none → d = 0) (lA : l.length ≤ 1099511627776) (lR : R.length ≤ 1099511627776) (cR : R.length ≤ d) (hT : TabAt w) {a0 a1 a2 a3 a4 a5 a6 : Addr} (hE : Errs7 w a0 a1 a2 a3 a4 a5 a6) :
    Calls Tryd.prog 5 #[.int .u8 tag, .slice a l.length c, .slice b R.length d] w fun e w' => e = .returned (.bool true) ∧ Kept (fun _ => False) w w' := by
  have LV : Hid (Calls Tryd.prog 9 #[] w fun e W => e = .returned (.bool true) ∧ Hid (Kept (fun _ => False) w W)) := (lives2_any w hT).mono fun e W q => ⟨q.1, q.2⟩
  have hlE := benc_length tag l
  have hul := ulen_le l.length (by omega)
  obtain ⟨E, hEE⟩ : ∃ E, E = benc tag l := ⟨_, rfl⟩
  have bE : IsBytes E := by rw [hEE, benc]; exact fun x hx => (List.mem_append.1 hx).elim (bhead_bytes (by omega) (by omega) bA x) (le_bytes _ _ x)
  obtain ⟨X, hX⟩ : ∃ X, X = E ++ R := ⟨_, rfl⟩
  have bX : IsBytes X := by rw [hX]; exact fun x hx => (List.mem_append.1 hx).elim (bE x) (bR x)
  have hdX : decR X = .ok ((tag : Int), l, E.length) := by rw [hX, hEE]; exact dec_enc tag l R ht0 (by omega)
  have hlX : X.length = E.length + R.length := by rw [hX, List.length_append]
  rw [← hEE] at hlE
  have EN : Hid (∀ W, Hid (Kept (fun _ => False) w W) → Calls Tryd.prog 10 #[.int .u8 tag, .slice a l.length c] W fun e W' => ∃ g, e = .returned (.tuple #[.slice (some ⟨g, 0, none⟩) E.length E.length, .nilIface]) ∧ Hid (BytesAt W' (some ⟨g, 0, none⟩) E ∧ Kept (fun _ => False) w W')) := by
    intro W q
    rw [hEE]
    refine (encode_any tag l a c W ht0 ht2 (bytes_keptF hA q.out) bA zA (by omega) (hT.kept q.out)).mono ?_
    rintro e W' ⟨g, rfl, _, h2, h3⟩
    exact ⟨g, rfl, (own_bytesF h2).1, q.out.trans h3 (fun _ f => f.elim)⟩
  obtain ⟨st, hst⟩ : ∃ st, st = strOfNums l := ⟨_, rfl⟩
  have D1 : Hid (∀ W0 W a5' c5', Hid (Kept (fun _ => False) w W0) → Hid (OwnB W0 W (.slice a5' X.length c5') X) → Calls Tryd.prog 13 #[.slice a5' X.length c5'] W fun e W' => ∃ a' c', e = .returned (.tuple #[.agg #[.int .u8 tag, .slice a' l.length c'], .int .i64 (E.length : Nat), .nilIface]) ∧ (∀ o, (convert 22 9 (.slice a' l.length c')).run Tryd.prog (W'.alloc o) = .ok (.string st) (W'.alloc o) ∧ (convert 22 9 (.slice a l.length c)).run Tryd.prog (W'.alloc o) = .ok (.string st) (W'.alloc o)) ∧ Hid (Kept (fun _ => False) w W')) := by
    intro W0 W a5' c5' k0 q
    have kw := k0.out.trans q.out.kept (fun _ f => f.elim)
    obtain ⟨a2', c2', e2, hb2, _⟩ := q.out.at
    simp only [Value.slice.injEq] at e2
    obtain ⟨rfl, _, rfl⟩ := e2
    refine (decode_any X a5' X.length c5' W rfl hb2 bX q.out.cap (by omega) (hT.kept kw) (hE.kept kw)).mono ?_
    rw [hdX]
    rintro e W' ⟨a', c', rfl, ho⟩
    refine ⟨a', c', rfl, fun o => ?_, kw.trans ho.kept (fun _ f => f.elim)⟩
    obtain ⟨a3', c3', e3, hb3, _⟩ := ho.at
    simp only [Value.slice.injEq] at e3
    obtain ⟨rfl, _, rfl⟩ := e3
    rw [hst]
    exact ⟨conv_atF (bytes_keptF hb3 (Kept.alloc W' o)), conv_atF (bytes_keptF hA ((kw.trans ho.kept (fun _ f => f.elim)).trans (Kept.alloc W' o) (fun _ f => f.elim)))⟩
  have D2 : Hid (∀ W o, Hid (Kept (fun _ => False) w W) → Calls Tryd.prog 13 #[.slice b R.length d] (W.alloc o) fun e W' => DecPost (W.alloc o) a0 a1 a5 a6 e W' (decR R)) := by
    intro W o k
    have kw := k.out.trans (Kept.alloc W o) (fun _ f => f.elim)
    exact decode_any R b R.length d _ rfl (bytes_keptF hR kw) bR cR (by omega) (hT.kept kw) (hE.kept kw)
  have OL := hideC hA
  have OR := hideC hR
  have ZR := hideC zR
  obtain ⟨nE, hnE⟩ : ∃ n, n = E.length := ⟨_, rfl⟩
  obtain ⟨nX, hnX⟩ : ∃ n, n = X.length := ⟨_, rfl⟩
  obtain ⟨nl, hnl⟩ : ∃ n, n = l.length := ⟨_, rfl⟩
  have NE := hideC hnE
  have NX := hideC hnX
  have YE : Hid (E = [] ++ E) := rfl
  have YX := hideC hX
  have LE : Hid (E.length ≤ 140737488355328) := by show E.length ≤ _; omega
  have LX : Hid (X.length ≤ 140737488355328) := by show X.length ≤ _; omega
  have ZE : ∀ g : Nat, Hid ((some ⟨g, 0, none⟩ : Option Addr) = none → nE = 0) := fun g e => nomatch e
  have h6 : (nl : Int) + 6 ≤ (nE : Int) := by rw [hnE, hnl]; omega
  have h6' : ¬ ((nE : Int) < (nl : Int) + 6) := by omega
  have hbn : nl ≤ 1099511627776 := by omega
  have hbE : nE ≤ 140737488355328 := by omega
  cases hd : decR R with
  | error er =>
    rw [hd] at D2
    obtain ⟨ad, had⟩ : ∃ ad, erD a0 a1 a5 a6 er = .iface 98 (.pointer (some ad)) := by unfold erD erB errOf errV; split; exact ⟨_, rfl⟩; split; exact ⟨_, rfl⟩; split <;> exact ⟨_, rfl⟩
    have D3 : Hid (∀ W o, Hid (Kept (fun _ => False) w W) → Calls Tryd.prog 13 #[.slice b R.length d] (W.alloc o) fun e W' => e = .returned (.tuple #[.agg #[.int .u8 0, .slice none 0 0], .int .i64 0, .iface 98 (.pointer (some ad))]) ∧ Hid (Kept (fun _ => False) w W')) := by
      intro W o k
      refine (D2.out W o k).mono ?_
      rintro e W' ⟨rfl, k'⟩
      rw [had]
      exact ⟨rfl, (k.out.trans (Kept.alloc W o) (fun _ f => f.elim)).trans k' (fun _ f => f.elim)⟩
    obtain ⟨nR, hnR⟩ : ∃ n, n = R.length := ⟨_, rfl⟩
    have NR := hideC hnR
    rw [← hnR] at D3 lR cR ⊢
    rw [← hnl] at EN D1 ⊢
    rw [← hnE] at EN D1
    rw [← hnX] at D1
    clear hT hE hA hR bA bR zA zR hd had D2 hnE hnX hnl hnR hX hEE bE bX hdX hlX hlE hul hst lA
    go_enter Tryd.func5, Tryd.ntmps5
    go_wp2_with (first
      | (go_at_call 9; refine LV.out.mono ?_; rintro e W2 ⟨rfl, K2⟩)
      | (go_at_call 10; refine (EN.out W2 K2).mono ?_; rintro e W3 ⟨g, rfl, K3⟩; have P1 := hideC (ownB_empty W3); have Q1 := hideC (bytes_keptF K3.out.1 (Kept.alloc W3 (.cells #[] 5))))
      | (at_builtin; refine wpList_apn rfl _ _ rfl _ [] E E nE nE rfl (some ⟨g, 0, none⟩) nE rfl NE YE NE P1 Q1 (ZE g) LE ?_; clear P1; intro a4 c4 W4 P2; have Q2 := hideC (bytes_keptF OR.out (K3.out.2.trans P2.out.kept (fun _ f => f.elim))))
      | (at_builtin; refine wpList_apn rfl _ _ rfl _ E R X nR nX rfl b d rfl NR YX NX P2 Q2 ZR LX ?_; clear P2; intro a5' c5' W5 P5)
      | (go_at_call 13; refine (D1.out W3 W5 a5' c5' (hideC K3.out.2) P5).mono ?_; clear D1; rintro e W6 ⟨a6', c6', rfl, x6, K6⟩; have x7 := fun o => (x6 o).1; have x8 := fun o => (x6 o).2; clear x6)
      | (go_at_call 13; refine (D3.out W6 _ K6).mono ?_; rintro e W7 ⟨rfl, K7⟩))
    go_ret
    exact ⟨rfl, K7.out.trans (Kept.alloc _ _) (fun _ f => f.elim)⟩
  | ok tbm =>
    obtain ⟨t, body, m⟩ := tbm
    rw [hd] at D2
    obtain ⟨⟨tag2, rfl, q1, q2, q3⟩, q4, q5, q6⟩ := enc_dec bR hd
    have hRne : R ≠ [] := by
      intro e
      have h1 := benc_length tag2 body
      rw [q3, e] at h1
      simp at h1
      omega
    obtain ⟨bb, oo, rfl, _⟩ := hR hRne
    have hml : (R.take m).length = m := by rw [List.length_take]; omega
    obtain ⟨st2, hst2⟩ : ∃ st, st = strOfNums (R.take m) := ⟨_, rfl⟩
    have D3 : Hid (∀ W o, Hid (Kept (fun _ => False) w W) → Calls Tryd.prog 13 #[.slice (some ⟨bb, oo, none⟩) R.length d] (W.alloc o) fun e W' => ∃ a' c', e = .returned (.tuple #[.agg #[.int .u8 tag2, .slice a' body.length c'], .int .i64 m, .nilIface]) ∧ Hid ((BytesAt W' a' body ∧ (a' = none → c' = 0)) ∧ Kept (fun _ => False) w W')) := by
      intro W o k
      refine (D2.out W o k).mono ?_
      rintro e W' ⟨a', c', rfl, ho⟩
      obtain ⟨a3', c3', e3, hb3, hz3⟩ := ho.at
      simp only [Value.slice.injEq] at e3
      obtain ⟨rfl, _, rfl⟩ := e3
      exact ⟨a', c', rfl, ⟨hb3, hz3⟩, (k.out.trans (Kept.alloc W o) (fun _ f => f.elim)).trans ho.kept (fun _ f => f.elim)⟩
    have E2 : Hid (∀ W a' c' o, Hid ((BytesAt W a' body ∧ (a' = none → c' = 0)) ∧ Kept (fun _ => False) w W) → Calls Tryd.prog 10 #[.int .u8 tag2, .slice a' body.length c'] (W.alloc o) fun e W' => ∃ g, e = .returned (.tuple #[.slice (some ⟨g, 0, none⟩) m m, .nilIface]) ∧ ((∀ j, (convert 22 9 (.slice (some ⟨g, 0, none⟩) m m)).run Tryd.prog (W'.drewN j) = .ok (.string st2) (W'.drewN j)) ∧ (∀ j, (convert 22 9 (.slice (some ⟨bb, oo, none⟩) m d)).run Tryd.prog (W'.drewN j) = .ok (.string st2) (W'.drewN j))) ∧ Hid (Kept (fun _ => False) w W')) := by
      intro W a' c' o k
      have ka := Kept.alloc W o
      have kw := k.out.2.trans ka (fun _ f => f.elim)
      have r := encode_any tag2 body a' c' (W.alloc o) q1 q2 (bytes_keptF k.out.1.1 ka) q4 k.out.1.2 (by omega) (hT.kept kw)
      rw [q3, hml] at r
      refine r.mono ?_
      rintro e W' ⟨g, rfl, _, h2, h3⟩
      have hb' := (own_bytesF h2).1
      have kw' := kw.trans h3 (fun _ f => f.elim)
      refine ⟨g, rfl, ⟨fun j => ?_, fun j => ?_⟩, kw'⟩
      · have x := conv_atF (c := m) (bytes_keptF hb' (Kept.drewN W' j))
        rw [hml, ← hst2] at x
        exact x
      · have x := conv_atF (c := d) (bytes_take (bytes_keptF hR (kw'.trans (Kept.drewN W' j) (fun _ f => f.elim))) m)
        rw [hml, ← hst2] at x
        exact x
    obtain ⟨nR, hnR⟩ : ∃ n, n = R.length := ⟨_, rfl⟩
    obtain ⟨nb, hnb⟩ : ∃ n, n = body.length := ⟨_, rfl⟩
    have NR := hideC hnR
    rw [← hnR] at D3 lR cR q5 ⊢
    rw [← hnb] at D3 E2
    rw [← hnl] at EN D1 ⊢
    rw [← hnE] at EN D1
    rw [← hnX] at D1
    have f1 : (m : Int) ≤ (nR : Int) := by omega
    have f2 : m ≤ d := by omega
    have f3 : (m : Int) ≤ (d : Int) := by omega
    have f4 : ¬ ((d : Int) < (m : Int)) := by omega
    clear hT hE hA hR bA bR zA zR hd D2 hnE hnX hnl hnR hnb hX hEE bE bX hdX hlX hlE hul hst lA hst2 hml hRne q3 q4 q6 q1 q2
    go_enter Tryd.func5, Tryd.ntmps5
    go_wp2_with (first
      | (go_at_call 9; refine LV.out.mono ?_; rintro e W2 ⟨rfl, K2⟩)
      | (go_at_call 10; refine (EN.out W2 K2).mono ?_; clear EN; rintro e W3 ⟨g, rfl, K3⟩; have P1 := hideC (ownB_empty W3); have Q1 := hideC (bytes_keptF K3.out.1 (Kept.alloc W3 (.cells #[] 5))))
      | (at_builtin; refine wpList_apn rfl _ _ rfl _ [] E E nE nE rfl (some ⟨g, 0, none⟩) nE rfl NE YE NE P1 Q1 (ZE g) LE ?_; clear P1; intro a4 c4 W4 P2; have Q2 := hideC (bytes_keptF OR.out (K3.out.2.trans P2.out.kept (fun _ f => f.elim))))
      | (at_builtin; refine wpList_apn rfl _ _ rfl _ E R X nR nX rfl (some ⟨bb, oo, none⟩) d rfl NR YX NX P2 Q2 ZR LX ?_; clear P2; intro a5' c5' W5 P5)
      | (go_at_call 13; refine (D1.out W3 W5 a5' c5' (hideC K3.out.2) P5).mono ?_; clear D1; rintro e W6 ⟨a6', c6', rfl, x6, K6⟩; have x7 := fun o => (x6 o).1; have x8 := fun o => (x6 o).2; clear x6)
      | (go_at_call 13; refine (D3.out W6 _ K6).mono ?_; clear D3; rintro e W7 ⟨a7', c7', rfl, K7⟩)
      | (go_at_call 10; refine (E2.out W7 _ _ _ K7).mono ?_; clear E2; rintro e W8 ⟨g8, rfl, ⟨x9, x10⟩, K8⟩))
    go_quiet (fail)
    go_wp2
    go_ret
    exact ⟨by first | rfl | simp, K8.out.trans (Kept.drewN _ _) (fun _ f => f.elim)⟩
end Go.Proofs.YthbfmgbielmaeaaDoor
