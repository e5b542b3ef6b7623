import Derived.Test.YtildonmckcflmaaDoorMmg
namespace Go.Proofs.YtildonmckcflmaaDoor
open Go.ChangeShapes Go.WideShapes Go.ChangeAt Go.RowKit

set_option maxRecDepth 20000 in
set_option maxHeartbeats 1000000 in
theorem ownsBlock_zero (v : Value) (w : World) (hT : TabAt w) :
    Calls Tryd.prog 3 #[.int .u8 0, v] w fun e w' => e = .returned (.bool true) ∧ Kept (fun _ => False) w w' := by
  have LV : Hid (Calls Tryd.prog 5 #[] w fun e W => e = .returned (.bool true) ∧ Hid (Kept (fun _ => False) w W)) := (lives2_any w hT).mono fun e W q => ⟨q.1, q.2⟩
  clear hT
  go_enter Tryd.func3, Tryd.ntmps3
  go_wp2_with (go_at_call 5; refine LV.out.mono ?_; rintro e W2 ⟨rfl, K2⟩)
  go_ret
  exact ⟨rfl, K2.out⟩
theorem benc_bytes {tag : Nat} {l : List Int} (ht2 : tag < 256) (bA : IsBytes l) : IsBytes (benc tag l) := by
  rw [benc]; exact fun x hx => (List.mem_append.1 hx).elim (bhead_bytes (by omega) (by omega) bA x) (le_bytes _ _ x)
set_option maxRecDepth 20000 in
set_option maxHeartbeats 8000000 in
theorem ownsBlock_walk (mk : Nat → Nat → Int) (hmk : MarkIs mk) (tag : Nat) (l : List Int) (a : Option Addr) (c : Nat) (w : World) (ht0 : 0 < tag) (ht2 : tag < 256) (hA : BytesAt w a l) (bA : IsBytes l) (zA : a = none → c = 0) (lA : l.length ≤ 140737488351232) (hT : TabAt w) {a0 a1 a5 a6 : Addr} (hE : Errs4 w a0 a1 a5 a6) :
    Calls Tryd.prog 3 #[.int .u8 tag, .slice a l.length c] w fun e w' => e = .returned (.bool true) ∧ Kept (fun _ => False) w w' := by
  have LV : Hid (Calls Tryd.prog 5 #[] w fun e W => e = .returned (.bool true) ∧ Hid (Kept (fun _ => False) w W)) := (lives2_any w hT).mono fun e W q => ⟨q.1, q.2⟩
  obtain ⟨n, hn⟩ : ∃ n, n = l.length := ⟨_, rfl⟩
  have hul := ulen_le n (by omega)
  obtain ⟨E, hEE⟩ : ∃ E, E = benc tag l := ⟨_, rfl⟩
  obtain ⟨nE, hnE⟩ : ∃ m, m = E.length := ⟨_, rfl⟩
  have hlE : nE = 5 + ulen n + n := by rw [hnE, hEE, hn]; exact benc_length tag l
  obtain ⟨F, hF⟩ : ∃ F, F = l ++ mks mk 7 80 := ⟨_, rfl⟩
  have hlF : F.length = n + 80 := by rw [hF, List.length_append, mks_length, hn]
  obtain ⟨M, hM⟩ : ∃ M, M = mks mk 0 n := ⟨_, rfl⟩
  have hlM : M.length = n := by rw [hM, mks_length]
  have bM : IsBytes M := by rw [hM]; exact mks_bytes mk 0 n
  obtain ⟨E2, hE2⟩ : ∃ E, E = benc tag M := ⟨_, rfl⟩
  have hlE2 : E2.length = nE := by rw [hE2, benc_length, hlM, hlE]
  have bE2 : IsBytes E2 := by rw [hE2]; exact benc_bytes ht2 bM
  have hdE2 : decR E2 = .ok ((tag : Int), M, nE) := by have := dec_enc tag M [] ht0 (by omega); rw [List.append_nil, ← hE2, hlE2] at this; exact this
  obtain ⟨F2, hF2⟩ : ∃ F, F = E2 ++ mks mk 7 80 := ⟨_, rfl⟩
  have hlF2 : F2.length = nE + 80 := by rw [hF2, List.length_append, mks_length, hlE2]
  obtain ⟨Z, hZ⟩ : ∃ Z : List Int, Z = List.replicate n 0 := ⟨_, rfl⟩
  have hlZ : Z.length = n := by rw [hZ, List.length_replicate]
  have bZ : IsBytes Z := by rw [hZ]; exact zeros_bytes n
  obtain ⟨E3, hE3⟩ : ∃ E, E = benc tag Z := ⟨_, rfl⟩
  have hlE3 : E3.length = nE := by rw [hE3, benc_length, hlZ, hlE]
  have bE3 : IsBytes E3 := by rw [hE3]; exact benc_bytes ht2 bZ
  have hdE3 : decR E3 = .ok ((tag : Int), Z, nE) := by have := dec_enc tag Z [] ht0 (by omega); rw [List.append_nil, ← hE3, hlE3] at this; exact this
  obtain ⟨st1, hst1⟩ : ∃ st, st = strOfNums E := ⟨_, rfl⟩
  obtain ⟨st2, hst2⟩ : ∃ st, st = strOfNums E2 := ⟨_, rfl⟩
  obtain ⟨stM, hstM⟩ : ∃ st, st = strOfNums M := ⟨_, rfl⟩
  obtain ⟨stZ, hstZ⟩ : ∃ st, st = strOfNums Z := ⟨_, rfl⟩
  obtain ⟨cz, hcz⟩ : ∃ cz, cz = (bs Z).toArray := ⟨_, rfl⟩
  -- calls up to the first Own
  have RE1 : Hid (∀ W, Hid (Kept (fun _ => False) w W) → Calls Tryd.prog 6 #[.int .u8 tag, .slice a n c] W fun e W' => ∃ a5 c5, e = .returned (.tuple #[.slice a5 nE c5, .int .i64 0]) ∧ Hid (Ob w W' [(.slice a5 nE c5, E)])) := by
    intro W q
    have r := rencode_any tag l a c W ht0 ht2 (bytes_keptF hA q.out) bA zA (by omega)
    rw [← hEE, ← hn, ← hnE] at r
    refine r.mono ?_
    rintro e W' ⟨a', c', rfl, o⟩
    exact ⟨a', c', rfl, (Ob.start q.out).push o⟩
  have SP1 : Hid (∀ W a5 c5, Hid (Ob w W [(.slice a5 nE c5, E)]) → Calls Tryd.prog 7 #[.slice a n c] W fun e W' => ∃ g7 c7, e = .returned (.tuple #[.slice (some ⟨g7, 0, none⟩) n c7, .slice (some ⟨g7, 0, none⟩) (n + 80) c7]) ∧ Hid (Ob w W' [(.slice (some ⟨g7, 0, none⟩) (n + 80) c7, F), (.slice a5 nE c5, E)])) := by
    intro W a5 c5 q
    have r := spare_any mk hmk l a c W (bytes_keptF hA q.out.kept) zA (by omega)
    rw [← hF, ← hn] at r
    refine r.mono ?_
    rintro e W' ⟨g, c', rfl, o⟩
    exact ⟨g, c', rfl, q.out.push o⟩
  have SU1 : Hid (∀ W g7 c7 R, Hid (Ob w W ((.slice (some ⟨g7, 0, none⟩) (n + 80) c7, F) :: R)) → Calls Tryd.prog 8 #[.slice (some ⟨g7, 0, none⟩) n c7, .slice a n c] W fun e W' => e = .returned (.bool true) ∧ W' = W) := by
    intro W g7 c7 R q
    have hb := (q.out.bytes List.mem_cons_self).1
    rw [hF] at hb
    exact sums_any l _ a n c7 c W hn (bytes_fore hb) (bytes_keptF hA q.out.kept) bA (by omega) (hT.kept q.out.kept)
  have EN1 : Hid (∀ W g7 c7 R, Hid (Ob w W ((.slice (some ⟨g7, 0, none⟩) (n + 80) c7, F) :: R)) → Calls Tryd.prog 9 #[.int .u8 tag, .slice (some ⟨g7, 0, none⟩) n c7] W fun e W' => ∃ g9, e = .returned (.tuple #[.slice (some ⟨g9, 0, none⟩) nE nE, .nilIface]) ∧ Hid (Ob w W' ((.slice (some ⟨g9, 0, none⟩) nE nE, E) :: (.slice (some ⟨g7, 0, none⟩) (n + 80) c7, F) :: R))) := by
    intro W g7 c7 R q
    have hb := (q.out.bytes List.mem_cons_self).1
    rw [hF] at hb
    have r := encode_any tag l (some ⟨g7, 0, none⟩) c7 W ht0 ht2 (bytes_fore hb) bA (fun e => nomatch e) (by omega) (hT.kept q.out.kept)
    rw [← hEE, ← hn, ← hnE] at r
    refine r.mono ?_
    rintro e W' ⟨g, rfl, h1, h2, h3⟩
    exact ⟨g, rfl, q.out.push ⟨by rw [← hnE]; exact row_base h2 h1, h3⟩⟩
  have cv : ∀ {W : World} {R : List (Value × List Int)} {a : Option Addr} {n c : Nat} {xs : List Int}, Ob w W R → (Value.slice a n c, xs) ∈ R → (convert 22 9 (.slice a n c)).run Tryd.prog W = .ok (.string (strOfNums xs)) W := by
    intro W R a n c xs h hp
    obtain ⟨h1, _, _, h2⟩ := h.bytes hp
    rw [h2]
    exact conv_atF h1
  have EN2 : Hid (∀ W g7 c7 g9 a5 c5, Hid (Ob w W [(.slice (some ⟨g9, 0, none⟩) nE nE, E), (.slice (some ⟨g7, 0, none⟩) (n + 80) c7, F), (.slice a5 nE c5, E)]) → Calls Tryd.prog 9 #[.int .u8 tag, .slice (some ⟨g7, 0, none⟩) n c7] W fun e W' => ∃ g11, e = .returned (.tuple #[.slice (some ⟨g11, 0, none⟩) nE nE, .nilIface]) ∧ ((convert 22 9 (.slice (some ⟨g9, 0, none⟩) nE nE)).run Tryd.prog W' = .ok (.string st1) W' ∧ (convert 22 9 (.slice (some ⟨g11, 0, none⟩) nE nE)).run Tryd.prog W' = .ok (.string st1) W' ∧ (convert 22 9 (.slice a5 nE c5)).run Tryd.prog W' = .ok (.string st1) W') ∧ Hid (Ob w W' [(.slice (some ⟨g11, 0, none⟩) nE nE, E), (.slice (some ⟨g9, 0, none⟩) nE nE, E), (.slice (some ⟨g7, 0, none⟩) (n + 80) c7, F), (.slice a5 nE c5, E)])) := by
    intro W g7 c7 g9 a5 c5 q
    have hb := (q.out.bytes (List.mem_cons_of_mem _ List.mem_cons_self)).1
    rw [hF] at hb
    have r := encode_any tag l (some ⟨g7, 0, none⟩) c7 W ht0 ht2 (bytes_fore hb) bA (fun e => nomatch e) (by omega) (hT.kept q.out.kept)
    rw [← hEE, ← hn, ← hnE] at r
    refine r.mono ?_
    rintro e W' ⟨g, rfl, h1, h2, h3⟩
    have o : Ob w W' [(.slice (some ⟨g, 0, none⟩) nE nE, E), (.slice (some ⟨g9, 0, none⟩) nE nE, E), (.slice (some ⟨g7, 0, none⟩) (n + 80) c7, F), (.slice a5 nE c5, E)] := q.out.push ⟨by rw [← hnE]; exact row_base h2 h1, h3⟩
    rw [hst1]
    exact ⟨g, rfl, ⟨cv o (by simp), cv o (by simp), cv o (by simp)⟩, o⟩
  have KP1 : Hid (∀ W g7 c7 g9 g11 a5 c5, Hid (Ob w W [(.slice (some ⟨g11, 0, none⟩) nE nE, E), (.slice (some ⟨g9, 0, none⟩) nE nE, E), (.slice (some ⟨g7, 0, none⟩) (n + 80) c7, F), (.slice a5 nE c5, E)]) → Calls Tryd.prog 10 #[.slice (some ⟨g7, 0, none⟩) (n + 80) c7, .slice a n c] W fun e W' => e = .returned (.bool true) ∧ Hid (Ob w W' [(.slice (some ⟨g11, 0, none⟩) nE nE, E), (.slice (some ⟨g9, 0, none⟩) nE nE, E), (.slice (some ⟨g7, 0, none⟩) (n + 80) c7, F), (.slice a5 nE c5, E)])) := by
    intro W g7 c7 g9 g11 a5 c5 q
    have hb := (q.out.bytes (a := some ⟨g7, 0, none⟩) (n := n + 80) (c := c7) (xs := F) (by simp)).1
    rw [hF] at hb
    refine (keptm_any mk hmk l g7 c7 a c n (n + 80) W hb (bytes_keptF hA q.out.kept) hn rfl (by omega)).mono ?_
    rintro e W' ⟨rfl, k⟩
    exact ⟨rfl, q.out.same k⟩
  have OW1 : Hid (∀ W g7 c7 g9 g11 a5 c5, Hid (Ob w W [(.slice (some ⟨g11, 0, none⟩) nE nE, E), (.slice (some ⟨g9, 0, none⟩) nE nE, E), (.slice (some ⟨g7, 0, none⟩) (n + 80) c7, F), (.slice a5 nE c5, E)]) → Calls Tryd.prog 11 #[.slice (some ⟨W.heap.size, 0, none⟩) 3 3] (W.alloc (.cells #[.slice (some ⟨g7, 0, none⟩) n c7, .slice (some ⟨g9, 0, none⟩) nE nE, .slice (some ⟨g11, 0, none⟩) nE nE] 22)) fun e W' => e = .returned (.bool true) ∧ Hid (Kept (fun _ => False) w W' ∧ BytesAt W' (some ⟨g7, 0, none⟩) M)) := by
    intro W g7 c7 g9 g11 a5 c5 q
    have o := q.out
    have r7 := o.row (.slice (some ⟨g7, 0, none⟩) (n + 80) c7, F) (by simp)
    have r9 := o.row (.slice (some ⟨g9, 0, none⟩) nE nE, E) (by simp)
    have r11 := o.row (.slice (some ⟨g11, 0, none⟩) nE nE, E) (by simp)
    have ap := o.apart
    simp only [List.pairwise_cons, List.mem_cons, List.not_mem_nil, or_false, forall_eq_or_imp, forall_eq] at ap
    obtain ⟨⟨d119, d117, _⟩, ⟨d97, _⟩, _⟩ := ap
    have t3 : Three W (.slice (some ⟨g7, 0, none⟩) n c7) (.slice (some ⟨g9, 0, none⟩) nE nE) (.slice (some ⟨g11, 0, none⟩) nE nE) l E E :=
      ⟨row_base (row_fore r7 (by rw [hF, hn, List.take_left]) hn) (Nat.zero_le _), row_base r9 (Nat.zero_le _), row_base r11 (Nat.zero_le _), fun g e1 e2 => d97 g e2 e1, fun g e1 e2 => d117 g e2 e1, fun g e1 e2 => d119 g e2 e1, by omega, by omega, by omega⟩
    refine (own_three mk hmk W _ _ _ _ _ _ _ _ t3 hn).mono ?_
    rintro e W' ⟨rfl, p⟩
    refine ⟨rfl, o.kept.trans p.kept ?_, by rw [hM]; exact p.fst⟩
    rintro k (⟨ad, e1, e2⟩ | e1 | e1)
    · cases e1
      exact .inr (by rw [← e2]; exact o.new (n := n + 80) (c := c7) (xs := F) (by simp))
    · exact .inr (r9.lt k e1).1
    · exact .inr (r11.lt k e1).1
  -- from the first Own on: arg holds the marks M
  have EN3 : Hid (∀ W g7 c7, Hid (Kept (fun _ => False) w W ∧ BytesAt W (some ⟨g7, 0, none⟩) M) → Calls Tryd.prog 9 #[.int .u8 tag, .slice (some ⟨g7, 0, none⟩) n c7] W fun e W' => ∃ g13, e = .returned (.tuple #[.slice (some ⟨g13, 0, none⟩) nE nE, .nilIface]) ∧ Hid ((Kept (fun _ => False) w W' ∧ BytesAt W' (some ⟨g7, 0, none⟩) M) ∧ BytesAt W' (some ⟨g13, 0, none⟩) E2)) := by
    intro W g7 c7 q
    obtain ⟨q1, q2⟩ := q.out
    have r := encode_any tag M (some ⟨g7, 0, none⟩) c7 W ht0 ht2 q2 bM (fun e => nomatch e) (by omega) (hT.kept q1)
    rw [← hE2, hlM, hlE2] at r
    refine r.mono ?_
    rintro e W' ⟨g, rfl, h1, h2, h3⟩
    exact ⟨g, rfl, ⟨q1.trans h3 (fun _ f => f.elim), bytes_keptF q2 h3⟩, (own_bytesF h2).1⟩
  have RE2 : Hid (∀ W g7 c7 g13, Hid ((Kept (fun _ => False) w W ∧ BytesAt W (some ⟨g7, 0, none⟩) M) ∧ BytesAt W (some ⟨g13, 0, none⟩) E2) → Calls Tryd.prog 6 #[.int .u8 tag, .slice (some ⟨g7, 0, none⟩) n c7] W fun e W' => ∃ a6 c6, e = .returned (.tuple #[.slice a6 nE c6, .int .i64 0]) ∧ ((convert 22 9 (.slice (some ⟨g13, 0, none⟩) nE nE)).run Tryd.prog W' = .ok (.string st2) W' ∧ (convert 22 9 (.slice a6 nE c6)).run Tryd.prog W' = .ok (.string st2) W') ∧ Hid ((Kept (fun _ => False) w W' ∧ BytesAt W' (some ⟨g7, 0, none⟩) M) ∧ BytesAt W' a6 E2 ∧ (a6 = none → c6 = 0))) := by
    intro W g7 c7 g13 q
    obtain ⟨⟨q1, q2⟩, q3⟩ := q.out
    have r := rencode_any tag M (some ⟨g7, 0, none⟩) c7 W ht0 ht2 q2 bM (fun e => nomatch e) (by omega)
    rw [← hE2, hlM, hlE2] at r
    refine r.mono ?_
    rintro e W' ⟨a', c', rfl, o⟩
    obtain ⟨a2', c2', e2, hb, hz⟩ := o.at
    simp only [Value.slice.injEq] at e2
    obtain ⟨rfl, _, rfl⟩ := e2
    have y1 := conv_atF (c := nE) (bytes_keptF q3 o.kept)
    have y2 := conv_atF (c := c') hb
    rw [hlE2, ← hst2] at y1 y2
    exact ⟨a', c', rfl, ⟨y1, y2⟩, ⟨q1.trans o.kept (fun _ f => f.elim), bytes_keptF q2 o.kept⟩, hb, hz⟩
  have SU2 : Hid (∀ W W' g7 c7 a7 c8, Hid (Kept (fun _ => False) w W ∧ BytesAt W (some ⟨g7, 0, none⟩) M) → Hid (OwnB W W' (.slice a7 n c8) M) → Calls Tryd.prog 8 #[.slice (some ⟨g7, 0, none⟩) n c7, .slice a7 n c8] W' fun e W'' => e = .returned (.bool true) ∧ W'' = W') := by
    intro W W' g7 c7 a7 c8 q o
    obtain ⟨q1, q2⟩ := q.out
    obtain ⟨a2', c2', e2, hb, hz⟩ := o.out.at
    simp only [Value.slice.injEq] at e2
    obtain ⟨rfl, _, rfl⟩ := e2
    exact sums_any M _ _ n c7 c8 W' hlM.symm (bytes_keptF q2 o.out.kept) hb bM (by omega) (hT.kept (q1.trans o.out.kept (fun _ f => f.elim)))
  have SP2 : Hid (∀ W0 W g7 a8 c8, Hid (Kept (fun _ => False) w W0 ∧ BytesAt W0 (some ⟨g7, 0, none⟩) M) → Hid (OwnB W0 W (.slice a8 nE c8) E2) → Calls Tryd.prog 7 #[.slice a8 nE c8] W fun e W' => ∃ g15 c15, e = .returned (.tuple #[.slice (some ⟨g15, 0, none⟩) nE c15, .slice (some ⟨g15, 0, none⟩) (nE + 80) c15]) ∧ Hid (Ob w W' [(.slice (some ⟨g15, 0, none⟩) (nE + 80) c15, F2), (.slice a8 nE c8, E2)] ∧ BytesAt W' (some ⟨g7, 0, none⟩) M)) := by
    intro W0 W g7 a8 c8 q o
    obtain ⟨q1, q2⟩ := q.out
    obtain ⟨a2', c2', e2, hb, hz⟩ := o.out.at
    simp only [Value.slice.injEq] at e2
    obtain ⟨rfl, _, rfl⟩ := e2
    have r := spare_any mk hmk E2 a8 c8 W hb hz (by omega)
    rw [← hF2, hlE2] at r
    refine r.mono ?_
    rintro e W' ⟨g, c', rfl, o2⟩
    exact ⟨g, c', rfl, ((Ob.start q1).push o.out).push o2, bytes_keptF q2 (o.out.kept.trans o2.kept (fun _ f => f.elim))⟩
  have DD : ∀ W W0 g15 c15 R, Ob w W R → (Value.slice (some ⟨g15, 0, none⟩) (nE + 80) c15, F2) ∈ R → Kept (fun _ => False) W W0 → Calls Tryd.prog 12 #[.slice (some ⟨g15, 0, none⟩) nE c15] W0 fun e W' => ∃ a17 c17, e = .returned (.tuple #[.agg #[.int .u8 tag, .slice a17 n c17], .int .i64 (nE : Nat), .nilIface]) ∧ OwnB W0 W' (.slice a17 n c17) M := by
    intro W W0 g15 c15 R o hp k
    obtain ⟨hb, _, hcap, _⟩ := o.bytes hp
    rw [hF2] at hb
    have kw := o.kept.trans k (fun _ f => f.elim)
    have r := decode_any4 E2 (some ⟨g15, 0, none⟩) nE c15 W0 hlE2.symm (bytes_keptF (bytes_fore hb) k) bE2 (by omega) (by omega) (hT.kept kw) (hE.kept kw)
    rw [hdE2] at r
    refine r.mono ?_
    rintro e W' ⟨a', c', rfl, ho⟩
    rw [hlM] at ho ⊢
    exact ⟨a', c', rfl, ho⟩
  have DE1 : Hid (∀ W g7 g15 c15 a8 c8, Hid (Ob w W [(.slice (some ⟨g15, 0, none⟩) (nE + 80) c15, F2), (.slice a8 nE c8, E2)] ∧ BytesAt W (some ⟨g7, 0, none⟩) M) → Calls Tryd.prog 12 #[.slice (some ⟨g15, 0, none⟩) nE c15] W fun e W' => ∃ a17 c17, e = .returned (.tuple #[.agg #[.int .u8 tag, .slice a17 n c17], .int .i64 (nE : Nat), .nilIface]) ∧ Hid (Ob w W' [(.slice a17 n c17, M), (.slice (some ⟨g15, 0, none⟩) (nE + 80) c15, F2), (.slice a8 nE c8, E2)] ∧ BytesAt W' (some ⟨g7, 0, none⟩) M)) := by
    intro W g7 g15 c15 a8 c8 q
    obtain ⟨o, hb⟩ := q.out
    refine (DD W W g15 c15 _ o (by simp) (Kept.refl _ _)).mono ?_
    rintro e W' ⟨a', c', rfl, ho⟩
    exact ⟨a', c', rfl, o.push ho, bytes_keptF hb ho.kept⟩
  have DE2 : Hid (∀ W g7 c7 g15 c15 a8 c8 a17 c17, Hid (Ob w W [(.slice a17 n c17, M), (.slice (some ⟨g15, 0, none⟩) (nE + 80) c15, F2), (.slice a8 nE c8, E2)] ∧ BytesAt W (some ⟨g7, 0, none⟩) M) → Calls Tryd.prog 12 #[.slice (some ⟨g15, 0, none⟩) nE c15] (W.alloc (.cells #[.int .u8 tag, .slice a17 n c17] 36)) fun e W' => ∃ a19 c19, e = .returned (.tuple #[.agg #[.int .u8 tag, .slice a19 n c19], .int .i64 (nE : Nat), .nilIface]) ∧ ((∀ o, (W'.alloc o).cell? ⟨W.heap.size, 1, none⟩ = some (.slice a17 n c17)) ∧ (∀ o, (convert 22 9 (.slice a17 n c17)).run Tryd.prog (W'.alloc o) = .ok (.string stM) (W'.alloc o)) ∧ (∀ o, (convert 22 9 (.slice a19 n c19)).run Tryd.prog (W'.alloc o) = .ok (.string stM) (W'.alloc o)) ∧ (∀ o, (convert 22 9 (.slice (some ⟨g7, 0, none⟩) n c7)).run Tryd.prog (W'.alloc o) = .ok (.string stM) (W'.alloc o))) ∧ Hid (Ob w W' [(.slice a19 n c19, M), (.slice a17 n c17, M), (.slice (some ⟨g15, 0, none⟩) (nE + 80) c15, F2), (.slice a8 nE c8, E2)] ∧ W'.heap[W.heap.size]? = some (.cells #[.int .u8 tag, .slice a17 n c17] 36))) := by
    intro W g7 c7 g15 c15 a8 c8 a17 c17 q
    obtain ⟨o, hb⟩ := q.out
    have ka := Kept.alloc W (.cells #[.int .u8 tag, .slice a17 n c17] 36)
    have hnew := heap_alloc_new W (.cells #[.int .u8 tag, .slice a17 n c17] 36)
    refine (DD W _ g15 c15 _ o (by simp) ka).mono ?_
    rintro e W' ⟨a', c', rfl, ho⟩
    have o2 := (o.same ka).push ho
    have h17 := ho.kept.heap hnew (fun f => f)
    refine ⟨a', c', rfl, ⟨fun o3 => ?_, fun o3 => ?_, fun o3 => ?_, fun o3 => ?_⟩, o2, h17⟩
    · rw [cell_of_row _ _ _ _ _ _ ((Kept.alloc W' o3).heap h17 (fun f => f))]; rfl
    · rw [hstM]; exact cv (o2.same (Kept.alloc W' o3)) (by simp)
    · rw [hstM]; exact cv (o2.same (Kept.alloc W' o3)) (by simp)
    · have y := conv_atF (c := c7) (bytes_keptF (bytes_keptF hb (ka.trans ho.kept (fun _ f => f.elim))) (Kept.alloc W' o3))
      rw [hlM, ← hstM] at y
      exact y
  have KP2 : Hid (∀ (W : World) (b17 : Nat) g15 c15 a8 c8 a17 c17 a19 c19, Hid (Ob w W [(.slice a19 n c19, M), (.slice a17 n c17, M), (.slice (some ⟨g15, 0, none⟩) (nE + 80) c15, F2), (.slice a8 nE c8, E2)] ∧ W.heap[b17]? = some (.cells #[.int .u8 tag, .slice a17 n c17] 36)) → Calls Tryd.prog 10 #[.slice (some ⟨g15, 0, none⟩) (nE + 80) c15, .slice a8 nE c8] (W.alloc (.cells #[.int .u8 tag, .slice a19 n c19] 36)) fun e W' => e = .returned (.bool true) ∧ Hid (Ob w W' [(.slice a19 n c19, M), (.slice a17 n c17, M), (.slice (some ⟨g15, 0, none⟩) (nE + 80) c15, F2), (.slice a8 nE c8, E2)] ∧ W'.heap[b17]? = some (.cells #[.int .u8 tag, .slice a17 n c17] 36) ∧ W'.heap[W.heap.size]? = some (.cells #[.int .u8 tag, .slice a19 n c19] 36))) := by
    intro W b17 g15 c15 a8 c8 a17 c17 a19 c19 q
    obtain ⟨o, h17⟩ := q.out
    have ka := Kept.alloc W (.cells #[.int .u8 tag, .slice a19 n c19] 36)
    have hnew := heap_alloc_new W (.cells #[.int .u8 tag, .slice a19 n c19] 36)
    have hb := ((o.same ka).bytes (a := some ⟨g15, 0, none⟩) (n := nE + 80) (c := c15) (xs := F2) (by simp)).1
    have h8 := ((o.same ka).bytes (a := a8) (n := nE) (c := c8) (xs := E2) (by simp)).1
    rw [hF2] at hb
    refine (keptm_any mk hmk E2 g15 c15 a8 c8 nE (nE + 80) _ hb h8 hlE2.symm rfl (by omega)).mono ?_
    rintro e W' ⟨rfl, k⟩
    exact ⟨rfl, (o.same ka).same k, k.heap (ka.heap h17 (fun f => f)) (fun f => f), k.heap hnew (fun f => f)⟩
  have RE3 : Hid (∀ (W : World) (b17 b19 : Nat) g15 c15 a8 c8 a17 c17 a19 c19, Hid (Ob w W [(.slice a19 n c19, M), (.slice a17 n c17, M), (.slice (some ⟨g15, 0, none⟩) (nE + 80) c15, F2), (.slice a8 nE c8, E2)] ∧ W.heap[b17]? = some (.cells #[.int .u8 tag, .slice a17 n c17] 36) ∧ W.heap[b19]? = some (.cells #[.int .u8 tag, .slice a19 n c19] 36)) → Calls Tryd.prog 6 #[.int .u8 tag, .slice (some ⟨W.heap.size, 0, none⟩) n n] (W.alloc (.cells cz 5)) fun e W' => ∃ a21 c21, e = .returned (.tuple #[.slice a21 nE c21, .int .i64 0]) ∧ (W'.cell? ⟨b17, 1, none⟩ = some (.slice a17 n c17) ∧ W'.cell? ⟨b19, 1, none⟩ = some (.slice a19 n c19)) ∧ Hid (Ob w W' [(.slice a21 nE c21, E3), (.slice a19 n c19, M), (.slice a17 n c17, M), (.slice (some ⟨g15, 0, none⟩) (nE + 80) c15, F2), (.slice a8 nE c8, E2)])) := by
    intro W b17 b19 g15 c15 a8 c8 a17 c17 a19 c19 q
    obtain ⟨o, h17, h19⟩ := q.out
    have ka := Kept.alloc W (.cells cz 5)
    have z := zeros_own n W (by omega)
    rw [← hZ, ← hcz] at z
    have zb := (OwnB.at z)
    obtain ⟨a2', c2', e2, hb, hz⟩ := zb
    simp only [Value.slice.injEq] at e2
    obtain ⟨rfl, _, rfl⟩ := e2
    have r := rencode_any tag Z (some ⟨W.heap.size, 0, none⟩) n (W.alloc (.cells cz 5)) ht0 ht2 hb bZ (fun e => nomatch e) (by omega)
    rw [← hE3, hlZ, hlE3] at r
    refine r.mono ?_
    rintro e W' ⟨a', c', rfl, o2⟩
    exact ⟨a', c', rfl, ⟨by rw [cell_of_row _ _ _ _ _ _ (o2.kept.heap (ka.heap h17 (fun f => f)) (fun f => f))]; rfl, by rw [cell_of_row _ _ _ _ _ _ (o2.kept.heap (ka.heap h19 (fun f => f)) (fun f => f))]; rfl⟩, (o.same ka).push o2⟩
  have OW2 : Hid (∀ W g15 c15 a8 c8 a17 c17 a19 c19 a21 c21, Hid (Ob w W [(.slice a21 nE c21, E3), (.slice a19 n c19, M), (.slice a17 n c17, M), (.slice (some ⟨g15, 0, none⟩) (nE + 80) c15, F2), (.slice a8 nE c8, E2)]) → Calls Tryd.prog 11 #[.slice (some ⟨W.heap.size, 0, none⟩) 3 3] (W.alloc (.cells #[.slice (some ⟨g15, 0, none⟩) nE c15, .slice a17 n c17, .slice a19 n c19] 22)) fun e W' => ∃ cur : Array Value, e = .returned (.bool true) ∧ Hid (W'.heap[g15]? = some (.cells cur 5 (0, 0)) ∧ nE ≤ cur.size) ∧ Hid (BytesAt W' a21 E3) ∧ Hid (Kept (fun _ => False) w W' ∧ w.heap.size ≤ g15 ∧ nE ≤ c15)) := by
    intro W g15 c15 a8 c8 a17 c17 a19 c19 a21 c21 q
    have o := q.out
    have r15 := o.row (.slice (some ⟨g15, 0, none⟩) (nE + 80) c15, F2) (by simp)
    have r17 := o.row (.slice a17 n c17, M) (by simp)
    have r19 := o.row (.slice a19 n c19, M) (by simp)
    have r21 := o.row (.slice a21 nE c21, E3) (by simp)
    obtain ⟨b21, _⟩ := o.bytes (a := a21) (n := nE) (c := c21) (xs := E3) (by simp)
    obtain ⟨_, _, cap15, _⟩ := o.bytes (a := some ⟨g15, 0, none⟩) (n := nE + 80) (c := c15) (xs := F2) (by simp)
    have g15n := o.new (g := g15) (n := nE + 80) (c := c15) (xs := F2) (by simp)
    have ap := o.apart
    simp only [List.pairwise_cons, List.mem_cons, List.not_mem_nil, or_false, forall_eq_or_imp, forall_eq] at ap
    obtain ⟨⟨d2119, d2117, d2115, _⟩, ⟨d1917, d1915, _⟩, ⟨d1715, _⟩, _⟩ := ap
    have t3 : Three W (.slice (some ⟨g15, 0, none⟩) nE c15) (.slice a17 n c17) (.slice a19 n c19) E2 M M :=
      ⟨row_base (row_fore r15 (by rw [hF2, ← hlE2, List.take_left]) hlE2.symm) (Nat.zero_le _), row_base r17 (Nat.zero_le _), row_base r19 (Nat.zero_le _), fun g e1 e2 => d1715 g e2 e1, fun g e1 e2 => d1915 g e2 e1, fun g e1 e2 => d1917 g e2 e1, by omega, by omega, by omega⟩
    refine (own_three mk hmk W _ _ _ _ _ _ _ _ t3 hlE2.symm).mono ?_
    rintro e W' ⟨rfl, p⟩
    obtain ⟨cur, hc1, hc2⟩ := p.ow g15 rfl
    refine ⟨cur, rfl, ⟨hc1, hc2⟩, ?_, o.kept.trans p.kept ?_, g15n, by omega⟩
    · intro hne
      obtain ⟨b, off, e, hcc⟩ := b21 hne
      refine ⟨b, off, e, fun k hk => p.kept.cell (hcc k hk) ?_⟩
      have hown : (Value.slice a21 nE c21).ownBlock = some b := by rw [e]; rfl
      rintro (⟨ad, e1, e2⟩ | e1 | e1)
      · cases e1
        exact d2115 b hown (by simpa [Value.ownBlock] using e2)
      · exact d2117 b hown e1
      · exact d2119 b hown e1
    · rintro k (⟨ad, e1, e2⟩ | e1 | e1)
      · cases e1
        exact .inr (by rw [← e2]; exact g15n)
      · exact .inr (r17.lt k e1).1
      · exact .inr (r19.lt k e1).1
  have DE3 : Hid (∀ W W0 g15 c15, Hid (Kept (fun _ => False) w W ∧ w.heap.size ≤ g15 ∧ nE ≤ c15) → Hid (BytesAt W0 (some ⟨g15, 0, none⟩) E3 ∧ Kept (fun k => k = g15) W W0) → Calls Tryd.prog 12 #[.slice (some ⟨g15, 0, none⟩) nE c15] W0 fun e W' => ∃ a23 c23, e = .returned (.tuple #[.agg #[.int .u8 tag, .slice a23 n c23], .int .i64 (nE : Nat), .nilIface]) ∧ Hid (Kept (fun _ => False) w W' ∧ BytesAt W' a23 Z)) := by
    intro W W0 g15 c15 q k
    obtain ⟨q1, q2, q3⟩ := q.out
    obtain ⟨k1, k2⟩ := k.out
    have kw : Kept (fun _ => False) w W0 := q1.trans k2 (fun i e => .inr (by rw [e]; exact q2))
    have r := decode_any4 E3 (some ⟨g15, 0, none⟩) nE c15 W0 hlE3.symm k1 bE3 (by omega) (by omega) (hT.kept kw) (hE.kept kw)
    rw [hdE3] at r
    refine r.mono ?_
    rintro e W' ⟨a', c', rfl, ho⟩
    rw [hlZ] at ho ⊢
    obtain ⟨a2', c2', e2, hb, hz⟩ := ho.at
    simp only [Value.slice.injEq] at e2
    obtain ⟨rfl, _, rfl⟩ := e2
    exact ⟨a', c', rfl, kw.trans ho.kept (fun _ f => f.elim), hb⟩
  have mkz : ∀ W, (Instr.makeSlice 22 (.int .i64 (n : Int)) (.int .i64 (n : Int))).run Tryd.prog W = .ok (.slice (some ⟨W.heap.size, 0, none⟩) n n) (W.alloc (.cells cz 5)) := fun W => by rw [hcz, hZ]; exact make_zeros n W (by omega)
  have ZO : Hid (∀ W a23 c23, Kept (fun _ => False) w W → BytesAt W a23 Z → (convert 22 9 (.slice a23 n c23)).run Tryd.prog W = .ok (.string stZ) W) := fun W a23 c23 _ hb => by
    have y := conv_atF (c := c23) hb
    rw [hlZ, ← hstZ] at y
    exact y
  have ZN : Hid (∀ W W' : World, Kept (fun _ => False) (W.alloc (.cells cz 5)) W' → (convert 22 9 (.slice (some ⟨W.heap.size, 0, none⟩) n n)).run Tryd.prog W' = .ok (.string stZ) W') := fun W W' k => by
    have z := zeros_own n W (by omega)
    rw [← hZ, ← hcz] at z
    obtain ⟨a2', c2', e2, hb, hz⟩ := z.at
    simp only [Value.slice.injEq] at e2
    obtain ⟨rfl, _, rfl⟩ := e2
    have y := conv_atF (c := n) (bytes_keptF hb k)
    rw [hlZ, ← hstZ] at y
    exact y
  have NM : Hid (n = M.length) := hlM.symm
  have YM : Hid (M = [] ++ M) := rfl
  have LM : Hid (M.length ≤ 140737488355328) := by show M.length ≤ _; omega
  have NE2 : Hid (nE = E2.length) := hlE2.symm
  have YE2 : Hid (E2 = [] ++ E2) := rfl
  have LE2 : Hid (E2.length ≤ 140737488355328) := by show E2.length ≤ _; omega
  have NE3 : Hid (nE = E3.length ∧ 0 < nE) := ⟨hlE3.symm, by omega⟩
  have hnb : n ≤ 140737488351232 := by omega
  have hnEb : nE ≤ 140737488354000 := by omega
  have htn : ¬ ((tag : Int) = 0) := by omega
  rw [← hn]
  clear hT hE hA bA zA lA hn hul hEE hnE hlE hF hlF hM hlM bM hE2 hlE2 bE2 hdE2 hF2 hlF2 hZ hlZ bZ hE3 hlE3 bE3 hdE3 hst1 hst2 hstM hstZ hcz DD cv ht0 ht2 hmk
  go_enter Tryd.func3, Tryd.ntmps3
  go_wp2_with (first
    | (go_at_call 5; refine LV.out.mono ?_; clear LV; rintro e W1 ⟨rfl, K1⟩)
    | (go_at_call 6; refine (RE1.out W1 K1).mono ?_; clear RE1; rintro e W2 ⟨a5', c5', rfl, K2⟩)
    | (go_at_call 7; refine (SP1.out W2 a5' c5' K2).mono ?_; clear SP1; rintro e W3 ⟨g7, c7, rfl, K3⟩)
    | (go_at_call 8; refine (SU1.out W3 g7 c7 _ K3).mono ?_; clear SU1; rintro e W3 ⟨rfl, e3⟩; subst e3)
    | (go_at_call 9; refine (EN1.out W3 g7 c7 _ K3).mono ?_; clear EN1; rintro e W4 ⟨g9, rfl, K4⟩)
    | (go_at_call 9; refine (EN2.out W4 g7 c7 g9 a5' c5' K4).mono ?_; clear EN2; rintro e W5 ⟨g11, rfl, ⟨x1, x2, x3⟩, K5⟩)
    | (go_at_call 10; refine (KP1.out W5 g7 c7 g9 g11 a5' c5' K5).mono ?_; clear KP1; rintro e W6 ⟨rfl, K6⟩)
    | (go_at_call 11; refine (OW1.out W6 g7 c7 g9 g11 a5' c5' K6).mono ?_; clear OW1; rintro e W7 ⟨rfl, K7⟩)
    | (go_at_call 9; refine (EN3.out W7 g7 c7 K7).mono ?_; clear EN3; rintro e W8 ⟨g13, rfl, K8⟩)
    | (go_at_call 6; refine (RE2.out W8 g7 c7 g13 K8).mono ?_; clear RE2; rintro e W9 ⟨a6', c6', rfl, ⟨x4, x5⟩, K9⟩; have P1 := hideC (ownB_empty W9); have Q1 := hideC (bytes_keptF K9.out.1.2 (Kept.alloc W9 (.cells #[] 5))))
    | (at_builtin; refine wpList_apg (by rfl) _ _ rfl _ [] M M n n rfl ⟨g7, 0, none⟩ c7 rfl NM YM NM P1 Q1 LM ?_; clear P1 Q1; intro a8' c8' W10 P2; have K10 := hideC (And.intro (K9.out.1.1.trans P2.out.kept (fun _ f => f.elim)) (bytes_keptF K9.out.1.2 P2.out.kept)); have P3 := hideC (ownB_empty W10); have Q3 := hideC (bytes_keptF (bytes_keptF K9.out.2.1 P2.out.kept) (Kept.alloc W10 (.cells #[] 5))); have Z3 := hideC K9.out.2.2)
    | (go_at_call 8; refine (SU2.out W9 W10 g7 c7 a8' c8' (hideC K9.out.1) P2).mono ?_; clear SU2; rintro e W10 ⟨rfl, e10⟩; subst e10)
    | (at_builtin; refine wpList_apn rfl _ _ rfl _ [] E2 E2 nE nE rfl a6' c6' rfl NE2 YE2 NE2 P3 Q3 Z3 LE2 ?_; clear P3 Q3; intro a9 c9 W11 P4)
    | (go_at_call 7; refine (SP2.out W10 W11 g7 a9 c9 K10 P4).mono ?_; clear SP2; rintro e W12 ⟨g15, c15, rfl, K12⟩)
    | (go_at_call 12; refine (DE1.out W12 g7 g15 c15 a9 c9 K12).mono ?_; clear DE1; rintro e W13 ⟨a17, c17, rfl, K13⟩)
    | (go_at_call 12; refine (DE2.out W13 g7 c7 g15 c15 a9 c9 a17 c17 K13).mono ?_; clear DE2; rintro e W14 ⟨a19, c19, rfl, ⟨x6, x7, x8, x9⟩, K14⟩)
    | (go_at_call 10; refine (KP2.out W14 W13.heap.size g15 c15 a9 c9 a17 c17 a19 c19 K14).mono ?_; clear KP2; rintro e W15 ⟨rfl, K15⟩)
    | (go_at_call 6; refine (RE3.out W15 W13.heap.size W14.heap.size g15 c15 a9 c9 a17 c17 a19 c19 K15).mono ?_; clear RE3; rintro e W16 ⟨a21, c21, rfl, ⟨x10, x11⟩, K16⟩)
    | (go_at_call 11; refine (OW2.out W16 g15 c15 a9 c9 a17 c17 a19 c19 a21 c21 K16).mono ?_; clear OW2; rintro e W17 ⟨cur, rfl, H17, B17, K17⟩)
    | (go_at_call 12; refine (DE3.out W17 W18 g15 c15 K17 K18).mono ?_; clear DE3; rintro e W19 ⟨a23, c23, rfl, K19⟩)
    | (refine wpList_cpn rfl (.tmp 198) (.tmp 199) rfl g15 nE c15 c21 a21 E3 cur rfl rfl NE3 H17 B17 ?_; clear H17 B17; intro W18 K18))
  obtain ⟨o19, ho19⟩ : ∃ o : Obj, o = .cells #[.int .u8 tag, .slice a23 n c23] 36 := ⟨_, rfl⟩
  have kA : Kept (fun _ => False) w (W19.alloc o19) := K19.out.1.trans (Kept.alloc W19 o19) (fun _ f => f.elim)
  have hld : Hid (∀ W, Kept (fun _ => False) (W19.alloc o19) W → W.cell? ⟨W19.heap.size, 1, none⟩ = some (.slice a23 n c23)) := fun W k => by
    have h := k.heap (heap_alloc_new W19 o19) (fun f => f)
    rw [ho19] at h
    rw [cell_of_row _ _ _ _ _ _ h]; rfl
  have hcv : Hid (∀ W, Kept (fun _ => False) (W19.alloc o19) W → (convert 22 9 (.slice a23 n c23)).run Tryd.prog W = .ok (.string stZ) W) := fun W k => ZO.out W a23 c23 (kA.trans k (fun _ f => f.elim)) (bytes_keptF (bytes_keptF K19.out.2 (Kept.alloc W19 o19)) k)
  rw [← ho19]
  clear ho19 x1 x2 x3 x4 x5 x6 x7 x8 x9 x10 x11 K1 K2 K3 K4 K5 K6 K7 K8 K9 K10 K12 K13 K14 K15 K16 K17 K18 P2 P4 Z3 ZO NM YM LM NE2 YE2 LE2 NE3
  have hS6 : Kept (fun _ => False) (W19.alloc o19) (W19.alloc o19).drew := Kept.drew _
  refine wp_region_held (S := fun W => Kept (fun _ => False) (W19.alloc o19) W) (by kernel_rfl) ?_
  change wpAnyH _ _ _ _ _ _ _ _ (World.drew _)
  refine takeM (i := 0) (d := 207) (v := .nilIface) rfl rfl (by kernel_rfl) (by kernel_rfl) (by kernel_rfl) (fun _ _ _ h => h) (Or.inl ⟨by rfl, fun W hW => ?_⟩) hS6 ?_
  · go_simp
  simp only [Act.put, List.setIfInBounds_toArray, List.set_cons_zero, List.set_cons_succ]
  refine takeM (i := 1) (d := 208) (v := .bool true) rfl rfl (by kernel_rfl) (by kernel_rfl) (by kernel_rfl) (fun _ _ _ h => h) (Or.inl ⟨by rfl, fun W hW => ?_⟩) hS6 ?_
  · go_simp
  simp only [Act.put, List.setIfInBounds_toArray, List.set_cons_zero, List.set_cons_succ]
  refine takeM (i := 2) (d := 209) (v := .bool true) rfl rfl (by kernel_rfl) (by kernel_rfl) (by kernel_rfl) (fun _ _ _ h => h) (Or.inl ⟨by rfl, fun W hW => ?_⟩) hS6 ?_
  · go_simp
  simp only [Act.put, List.setIfInBounds_toArray, List.set_cons_zero, List.set_cons_succ]
  refine takeM (i := 3) (d := 210) (v := .int .i64 nE) rfl rfl (by kernel_rfl) (by kernel_rfl) (by kernel_rfl) (fun _ _ _ h => h) (Or.inl ⟨by rfl, fun W hW => ?_⟩) hS6 ?_
  · go_simp
  simp only [Act.put, List.setIfInBounds_toArray, List.set_cons_zero, List.set_cons_succ]
  refine takeM (i := 4) (d := 211) (v := .slice (some ⟨g15, 0, none⟩) nE c15) rfl rfl (by kernel_rfl) (by kernel_rfl) (by kernel_rfl) (fun _ _ _ h => h) (Or.inl ⟨by rfl, fun W hW => ?_⟩) hS6 ?_
  · go_simp
  simp only [Act.put, List.setIfInBounds_toArray, List.set_cons_zero, List.set_cons_succ]
  refine takeM (i := 5) (d := 212) (v := .int .i64 nE) rfl rfl (by kernel_rfl) (by kernel_rfl) (by kernel_rfl) (fun _ _ _ h => h) (Or.inl ⟨by rfl, fun W hW => ?_⟩) hS6 ?_
  · go_simp
  simp only [Act.put, List.setIfInBounds_toArray, List.set_cons_zero, List.set_cons_succ]
  refine takeM (i := 6) (d := 213) (v := .bool true) rfl rfl (by kernel_rfl) (by kernel_rfl) (by kernel_rfl) (fun _ _ _ h => h) (Or.inl ⟨by rfl, fun W hW => ?_⟩) hS6 ?_
  · go_simp
  simp only [Act.put, List.setIfInBounds_toArray, List.set_cons_zero, List.set_cons_succ]
  refine takeM (i := 7) (d := 214) (v := .bool true) rfl rfl (by kernel_rfl) (by kernel_rfl) (by kernel_rfl) (fun _ _ _ h => h) (Or.inl ⟨by rfl, fun W hW => ?_⟩) hS6 ?_
  · go_simp
  simp only [Act.put, List.setIfInBounds_toArray, List.set_cons_zero, List.set_cons_succ]
  refine takeM (i := 8) (d := 215) (v := .bool true) rfl rfl (by kernel_rfl) (by kernel_rfl) (by kernel_rfl) (fun _ _ _ h => h) (Or.inl ⟨by rfl, fun W hW => ?_⟩) hS6 ?_
  · go_simp
  simp only [Act.put, List.setIfInBounds_toArray, List.set_cons_zero, List.set_cons_succ]
  refine takeM (i := 9) (d := 216) (v := .pointer (some ⟨W19.heap.size, 1, none⟩)) rfl rfl (by kernel_rfl) (by kernel_rfl) (by kernel_rfl) (fun _ _ _ h => h) (Or.inl ⟨by rfl, fun W hW => ?_⟩) hS6 ?_
  · go_simp
  simp only [Act.put, List.setIfInBounds_toArray, List.set_cons_zero, List.set_cons_succ]
  refine takeM (i := 10) (d := 217) (v := .slice a23 n c23) rfl rfl (by kernel_rfl) (by kernel_rfl) (by kernel_rfl) (fun _ _ _ h => h) (Or.inl ⟨by rfl, fun W hW => ?_⟩) hS6 ?_
  · (have h1 := hld.out W hW; go_simp)
  simp only [Act.put, List.setIfInBounds_toArray, List.set_cons_zero, List.set_cons_succ]
  refine takeM (i := 11) (d := 218) (v := .string stZ) rfl rfl (by kernel_rfl) (by kernel_rfl) (by kernel_rfl) (fun _ _ _ h => h) (Or.inl ⟨by rfl, fun W hW => ?_⟩) hS6 ?_
  · (have h1 := hcv.out W hW; go_simp)
  simp only [Act.put, List.setIfInBounds_toArray, List.set_cons_zero, List.set_cons_succ]
  refine takeM (i := 12) (d := 219) (v := .slice a n c) rfl rfl (by kernel_rfl) (by kernel_rfl) (by kernel_rfl) (fun _ _ _ h => h) (Or.inl ⟨by rfl, fun W hW => ?_⟩) hS6 ?_
  · go_simp
  simp only [Act.put, List.setIfInBounds_toArray, List.set_cons_zero, List.set_cons_succ]
  refine takeM (i := 13) (d := 220) (v := .int .i64 n) rfl rfl (by kernel_rfl) (by kernel_rfl) (by kernel_rfl) (fun _ _ _ h => h) (Or.inl ⟨by rfl, fun W hW => ?_⟩) hS6 ?_
  · go_simp
  simp only [Act.put, List.setIfInBounds_toArray, List.set_cons_zero, List.set_cons_succ]
  refine wpAnyH_all (rs := [14]) (by kernel_rfl) (by simp) ?_
  intro i hi
  obtain rfl : i = 14 := by simpa using hi
  unfold wpOp
  go_simp
  have kN : Kept (fun _ => False) (W19.alloc o19) ((W19.alloc o19).alloc (.cells cz 5)).drew := (Kept.alloc _ _).trans (Kept.drew _) (fun _ f => f.elim)
  have hz := ZN.out (W19.alloc o19) _ (Kept.drew _)
  rw [show (W19.alloc o19).heap.size = W19.heap.size + 1 by simp] at hz
  first | refine ⟨kN, ?_⟩ | refine Or.inl ⟨kN, ?_⟩
  have KN := hideC kN
  clear kN
  refine wpAnyH_all (rs := [15]) (by kernel_rfl) (by simp) ?_
  intro i hi
  obtain rfl : i = 15 := by simpa using hi
  unfold wpOp
  go_simp
  have kN := KN.out
  first | refine ⟨kN, ?_⟩ | refine Or.inl ⟨kN, ?_⟩
  refine takeM (i := 16) (d := 223) (v := .bool true) rfl rfl (by kernel_rfl) (by kernel_rfl) (by kernel_rfl) (fun _ _ _ h => h) (Or.inl ⟨by rfl, fun W hW => ?_⟩) kN ?_
  · go_simp
  simp only [Act.put, List.setIfInBounds_toArray, List.set_cons_zero, List.set_cons_succ]
  refine takeM (i := 17) (d := 224) (v := .bool true) rfl rfl (by kernel_rfl) (by kernel_rfl) (by kernel_rfl) (fun _ _ _ h => h) (Or.inl ⟨by rfl, fun W hW => ?_⟩) kN ?_
  · go_simp
  simp only [Act.put, List.setIfInBounds_toArray, List.set_cons_zero, List.set_cons_succ]
  refine takeM (i := 18) (d := 4) (v := .bool true) rfl rfl (by kernel_rfl) (by kernel_rfl) (by kernel_rfl) (fun _ _ _ h => h) (Or.inl ⟨by rfl, fun W hW => ?_⟩) kN ?_
  · go_simp
  simp only [Act.put, List.setIfInBounds_toArray, List.set_cons_zero, List.set_cons_succ]
  refine wpAnyH_done (by kernel_rfl) ?_ _
  go_wp2
  go_ret
  exact ⟨rfl, kA.trans kN (fun _ f => f.elim)⟩
end Go.Proofs.YtildonmckcflmaaDoor
