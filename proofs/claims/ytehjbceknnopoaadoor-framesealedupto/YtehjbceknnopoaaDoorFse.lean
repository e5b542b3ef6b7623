import Derived.Test.YtehjbceknnopoaaDoorFun
namespace Go.Proofs.YtehjbceknnopoaaDoor
open Go.ChangeShapes Go.WideShapes Go.ChangeAt Go.RowKit

set_option maxRecDepth 20000 in
set_option maxHeartbeats 8000000 in
theorem sealed_walk (kind : Nat) (l : List Int) (a : Option Addr) (c : Nat) (w : World) (hk2 : kind < 256) (hB : BytesAt w a l) (hb : IsBytes l) (ha : a = none → c = 0) (hl : l.length ≤ 1073741824) (hT : TabAt w) {a0 a1 a2 a3 a4 a5 a6 : Addr} (hE : Errs7 w a0 a1 a2 a3 a4 a5 a6) :
    Calls Tryd.prog 7 #[.int .u8 kind, .slice a l.length c] w fun e w' => e = .returned (.bool true) ∧ Kept (fun _ => False) w w' := by
  have LV : Hid (Calls Tryd.prog 9 #[] w fun e W => e = .returned (.bool true) ∧ Hid (Kept (fun _ => False) w W)) := (lives2_any w hT).mono fun e W q => ⟨q.1, q.2⟩
  obtain ⟨s, hs⟩ : ∃ s, s = sealed l := ⟨_, rfl⟩
  have hs4 : s < 4294967296 := by rw [hs]; exact sealed_lt _
  have RS : Hid (∀ W, Hid (Kept (fun _ => False) w W) → Calls Tryd.prog 21 #[.slice a l.length c] W fun e W' => e = .returned (.int .u32 s) ∧ W' = W) := by
    intro W q
    rw [hs]
    exact rsealed_any l a c W (bytes_keptF hB q.out) hb (by omega)
  obtain ⟨I, hI⟩ : ∃ I, I = l ++ le 4 s := ⟨_, rfl⟩
  obtain ⟨N, hN⟩ : ∃ N, N = I.length := ⟨_, rfl⟩
  have hNl : N = l.length + 4 := by rw [hN, hI, List.length_append, le_length]
  have hIb : IsBytes I := by
    rw [hI]
    intro x hx
    rcases List.mem_append.1 hx with hx | hx
    · exact hb x hx
    · exact le_bytes _ _ x hx
  have e4 : (bs (le 4 s)).toArray = #[.int .u8 ((s : Int) % 256), .int .u8 ((s : Int) / 256 % 256), .int .u8 ((s : Int) / 65536 % 256), .int .u8 ((s : Int) / 16777216)] := by
    show #[Value.int .u8 ((s % 256 : Nat) : Int), .int .u8 ((s / 256 % 256 : Nat) : Int), .int .u8 ((s / 256 / 256 % 256 : Nat) : Int), .int .u8 ((s / 256 / 256 / 256 % 256 : Nat) : Int)] = _
    rw [show ((s % 256 : Nat) : Int) = (s : Int) % 256 by omega, show ((s / 256 % 256 : Nat) : Int) = (s : Int) / 256 % 256 by omega, show ((s / 256 / 256 % 256 : Nat) : Int) = (s : Int) / 65536 % 256 by omega, show ((s / 256 / 256 / 256 % 256 : Nat) : Int) = (s : Int) / 16777216 by omega]
  obtain ⟨n, hn⟩ : ∃ n, n = l.length := ⟨_, rfl⟩
  have NL := hideC hn
  have YL : Hid (l = [] ++ l) := rfl
  have LL : Hid (l.length ≤ 140737488355328) := by show l.length ≤ _; omega
  have ZL : Hid (a = none → c = 0) := ha
  have N4 : Hid (4 = (le 4 s).length) := by show 4 = _; rw [le_length]
  have YI : Hid (I = l ++ le 4 s) := hI
  have NI := hideC hN
  have LI : Hid (I.length ≤ 140737488355328) := by show I.length ≤ _; omega
  have Z4 : ∀ g : Nat, Hid ((some ⟨g, 0, none⟩ : Option Addr) = none → 4 = 0) := fun g e => nomatch e
  have B4 : Hid (∀ W : World, Hid (BytesAt (W.alloc (.cells #[.int .u8 ((s : Int) % 256), .int .u8 ((s : Int) / 256 % 256), .int .u8 ((s : Int) / 65536 % 256), .int .u8 ((s : Int) / 16777216)] 5)) (some ⟨W.heap.size, 0, none⟩) (le 4 s))) := by
    intro W
    rw [← e4]
    exact built_bytes W (le 4 s) (0, 0)
  have HBB : Hid (∀ W, Kept (fun _ => False) w W → Hid (BytesAt W a l)) := fun W k => bytes_keptF hB k
  have IM : ∀ {w1 W : World} {a1 : Option Addr} {c1 : Nat}, OwnB w1 W (.slice a1 N c1) I → BytesAt W a1 I ∧ N ≤ c1 := by
    intro w1 W a1 c1 ho
    obtain ⟨a2, c2, e2, hb2, hz2⟩ := ho.at
    simp only [Value.slice.injEq] at e2
    obtain ⟨rfl, _, rfl⟩ := e2
    refine ⟨hb2, ?_⟩
    rcases ho.row.2 with ⟨e, e0⟩ | ⟨g, cap, cur, e, _, _, h1, _⟩
    · rw [← hN] at e0; omega
    · simp only [Value.slice.injEq] at e
      rw [← hN] at h1
      omega
  cases hu : unpR kind I with
  | error er =>
    have he := unpR_codes hu
    obtain ⟨ad, had⟩ := erL_is a0 a1 a4 a5 a6 er
    have UN : Hid (∀ w1 W a1 c1, Hid (OwnB w1 W (.slice a1 N c1) I ∧ Kept (fun _ => False) w w1) → Calls Tryd.prog 19 #[.int .u8 kind, .slice a1 N c1] W fun e W' => e = .returned (.tuple #[.slice none 0 0, .iface 103 (.pointer (some ad))]) ∧ Hid (OwnB w1 W' (.slice a1 N c1) I ∧ Kept (fun _ => False) w w1)) := by
      intro w1 W a1 c1 q
      have kw := q.out.2.trans q.out.1.kept (fun _ f => f.elim)
      have r := unpack_any kind I a1 N c1 W hk2 hN (IM q.out.1).1 hIb (IM q.out.1).2 (by omega) (hT.kept kw) (hE.kept kw)
      rw [hu] at r
      refine r.mono ?_
      rintro e W' ⟨rfl, k⟩
      rw [had]
      exact ⟨rfl, q.out.1.same k, q.out.2⟩
    have RU : Hid (∀ w1 W a1 c1, Hid (OwnB w1 W (.slice a1 N c1) I ∧ Kept (fun _ => False) w w1) → Calls Tryd.prog 20 #[.int .u8 kind, .slice a1 N c1] W fun e W' => e = .returned (.tuple #[.slice none 0 0, .int .i64 ((er + 1 : Nat) : Int)]) ∧ Hid (Kept (fun _ => False) w W')) := by
      intro w1 W a1 c1 q
      have kw := q.out.2.trans q.out.1.kept (fun _ f => f.elim)
      have r := runpack_any kind I a1 N c1 W hk2 hN (IM q.out.1).1 hIb (IM q.out.1).2 (by omega)
      rw [hu] at r
      refine r.mono ?_
      rintro e W' ⟨rfl, k⟩
      exact ⟨rfl, kw.trans k (fun _ f => f.elim)⟩
    have NM : Hid (∀ W, Hid (Kept (fun _ => False) w W) → Calls Tryd.prog 18 #[.iface 103 (.pointer (some ad))] W fun e W' => e = .returned (.int .i64 ((er + 1 : Nat) : Int)) ∧ W' = W) := by
      intro W q
      rw [← had]
      exact num_erL (hE.kept q.out) he
    have SB : Hid (∀ W, Hid (Kept (fun _ => False) w W) → Calls Tryd.prog 13 #[.slice none 0 0, .slice none 0 0] W fun e W' => e = .returned (.bool true) ∧ Hid (Kept (fun _ => False) w W')) := by
      intro W q
      refine (same_true [] [] none none 0 0 0 0 W (bksAt_nil W) (bksAt_nil W) (fun x hx => by cases hx) (fun x hx => by cases hx) rfl rfl rfl (by decide)).mono ?_
      rintro e W' ⟨rfl, k⟩
      exact ⟨rfl, q.out.trans k (fun _ f => f.elim)⟩
    generalize er + 1 = e1 at RU NM
    rw [← hn] at RS ⊢
    clear hB hb hT hE hu he had hs hI hN hNl hIb e4 hn ha IM hl
    go_enter Tryd.func7, Tryd.ntmps7
    go_wp2_with (first
      | (go_at_call 9; refine LV.out.mono ?_; rintro e W2 ⟨rfl, K2⟩; have PE := hideC (ownB_empty W2); have QE := HBB.out _ (K2.out.trans (Kept.alloc W2 (.cells #[] 5)) (fun _ f => f.elim)))
      | (go_at_call 21; refine (RS.out W2 K2).mono ?_; rintro e W3 ⟨rfl, e3⟩; subst e3)
      | (at_builtin; refine wpList_apn rfl _ _ rfl _ [] l l n n rfl a c rfl NL YL NL PE QE ZL LL ?_; clear PE QE; intro a4' c4' W4 O4; have P4 := hideC (O4.out.alloc (.cells #[.int .u8 ((s : Int) % 256), .int .u8 ((s : Int) / 256 % 256), .int .u8 ((s : Int) / 65536 % 256), .int .u8 ((s : Int) / 16777216)] 5)); have Q4 := B4.out W4)
      | (at_builtin; refine wpList_apn rfl _ _ rfl _ l (le 4 s) I 4 N rfl _ 4 rfl N4 YI NI P4 Q4 (Z4 _) LI ?_; clear P4 Q4; intro a5' c5' W5 O5; have K5 := hideC (And.intro O5.out K2.out))
      | (go_at_call 19; refine (UN.out _ W5 _ _ K5).mono ?_; rintro e W6 ⟨rfl, K6⟩)
      | (go_at_call 20; refine (RU.out _ W6 _ _ K6).mono ?_; rintro e W7 ⟨rfl, K7⟩)
      | (go_at_call 18; refine (NM.out _ K7).mono ?_; rintro e W8 ⟨rfl, e8⟩; subst e8)
      | (go_at_call 13; refine (SB.out _ K7).mono ?_; rintro e W9 ⟨rfl, K9⟩))
    go_ret
    exact ⟨by first | rfl | simp, K9.out⟩
  | ok d =>
    obtain ⟨hk0, hpos, hpe⟩ := unpR_sound hIb hu
    have hsz : ∀ D : List BkD, D.map bkv = d → btot D ≤ 1073741824 ∧ d.length = D.length := by
      intro D hD
      have h1 := congrArg List.length (hpe D hD)
      have h2 := penc_length kind D
      have h3 := bencs_btot D
      rw [← hN] at h1
      exact ⟨by omega, by rw [← hD, List.length_map]⟩
    have UN : Hid (∀ w1 W a1 c1, Hid (OwnB w1 W (.slice a1 N c1) I ∧ Kept (fun _ => False) w w1) → Calls Tryd.prog 19 #[.int .u8 kind, .slice a1 N c1] W fun e W' => ∃ a' c' D, e = .returned (.tuple #[.slice a' d.length c', .nilIface]) ∧ Hid ((OwnB w1 W' (.slice a1 N c1) I ∧ Kept (fun _ => False) w w1) ∧ D.map bkv = d ∧ Bl w W' (.slice a' d.length c') D)) := by
      intro w1 W a1 c1 q
      have kw := q.out.2.trans q.out.1.kept (fun _ f => f.elim)
      have r := unpack_any kind I a1 N c1 W hk2 hN (IM q.out.1).1 hIb (IM q.out.1).2 (by omega) (hT.kept kw) (hE.kept kw)
      rw [hu] at r
      refine r.mono ?_
      rintro e W' ⟨a', c', D, rfl, h1, h2⟩
      have h2 : D.map bkv = d := h2
      rw [(hsz D h2).2]
      exact ⟨a', c', D, rfl, ⟨q.out.1.same h1.kept, q.out.2⟩, h2, h1.from kw⟩
    have RU : Hid (∀ w1 W a1 c1 a1' c1' D1, Hid ((OwnB w1 W (.slice a1 N c1) I ∧ Kept (fun _ => False) w w1) ∧ D1.map bkv = d ∧ Bl w W (.slice a1' d.length c1') D1) → Calls Tryd.prog 20 #[.int .u8 kind, .slice a1 N c1] W fun e W' => ∃ a' c' D, e = .returned (.tuple #[.slice a' d.length c', .int .i64 0]) ∧ Hid (((OwnB w1 W' (.slice a1 N c1) I ∧ Kept (fun _ => False) w w1) ∧ D1.map bkv = d ∧ Bl w W' (.slice a1' d.length c1') D1) ∧ D.map bkv = d ∧ Bl w W' (.slice a' d.length c') D)) := by
      intro w1 W a1 c1 a1' c1' D1 q
      obtain ⟨⟨q1, q2⟩, q3, q4⟩ := q.out
      have r := runpack_any kind I a1 N c1 W hk2 hN (IM q1).1 hIb (IM q1).2 (by omega)
      rw [hu] at r
      refine r.mono ?_
      rintro e W' ⟨a', c', D, rfl, h1, h2⟩
      refine ⟨a', c', D, by rw [(hsz D h2).2], ⟨⟨q1.same h1.kept, q2⟩, q3, q4.same h1.kept⟩, h2, ?_⟩
      rw [(hsz D h2).2]
      exact h1.from q4.kept
    have NN := hideC num_nil
    have SB : Hid (∀ w1 W a1 c1 a1' c1' D1 a' c' D, Hid (((OwnB w1 W (.slice a1 N c1) I ∧ Kept (fun _ => False) w w1) ∧ D1.map bkv = d ∧ Bl w W (.slice a1' d.length c1') D1) ∧ D.map bkv = d ∧ Bl w W (.slice a' d.length c') D) → Calls Tryd.prog 13 #[.slice a1' d.length c1', .slice a' d.length c'] W fun e W' => e = .returned (.bool true) ∧ Hid ((OwnB w1 W' (.slice a1 N c1) I ∧ Kept (fun _ => False) w w1) ∧ D1.map bkv = d ∧ Bl w W' (.slice a1' d.length c1') D1)) := by
      intro w1 W a1 c1 a1' c1' D1 a' c' D q
      obtain ⟨⟨⟨q5, q6⟩, q1, q2⟩, q3, q4⟩ := q.out
      have l1 := (hsz D1 q1).2
      have l2 := (hsz D q3).2
      obtain ⟨x1, y1, e1, hb1⟩ := q2.at
      simp only [Value.slice.injEq] at e1
      obtain ⟨rfl, _, rfl⟩ := e1
      obtain ⟨x2, y2, e2, hb2⟩ := q4.at
      simp only [Value.slice.injEq] at e2
      obtain ⟨rfl, _, rfl⟩ := e2
      have hD : d.length ≤ 1099511627776 := by
        have h1 := (hsz D1 q1).1
        have h2 := btot_count D1
        omega
      refine (same_true D1 D a1' a' c1' c' d.length d.length W hb1 hb2 q2.each q4.each (q1.trans q3.symm) l1 l2 hD).mono ?_
      rintro e W' ⟨rfl, k⟩
      exact ⟨rfl, ⟨q5.same k, q6⟩, q1, q2.same k⟩
    have PK : Hid (∀ w1 W a1 c1 a1' c1' D1, Hid ((OwnB w1 W (.slice a1 N c1) I ∧ Kept (fun _ => False) w w1) ∧ D1.map bkv = d ∧ Bl w W (.slice a1' d.length c1') D1) → Calls Tryd.prog 16 #[.int .u8 kind, .slice a1' d.length c1'] W fun e W' => ∃ g, e = .returned (.tuple #[.slice (some ⟨g, 0, none⟩) N N, .nilIface]) ∧ ((convert 22 9 (.slice (some ⟨g, 0, none⟩) N N)).run Tryd.prog W' = .ok (.string (strOfNums I)) W' ∧ (convert 22 9 (.slice a1 N c1)).run Tryd.prog W' = .ok (.string (strOfNums I)) W') ∧ Hid (Kept (fun _ => False) w W')) := by
      intro w1 W a1 c1 a1' c1' D1 q
      obtain ⟨⟨q5, q6⟩, q1, q2⟩ := q.out
      obtain ⟨x1, y1, e1, hb1⟩ := q2.at
      simp only [Value.slice.injEq] at e1
      obtain ⟨rfl, _, rfl⟩ := e1
      have r := pack_any kind D1 a1' c1' W hk0 hk2 hb1 q2.each (hT.kept q2.kept) (hsz D1 q1).1 (hE.kept q2.kept)
      rw [hpe D1 q1, ← hN, ← (hsz D1 q1).2] at r
      refine r.mono ?_
      rintro e W' (⟨g, -, rfl, _, h2, h3⟩ | ⟨⟨x, hx, hx0⟩, -, -⟩)
      · have hb2 : BytesAt W' (some ⟨g, 0, none⟩) I := (own_bytesF h2).1
        have d1 := conv_atF (c := N) hb2
        have d2 := conv_atF (c := c1) (bytes_keptF (IM q5).1 h3)
        rw [← hN] at d1 d2
        exact ⟨g, rfl, ⟨d1, d2⟩, q2.kept.trans h3 (fun _ f => f.elim)⟩
      · have hm : bkv x ∈ d := by rw [← q1]; exact List.mem_map_of_mem hx
        have := hpos _ hm
        simp only [bkv] at this
        omega
    generalize d.length = nd at UN RU SB PK
    generalize strOfNums I = st at PK
    rw [← hn] at RS ⊢
    clear hB hb hT hE hu hs hI hN hIb e4 hn ha IM hk0 hpos hpe hsz
    have hNb : N ≤ 1099511627776 := by omega
    clear hNl hl
    go_enter Tryd.func7, Tryd.ntmps7
    go_wp2_with (first
      | (go_at_call 9; refine LV.out.mono ?_; rintro e W2 ⟨rfl, K2⟩; have PE := hideC (ownB_empty W2); have QE := HBB.out _ (K2.out.trans (Kept.alloc W2 (.cells #[] 5)) (fun _ f => f.elim)))
      | (go_at_call 21; refine (RS.out W2 K2).mono ?_; rintro e W3 ⟨rfl, e3⟩; subst e3)
      | (at_builtin; refine wpList_apn rfl _ _ rfl _ [] l l n n rfl a c rfl NL YL NL PE QE ZL LL ?_; clear PE QE; intro a4' c4' W4 O4; have P4 := hideC (O4.out.alloc (.cells #[.int .u8 ((s : Int) % 256), .int .u8 ((s : Int) / 256 % 256), .int .u8 ((s : Int) / 65536 % 256), .int .u8 ((s : Int) / 16777216)] 5)); have Q4 := B4.out W4)
      | (at_builtin; refine wpList_apn rfl _ _ rfl _ l (le 4 s) I 4 N rfl _ 4 rfl N4 YI NI P4 Q4 (Z4 _) LI ?_; clear P4 Q4; intro a5' c5' W5 O5; have K5 := hideC (And.intro O5.out K2.out))
      | (go_at_call 19; refine (UN.out _ W5 _ _ K5).mono ?_; rintro e W6 ⟨a6', c6', D6, rfl, K6⟩)
      | (go_at_call 20; refine (RU.out _ W6 _ _ _ _ _ K6).mono ?_; rintro e W7 ⟨a7', c7', D7, rfl, K7⟩)
      | (go_at_call 18; refine (NN.out _).mono ?_; rintro e W8 ⟨rfl, e8⟩; subst e8)
      | (go_at_call 13; refine (SB.out _ _ _ _ _ _ _ _ _ _ K7).mono ?_; rintro e W9 ⟨rfl, K9⟩)
      | (go_at_call 16; refine (PK.out _ _ _ _ _ _ _ K9).mono ?_; rintro e WA ⟨gA, rfl, ⟨xA, xB⟩, KA⟩))
    go_ret
    exact ⟨by first | rfl | simp, KA.out⟩
end Go.Proofs.YtehjbceknnopoaaDoor
