import Derived.Test.YtehjbceknnopoaaDoorSmb
namespace Go.Proofs.YtehjbceknnopoaaDoor
open Go.ChangeShapes Go.WideShapes Go.ChangeAt Go.RowKit

theorem penc_congr {kind : Nat} {A B : List BkD} (h : A.map bkv = B.map bkv) : penc kind A = penc kind B ∧ btot A = btot B ∧ A.length = B.length := by
  have hl : A.length = B.length := by have := congrArg List.length h; rwa [List.length_map, List.length_map] at this
  have key : ∀ (A B : List BkD), A.map bkv = B.map bkv → bencs A = bencs B ∧ btot A = btot B := by
    intro A
    induction A with
    | nil => intro B h; cases B with
      | nil => exact ⟨rfl, rfl⟩
      | cons y B => simp at h
    | cons x A ih => intro B h; cases B with
      | nil => simp at h
      | cons y B =>
        simp only [List.map_cons, List.cons.injEq] at h
        obtain ⟨h1, h2⟩ := ih B h.2
        have h3 := h.1
        simp only [bkv, Prod.mk.injEq] at h3
        have ht : x.t = y.t := by omega
        rw [bencs_cons, bencs_cons, h1, ht, h3.2]
        simp only [btot, BkD.size, h2, h3.2, and_self]
  obtain ⟨h1, h2⟩ := key A B h
  refine ⟨?_, h2, hl⟩
  unfold penc phead
  rw [hl, h1]
theorem sealOk_penc (M : List Int) : sealOk (M ++ le 4 (sealed M)) := by
  unfold sealOk
  rw [show (M ++ le 4 (sealed M)).length - 4 = M.length by rw [List.length_append, le_length]; omega, List.drop_left, List.take_left]
theorem listR_penc {kind : Nat} {S : List BkD} (h : ∀ x ∈ S, 0 < x.t ∧ x.B.length < 18446744073709551616) (hS : S.length < 18446744073709551616) : listR ((phead kind S).drop 5) = .ok (S.map bkv) := by
  have e : (phead kind S).drop 5 = uvb S.length ++ bencs S := by
    unfold phead
    rw [List.append_assoc]
    rfl
  have hul := ulen_le S.length (by omega)
  have hku : (uvb S.length).length = ulen S.length := uvb_length _
  have ht10 : (uvb S.length ++ bencs S).take 10 = uvb S.length ++ (bencs S).take (10 - ulen S.length) := by rw [List.take_append, hku, List.take_of_length_le (by omega)]
  have hr : rdu 0 0 ((uvb S.length ++ bencs S).take 10) = .ok (S.length, ulen S.length) := by rw [ht10, rdu_uvb _ _ hS, hku]
  have hls := lsR_bencs S [] h
  rw [List.append_nil] at hls
  rw [e]
  unfold listR
  rw [hr]
  show (match lsR S.length ((uvb S.length ++ bencs S).drop (ulen S.length)) with | .error e => Except.error e | .ok (d, r) => if r = [] then .ok d else .error 4) = _
  rw [← hku, List.drop_left, hls]
  rfl
theorem unpR_penc {kind other : Nat} {S : List BkD} (hk : 0 < kind) (hk2 : kind < 256) (ho2 : other < 256) (h : ∀ x ∈ S, 0 < x.t ∧ x.B.length < 18446744073709551616) (hS : S.length < 18446744073709551616) : unpR other (penc kind S) = if other = kind then .ok (S.map bkv) else .error 5 := by
  have hul := ulen_le S.length (by omega)
  have hpl := penc_length kind S
  have hph := phead_length kind S
  have h5 : (penc kind S).take 5 = cncd kind := by
    unfold penc phead
    rw [List.append_assoc, List.append_assoc, show (5 : Nat) = (cncd kind).length from rfl, List.take_left]
  have hm : (penc kind S).take ((penc kind S).length - 4) = phead kind S := by
    rw [show (penc kind S).length - 4 = (phead kind S).length by omega]
    unfold penc
    rw [List.take_left]
  have hs : (penc kind S).drop ((penc kind S).length - 4) = le 4 (sealed ((penc kind S).take ((penc kind S).length - 4))) := sealOk_penc (phead kind S)
  unfold unpR
  rw [if_neg (by omega), if_neg (Classical.not_not.2 hs), h5, hm]
  by_cases ho : other = kind
  · subst ho
    rw [if_neg (by rintro (e | e); omega; exact e rfl), if_pos rfl, listR_penc h hS]
  · rw [if_neg ho, if_pos]
    refine .inr fun e => ho ?_
    simp only [cncd, List.cons.injEq, true_and, and_true] at e
    omega
set_option maxRecDepth 20000 in
set_option maxHeartbeats 8000000 in
theorem whole_walk (kind other : Nat) (S : List BkD) (a : Option Addr) (c : Nat) (w : World) (hk2 : kind < 256) (ho2 : other < 256) (hS : BksAt w a S) (hA : ∀ o ∈ S, o.At w) (htot : btot S ≤ 1073741824) (hT : TabAt w) {a0 a1 a2 a3 a4 a5 a6 : Addr} (hE : Errs7 w a0 a1 a2 a3 a4 a5 a6) :
    Calls Tryd.prog 8 #[.int .u8 kind, .int .u8 other, .slice a S.length c] w fun e w' => e = .returned (.bool true) ∧ Kept (fun _ => False) w w' := by
  have hcount := btot_count S
  have hcb : S.length ≤ 1073741824 := by omega
  have LV : Hid (Calls Tryd.prog 9 #[] w fun e W => e = .returned (.bool true) ∧ Hid (Kept (fun _ => False) w W)) := (lives2_any w hT).mono fun e W q => ⟨q.1, q.2⟩
  have NT : Hid (∀ W, Hid (Kept (fun _ => False) w W) → Calls Tryd.prog 18 #[.iface 103 (.pointer (some a5))] W fun e W' => e = .returned (.int .i64 6) ∧ W' = W) := fun W q => num_tag (hE.kept q.out)
  have PZ : Hid ((kind = 0 ∨ ∃ x ∈ S, x.t = 0) → ∀ W, Hid (Kept (fun _ => False) w W) → Calls Tryd.prog 16 #[.int .u8 kind, .slice a S.length c] W fun e W' => e = .returned (.tuple #[.slice none 0 0, .iface 103 (.pointer (some a5))]) ∧ Hid (Kept (fun _ => False) w W')) := by
    intro hbad W q
    by_cases hk0 : kind = 0
    · subst hk0
      exact (pack_zero _ W (hE.kept q.out)).mono fun e W' p => ⟨p.1, q.out.trans p.2 (fun _ f => f.elim)⟩
    · refine (pack_any kind S a c W (by omega) hk2 (hS.kept q.out) (fun x hx => (hA x hx).kept q.out) (hT.kept q.out) htot (hE.kept q.out)).mono ?_
      rintro e W' (⟨g, h0, -, -⟩ | ⟨-, rfl, k⟩)
      · obtain ⟨x, hx, hx0⟩ := hbad.resolve_left hk0
        have := h0 x hx
        omega
      · exact ⟨rfl, q.out.trans k (fun _ f => f.elim)⟩
  obtain ⟨P, hP⟩ : ∃ P, P = penc kind S := ⟨_, rfl⟩
  obtain ⟨N, hN⟩ : ∃ N, N = P.length := ⟨_, rfl⟩
  have hbl := bencs_small S (by omega)
  have hul := (ulen_le S.length (by omega)).2
  have hpl := penc_length kind S
  rw [← hP, ← hN] at hpl
  have hPb : IsBytes P := by rw [hP]; exact penc_bytes hk2 fun x hx => ⟨(hA x hx).t2, (hA x hx).i⟩
  have hsz : ∀ x ∈ S, x.B.length < 18446744073709551616 := fun x hx => by
    have := btot_mem hx
    simp only [BkD.size] at this
    omega
  have PK : Hid (¬ (kind = 0 ∨ ∃ x ∈ S, x.t = 0) → ∀ W, Hid (Kept (fun _ => False) w W) → Calls Tryd.prog 16 #[.int .u8 kind, .slice a S.length c] W fun e W' => ∃ g, e = .returned (.tuple #[.slice (some ⟨g, 0, none⟩) N N, .nilIface]) ∧ Hid (BytesAt W' (some ⟨g, 0, none⟩) P ∧ Kept (fun _ => False) w W')) := by
    intro hbad W q
    refine (pack_any kind S a c W (by omega) hk2 (hS.kept q.out) (fun x hx => (hA x hx).kept q.out) (hT.kept q.out) htot (hE.kept q.out)).mono ?_
    rintro e W' (⟨g, -, rfl, _, h2, h3⟩ | ⟨h0, -, -⟩)
    · rw [hN, hP]
      exact ⟨g, rfl, (own_bytesF h2).1, q.out.trans h3 (fun _ f => f.elim)⟩
    · exact (hbad (.inr h0)).elim
  have UN : Hid (¬ (kind = 0 ∨ ∃ x ∈ S, x.t = 0) → ∀ W g, Hid (BytesAt W (some ⟨g, 0, none⟩) P ∧ Kept (fun _ => False) w W) → Calls Tryd.prog 19 #[.int .u8 kind, .slice (some ⟨g, 0, none⟩) N N] W fun e W' => ∃ a' c' D, e = .returned (.tuple #[.slice a' S.length c', .nilIface]) ∧ Hid (D.map bkv = S.map bkv ∧ Bl w W' (.slice a' S.length c') D ∧ BytesAt W' (some ⟨g, 0, none⟩) P)) := by
    intro hbad W g q
    have r := unpack_any kind P (some ⟨g, 0, none⟩) N N W hk2 hN q.out.1 hPb (Nat.le_refl _) (by omega) (hT.kept q.out.2) (hE.kept q.out.2)
    rw [hP, unpR_penc (by omega) hk2 hk2 (fun x hx => ⟨by have : x.t ≠ 0 := fun e => hbad (.inr ⟨x, hx, e⟩); omega, hsz x hx⟩) (by omega), if_pos rfl] at r
    refine r.mono ?_
    rintro e W' ⟨a', c', D, rfl, h1, h2⟩
    have h2 : D.map bkv = S.map bkv := h2
    obtain ⟨-, -, h3⟩ := penc_congr (kind := kind) h2
    rw [h3] at h1
    refine ⟨a', c', D, by rw [h3], h2, h1.from q.out.2, bytes_keptF q.out.1 h1.kept⟩
  have SB : Hid (∀ W a' c' D g, Hid (D.map bkv = S.map bkv ∧ Bl w W (.slice a' S.length c') D ∧ BytesAt W (some ⟨g, 0, none⟩) P) → Calls Tryd.prog 13 #[.slice a' S.length c', .slice a S.length c] W fun e W' => e = .returned (.bool true) ∧ Hid (D.map bkv = S.map bkv ∧ Bl w W' (.slice a' S.length c') D ∧ BytesAt W' (some ⟨g, 0, none⟩) P)) := by
    intro W a' c' D g q
    obtain ⟨q1, q2, q3⟩ := q.out
    obtain ⟨-, -, h3⟩ := penc_congr (kind := kind) q1
    obtain ⟨a2, c2, e2, hb2⟩ := q2.at
    simp only [Value.slice.injEq] at e2
    obtain ⟨rfl, _, rfl⟩ := e2
    refine (same_true D S a' a c' c S.length S.length W hb2 (hS.kept q2.kept) q2.each (fun x hx => (hA x hx).kept q2.kept) q1 h3.symm rfl (by omega)).mono ?_
    rintro e W' ⟨rfl, k⟩
    exact ⟨rfl, q1, q2.same k, bytes_keptF q3 k⟩
  have PK2 : Hid (¬ (kind = 0 ∨ ∃ x ∈ S, x.t = 0) → ∀ W a' c' D g, Hid (D.map bkv = S.map bkv ∧ Bl w W (.slice a' S.length c') D ∧ BytesAt W (some ⟨g, 0, none⟩) P) → Calls Tryd.prog 16 #[.int .u8 kind, .slice a' S.length c'] W fun e W' => ∃ g2, e = .returned (.tuple #[.slice (some ⟨g2, 0, none⟩) N N, .nilIface]) ∧ ((convert 22 9 (.slice (some ⟨g2, 0, none⟩) N N)).run Tryd.prog W' = .ok (.string (strOfNums P)) W' ∧ (convert 22 9 (.slice (some ⟨g, 0, none⟩) N N)).run Tryd.prog W' = .ok (.string (strOfNums P)) W') ∧ Hid (BytesAt W' (some ⟨g, 0, none⟩) P ∧ Kept (fun _ => False) w W')) := by
    intro hbad W a' c' D g q
    obtain ⟨q1, q2, q3⟩ := q.out
    obtain ⟨h1, h2, h3⟩ := penc_congr (kind := kind) q1
    obtain ⟨a2, c2, e2, hb2⟩ := q2.at
    simp only [Value.slice.injEq] at e2
    obtain ⟨rfl, _, rfl⟩ := e2
    have hno : ¬ ∃ x ∈ D, x.t = 0 := by
      rintro ⟨x, hx, hx0⟩
      have hm : bkv x ∈ S.map bkv := by rw [← q1]; exact List.mem_map_of_mem hx
      obtain ⟨y, hy, hyx⟩ := List.mem_map.1 hm
      simp only [bkv, Prod.mk.injEq] at hyx
      exact hbad (.inr ⟨y, hy, by omega⟩)
    have r := pack_any kind D a' c' W (by omega) hk2 hb2 q2.each (hT.kept q2.kept) (by omega) (hE.kept q2.kept)
    rw [h3] at r
    refine r.mono ?_
    rintro e W' (⟨g2, -, rfl, _, h2', h3'⟩ | ⟨h0, -, -⟩)
    · rw [h1, ← hP, ← hN] at h2'
      have hb1 := (own_bytesF h2').1
      have c1 := conv_atF (c := N) hb1
      have c2 := conv_atF (c := N) (bytes_keptF q3 h3')
      rw [← hN] at c1 c2
      refine ⟨g2, by rw [h1, ← hP, ← hN], ⟨c1, c2⟩, bytes_keptF q3 h3', q2.kept.trans h3' (fun _ f => f.elim)⟩
    · exact (hno h0).elim
  have UN2 : Hid (¬ (kind = 0 ∨ ∃ x ∈ S, x.t = 0) → ∀ W g, Hid (BytesAt W (some ⟨g, 0, none⟩) P ∧ Kept (fun _ => False) w W) → Calls Tryd.prog 19 #[.int .u8 other, .slice (some ⟨g, 0, none⟩) N N] W fun e W' => ∃ a' n' c' v, e = .returned (.tuple #[.slice a' n' c', v]) ∧ (other ≠ kind → a' = none ∧ n' = 0 ∧ c' = 0 ∧ v = .iface 103 (.pointer (some a5))) ∧ Hid (Kept (fun _ => False) w W')) := by
    intro hbad W g q
    have r := unpack_any other P (some ⟨g, 0, none⟩) N N W ho2 hN q.out.1 hPb (Nat.le_refl _) (by omega) (hT.kept q.out.2) (hE.kept q.out.2)
    rw [hP, unpR_penc (by omega) hk2 ho2 (fun x hx => ⟨by have : x.t ≠ 0 := fun e => hbad (.inr ⟨x, hx, e⟩); omega, hsz x hx⟩) (by omega)] at r
    by_cases ho : other = kind
    · rw [if_pos ho] at r
      refine r.mono ?_
      rintro e W' ⟨a', c', D, rfl, h1, h2⟩
      exact ⟨a', _, c', _, rfl, fun h => (h ho).elim, q.out.2.trans h1.kept (fun _ f => f.elim)⟩
    · rw [if_neg ho] at r
      refine r.mono ?_
      rintro e W' ⟨rfl, k⟩
      exact ⟨none, 0, 0, _, rfl, fun _ => ⟨rfl, rfl, rfl, rfl⟩, q.out.2.trans k (fun _ f => f.elim)⟩
  generalize strOfNums P = st at PK2
  have HS := hideC hS
  have hNb : N ≤ 1099511627776 := by omega
  clear hS hA hT hE htot hbl hul hPb hsz hP hN hcount hpl
  go_enter Tryd.func8, Tryd.ntmps8
  go_wp2_with (go_at_call 9; refine LV.out.mono ?_; rintro e W2 ⟨rfl, K2⟩)
  go_loopw [7, 21] (fun bad i wr => ∃ (k : Nat) (bd : Bool), k ≤ S.length ∧ i = .int .i64 k ∧ bad = .bool bd ∧ Hid (bd = true ↔ kind = 0 ∨ ∃ x ∈ S.take k, x.t = 0) ∧ Hid (Kept (fun _ => False) w wr)) (fun _ i _ => S.length - (intOf i).toNat)
  case atStart =>
    refine ⟨0, decide (kind = 0), Nat.zero_le _, rfl, ?_, ?_, K2⟩
    · by_cases h : kind = 0
      · subst h; rfl
      · have h1 : (kind : Int) ≠ 0 := by omega
        rw [decide_eq_false h]
        first
          | rfl
          | simp [h]
          | simp [h1]
    · show _ ↔ _
      rw [decide_eq_true_iff]
      refine ⟨.inl, fun h => h.elim id ?_⟩
      rintro ⟨x, hx, _⟩
      simp at hx
  case round =>
    obtain ⟨k, bd, hkn, rfl, rfl, HB, HK⟩ := hrel
    clear LV K2
    by_cases hlt : k < S.length
    · obtain ⟨b, off, rfl, hc⟩ := HS.out (by intro e; rw [e] at hlt; simp at hlt)
      have h0 := HK.out.cell (hc k hlt).1 (fun f => f)
      have h1 := HK.out.cell (hc k hlt).2 (fun f => f)
      have HB2 : Hid ((bd || decide ((S[k]).t = 0)) = true ↔ kind = 0 ∨ ∃ x ∈ S.take (k + 1), x.t = 0) := by
        show _ ↔ _
        rw [Bool.or_eq_true, HB.out, decide_eq_true_iff, take_nextB hlt]
        constructor
        · rintro ((h | ⟨x, hx, h⟩) | h)
          · exact .inl h
          · exact .inr ⟨x, List.mem_append_left _ hx, h⟩
          · exact .inr ⟨_, List.mem_append_right _ List.mem_cons_self, h⟩
        · rintro (h | ⟨x, hx, h⟩)
          · exact .inl (.inl h)
          · rcases List.mem_append.1 hx with hx | hx
            · exact .inl (.inr ⟨x, hx, h⟩)
            · rw [List.mem_singleton] at hx; subst hx; exact .inr h
      generalize S[k] = x at h0 h1 HB2
      obtain ⟨t, ab, cb, B⟩ := x
      simp only at h0 h1 HB2
      generalize B.length = nb at h1
      clear hc HB PK UN SB PK2 UN2 PZ NT
      cases bd with
      | true =>
        go_wp2
        go_roundw
        case rel => exact ⟨k + 1, true, by omega, by go_num, rfl, HB2, HK.out.trans (Kept.alloc _ _) (fun _ f => f.elim)⟩
        case measure => simp [intOf]; omega
      | false =>
        by_cases ht : t = 0
        · subst ht
          have z0 : ((0 : Nat) : Int) = 0 := rfl
          rw [z0] at h0
          go_wp2
          go_roundw
          case rel => exact ⟨k + 1, true, by omega, by go_num, rfl, HB2, HK.out.trans (Kept.alloc _ _) (fun _ f => f.elim)⟩
          case measure => simp [intOf]; omega
        · have hti : (t : Int) ≠ 0 := by omega
          have htb : ((t : Int) == 0) = false := beq_eq_false_iff_ne.2 hti
          rw [decide_eq_false ht] at HB2
          go_wp2
          go_roundw
          case rel => exact ⟨k + 1, false, by omega, by go_num, by first | rfl | simp [htb] | simp [hti], HB2, HK.out.trans (Kept.alloc _ _) (fun _ f => f.elim)⟩
          case measure => simp [intOf]; omega
    · obtain rfl : k = S.length := by omega
      have hb : Hid (bd = true ↔ kind = 0 ∨ ∃ x ∈ S, x.t = 0) := by have := HB.out; rwa [List.take_length] at this
      clear HB HS
      cases bd with
      | true =>
        have PZ2 := hideC (PZ.out (hb.out.1 rfl) wr HK)
        clear PK UN SB PK2 UN2 PZ hb
        go_wp2_with (first | (go_at_call 16; refine PZ2.out.mono ?_; clear PZ2; rintro e W3 ⟨rfl, K3⟩) | (go_at_call 18; refine (NT.out W3 K3).mono ?_; rintro e W4 ⟨rfl, e4⟩; subst e4))
        go_ret
        exact ⟨rfl, K3.out⟩
      | false =>
        have hnb : ¬ (kind = 0 ∨ ∃ x ∈ S, x.t = 0) := fun h => by have := hb.out.2 h; cases this
        have P1 := hideC (PK.out hnb wr HK)
        have U1 := hideC (UN.out hnb)
        have P2 := hideC (PK2.out hnb)
        have U2 := hideC (UN2.out hnb)
        clear PK UN PK2 UN2 PZ hb hnb
        by_cases ho : other = kind
        · have hoi : (other : Int) = (kind : Int) := by omega
          clear NT
          subst ho
          go_wp2_with (first
            | (go_at_call 16; refine (P2.out W5 _ _ _ _ K5).mono ?_; clear P2; rintro e W6 ⟨g6, rfl, ⟨x1, x2⟩, K6⟩)
            | (go_at_call 16; refine P1.out.mono ?_; clear P1; rintro e W3 ⟨g3, rfl, K3⟩)
            | (go_at_call 19; refine (U2.out W6 _ K6).mono ?_; clear U2; rintro e W7 ⟨a7, n7, c7, v7, rfl, -, K7⟩)
            | (go_at_call 19; refine (U1.out W3 g3 K3).mono ?_; clear U1; rintro e W4 ⟨a4', c4', D4, rfl, K4⟩)
            | (go_at_call 13; refine (SB.out W4 _ _ _ _ K4).mono ?_; clear SB; rintro e W5 ⟨rfl, K5⟩))
          go_ret
          exact ⟨by first | rfl | simp, K7.out⟩
        · have hoi : (other : Int) ≠ (kind : Int) := by omega
          have hob : ((other : Int) == (kind : Int)) = false := beq_eq_false_iff_ne.2 hoi
          go_wp2_with (first
            | (go_at_call 16; refine (P2.out W5 _ _ _ _ K5).mono ?_; clear P2; rintro e W6 ⟨g6, rfl, ⟨x1, x2⟩, K6⟩)
            | (go_at_call 16; refine P1.out.mono ?_; clear P1; rintro e W3 ⟨g3, rfl, K3⟩)
            | (go_at_call 19; refine (U2.out W6 _ K6).mono ?_; clear U2; rintro e W7 ⟨a7, n7, c7, v7, rfl, e7, K7⟩; obtain ⟨rfl, rfl, rfl, rfl⟩ := e7 ho; clear e7)
            | (go_at_call 19; refine (U1.out W3 g3 K3).mono ?_; clear U1; rintro e W4 ⟨a4', c4', D4, rfl, K4⟩)
            | (go_at_call 13; refine (SB.out W4 _ _ _ _ K4).mono ?_; clear SB; rintro e W5 ⟨rfl, K5⟩)
            | (go_at_call 18; refine (NT.out W7 K7).mono ?_; rintro e W8 ⟨rfl, e8⟩; subst e8))
          go_ret
          exact ⟨by first | rfl | simp, K7.out⟩
end Go.Proofs.YtehjbceknnopoaaDoor
