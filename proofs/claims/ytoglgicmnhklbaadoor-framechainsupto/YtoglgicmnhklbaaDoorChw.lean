import Derived.Test.YtoglgicmnhklbaaDoorChn
import Derived.Test.YtoglgicmnhklbaaDoorLiv2
import Derived.BigQuiet
namespace Go.Proofs.YtoglgicmnhklbaaDoor
open Go.ChangeShapes Go.WideShapes Go.ChangeAt Go.RowKit

theorem bytes_one (W : World) (v : Int) : BytesAt (W.alloc (.cells #[.int .u8 v] 5)) (some ⟨W.heap.size, 0, none⟩) [v] := by
  intro _
  refine ⟨W.heap.size, 0, rfl, fun k hk => ?_⟩
  obtain rfl : k = 0 := by simp at hk; exact hk
  exact cell_of_one (heap_alloc_new W _)
theorem own_at2 {w W : World} {a : Option Addr} {n c : Nat} {X : List Int} (h : OwnB w W (.slice a n c) X) : BytesAt W a X ∧ (a = none → c = 0) := by
  obtain ⟨_, _, e, hb, hz⟩ := h.at
  simp only [Value.slice.injEq] at e
  obtain ⟨rfl, _, rfl⟩ := e
  exact ⟨hb, hz⟩
set_option maxRecDepth 20000 in
set_option maxHeartbeats 8000000 in
theorem chains_walk (S : List BkD) (R : List Int) (aS aR : Option Addr) (cS cR n nr : Nat) (w : World) {a0 a1 a5 a6 : Addr} (hn : n = S.length) (hnr : nr = R.length) (hS : BksAt w aS S) (hO : ∀ x ∈ S, x.At w) (hR : BytesAt w aR R) (bR : IsBytes R) (zR : aR = none → cR = 0) (hb : btot S ≤ 4294967296) (hr : R.length ≤ 4294967296) (hT : TabAt w) (hE : Errs4 w a0 a1 a5 a6) :
    Calls Tryd.prog 4 #[.slice aS n cS, .slice aR nr cR] w fun e w' => e = .returned (.bool true) ∧ Kept (fun _ => False) w w' := by
  have hsm := bencs_small S hb
  have hcnt := btot_count S
  have LV : Hid (Calls Tryd.prog 6 #[] w fun e W => e = .returned (.bool true) ∧ Hid (Kept (fun _ => False) w W)) := (lives2_any w hT).mono fun e W q => ⟨q.1, q.2⟩
  have hBig : ∀ x ∈ S, x.B.length ≤ 4294967296 := fun x hx => by have := btot_mem hx; unfold BkD.size at this; omega
  have EN : Hid (∀ k (hk : k < S.length) m, m = (benc (S[k]).t (S[k]).B).length → 0 < (S[k]).t → ∀ W, Kept (fun _ => False) w W → Calls Tryd.prog 12 #[.int .u8 (S[k]).t, .slice (S[k]).a (S[k]).B.length (S[k]).c] W fun e W' => ∃ g, e = .returned (.tuple #[.slice (some ⟨g, 0, none⟩) m m, .nilIface]) ∧ Hid (BytesAt W' (some ⟨g, 0, none⟩) (benc (S[k]).t (S[k]).B)) ∧ Hid (Kept (fun _ => False) W W')) := by
    intro k hk m hm h0 W q
    have hx := hO _ (List.getElem_mem hk)
    have := hBig _ (List.getElem_mem hk)
    refine (encode_any _ _ _ _ W h0 hx.t2 (bytes_keptF hx.b q) hx.i hx.z (by omega) (hT.kept q)).mono ?_
    rintro e W' ⟨g, rfl, _, h2, h3⟩
    rw [hm]
    exact ⟨g, rfl, (own_bytesF h2).1, h3⟩
  have SC : Hid (∀ nL W a c, nL = ((bencs S ++ [0]) ++ R).length → (∀ x ∈ S, 0 < x.t) → Kept (fun _ => False) w W → BytesAt W a ((bencs S ++ [0]) ++ R) → (a = none → c = 0) → Calls Tryd.prog 8 #[.slice a nL c, .int .i64 ((n : Int) + 1)] W fun e W' => ∃ (D : List BkD) (e1 e2 : Option Addr) (c1 c2 : Nat), e = .returned (.tuple #[.slice e1 n c1, .slice e2 n c2]) ∧ Hid (PlacesAt W' e1 ((chE S n).take n)) ∧ Hid (Bl W W' (.slice e2 n c2) D) ∧ Hid (D.map bkv = S.map bkv)) := by
    intro nL W a c hnL hpos q hB hz
    have hbb : IsBytes ((bencs S ++ [0]) ++ R) := by
      intro y hy
      rcases List.mem_append.1 hy with hy | hy
      · rcases List.mem_append.1 hy with hy | hy
        · exact bencs_bytes S (fun x hx => ⟨(hO x hx).t2, (hO x hx).i⟩) y hy
        · rw [List.mem_singleton] at hy; subst hy; omega
      · exact bR y hy
    refine (scanned_any ((bencs S ++ [0]) ++ R) a nL c ((n : Int) + 1) W hnL hB hbb hz (by rw [hnL, List.length_append, List.length_append]; simp only [List.length_cons, List.length_nil]; omega) (hT.kept q) (hE.kept q)).mono ?_
    rintro e W' ⟨pre, e1, e2, c1, c2, rfl, h1, h2, h3⟩
    have e0 : (bencs S ++ [0]) ++ R = bencs S ++ 0 :: R := by simp
    rw [e0, scan_chain S R (fun x hx => ⟨hpos x hx, by have := hBig x hx; omega⟩) (bencs_count S), List.take_of_length_le (by rw [chD_length]; omega)] at h3
    have hp : pre.length = n := by have := congrArg List.length h3; rw [List.length_map, chD_length] at this; omega
    rw [hp] at h2 ⊢
    refine ⟨pre.map Sx.D, e1, e2, c1, c2, rfl, ?_, h2, ?_⟩
    · show PlacesAt W' e1 _
      rw [hn, chE_take, ← h3, List.map_map]
      exact h1
    · show (pre.map Sx.D).map bkv = _
      rw [← chD_val S 0, ← h3, List.map_map, List.map_map]
      rfl
  have SB : Hid (∀ (D : List BkD) W0 W a c, Kept (fun _ => False) w W → Bl W0 W (.slice a n c) D → D.map bkv = S.map bkv → Calls Tryd.prog 10 #[.slice a n c, .slice aS n cS] W fun e W' => e = .returned (.bool true) ∧ Hid (Kept (fun _ => False) w W')) := by
    intro D W0 W a c q hbl he
    obtain ⟨a', c', e, hat⟩ := hbl.at
    simp only [Value.slice.injEq] at e
    obtain ⟨rfl, e2, rfl⟩ := e
    refine (same_true D S a aS c cS n n W hat (hS.kept q) hbl.each (fun x hx => (hO x hx).kept q) he e2 hn (by omega)).mono ?_
    rintro e W' ⟨rfl, k⟩
    exact ⟨rfl, q.trans k (fun _ f => f.elim)⟩
  have CE : Hid (∀ k (hk : k < S.length) W, Kept (fun _ => False) w W → ∃ b off, aS = some ⟨b, off, none⟩ ∧ W.cell? ⟨b, off + k * 2, none⟩ = some (.int .u8 (S[k]).t) ∧ W.cell? ⟨b, off + k * 2 + 1, none⟩ = some (.slice (S[k]).a (S[k]).B.length (S[k]).c)) := by
    intro k hk W q
    obtain ⟨b, off, e, hc⟩ := (hS.kept q) (by intro e; rw [e] at hk; simp at hk)
    exact ⟨b, off, e, hc k hk⟩
  have HR : Hid (∀ W, Kept (fun _ => False) w W → BytesAt W aR R) := fun W q => bytes_keptF hR q
  have HZ : Hid (aR = none → cR = 0) := zR
  have HN := hideC hn
  have HNR := hideC hnr
  have hn4 : n ≤ 4294967296 := by omega
  have hnr4 : nr ≤ 4294967296 := by omega
  have HSM : Hid (∀ k, (bencs (S.take k)).length ≤ 68719476736) := fun k => by have := bencs_take_le S k; show _ ≤ _; omega
  clear hS hO hR bR zR hb hr hT hE hsm hcnt hBig hn hnr
  go_enter Tryd.func4, Tryd.ntmps4
  go_wp2_with (go_at_call 6; refine LV.out.mono ?_; clear LV; rintro e W2 ⟨rfl, K2⟩)
  go_loopw [5, 6, 19] (fun all ends i wr => ∃ (k n5 : Nat) (a5' : Option Addr) (c5 : Nat) (a6' : Option Addr) (c6 : Nat), k ≤ n ∧ all = .slice a5' n5 c5 ∧ ends = .slice a6' (k + 1) c6 ∧ i = .int .i64 k ∧ Hid (n5 = (bencs (S.take k)).length) ∧ Hid (Chn w wr (.slice a5' n5 c5) (.slice a6' (k + 1) c6) (bencs (S.take k)) (chE S k)) ∧ Hid (∀ x ∈ S.take k, 0 < x.t)) (fun _ _ i _ => n - (intOf i).toNat)
  case atStart =>
    have q1 := heap_alloc_new (W2.alloc (.cells #[] 5)) (.cells #[.int .i64 0] 3)
    rw [World.size_alloc] at q1
    have z2 := K2.out.size
    refine ⟨0, 0, some ⟨W2.heap.size, 0, none⟩, 0, some ⟨W2.heap.size + 1, 0, none⟩, 1, Nat.zero_le _, rfl, rfl, rfl, rfl, ⟨((ownB_empty W2).from K2.out).alloc _, ?_, fun i hi hv => ?_⟩, fun x hx => by simp at hx⟩
    · exact ⟨rfl, .inr ⟨W2.heap.size + 1, 1, #[.int .i64 0], rfl, by omega, q1, Nat.le_refl _, by unfold maxLen; omega, rfl, rfl⟩⟩
    · have h1 : W2.heap.size = i := Option.some.inj hi
      have h2 : W2.heap.size + 1 = i := Option.some.inj hv
      omega
  case round =>
    obtain ⟨k, n5, b5, c5, b6, c6, hk, rfl, rfl, rfl, H5, HC, HP⟩ := hrel
    clear K2
    by_cases hlt : k < n
    · have hkS : k < S.length := by rw [← HN.out]; exact hlt
      obtain ⟨b, off, rfl, h0, h1⟩ := CE.out k hkS wr HC.out.o5.kept
      have i1 : (k : Int) < (n : Int) := by omega
      by_cases ht : (S[k]).t = 0
      · rw [ht] at h0
        have KW := hideC HC.out.o5.kept
        clear EN SC SB CE HR HZ HN HNR HSM H5 HC HP
        go_wp2
        go_ret
        exact ⟨rfl, KW.out.trans (Kept.alloc _ _) (fun _ f => f.elim)⟩
      · have htp : 0 < (S[k]).t := by omega
        obtain ⟨m, hm⟩ : ∃ m, m = (benc (S[k]).t (S[k]).B).length := ⟨_, rfl⟩
        obtain ⟨n6, hn6⟩ : ∃ n6, n6 = (bencs (S.take (k + 1))).length := ⟨_, rfl⟩
        have E1 := hideC (EN.out k hkS m hm htp)
        have HYS : Hid (bencs (S.take (k + 1)) = bencs (S.take k) ++ benc (S[k]).t (S[k]).B) := by show _ = _; rw [take_nextB hkS, bencs_snoc]
        have HM := hideC hm
        have HN6 := hideC hn6
        have HP2 : Hid (∀ x ∈ S.take (k + 1), 0 < x.t) := by
          intro x hx
          rw [take_nextB hkS] at hx
          rcases List.mem_append.1 hx with hx | hx
          · exact HP.out x hx
          · rw [List.mem_singleton] at hx; subst hx; exact htp
        have HR4 : Hid ((bencs (S.take (k + 1))).length ≤ 140737488355328) := by have := HSM.out (k + 1); show _ ≤ _; omega
        have HCE : Hid (chE S (k + 1) = chE S k ++ [n6]) := by show _ = _; rw [hn6]; exact chE_step S k
        have HCL : Hid (k + 1 + 1 = (chE S (k + 1)).length) := (chE_length S (k + 1)).symm
        have HCR : Hid ((chE S k).length ≤ 1099511627776) := by show _ ≤ _; rw [chE_length]; omega
        generalize benc (S[k]).t (S[k]).B = E at E1 HYS HM hm
        generalize (S[k]).t = T at h0 ht htp E1
        generalize (S[k]).a = ax at h1 E1
        generalize (S[k]).B.length = nx at h1 E1
        generalize (S[k]).c = cx at h1 E1
        have HZ4 : ∀ g, Hid ((some g : Option Addr) = none → m = 0) := fun g h => by cases h
        have KA := hideC (HC.out.o5.kept.trans (Kept.alloc wr (.cells #[.int .u8 T, .slice ax nx cx] 35)) (fun _ f => f.elim))
        have i3 : ¬ T = 0 := ht
        have i4 : ¬ ((T : Int) = 0) := by omega
        clear EN SC SB CE HR HZ HN HNR HSM H5 HP hm hn6
        go_wp2_with (first
          | (go_at_call 12; refine (E1.out _ KA.out).mono ?_; clear E1; rintro e W4 ⟨g4, rfl, B4, K4⟩; have C4 := hideC ((HC.out.same (Kept.alloc wr (.cells #[.int .u8 T, .slice ax nx cx] 35))).same K4.out); clear HC KA K4)
          | (at_builtin; refine wpList_chb rfl _ _ rfl _ (.slice b6 (k + 1) c6) (chE S k) (bencs (S.take k)) E (bencs (S.take (k + 1))) m n6 rfl _ _ rfl HM HYS HN6 C4 B4 (HZ4 _) HR4 ?_; clear C4 B4; intro a7 c7 W7 C7; have C8 := hideC (C7.out.same (Kept.alloc W7 (.cells #[.int .i64 n6] 3))); clear C7)
          | (at_builtin; refine wpList_chi rfl _ _ rfl (.slice a7 n6 c7) _ (bencs (S.take (k + 1))) (chE S k) (chE S (k + 1)) n6 (k + 1 + 1) rfl _ _ rfl (nw_one W7 _ _) HCE HCL C8 HCR ?_; clear C8; intro g9 cap9 W9 C9))
        go_roundw
        case rel => exact ⟨k + 1, n6, a7, c7, some ⟨g9, 0, none⟩, cap9, by omega, rfl, rfl, by go_num, HN6, C9, HP2⟩
        case measure => simp [intOf]; omega
    · obtain rfl : k = n := by omega
      have eS : S.take k = S := List.take_of_length_le (by rw [← HN.out]; exact Nat.le_refl _)
      rw [eS] at H5 HC HP
      obtain ⟨g6, rfl, hc6⟩ : ∃ g6, b6 = some ⟨g6, 0, none⟩ ∧ k + 1 ≤ c6 := by
        have hl := chE_length S k
        rcases HC.out.o6.2 with ⟨e, _⟩ | ⟨g, cap, cur, e, _, _, hle, _⟩
        · simp only [Value.slice.injEq] at e
          omega
        · simp only [Value.slice.injEq] at e
          obtain ⟨rfl, _, rfl⟩ := e
          exact ⟨g, rfl, by omega⟩
      obtain ⟨n8, hn8⟩ : ∃ n8, n8 = ((bencs S ++ [0]) ++ R).length := ⟨_, rfl⟩
      have C1 := hideC (HC.out.same (Kept.alloc wr (.cells #[.int .u8 0] 5)))
      have B1 := hideC (bytes_one wr 0)
      have M1 : Hid (1 = ([0] : List Int).length) := rfl
      have Y1 : Hid (bencs S ++ [0] = bencs S ++ [0]) := rfl
      have N1 : Hid (n5 + 1 = (bencs S ++ [0]).length) := by show _ = _; rw [List.length_append, H5.out]; rfl
      have Z1 : ∀ g c, Hid ((some g : Option Addr) = none → c = 0) := fun g c h => by cases h
      have hs0 : (bencs S).length ≤ 68719476736 := by have := HSM.out k; rw [eS] at this; exact this
      have R1 : Hid ((bencs S ++ [0]).length ≤ 140737488355328) := by show _ ≤ _; rw [List.length_append]; simp only [List.length_cons, List.length_nil]; omega
      have Y2 : Hid ((bencs S ++ [0]) ++ R = (bencs S ++ [0]) ++ R) := rfl
      have N2 := hideC hn8
      have R2 : Hid (((bencs S ++ [0]) ++ R).length ≤ 140737488355328) := by show _ ≤ _; rw [List.length_append, List.length_append, ← HNR.out]; simp only [List.length_cons, List.length_nil]; omega
      have i1 : ¬ ((k : Int) < (k : Int)) := by omega
      have i3 : ¬ c6 = 0 := by omega
      have i4 : (k : Int) ≤ (c6 : Int) := by omega
      have i5 : k ≤ c6 := by omega
      have AFT : Hid (∀ W8 a8 c8 W9 e1, Chn w W8 (.slice a8 n8 c8) (.slice (some ⟨g6, 0, none⟩) (k + 1) c6) ((bencs S ++ [0]) ++ R) (chE S k) → PlacesAt W9 e1 ((chE S k).take k) → Kept (fun _ => False) W8 W9 → ∀ c1, Calls Tryd.prog 9 #[.slice e1 k c1, .slice (some ⟨g6, 0, none⟩) k c6] W9 fun e W' => e = .returned (.bool true) ∧ Hid (Kept (fun _ => False) W9 W')) := by
        intro W8 a8 c8 W9 e1 hc hp kk c1
        obtain ⟨a', c', e, hpe, _⟩ := (hc.same kk).places
        simp only [Value.slice.injEq] at e
        obtain ⟨rfl, _, _⟩ := e
        exact sameInts_true ((chE S k).take k) e1 _ c1 c6 k W9 hp (hpe.take k) (by rw [List.length_take, chE_length]; omega) (by omega)
      clear EN CE HN HSM H5 hn8 hs0 eS
      go_wp2_with (first
        | (at_builtin; refine wpList_chb rfl _ _ rfl _ (.slice (some ⟨g6, 0, none⟩) (k + 1) c6) (chE S k) (bencs S) [0] (bencs S ++ [0]) 1 (n5 + 1) rfl _ _ rfl M1 Y1 N1 C1 B1 (Z1 _ _) R1 ?_; clear C1 B1 HC; intro a7 c7 W7 C7; have B7 := hideC (HR.out W7 C7.out.o5.kept))
        | (at_builtin; refine wpList_chb rfl _ _ rfl _ (.slice (some ⟨g6, 0, none⟩) (k + 1) c6) (chE S k) (bencs S ++ [0]) R ((bencs S ++ [0]) ++ R) nr n8 rfl _ _ rfl HNR Y2 N2 C7 B7 HZ R2 ?_; clear C7 B7; intro a8 c8 W8 C8; have B8 := hideC (own_at2 C8.out.o5))
        | (go_at_call 8; refine (SC.out n8 W8 a8 c8 N2.out HP.out C8.out.o5.kept B8.out.1 B8.out.2).mono ?_; clear SC B8; rintro e W9 ⟨D, e1, e2, c1, c2, rfl, P9, B9, V9⟩)
        | (go_at_call 9; refine (AFT.out W8 a8 c8 W9 e1 C8.out P9.out B9.out.kept c1).mono ?_; clear AFT P9; rintro e W10 ⟨rfl, K10⟩)
        | (go_at_call 10; refine (SB.out D W8 W10 e2 c2 ((C8.out.o5.kept.trans B9.out.kept (fun _ f => f.elim)).trans K10.out (fun _ f => f.elim)) (B9.out.same K10.out) V9.out).mono ?_; clear SB; rintro e W11 ⟨rfl, K11⟩))
      go_ret
      exact ⟨rfl, K11.out⟩
end Go.Proofs.YtoglgicmnhklbaaDoor
