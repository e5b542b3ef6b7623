import Derived.Test.YtoglgicmnhklbaaDoorRdc
import Derived.Test.YtoglgicmnhklbaaDoorDcd
namespace Go.Proofs.YtoglgicmnhklbaaDoor
open Go.ChangeShapes Go.WideShapes Go.ChangeAt Go.RowKit

set_option maxRecDepth 200000 in
set_option maxHeartbeats 4000000 in
theorem rdec_ok (l : List Int) (a : Option Addr) (n c p q : Nat) (w : World) (hn : n = l.length) (hB : BytesAt w a l) (hb : IsBytes l) (hc : l.length ≤ c) (hl : l.length ≤ 140737488355000) (hr : bodyR l = .ok (p, q)) :
    Calls Tryd.prog 19 #[.slice a n c] w fun e w' => RdPost w e w' (decR l) := by
  obtain ⟨hl0, ht0, hp1, hpq, hq4, x, k, hx, hpk, hqk⟩ := bodyR_ok hr
  obtain ⟨b, off, rfl, hcl⟩ := hB hl0
  have hpos : 0 < l.length := List.length_pos_iff.2 hl0
  have hc0 := hcl 0 hpos
  rw [Nat.add_zero] at hc0
  obtain ⟨t, ht0', ht1, -⟩ := hb.at hpos
  rw [ht0'] at hc0 ht0
  have k0 := Kept.alloc w (.cells #[.int .u8 0, .slice none 0 0] 35)
  have hc1 := k0.cell hc0 (fun f => f)
  have hlq : (l.take q).length = q := by rw [List.length_take]; omega
  have hbq : IsBytes (l.take q) := fun x hx => hb x (List.mem_of_mem_take hx)
  have hlen1 : (l.drop 1).length = l.length - 1 := List.length_drop ..
  have hb1 : IsBytes (l.drop 1) := fun x hx => hb x (List.mem_of_mem_drop hx)
  have NM : Hid (Calls Tryd.prog 34 #[.slice (some ⟨b, off + 1, none⟩) (n - 1) (c - 1)] (w.alloc (.cells #[.int .u8 0, .slice none 0 0] 35)) fun e W' => e = .returned (.tuple #[.int .u64 x, .int .i64 k, .int .i64 0]) ∧ Hid (W'.heap[w.heap.size]? = some (.cells #[.int .u8 0, .slice none 0 0] 35 (0, 0)) ∧ Kept (fun _ => False) w W')) := by
    refine (rnum_any (l.drop 1) _ (n - 1) (c - 1) _ (by rw [hlen1, hn]) (bytes_keptF (bytes_drop1 hB) k0) hb1 (by omega)).mono ?_
    rintro e W' ⟨rfl, rfl⟩
    rw [hx]
    exact ⟨rfl, blk_new w, k0⟩
  obtain ⟨s, hs⟩ : ∃ s, s = ext 0 (l.take q) := ⟨_, rfl⟩
  have hs4 : s < 4294967296 := by rw [hs]; exact ext_lt _ _
  have SM : Hid (∀ W, Kept (fun _ => False) w W → ∀ j, Calls Tryd.prog 31 #[.slice (some ⟨b, off, none⟩) q c] (W.drewN j) fun e W' => e = .returned (.int .u32 s) ∧ W' = W.drewN j) := by
    intro W k j
    have kj := k.trans (Kept.drewN W j) (fun _ f => f.elim)
    have r := rsum_any (l.take q) (some ⟨b, off, none⟩) c (W.drewN j) (bytes_take (bytes_keptF hB kj) q) hbq (by omega)
    rw [hlq, ← hs] at r
    exact r
  obtain ⟨f4, hf4⟩ : ∃ f, f = (l.drop q).take 4 := ⟨_, rfl⟩
  have hf4l : f4.length = 4 := by rw [hf4, List.length_take, List.length_drop]; omega
  have hf4b : IsBytes f4 := by rw [hf4]; exact fun x hx => hb x (List.mem_of_mem_drop (List.mem_of_mem_take hx))
  obtain ⟨S1, hS1⟩ : ∃ S, S = strOfNums (le 4 s) := ⟨_, rfl⟩
  obtain ⟨S2, hS2⟩ : ∃ S, S = strOfNums f4 := ⟨_, rfl⟩
  have hCB : Hid (∀ W, Kept (fun _ => False) w W → (convert 22 9 (.slice (some ⟨b, off + q, none⟩) 4 (c - q))).run Tryd.prog W = .ok (.string S2) W) := by
    intro W kj
    have h1 : BytesAt W (some ⟨b, off + q, none⟩) f4 := by rw [hf4]; exact bytes_take (bytes_dropF (bytes_keptF hB kj) q) 4
    have r := conv_atF (c := c - q) h1
    rw [hf4l, ← hS2] at r
    exact r
  have WD : Hid (∀ W, W.heap[w.heap.size]? = some (.cells #[.int .u8 0, .slice none 0 0] 35 (0, 0)) ∧ Kept (fun _ => False) w W → ∀ j, Calls Tryd.prog 30 #[.int .u32 s] (W.drewN j) fun e W' => ∃ g, e = .returned (.slice (some ⟨g, 0, none⟩) 4 4) ∧ (convert 22 9 (.slice (some ⟨g, 0, none⟩) 4 4)).run Tryd.prog W' = .ok (.string S1) W' ∧ Hid (W'.heap[w.heap.size]? = some (.cells #[.int .u8 0, .slice none 0 0] 35 (0, 0)) ∧ Kept (fun _ => False) w W')) := by
    intro W k j
    have kj := k.2.trans (Kept.drewN W j) (fun _ f => f.elim)
    refine (rword_any s (W.drewN j) hs4).mono ?_
    rintro e W' ⟨rfl, rfl⟩
    have ka := Kept.alloc (W.drewN j) (.cells (bs (le 4 s)).toArray 5)
    refine ⟨_, rfl, ?_, ka.heap ((Kept.drewN W j).heap k.1 (fun f => f)) (fun f => f), kj.trans ka (fun _ f => f.elim)⟩
    have h1 := built_bytes (W.drewN j) (le 4 s) (0, 0)
    have r := conv_atF (c := 4) h1
    rw [le_length, ← hS1] at r
    exact r
  obtain ⟨t4, ht4⟩ : ∃ t, t = (S1.toList == S2.toList) := ⟨_, rfl⟩
  have hdec : decR l = if t4 = true then .ok (l[0]?.getD 0, (l.drop p).take (q - p), q + 4) else .error 6 := by
    have h1 : decR l = if (l.drop q).take 4 = le 4 (ext 0 (l.take q)) then .ok (l[0]?.getD 0, (l.drop p).take (q - p), q + 4) else .error 6 := by unfold decR; rw [hr]
    have h2 : t4 = eqB (le 4 s) f4 := by rw [ht4, hS1, hS2]; rfl
    rw [h1, h2, str_beq (le_bytes 4 s) hf4b, ← hf4, ← hs]
    simp only [decide_eq_true_eq]
    by_cases e : f4 = le 4 s
    · rw [if_pos e, if_pos e.symm]
    · rw [if_neg e, if_neg (fun h => e h.symm)]
  have hC0 : Hid (∀ W, Kept (fun _ => False) w W → W.cell? ⟨b, off, none⟩ = some (.int .u8 (t : Int))) := fun W k => k.cell hc0 (fun f => f)
  have htI : (t : Int) ≠ 0 := by omega
  have hcc : ¬ c = 1 := by omega
  have hcq : ¬ c = q := by omega
  have hcp : ¬ c = p := by omega
  have P1 : 1 + (k : Int) = (p : Int) := by omega
  have P2 : (p : Int) + (x : Int) = (q : Int) := by omega
  have i1 : (q : Int) + 4 ≤ (c : Int) := by omega
  have j1 : IntKind.i64.wrap ((q : Int) + 4) = (q : Int) + 4 := by rw [IntKind.wrap_i64]; omega
  have j2 : ((q : Int) + 4).toNat = q + 4 := by omega
  have j3 : q + 4 ≤ c := by omega
  have j4 : q ≤ c := by omega
  have j5 : ¬ ((q : Int) + 4 < 0) := by omega
  have j6 : ¬ ((c : Int) < (q : Int) + 4) := by omega
  have j7 : ¬ ((q : Int) + 4 < (q : Int)) := by omega
  have j8 : q + 4 - q = 4 := by omega
  have i2 : (q : Int) ≤ (c : Int) := by omega
  have i3 : (0 : Int) ≤ (q : Int) + 4 := by omega
  have i4 : (0 : Int) ≤ (q : Int) := by omega
  have i5 : (q : Int) ≤ (q : Int) + 4 := by omega
  have r1 : ¬ ((n : Int) - 1 - (k : Int) < 4) := by omega
  have r2 : ¬ ((n : Int) - 1 - (k : Int) - 4 < (x : Int)) := by omega
  have hnn : 0 < n := by omega
  have hnI : (0 : Int) < (n : Int) := by omega
  have hkn : k ≤ n - 1 := by omega
  have hnb : n ≤ 140737488355000 := by omega
  have hxb : x ≤ 140737488355000 := by omega
  have hcn : n ≤ c := by omega
  rw [hdec, ht0']
  cases t4
  · rw [if_neg (by decide)]
    have hP : Hid (∀ w', Kept (fun _ => False) w w' → RdPost w (.returned (.tuple #[.agg #[.int .u8 0, .slice none 0 0], .int .i64 0, .int .i64 7])) w' (.error 6)) := fun w' k => ⟨rfl, k⟩
    have hSS : (S1.toList == S2.toList) = false := ht4.symm
    clear hbq
    clear hdec ht4 hs hB hb hcl hc0 hlq hr hl0 ht0 hC0 k0 hn hc hl hq4 hp1 hpq hlen1 hb1 hf4 hf4l hf4b hS1 hS2 hx hpk hqk ht0' hpos
    go_enter Tryd.func19, Tryd.ntmps19
    go_wp2_with (go_at_call 34; refine NM.out.mono ?_; rintro e W2 ⟨rfl, K2⟩)
    have SM2 := hideC (SM.out W2 K2.out.2)
    have WD2 := hideC (WD.out W2 K2.out)
    have cB2 := hCB.out W2.drew (K2.out.2.trans (Kept.drewN W2 1) (fun _ f => f.elim))
    have cB3 := fun j => hCB.out (W2.drewN j) (K2.out.2.trans (Kept.drewN W2 j) (fun _ f => f.elim))
    clear SM WD NM
    go_region_with (first | (go_at_call 31; refine (SM2.out _).mono ?_; rintro e W3 ⟨rfl, e3⟩; subst e3) | (go_at_call 30; refine (WD2.out _).mono ?_; rintro e W4 ⟨g4, rfl, cW4, K4⟩; have cB4 := hCB.out W4 K4.out.2))
    all_goals
      have z := K4.out.1
      have y0 : W4.cell? ⟨w.heap.size, 0, none⟩ = some (.int .u8 0) := by simp [World.cell?, z]
      have y1 : W4.cell? ⟨w.heap.size, 1, none⟩ = some (.slice none 0 0) := by simp [World.cell?, z]
      have y2 : W4.frozen? ⟨w.heap.size, 0, none⟩ = false := by simp [World.frozen?, z]
      have y3 : W4.frozen? ⟨w.heap.size, 1, none⟩ = false := by simp [World.frozen?, z]
      clear z
      go_wp2
      refine bodyPost_ret (results_cell3 rfl _ _ _ w.heap.size _ rfl (load_blk (blk_set2 K4.out.1))) rfl ?_
      exact hP.out _ (kept_set2 K4.out.2 (Nat.le_refl _))
  · rw [if_pos rfl]
    obtain ⟨body, hbody⟩ : ∃ x, x = (l.drop p).take (q - p) := ⟨_, rfl⟩
    have hbl : body.length = q - p := by rw [hbody, List.length_take, List.length_drop]; omega
    have hBB : Hid (∀ W, Kept (fun _ => False) w W → BytesAt W (some ⟨b, off + p, none⟩) body) := fun W k => by rw [hbody]; exact bytes_take (bytes_dropF (bytes_keptF hB k) p) _
    have hP : Hid (∀ w' a' c', OwnB w w' (.slice a' (q - p) c') body → RdPost w (.returned (.tuple #[.agg #[.int .u8 (t : Int), .slice a' (q - p) c'], .int .i64 ((q : Int) + 4), .int .i64 0])) w' (.ok ((t : Int), body, q + 4))) := fun w' a' c' ho => by
      refine ⟨a', c', ?_, by rw [hbl]; exact ho⟩
      rw [hbl]
      rfl
    rw [← hbody]
    have hSS : (S1.toList == S2.toList) = true := ht4.symm
    obtain ⟨nb, hnb2⟩ : ∃ m, m = q - p := ⟨_, rfl⟩
    have NB : Hid (nb = body.length) := by show nb = _; rw [hbl, hnb2]
    have YB : Hid (body = [] ++ body) := rfl
    have LB : Hid (body.length ≤ 140737488355328) := by show body.length ≤ _; omega
    have ZB : Hid ((some ⟨b, off + p, none⟩ : Option Addr) = none → c - p = 0) := fun e => nomatch e
    have f1 : (p : Int) ≤ (q : Int) := by omega
    have f2 : ¬ ((q : Int) < (p : Int)) := by omega
    have f4 : p ≤ q := hpq
    have f7 : p ≤ c := by omega
    rw [← hnb2] at hP
    have hnb3 : q - p = nb := hnb2.symm
    clear hbq hdec ht4 hs hB hb hcl hc0 hlq hr hl0 ht0 k0 hn hc hl hq4 hp1 hpq hlen1 hb1 hf4 hf4l hf4b hS1 hS2 hx hpk hqk ht0' hpos hbl hbody hnb2
    go_enter Tryd.func19, Tryd.ntmps19
    go_wp2_with (go_at_call 34; refine NM.out.mono ?_; rintro e W2 ⟨rfl, K2⟩)
    have SM2 := hideC (SM.out W2 K2.out.2)
    have WD2 := hideC (WD.out W2 K2.out)
    have cB2 := hCB.out W2.drew (K2.out.2.trans (Kept.drewN W2 1) (fun _ f => f.elim))
    have cB3 := fun j => hCB.out (W2.drewN j) (K2.out.2.trans (Kept.drewN W2 j) (fun _ f => f.elim))
    clear SM WD NM
    go_region_with (first | (go_at_call 31; refine (SM2.out _).mono ?_; rintro e W3 ⟨rfl, e3⟩; subst e3) | (go_at_call 30; refine (WD2.out _).mono ?_; rintro e W4 ⟨g4, rfl, cW4, K4⟩; have cB4 := hCB.out W4 K4.out.2))
    all_goals
      have PE := hideC (ownB_empty W4)
      have QE := hideC (hBB.out _ (K4.out.2.trans (Kept.alloc W4 (.cells #[] 5)) (fun _ f => f.elim)))
      clear SM2 WD2 cB2 cB3 cB4 cW4
      go_wp2_with (at_builtin; refine wpList_apn rfl _ _ rfl _ [] body body nb nb rfl (some ⟨b, off + p, none⟩) (c - p) rfl NB YB NB PE QE ZB LB ?_; intro a5 c5 W5 P5; have z := P5.out.kept.heap K4.out.1 (fun f => f); have y0 : W5.cell? ⟨w.heap.size, 0, none⟩ = some (.int .u8 0) := (by simp [World.cell?, z]); have y1 : W5.cell? ⟨w.heap.size, 1, none⟩ = some (.slice none 0 0) := (by simp [World.cell?, z]); have y2 : W5.frozen? ⟨w.heap.size, 0, none⟩ = false := (by simp [World.frozen?, z]); have y3 : W5.frozen? ⟨w.heap.size, 1, none⟩ = false := (by simp [World.frozen?, z]); have C5 := hC0.out W5 (K4.out.2.trans P5.out.kept (fun _ f => f.elim)); have Z5 := hideC z; clear z)
      refine bodyPost_ret (results_cell3 rfl _ _ _ w.heap.size _ rfl (load_blk (blk_set2 Z5.out))) rfl ?_
      exact hP.out _ _ _ (own_set2 P5.out K4.out.2 (lt_of_block K4.out.1) (Nat.le_refl _))
end Go.Proofs.YtoglgicmnhklbaaDoor
