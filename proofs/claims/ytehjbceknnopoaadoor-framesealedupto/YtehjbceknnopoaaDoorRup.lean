import Derived.Test.YtehjbceknnopoaaDoorUpx
import Derived.Test.YtehjbceknnopoaaDoorFdc
namespace Go.Proofs.YtehjbceknnopoaaDoor
open Go.ChangeShapes Go.WideShapes Go.ChangeAt Go.RowKit

def RuPost (w : World) (e : Ending) (w' : World) : Except Nat (List (Int × List Int)) → Prop
  | .error er => e = .returned (.tuple #[.slice none 0 0, .int .i64 ((er + 1 : Nat) : Int)]) ∧ Kept (fun _ => False) w w'
  | .ok d => ∃ a' c' D, e = .returned (.tuple #[.slice a' D.length c', .int .i64 0]) ∧ Bl w w' (.slice a' D.length c') D ∧ D.map bkv = d
theorem take5_iff {l : List Int} {kind : Nat} (h : 5 ≤ l.length) : l.take 5 = cncd kind ↔ l.take 4 = [99, 110, 99, 100] ∧ l[4]?.getD 0 = (kind : Int) := by
  match l, h with
  | x0 :: x1 :: x2 :: x3 :: x4 :: r, _ =>
    simp only [List.take_succ_cons, List.take_zero, cncd, List.cons.injEq, and_true, List.getElem?_cons_succ, List.getElem?_cons_zero, Option.getD_some]
    constructor
    · rintro ⟨h1, h2, h3, h4, h5⟩; exact ⟨⟨h1, h2, h3, h4⟩, h5⟩
    · rintro ⟨⟨h1, h2, h3, h4⟩, h5⟩; exact ⟨h1, h2, h3, h4, h5⟩
def cstr : ByteArray := ⟨#[99, 110, 99, 100]⟩
theorem cstr_is : strOfNums [99, 110, 99, 100] = cstr := by
  apply toList_inj
  decide +kernel
set_option maxRecDepth 20000 in
set_option maxHeartbeats 8000000 in
theorem runpack_any (kind : Nat) (l : List Int) (a : Option Addr) (n c : Nat) (w : World) (hk2 : kind < 256) (hn : n = l.length) (hB : BytesAt w a l) (hb : IsBytes l) (hc : n ≤ c) (hl : n ≤ 1099511627776) :
    Calls Tryd.prog 20 #[.int .u8 kind, .slice a n c] w fun e w' => RuPost w e w' (unpR kind l) := by
  by_cases h10 : n < 10
  · have hu : unpR kind l = .error 0 := by unfold unpR; rw [if_pos (by omega)]
    rw [hu]
    have HP : Hid (∀ w', Kept (fun _ => False) w w' → RuPost w (.returned (.tuple #[.slice none 0 0, .int .i64 1])) w' (.error 0)) := fun w' k => ⟨rfl, k⟩
    have i0 : (n : Int) < 10 := by omega
    clear hu hB hb hn
    go_enter Tryd.func20, Tryd.ntmps20
    go_wp2
    go_ret2
    exact HP.out _ (Kept.refl _ _)
  obtain ⟨b, off, rfl, hcl⟩ := hB (by intro e; rw [e] at hn; simp at hn; omega)
  obtain ⟨m, hm⟩ : ∃ m, n = m + 4 := ⟨n - 4, by omega⟩
  have htl : (l.take m).length = m := by rw [List.length_take]; omega
  obtain ⟨s, hs⟩ : ∃ s, s = sealed (l.take m) := ⟨_, rfl⟩
  have hs4 : s < 4294967296 := by rw [hs]; exact sealed_lt _
  have SM : Hid (∀ W, Kept (fun _ => False) w W → ∀ j, Calls Tryd.prog 21 #[.slice (some ⟨b, off, none⟩) m c] (W.drewN j) fun e W' => e = .returned (.int .u32 s) ∧ W' = W.drewN j) := by
    intro W k j
    have kj := k.trans (Kept.drewN W j) (fun _ f => f.elim)
    have r := rsealed_any (l.take m) (some ⟨b, off, none⟩) c (W.drewN j) (bytes_take (bytes_keptF hB kj) m) (fun x hx => hb x (List.mem_of_mem_take hx)) (by omega)
    rw [htl, ← hs] at r
    exact r
  obtain ⟨f4, hf4⟩ : ∃ f, f = l.drop m := ⟨_, rfl⟩
  have hf4l : f4.length = 4 := by rw [hf4, List.length_drop]; omega
  have hf4b : IsBytes f4 := by rw [hf4]; exact fun x hx => hb x (List.mem_of_mem_drop hx)
  obtain ⟨S1, hS1⟩ : ∃ S, S = strOfNums (le 4 s) := ⟨_, rfl⟩
  obtain ⟨S2, hS2⟩ : ∃ S, S = strOfNums f4 := ⟨_, rfl⟩
  have hCB : Hid (∀ W, Kept (fun _ => False) w W → (convert 22 9 (.slice (some ⟨b, off + m, none⟩) 4 (c - m))).run Tryd.prog W = .ok (.string S2) W) := by
    intro W kj
    have h1 : BytesAt W (some ⟨b, off + m, none⟩) f4 := by rw [hf4]; exact bytes_dropF (bytes_keptF hB kj) m
    have r := conv_atF (c := c - m) h1
    rw [hf4l, ← hS2] at r
    exact r
  have WD : Hid (∀ W, Kept (fun _ => False) w W → ∀ j, Calls Tryd.prog 37 #[.int .u32 s] (W.drewN j) fun e W' => ∃ g, e = .returned (.slice (some ⟨g, 0, none⟩) 4 4) ∧ (convert 22 9 (.slice (some ⟨g, 0, none⟩) 4 4)).run Tryd.prog W' = .ok (.string S1) W' ∧ Hid (Kept (fun _ => False) w W')) := by
    intro W k j
    have kj := k.trans (Kept.drewN W j) (fun _ f => f.elim)
    refine (rword_any s (W.drewN j) hs4).mono ?_
    rintro e W' ⟨rfl, rfl⟩
    have ka := Kept.alloc (W.drewN j) (.cells (bs (le 4 s)).toArray 5)
    refine ⟨_, rfl, ?_, kj.trans ka (fun _ f => f.elim)⟩
    have h1 := built_bytes (W.drewN j) (le 4 s) (0, 0)
    have r := conv_atF (c := 4) h1
    rw [le_length, ← hS1] at r
    exact r
  obtain ⟨t4, ht4⟩ : ∃ t, t = (S1.toList == S2.toList) := ⟨_, rfl⟩
  have hs0 : t4 = decide (l.drop (l.length - 4) = le 4 (sealed (l.take (l.length - 4)))) := by
    have h2 : t4 = eqB (le 4 s) f4 := by rw [ht4, hS1, hS2]; rfl
    rw [h2, str_beq (le_bytes 4 s) hf4b, show l.length - 4 = m by omega, ← hf4, ← hs]
    by_cases e : f4 = le 4 s
    · rw [decide_eq_true e, decide_eq_true e.symm]
    · rw [decide_eq_false e, decide_eq_false (fun h => e h.symm)]
  have i0 : ¬ ((n : Int) < 10) := by omega
  have i1 : (n : Int) - 4 = (m : Int) := by omega
  have i2 : (m : Int) ≤ (c : Int) := by omega
  have i3 : m ≤ c := by omega
  have i4 : ¬ c = m := by omega
  have i5 : (m : Int) ≤ (n : Int) := by omega
  have i6 : n - m = 4 := by omega
  have i7 : (0 : Int) ≤ (m : Int) := by omega
  have SM2 := hideC (SM.out w (Kept.refl _ _))
  have WD2 := hideC (WD.out w (Kept.refl _ _))
  have cB1 := hCB.out w (Kept.refl _ _)
  have cB2 := hCB.out w.drew (Kept.drewN w 1)
  have cB3 := fun j => hCB.out (w.drewN j) (Kept.drewN w j)
  cases t4 with
  | false =>
    have hne : ¬ (l.drop (l.length - 4) = le 4 (sealed (l.take (l.length - 4)))) := of_decide_eq_false hs0.symm
    have hu : unpR kind l = .error 6 := by unfold unpR; rw [if_neg (by omega)]; exact if_pos hne
    rw [hu]
    have HP : Hid (∀ w', Kept (fun _ => False) w w' → RuPost w (.returned (.tuple #[.slice none 0 0, .int .i64 7])) w' (.error 6)) := fun w' k => ⟨rfl, k⟩
    have hSS : (S1.toList == S2.toList) = false := ht4.symm
    clear hu hne hs0 hB hb hn hcl htl hf4 hf4l hf4b hS1 hS2 hs hs4 ht4 SM WD hm
    go_enter Tryd.func20, Tryd.ntmps20
    go_wp2
    go_region_with (first | (go_at_call 21; refine (SM2.out _).mono ?_; rintro e W3 ⟨rfl, e3⟩; subst e3) | (go_at_call 37; refine (WD2.out _).mono ?_; rintro e W4 ⟨g4, rfl, cW4, K4⟩; have cB4 := hCB.out W4 K4.out))
    all_goals
      go_wp2
      go_ret2
      exact HP.out _ K4.out
  | true =>
    have hse : l.drop (l.length - 4) = le 4 (sealed (l.take (l.length - 4))) := of_decide_eq_true hs0.symm
    have hu0 : unpR kind l = if kind = 0 ∨ l.take 5 ≠ cncd kind then .error 5 else listR ((l.take m).drop 5) := by
      unfold unpR
      rw [if_neg (by omega), show l.length - 4 = m by omega] at *
      exact if_neg (Classical.not_not.2 hse)
    have hSS : (S1.toList == S2.toList) = true := ht4.symm
    obtain ⟨x4, hx4, hx42, -⟩ := hb.at (show 4 < l.length by omega)
    have hc4 : Hid (∀ W, Kept (fun _ => False) w W → W.cell? ⟨b, off + 4, none⟩ = some (.int .u8 (x4 : Int))) := fun W k => by
      have := k.cell (hcl 4 (by omega)) (fun f => f)
      rwa [hx4] at this
    obtain ⟨S4, hS4⟩ : ∃ S, S = strOfNums (l.take 4) := ⟨_, rfl⟩
    have hCH : Hid (∀ W, Kept (fun _ => False) w W → (convert 22 9 (.slice (some ⟨b, off, none⟩) 4 c)).run Tryd.prog W = .ok (.string S4) W) := by
      intro W kj
      have r := conv_atF (c := c) (bytes_take (bytes_keptF hB kj) 4)
      rw [show (l.take 4).length = 4 by rw [List.length_take]; omega, ← hS4] at r
      exact r
    have h4b : IsBytes (l.take 4) := fun x hx => hb x (List.mem_of_mem_take hx)
    have c4b : IsBytes [99, 110, 99, 100] := by unfold IsBytes; decide
    have h45 := take5_iff (l := l) (kind := kind) (by omega)
    rw [hx4] at h45
    have j1 : (4 : Int) ≤ (c : Int) := by omega
    have j2 : 4 ≤ c := by omega
    have j3 : (4 : Int) < (n : Int) := by omega
    have j4 : 4 < n := by omega
    have HPe : Hid (∀ w', Kept (fun _ => False) w w' → RuPost w (.returned (.tuple #[.slice none 0 0, .int .i64 6])) w' (.error 5)) := fun w' k => ⟨rfl, k⟩
    by_cases hk0 : kind = 0
    · have hu : unpR kind l = .error 5 := by rw [hu0, if_pos (.inl hk0)]
      rw [hu]
      subst hk0
      have z0 : ((0 : Nat) : Int) = 0 := rfl
      rw [z0]
      clear hu hu0 hse hs0 hB hb hn hcl htl hf4 hf4l hf4b hS1 hS2 hs hs4 ht4 SM WD hm h45 h4b c4b hS4 hx4 hCH hc4
      go_enter Tryd.func20, Tryd.ntmps20
      go_wp2
      go_region_with (first | (go_at_call 21; refine (SM2.out _).mono ?_; rintro e W3 ⟨rfl, e3⟩; subst e3) | (go_at_call 37; refine (WD2.out _).mono ?_; rintro e W4 ⟨g4, rfl, cW4, K4⟩; have cB4 := hCB.out W4 K4.out))
      all_goals
        go_wp2
        go_ret2
        exact HPe.out _ K4.out
    have hkI : (kind : Int) ≠ 0 := by omega
    have hkB : ((kind : Int) == 0) = false := beq_eq_false_iff_ne.2 hkI
    by_cases hp4 : l.take 4 = [99, 110, 99, 100]
    · obtain rfl : S4 = cstr := by rw [hS4, hp4, cstr_is]
      have hcs : cstr.toList = [99, 110, 99, 100] := by decide +kernel
      by_cases hp5 : (x4 : Int) = (kind : Int)
      · have hu : unpR kind l = listR ((l.take m).drop 5) := by rw [hu0, if_neg (by rintro (e | e); exact hk0 e; exact e (h45.2 ⟨hp4, hp5⟩))]
        rw [hu]
        rw [hp5] at hc4
        obtain ⟨L, hL⟩ : ∃ L, L = l.take m := ⟨_, rfl⟩
        have hLb : IsBytes L := by rw [hL]; exact fun x hx => hb x (List.mem_of_mem_take hx)
        have hLB : Hid (∀ W, Kept (fun _ => False) w W → BytesAt W (some ⟨b, off, none⟩) L) := fun W k => by rw [hL]; exact bytes_take (bytes_keptF hB k) m
        rw [← hL] at htl ⊢
        have hd5 : (L.drop 5).length = m - 5 := by rw [List.length_drop, htl]
        have NM : Hid (∀ W, Kept (fun _ => False) w W → Calls Tryd.prog 42 #[.slice (some ⟨b, off + 5, none⟩) (m - 5) (c - 5)] W fun e W' => e = .returned (numV (rdu 0 0 ((L.drop 5).take 10))) ∧ W' = W) := by
          intro W k
          exact rnum_any (L.drop 5) (some ⟨b, off + 5, none⟩) (m - 5) (c - 5) W hd5.symm (bytes_dropN (hLB.out W k) 5) (fun x hx => hLb x (List.mem_of_mem_drop hx)) (by omega)
        have k1 : (5 : Int) ≤ (m : Int) := by omega
        have k2 : 5 ≤ m := by omega
        have k3 : ¬ c = 5 := by omega
        have hrl := rdu_lt ((L.drop 5).take 10) 0 0
        have hrk := rdu_le ((L.drop 5).take 10) 0 0
        have htl2 : ((L.drop 5).take 10).length ≤ m - 5 ∧ ((L.drop 5).take 10).length ≤ 10 := by rw [List.length_take, hd5]; omega
        have hbt : ∀ x ∈ (L.drop 5).take 10, 0 ≤ x ∧ x ≤ 255 := fun x hx => hLb x (List.mem_of_mem_drop (List.mem_of_mem_take hx))
        cases hr : rdu 0 0 ((L.drop 5).take 10) with
        | error er =>
          have hLe : listR (L.drop 5) = .error er := by unfold listR; rw [hr]
          have he := rdu_codes _ _ _ _ hr
          rw [hr] at NM
          rw [hLe]
          have HP : Hid (∀ w', Kept (fun _ => False) w w' → RuPost w (.returned (.tuple #[.slice none 0 0, .int .i64 ((er + 1 : Nat) : Int)])) w' (.error er)) := fun w' k => ⟨rfl, k⟩
          obtain ⟨e1, he1⟩ : ∃ e1 : Nat, e1 = er + 1 := ⟨_, rfl⟩
          rw [← he1] at HP
          have NM2 : Hid (∀ W, Kept (fun _ => False) w W → Calls Tryd.prog 42 #[.slice (some ⟨b, off + 5, none⟩) (m - 5) (c - 5)] W fun e W' => e = .returned (.tuple #[.int .u64 0, .int .i64 0, .int .i64 e1]) ∧ W' = W) := by
            rw [he1]
            exact NM.out
          have hei : (e1 : Int) ≠ 0 := by omega
          clear hu hu0 hse hs0 hB hb hn hcl htl hf4 hf4l hf4b hS1 hS2 hs hs4 ht4 SM WD hm h45 h4b c4b hS4 hx4 NM hr hrl hrk htl2 hbt hLe he he1 hL hLB hd5 hLb hp4
          go_enter Tryd.func20, Tryd.ntmps20
          go_wp2
          go_region_with (first | (go_at_call 21; refine (SM2.out _).mono ?_; rintro e W3 ⟨rfl, e3⟩; subst e3) | (go_at_call 37; refine (WD2.out _).mono ?_; rintro e W4 ⟨g4, rfl, cW4, K4⟩; have cB4 := hCB.out W4 K4.out))
          all_goals
            have cH4 := hCH.out W4 K4.out
            have c44 := hc4.out W4 K4.out
            go_wp2_with (go_at_call 42; refine (NM2.out _ K4.out).mono ?_; rintro e W5 ⟨rfl, e5⟩; subst e5)
            go_ret2
            exact HP.out _ K4.out
        | ok xk =>
          obtain ⟨x, k⟩ := xk
          have hx := hrl x k (by omega) (by decide) hbt hr
          have hk := hrk x k hr
          rw [hr] at NM
          have NM2 : Hid (∀ W, Kept (fun _ => False) w W → Calls Tryd.prog 42 #[.slice (some ⟨b, off + 5, none⟩) (m - 5) (c - 5)] W fun e W' => e = .returned (.tuple #[.int .u64 x, .int .i64 k, .int .i64 0]) ∧ W' = W) := NM.out
          have hLL : Hid (listR (L.drop 5) = match lsR x (L.drop (5 + k)) with
            | .error e => .error e
            | .ok (d, r) => if r = [] then .ok d else .error 4) := by
            show listR (L.drop 5) = _
            unfold listR
            rw [hr]
            show (match lsR x ((L.drop 5).drop k) with | .error e => Except.error e | .ok (d, r) => if r = [] then .ok d else .error 4) = _
            rw [List.drop_drop]
          have DC : Hid (∀ p, p ≤ m → ∀ W, Kept (fun _ => False) w W → Calls Tryd.prog 23 #[.slice (some ⟨b, off + p, none⟩) (m - p) (c - p)] W fun e W' => RdPost W e W' (decR (L.drop p))) := by
            intro p hp W q
            have hdl : (L.drop p).length = m - p := by rw [List.length_drop, htl]
            exact rdecode_any (L.drop p) (some ⟨b, off + p, none⟩) (m - p) (c - p) W hdl.symm (bytes_dropN (hLB.out W q) p) (fun y hy => hLb y (List.mem_of_mem_drop hy)) (by omega) (by omega)
          have HPr : Hid (∀ er, listR (L.drop 5) = .error er → ∀ w', Kept (fun _ => False) w w' → ∀ v : Int, v = ((er + 1 : Nat) : Int) → RuPost w (.returned (.tuple #[.slice none 0 0, .int .i64 v])) w' (listR (L.drop 5))) := by
            intro er h w' k v hv
            rw [h, hv]
            exact ⟨rfl, k⟩
          have HPk : Hid (∀ (D : List BkD) w' a' d c', listR (L.drop 5) = .ok (D.map bkv) → d = D.length → Bl w w' (.slice a' d c') D → RuPost w (.returned (.tuple #[.slice a' d c', .int .i64 0])) w' (listR (L.drop 5))) := by
            intro D w' a' d c' h hd hbl
            rw [h]
            subst hd
            exact ⟨a', c', D, rfl, hbl, rfl⟩
          have hlen : Hid (∀ p, (L.drop p).length = m - p) := fun p => by rw [List.length_drop, htl]
          have HBB : Hid (IsBytes L) := hLb
          have hx0 : (0 : Int) ≤ (x : Int) := by omega
          have hkm : 5 + k ≤ m := by omega
          have hmb : m ≤ 1099511627776 := by omega
          generalize hR : listR (L.drop 5) = R at HPr HPk hLL
          clear hu hu0 hse hs0 hB hb hn hcl htl hf4 hf4l hf4b hS1 hS2 hs hs4 ht4 SM WD hm h45 h4b c4b hS4 hx4 NM hr hrl hrk htl2 hbt hL hLB hd5 hLb hp4 hR hl
          go_enter Tryd.func20, Tryd.ntmps20
          go_wp2
          go_region_with (first | (go_at_call 21; refine (SM2.out _).mono ?_; rintro e W3 ⟨rfl, e3⟩; subst e3) | (go_at_call 37; refine (WD2.out _).mono ?_; rintro e W4 ⟨g4, rfl, cW4, K4⟩; have cB4 := hCB.out W4 K4.out))
          all_goals
            have cH4 := hCH.out W4 K4.out
            have c44 := hc4.out W4 K4.out
            go_wp2_with (go_at_call 42; refine (NM2.out _ K4.out).mono ?_; rintro e W5 ⟨rfl, e5⟩; subst e5)
            clear SM2 WD2 cB1 cB2 cB3 cB4 cW4 cH4 c44 NM2 hCB hCH hc4 hSS
            go_loopw [10, 11, 12] (fun at_ bl kk wr => ∃ (p d : Nat) (ab : Option Addr) (cb : Nat) (D : List BkD), p ≤ m ∧ d ≤ p ∧ d ≤ x ∧ at_ = .int .i64 p ∧ kk = .int .u64 d ∧ bl = .slice ab d cb ∧ Hid (d = D.length) ∧ Hid (Bl w wr (.slice ab d cb) D) ∧ Hid (lsR x (L.drop (5 + k)) = lsA (D.map bkv) (lsR (x - d) (L.drop p)))) (fun at_ _ _ _ => m - (intOf at_).toNat)
            case atStart =>
              refine ⟨5 + k, 0, none, 0, [], hkm, Nat.zero_le _, Nat.zero_le _, by go_num, rfl, rfl, rfl, (bl_nil w).same K4.out, ?_⟩
              show lsR x (L.drop (5 + k)) = lsA [] (lsR x (L.drop (5 + k)))
              rw [lsA_nil]
            case round =>
              obtain ⟨p, d, ab, cb, D, hpn, hdp, hdx, rfl, rfl, rfl, HD, HQ, HS⟩ := hrel
              by_cases hlt : d < x
              · have DC2 := DC.out p hpn wr HQ.out.kept
                cases hd : decR (L.drop p) with
                | error er =>
                  rw [hd] at DC2
                  have hLe : R = .error er := by
                    rw [hLL.out, HS.out]
                    obtain ⟨y, hy⟩ : ∃ y, x - d = y + 1 := ⟨x - d - 1, by omega⟩
                    rw [hy, lsA_err hd]
                  have he := decR_codes hd
                  obtain ⟨e1, he1⟩ : ∃ e1 : Nat, e1 = er + 1 := ⟨_, rfl⟩
                  have hfin := hideC (fun w' kw => HPr.out er hLe w' kw (e1 : Int) (by rw [he1]))
                  have DC3 : Hid (Calls Tryd.prog 23 #[.slice (some ⟨b, off + p, none⟩) (m - p) (c - p)] wr fun e W' => e = .returned (.tuple #[.agg #[.int .u8 0, .slice none 0 0], .int .i64 0, .int .i64 e1]) ∧ Hid (Kept (fun _ => False) w W')) := by
                    refine Calls.mono DC2 ?_
                    rintro e W' ⟨rfl, kk⟩
                    rw [he1]
                    exact ⟨rfl, HQ.out.kept.trans kk (fun _ f => f.elim)⟩
                  have hei : (e1 : Int) ≠ 0 := by omega
                  have q1 : (d : Int) < (x : Int) := by omega
                  have q2 : (p : Int) ≤ (m : Int) := by omega
                  have q3 : ¬ c = p := by omega
                  have q4 : p ≤ c := by omega
                  clear DC2 hLe he he1 hd HPr HPk hLL DC HS HD HQ HBB
                  go_wp2_with (go_at_call 23; refine DC3.out.mono ?_; clear DC3; rintro e W6 ⟨rfl, K6⟩)
                  go_ret2
                  exact hfin.out _ (K6.out.trans (Kept.alloc _ _) (fun _ f => f.elim))
                | ok tbn =>
                  obtain ⟨t, body, n1⟩ := tbn
                  rw [hd] at DC2
                  obtain ⟨⟨T, rfl, hT0, hT2⟩, hbb, hn6, hnl, hbl6⟩ := decR_ok (fun y hy => HBB.out y (List.mem_of_mem_drop hy)) hd
                  rw [hlen.out] at hnl
                  have hstep : Hid (lsR x (L.drop (5 + k)) = lsA (D.map bkv ++ [((T : Int), body)]) (lsR (x - (d + 1)) (L.drop (p + n1)))) := by
                    show lsR x (L.drop (5 + k)) = _
                    rw [HS.out]
                    obtain ⟨y, hy⟩ : ∃ y, x - d = y + 1 := ⟨x - d - 1, by omega⟩
                    rw [hy, lsA_step hd, List.drop_drop, show x - (d + 1) = y by omega]
                  obtain ⟨nb, hnb⟩ : ∃ n, n = body.length := ⟨_, rfl⟩
                  have DC3 : Hid (Calls Tryd.prog 23 #[.slice (some ⟨b, off + p, none⟩) (m - p) (c - p)] wr fun e W' => ∃ a' c', e = .returned (.tuple #[.agg #[.int .u8 T, .slice a' nb c'], .int .i64 n1, .int .i64 0]) ∧ Hid (OwnB wr W' (.slice a' nb c') body)) := by
                    refine Calls.mono DC2 ?_
                    rintro e W' ⟨a', c', rfl, ho⟩
                    rw [hnb]
                    exact ⟨a', c', rfl, ho⟩
                  have HNB := hideC hnb
                  have HBy : Hid (IsBytes body) := hbb
                  have q1 : (d : Int) < (x : Int) := by omega
                  have q2 : (p : Int) ≤ (m : Int) := by omega
                  have q3 : ¬ c = p := by omega
                  have q4 : p ≤ c := by omega
                  clear DC2 hd HPr HPk hLL DC HS hnb hbb HBB
                  have AFT : Hid (∀ W a' c', OwnB wr W (.slice a' nb c') body → ∀ o : Obj, o = .cells #[.int .u8 T, .slice a' nb c'] 35 → Hid (((W.alloc o).alloc o).cell? ⟨W.heap.size + 1, 0, none⟩ = some (.int .u8 (BkD.mk T a' c' body).t) ∧ ((W.alloc o).alloc o).cell? ⟨W.heap.size + 1, 1, none⟩ = some (.slice (BkD.mk T a' c' body).a (BkD.mk T a' c' body).B.length (BkD.mk T a' c' body).c)) ∧ Hid (Bl w ((W.alloc o).alloc o) (.slice ab d cb) D) ∧ Hid ((BkD.mk T a' c' body).At ((W.alloc o).alloc o)) ∧ Hid ((BkD.mk T a' c' body).B ≠ [] → ∀ ad, (BkD.mk T a' c' body).a = some ad → (Value.slice ab d cb).ownBlock ≠ some ad.block)) := by
                    intro W a' c' ho o e
                    exact apb_after HQ.out hT2 HBy.out HNB.out ho e
                  have hDl : Hid (D.length ≤ 1099511627776) := by show D.length ≤ _; rw [← HD.out]; omega
                  have hm : ∀ a' c', Hid (d + 1 = (D ++ [BkD.mk T a' c' body]).length) := fun a' c' => by show d + 1 = _; rw [List.length_append, ← HD.out]; rfl
                  go_wp2_with (first
                    | (go_at_call 23; refine DC3.out.mono ?_; clear DC3; rintro e W6 ⟨a6', c6', rfl, K6⟩; obtain ⟨A1, A2, A3, A4⟩ := AFT.out W6 a6' c6' K6.out _ rfl; clear AFT)
                    | (at_builtin; refine wpList_apb rfl _ _ rfl _ D (BkD.mk T a6' c6' body) (d + 1) rfl _ 1 rfl A1 A2 A3 A4 hDl (hm _ _) ?_; clear A1 A2 A3 A4; intro g7 cap7 W7 K7))
                  go_roundw
                  case rel =>
                    refine ⟨p + n1, d + 1, some ⟨g7, 0, none⟩, cap7, D ++ [BkD.mk T a6' c6' body], by omega, by omega, by omega, by go_num, by go_num, rfl, hm _ _, K7, ?_⟩
                    rw [List.map_append]
                    exact hstep
                  case measure => simp [intOf]; omega
              · have hdx' : d = x := by omega
                subst hdx'
                have hfin : R = if L.drop p = [] then .ok (D.map bkv) else .error 4 := by
                  have e0 : lsA (D.map bkv) (lsR 0 (L.drop p)) = .ok (D.map bkv, L.drop p) := by simp [lsR, lsA]
                  rw [hLL.out, HS.out, Nat.sub_self, e0]
                have hlen2 := hlen.out p
                have q1 : ¬ ((d : Int) < (d : Int)) := by omega
                by_cases hpl : p < m
                · rw [if_neg (by intro e; rw [e] at hlen2; simp at hlen2; omega)] at hfin
                  have hf := hideC (fun w' kw => HPr.out 4 hfin w' kw 5 rfl)
                  have q2 : (p : Int) < (m : Int) := by omega
                  have KQ := hideC HQ.out.kept
                  clear hfin HPr HPk hLL DC HS HD HQ hlen hlen2 HBB
                  go_wp2
                  go_ret2
                  exact hf.out _ KQ.out
                · rw [if_pos (List.length_eq_zero_iff.1 (by omega))] at hfin
                  have hf := hideC (HPk.out D wr ab d cb hfin HD.out HQ.out)
                  have q2 : ¬ ((p : Int) < (m : Int)) := by omega
                  clear hfin HPr HPk hLL DC HS HD HQ hlen hlen2 HBB
                  go_wp2
                  go_ret2
                  exact hf.out
      · have hu : unpR kind l = .error 5 := by rw [hu0, if_pos (.inr fun e => hp5 (h45.1 e).2)]
        rw [hu]
        have hxB : ((x4 : Int) == (kind : Int)) = false := beq_eq_false_iff_ne.2 hp5
        clear hu hu0 hse hs0 hB hb hn hcl htl hf4 hf4l hf4b hS1 hS2 hs hs4 ht4 SM WD hm h45 h4b c4b hS4 hx4 hp4
        go_enter Tryd.func20, Tryd.ntmps20
        go_wp2
        go_region_with (first | (go_at_call 21; refine (SM2.out _).mono ?_; rintro e W3 ⟨rfl, e3⟩; subst e3) | (go_at_call 37; refine (WD2.out _).mono ?_; rintro e W4 ⟨g4, rfl, cW4, K4⟩; have cB4 := hCB.out W4 K4.out))
        all_goals
          have cH4 := hCH.out W4 K4.out
          have c44 := hc4.out W4 K4.out
          go_wp2
          go_ret2
          exact HPe.out _ K4.out
    · have hu : unpR kind l = .error 5 := by rw [hu0, if_pos (.inr fun e => hp4 (h45.1 e).1)]
      rw [hu]
      have hS4n : (S4.toList == (ByteArray.mk #[99, 110, 99, 100]).toList) = false := by
        have h := str_beq h4b c4b
        rw [decide_eq_false hp4] at h
        unfold eqB at h
        rw [cstr_is, ← hS4] at h
        exact h
      have hS4m : ¬ S4.toList = [99, 110, 99, 100] := by
        have h := beq_eq_false_iff_ne.1 hS4n
        have hcs : (ByteArray.mk #[99, 110, 99, 100]).toList = [99, 110, 99, 100] := by decide +kernel
        rw [hcs] at h
        exact h
      clear hu hu0 hse hs0 hB hb hn hcl htl hf4 hf4l hf4b hS1 hS2 hs hs4 ht4 SM WD hm h45 h4b c4b hS4 hx4 hp4
      go_enter Tryd.func20, Tryd.ntmps20
      go_wp2
      go_region_with (first | (go_at_call 21; refine (SM2.out _).mono ?_; rintro e W3 ⟨rfl, e3⟩; subst e3) | (go_at_call 37; refine (WD2.out _).mono ?_; rintro e W4 ⟨g4, rfl, cW4, K4⟩; have cB4 := hCB.out W4 K4.out))
      all_goals
        have cH4 := hCH.out W4 K4.out
        have c44 := hc4.out W4 K4.out
        go_wp2
        go_ret2
        exact HPe.out _ K4.out
end Go.Proofs.YtehjbceknnopoaaDoor
