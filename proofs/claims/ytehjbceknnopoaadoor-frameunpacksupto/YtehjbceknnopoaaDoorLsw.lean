import Derived.Test.YtehjbceknnopoaaDoorLst
namespace Go.Proofs.YtehjbceknnopoaaDoor
open Go.ChangeShapes Go.WideShapes Go.ChangeAt Go.RowKit

theorem bytes_dropN {w : World} {b off : Nat} {l : List Int} (h : BytesAt w (some ⟨b, off, none⟩) l) (p : Nat) : BytesAt w (some ⟨b, off + p, none⟩) (l.drop p) := bytes_dropF h p
def bkv (x : BkD) : Int × List Int := ((x.t : Int), x.B)
set_option maxRecDepth 20000 in
set_option maxHeartbeats 8000000 in
theorem listed_any (l : List Int) (b off n c : Nat) (w : World) {a0 a1 a2 a3 a4 a5 a6 : Addr} (hn : n = l.length) (hB : BytesAt w (some ⟨b, off, none⟩) l) (hb : IsBytes l) (hc : n < c) (hl : n ≤ 1099511627776) (hT : TabAt w) (hE : Errs7 w a0 a1 a2 a3 a4 a5 a6) :
    Calls Tryd.prog 41 #[.slice (some ⟨b, off, none⟩) n c] w fun e w' => LstPost w a0 a1 a4 a5 a6 e w' (listR l) := by
  have LN : Hid (Calls Tryd.prog 52 #[.slice (some ⟨b, off, none⟩) n c] w fun e W' => e = .returned (leadV a0 a1 (rdu 0 0 (l.take 10))) ∧ Hid (Kept (fun _ => False) w W')) := by
    have r := lead_any l (some ⟨b, off, none⟩) c a0 a1 w hB hb (by omega) (by omega) hE.s0.var hE.s1.var
    rw [← hn] at r
    exact r
  have hrl := rdu_lt (l.take 10) 0 0
  have hrk := rdu_le (l.take 10) 0 0
  have htl : (l.take 10).length ≤ l.length ∧ (l.take 10).length ≤ 10 := by rw [List.length_take]; omega
  have hbt : ∀ x ∈ l.take 10, 0 ≤ x ∧ x ≤ 255 := fun x hx => hb x (List.mem_of_mem_take hx)
  cases hr : rdu 0 0 (l.take 10) with
  | error er =>
    have hL : listR l = .error er := by unfold listR; rw [hr]
    have he := rdu_codes _ _ _ _ hr
    rw [hL]
    rw [hr] at LN
    have e1 : leadV a0 a1 (.error er) = .tuple #[.int .u64 0, .int .i64 0, errOf a0 a1 er] := rfl
    have e2 : erL a0 a1 a4 a5 a6 er = errOf a0 a1 er := by rw [erL, if_neg (by omega), erD, if_neg (by omega), erB, if_neg (by omega)]
    have e3 : ∀ e w', LstPost w a0 a1 a4 a5 a6 e w' (.error er) = (e = .returned (.tuple #[.slice none 0 0, erL a0 a1 a4 a5 a6 er]) ∧ Kept (fun _ => False) w w') := fun _ _ => rfl
    simp only [e3]
    rw [e1] at LN
    rw [e2]
    obtain ⟨ad, had⟩ : ∃ ad, errOf a0 a1 er = .iface 103 (.pointer (some ad)) := by unfold errOf errV; split <;> exact ⟨_, rfl⟩
    rw [had] at LN ⊢
    clear hL e1 e2 e3 had he hr hrl hrk htl hbt hB hb hT hE hn
    go_enter Tryd.func41, Tryd.ntmps41
    go_wp2_with (go_at_call 52; refine LN.out.mono ?_; rintro e W2 ⟨rfl, K2⟩)
    go_ret2
    exact ⟨rfl, K2.out⟩
  | ok xk =>
    obtain ⟨x, k⟩ := xk
    have hx := hrl x k (by omega) (by decide) hbt hr
    have hk := hrk x k hr
    have hL : listR l = match lsR x (l.drop k) with
      | .error e => .error e
      | .ok (d, r) => if r = [] then .ok d else .error 4 := by
      unfold listR
      rw [hr]
      rfl
    rw [hr] at LN
    have e1 : leadV a0 a1 (.ok (x, k)) = .tuple #[.int .u64 x, .int .i64 k, .nilIface] := rfl
    rw [e1] at LN
    have hkn : k ≤ n := by omega
    have DC : Hid (∀ p, p ≤ n → ∀ W, Kept (fun _ => False) w W → Calls Tryd.prog 26 #[.slice (some ⟨b, off + p, none⟩) (n - p) (c - p)] W fun e W' => DecPost W a0 a1 a5 a6 e W' (decR (l.drop p))) := by
      intro p hp W q
      have hdl : (l.drop p).length = n - p := by rw [List.length_drop]; omega
      exact decode_any (l.drop p) (some ⟨b, off + p, none⟩) (n - p) (c - p) W hdl.symm (bytes_dropN (bytes_keptF hB q) p) (fun y hy => hb y (List.mem_of_mem_drop hy)) (by omega) (by omega) (hT.kept q) (hE.kept q)
    have hG4 : Hid (∀ W, Kept (fun _ => False) w W → W.cell? ⟨5, 0, none⟩ = some (.iface 103 (.pointer (some a4)))) := fun W q => q.cell hE.s4.var (fun f => f)
    have HPe : Hid (∀ er, (listR l = .error er) → ∀ w', Kept (fun _ => False) w w' → ∀ v, v = erL a0 a1 a4 a5 a6 er → LstPost w a0 a1 a4 a5 a6 (.returned (.tuple #[.slice none 0 0, v])) w' (listR l)) := by
      intro er h w' k v hv
      rw [h, hv]
      exact ⟨rfl, k⟩
    have HPk : Hid (∀ (D : List BkD) w' a' d c', listR l = .ok (D.map bkv) → d = D.length → Bl w w' (.slice a' d c') D → LstPost w a0 a1 a4 a5 a6 (.returned (.tuple #[.slice a' d c', .nilIface])) w' (listR l)) := by
      intro D w' a' d c' h hd hbl
      rw [h]
      subst hd
      exact ⟨a', c', D, rfl, hbl, rfl⟩
    have HL := hideC hL
    have hlen : Hid (∀ p, (l.drop p).length = n - p) := fun p => by rw [List.length_drop, hn]
    have HBB : Hid (IsBytes l) := hb
    have hx0 : (0 : Int) ≤ (x : Int) := by omega
    clear hL hr hrl hrk htl hbt hB hb hT hE hn e1
    go_enter Tryd.func41, Tryd.ntmps41
    go_wp2_with (go_at_call 52; refine LN.out.mono ?_; rintro e W2 ⟨rfl, K2⟩)
    go_loopw [5, 7] (fun at_ bl wr => ∃ (p d : Nat) (ab : Option Addr) (cb : Nat) (D : List BkD), p ≤ n ∧ d ≤ p ∧ d ≤ x ∧ at_ = .int .i64 p ∧ bl = .slice ab d cb ∧ Hid (d = D.length) ∧ Hid (Bl w wr (.slice ab d cb) D) ∧ Hid (lsR x (l.drop k) = lsA (D.map bkv) (lsR (x - d) (l.drop p)))) (fun at_ _ _ => n - (intOf at_).toNat)
    case atStart =>
      refine ⟨k, 0, none, 0, [], hkn, Nat.zero_le _, Nat.zero_le _, rfl, rfl, rfl, (bl_nil w).same K2.out, ?_⟩
      show lsR x (l.drop k) = lsA [] (lsR x (l.drop k))
      rw [lsA_nil]
    case round =>
      obtain ⟨p, d, ab, cb, D, hpn, hdp, hdx, rfl, rfl, HD, HQ, HS⟩ := hrel
      clear LN K2
      by_cases hlt : d < x
      · have DC2 := DC.out p hpn wr HQ.out.kept
        cases hd : decR (l.drop p) with
        | error er =>
          rw [hd] at DC2
          have hLe : listR l = .error er := by
            rw [HL.out, HS.out]
            obtain ⟨y, hy⟩ : ∃ y, x - d = y + 1 := ⟨x - d - 1, by omega⟩
            rw [hy, lsA_err hd]
          have he := decR_cod hd
          obtain ⟨ad, had⟩ := erD_is a0 a1 a5 a6 er
          have hfin := hideC (fun w' kw => HPe.out er hLe w' kw (.iface 103 (.pointer (some ad))) (by rw [erL, if_neg (by omega), had]))
          have DC3 : Hid (Calls Tryd.prog 26 #[.slice (some ⟨b, off + p, none⟩) (n - p) (c - p)] wr fun e W' => e = .returned (.tuple #[.agg #[.int .u8 0, .slice none 0 0], .int .i64 0, .iface 103 (.pointer (some ad))]) ∧ Hid (Kept (fun _ => False) w W')) := by
            refine Calls.mono DC2 ?_
            rintro e W' ⟨rfl, kk⟩
            rw [had]
            exact ⟨rfl, HQ.out.kept.trans kk (fun _ f => f.elim)⟩
          have i1 : (d : Int) < (x : Int) := by omega
          have i2 : (p : Int) ≤ (n : Int) := by omega
          have i3 : ¬ c = p := by omega
          have i4 : p ≤ c := by omega
          clear DC2 hLe he had hd HPe HPk HL DC HS HD HQ
          go_wp2_with (go_at_call 26; refine DC3.out.mono ?_; clear DC3; rintro e W4 ⟨rfl, K4⟩)
          go_ret2
          exact hfin.out _ (K4.out.trans (Kept.alloc _ _) (fun _ f => f.elim))
        | ok tbn =>
          obtain ⟨t, body, n1⟩ := tbn
          rw [hd] at DC2
          obtain ⟨⟨T, rfl, hT0, hT2⟩, hbb, hn6, hnl, hbl6⟩ := decR_ok (fun y hy => HBB.out y (List.mem_of_mem_drop hy)) hd
          rw [hlen.out] at hnl
          have hstep : Hid (lsR x (l.drop k) = lsA (D.map bkv ++ [((T : Int), body)]) (lsR (x - (d + 1)) (l.drop (p + n1)))) := by
            show lsR x (l.drop k) = _
            rw [HS.out]
            obtain ⟨y, hy⟩ : ∃ y, x - d = y + 1 := ⟨x - d - 1, by omega⟩
            rw [hy, lsA_step hd, List.drop_drop, show x - (d + 1) = y by omega]
          obtain ⟨nb, hnb⟩ : ∃ n, n = body.length := ⟨_, rfl⟩
          have DC3 : Hid (Calls Tryd.prog 26 #[.slice (some ⟨b, off + p, none⟩) (n - p) (c - p)] wr fun e W' => ∃ a' c', e = .returned (.tuple #[.agg #[.int .u8 T, .slice a' nb c'], .int .i64 n1, .nilIface]) ∧ Hid (OwnB wr W' (.slice a' nb c') body)) := by
            refine Calls.mono DC2 ?_
            rintro e W' ⟨a', c', rfl, ho⟩
            rw [hnb]
            exact ⟨a', c', rfl, ho⟩
          have HNB := hideC hnb
          have HBy : Hid (IsBytes body) := hbb
          have i1 : (d : Int) < (x : Int) := by omega
          have i2 : (p : Int) ≤ (n : Int) := by omega
          have i3 : ¬ c = p := by omega
          have i4 : p ≤ c := by omega
          clear DC2 hd HPe HPk HL DC HS hnb hbb hG4 HBB
          have AFT : Hid (∀ W a' c', OwnB wr W (.slice a' nb c') body → ∀ o : Obj, o = .cells #[.int .u8 T, .slice a' nb c'] 35 → Hid (((W.alloc o).alloc o).cell? ⟨W.heap.size + 1, 0, none⟩ = some (.int .u8 (BkD.mk T a' c' body).t) ∧ ((W.alloc o).alloc o).cell? ⟨W.heap.size + 1, 1, none⟩ = some (.slice (BkD.mk T a' c' body).a (BkD.mk T a' c' body).B.length (BkD.mk T a' c' body).c)) ∧ Hid (Bl w ((W.alloc o).alloc o) (.slice ab d cb) D) ∧ Hid ((BkD.mk T a' c' body).At ((W.alloc o).alloc o)) ∧ Hid ((BkD.mk T a' c' body).B ≠ [] → ∀ ad, (BkD.mk T a' c' body).a = some ad → (Value.slice ab d cb).ownBlock ≠ some ad.block)) := by
            intro W a' c' ho o e
            have hz := heap_alloc_new (W.alloc o) o
            have es : (W.alloc o).heap.size = W.heap.size + 1 := by simp
            rw [es] at hz
            have k2 : Kept (fun _ => False) W ((W.alloc o).alloc o) := (Kept.alloc W o).trans (Kept.alloc _ o) (fun _ f => f.elim)
            obtain ⟨a2, c2, e2, hb2, hz2⟩ := ho.at
            simp only [Value.slice.injEq] at e2
            obtain ⟨rfl, _, rfl⟩ := e2
            refine ⟨⟨?_, ?_⟩, (HQ.out.same ho.kept).same k2, ⟨hT2, bytes_keptF hb2 k2, HBy.out, hz2⟩, ?_⟩
            · have h0 := cell_of_row _ _ 0 _ _ _ (hz.trans (congrArg some e))
              exact h0
            · rw [← HNB.out]
              have h1 := cell_of_row _ _ 1 _ _ _ (hz.trans (congrArg some e))
              exact h1
            · intro hne ad had hown
              have h1 := (HQ.out.row.lt _ hown).2
              have hown2 : (Value.slice a' nb c').ownBlock = some ad.block := by
                have had : a' = some ad := had
                rw [had]; rfl
              have h2 := (ho.row.lt _ hown2).1
              omega
          have hDl : Hid (D.length ≤ 1099511627776) := by show D.length ≤ _; rw [← HD.out]; omega
          have hm : ∀ a' c', Hid (d + 1 = (D ++ [BkD.mk T a' c' body]).length) := fun a' c' => by show d + 1 = _; rw [List.length_append, ← HD.out]; rfl
          go_wp2_with (first
            | (go_at_call 26; refine DC3.out.mono ?_; clear DC3; rintro e W4 ⟨a4', c4', rfl, K4⟩; obtain ⟨A1, A2, A3, A4⟩ := AFT.out W4 a4' c4' K4.out _ rfl; clear AFT)
            | (at_builtin; refine wpList_apb rfl _ _ rfl _ D (BkD.mk T a4' c4' body) (d + 1) rfl _ 1 rfl A1 A2 A3 A4 hDl (hm _ _) ?_; clear A1 A2 A3 A4; intro g5 cap5 W5 K5))
          go_roundw
          case rel =>
            refine ⟨p + n1, d + 1, some ⟨g5, 0, none⟩, cap5, D ++ [BkD.mk T a4' c4' body], by omega, by omega, by omega, by go_num, rfl, hm _ _, K5, ?_⟩
            rw [List.map_append]
            exact hstep
          case measure => simp [intOf]; omega
      · have hdx' : d = x := by omega
        subst hdx'
        have hfin : listR l = if l.drop p = [] then .ok (D.map bkv) else .error 4 := by
          have e0 : lsA (D.map bkv) (lsR 0 (l.drop p)) = .ok (D.map bkv, l.drop p) := by simp [lsR, lsA]
          rw [HL.out, HS.out, Nat.sub_self, e0]
        have hlen2 := hlen.out p
        have i1 : ¬ ((d : Int) < (d : Int)) := by omega
        by_cases hpl : p < n
        · rw [if_neg (by intro e; rw [e] at hlen2; simp at hlen2; omega)] at hfin
          have hf := hideC (fun w' kw => HPe.out 4 hfin w' kw (.iface 103 (.pointer (some a4))) rfl)
          have G4 := hG4.out wr HQ.out.kept
          have i2 : (p : Int) < (n : Int) := by omega
          have KQ := hideC HQ.out.kept
          clear hfin HPe HPk HL DC HS HD HQ hG4 hlen hlen2
          go_wp2
          go_quiet (fail)
          go_wp2
          go_ret2
          exact hf.out _ (KQ.out.trans (Kept.drewN _ _) (fun _ f => f.elim))
        · rw [if_pos (List.length_eq_zero_iff.1 (by omega))] at hfin
          have hf := hideC (HPk.out D wr ab d cb hfin HD.out HQ.out)
          have i2 : ¬ ((p : Int) < (n : Int)) := by omega
          clear hfin HPe HPk HL DC HS HD HQ hG4 hlen hlen2
          go_wp2
          go_ret2
          exact hf.out
end Go.Proofs.YtehjbceknnopoaaDoor
