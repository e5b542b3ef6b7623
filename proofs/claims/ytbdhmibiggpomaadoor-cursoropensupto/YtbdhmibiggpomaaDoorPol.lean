import Derived.Test.YtbdhmibiggpomaaDoorPok
namespace Go.Proofs.YtbdhmibiggpomaaDoor
open Go.ChangeShapes Go.WideShapes Go.ChangeAt Go.RowKit

theorem own_lowerQ {w : World} {b b' e z n : Nat} {v : Value} {xs : List Value} (h : w.ownsRow b e z v n xs) (hb : b' ≤ b) : w.ownsRow b' e z v n xs := by
  refine ⟨h.1, ?_⟩
  rcases h.2 with hn | ⟨g, cap, cur, e1, hg, rest⟩
  · exact .inl hn
  · exact .inr ⟨g, cap, cur, e1, Nat.le_trans hb hg, rest⟩
theorem errOf3_formP (a0 a2 a3 : Addr) (er : Nat) : ∃ ad, errOf3 a0 a2 a3 er = errV ad := by
  unfold errOf3
  split
  · exact ⟨_, rfl⟩
  · split
    · exact ⟨_, rfl⟩
    · exact ⟨_, rfl⟩
theorem pk_n {most : Int} {l : List Int} {p br : Nat} {v : Value} {ad : Nat → Addr} (w : World) (h : Rd w br v l p) (hl : l.length ≤ 1099511627776) (hm : most ≤ 9223372036854775807) (hE : ErP w ad) (hr : pkn most l p = none) :
    Calls Tryd.prog 69 #[.pointer (some ⟨br, 0, none⟩), .int .i64 most] w fun e w' => (∃ b, e = .returned (.tuple #[.slice none 0 0, .iface 176 (.pointer (some b))])) ∧ Kept (fun _ => False) w w' := by
  unfold pkn at hr
  split at hr
  · rename_i hu
    obtain ⟨b, hb⟩ := upat_nP w h.isb h.le h.sm hm hE hu
    exact (rpak_bad br v l p _ _ w h hb).mono (fun e w' ⟨h1, n, h2⟩ => ⟨⟨b, h1⟩, by rw [h2]; exact Kept.drewN w n⟩)
  · rename_i n q hu
    obtain ⟨k, rfl, hk, hx⟩ := upn_rduP hu
    have C := rpak_any br v l p n k most (ad 0) (ad 1) (ad 2) (ad 3) w h hk hx hm hl hE.s0 hE.s1 hE.s2 hE.s3
    split at hr
    · rename_i er he
      rw [he] at C
      refine C.mono ?_
      rintro e w' ⟨h1, _, h3⟩
      obtain ⟨b, hb⟩ := errOf3_formP (ad 0) (ad 2) (ad 3) er
      rw [hb] at h1
      exact ⟨⟨b, h1⟩, h3⟩
    · cases hr
theorem pk_s {most : Int} {l xs : List Int} {p q br : Nat} {v : Value} {ad : Nat → Addr} (w : World) (h : Rd w br v l p) (hl : l.length ≤ 1099511627776) (hm : most ≤ 9223372036854775807) (hE : ErP w ad) (hr : pkn most l p = some (xs, q)) :
    Calls Tryd.prog 69 #[.pointer (some ⟨br, 0, none⟩), .int .i64 most] w fun e w' => ∃ a c, e = .returned (.tuple #[.slice a xs.length c, .nilIface]) ∧ w'.ownsRow w.heap.size 3 1 (.slice a xs.length c) xs.length (is xs) ∧ Rd w' br v l q ∧ Kept (fun i => i = br) w w' := by
  unfold pkn at hr
  split at hr
  · cases hr
  · rename_i n q' hu
    obtain ⟨k, rfl, hk, hx⟩ := upn_rduP hu
    have C := rpak_any br v l p n k most (ad 0) (ad 1) (ad 2) (ad 3) w h hk hx hm hl hE.s0 hE.s1 hE.s2 hE.s3
    split at hr
    · cases hr
    · rename_i ys m he
      injection hr with hr
      injection hr with e1 e2
      subst e1 e2
      rw [he] at C
      refine C.mono ?_
      rintro e w' ⟨u, rfl, ho, hR, hK⟩
      obtain ⟨a, c, rfl⟩ := own_slice ho
      exact ⟨a, c, rfl, ho, hR, hK⟩
theorem intsAt_own {W : World} {base n : Nat} {a : Option Addr} {c : Nat} {X : List Int} (ho : W.ownsRow base 3 1 (.slice a n c) n (is X)) : IntsAt W a X := by
  obtain ⟨a', c', e, _, hcl⟩ := ints_of_own ho
  simp only [Value.slice.injEq, true_and] at e
  obtain ⟨rfl, _⟩ := e
  intro hne
  obtain ⟨b, off, e, _, _, hc⟩ := hcl hne
  exact ⟨b, off, e, hc⟩
def appO (acc : List Int) : Option (List Int) → Option (List Int)
  | none => none
  | some D => some (acc ++ D)
def consO (x : Int) : Option (List Int) → Option (List Int)
  | none => none
  | some D => some (x :: D)
def pairO (q : Nat) : Option (List Int) → Option (List Int × Nat)
  | none => none
  | some D => some (D, q)
theorem appO_step (acc : List Int) (x : Int) (r : Option (List Int)) : appO acc (consO x r) = appO (acc ++ [x]) r := by
  cases r with
  | none => rfl
  | some D => simp [appO, consO]
theorem dcs_step {last b g : Int} {G : List Int} : dcs last b (g :: G) = if g ≤ last - 1 - b then consO (b + (g + 1)) (dcs last (b + (g + 1)) G) else none := by
  rw [dcs]
  split
  · cases dcs last (b + (g + 1)) G <;> rfl
  · rfl
def rdd (l : List Int) (b last : Int) (n p : Nat) : Option (List Int × Nat) := match pkn n l p with
  | none => none
  | some (G, q) => if G.length = n then pairO q (dcs last b G) else none
/-- What readDocs leaves. -/
def rdPost (br : Nat) (v : Value) (l : List Int) (w : World) (e : Ending) (w' : World) : Option (List Int × Nat) → Prop
  | none => (∃ u, e = .returned (.tuple #[u, .bool false])) ∧ Kept (fun i => i = br) w w'
  | some (xs, q) => ∃ a c, e = .returned (.tuple #[.slice a xs.length c, .bool true]) ∧ w'.ownsRow w.heap.size 3 1 (.slice a xs.length c) xs.length (is xs) ∧ Rd w' br v l q ∧ Kept (fun i => i = br) w w'
set_option maxRecDepth 20000 in
set_option maxHeartbeats 4000000 in
theorem readDocs_any {l : List Int} {p br : Nat} {v : Value} {ad : Nat → Addr} (b last : Int) (n at_ sz : Nat) (w0 w : World) (h : Rd w br v l p) (hl : l.length ≤ 1099511627776) (hn : n ≤ 16) (hb1 : -1 ≤ b) (hb2 : b ≤ 2147483646) (hl1 : -1 ≤ last) (hl2 : last ≤ 2147483646) (hE : ErP w0 ad) (hO : Old w0 w) :
    Calls Tryd.prog 68 #[.pointer (some ⟨br, 0, none⟩), .int .i64 b, .agg #[.int .i64 last, .int .i64 n, .int .i64 at_, .int .i64 sz]] w fun e w' => rdPost br v l w e w' (rdd l b last n p) := by
  obtain ⟨R, hR⟩ : ∃ R, R = rdd l b last n p := ⟨_, rfl⟩
  rw [← hR]
  have K0 := Kept.alloc w (.cells #[.int .i64 last, .int .i64 n, .int .i64 at_, .int .i64 sz] 116)
  have g0 := heap_alloc_new w (.cells #[.int .i64 last, .int .i64 n, .int .i64 at_, .int .i64 sz] 116)
  have hRd0 := h.kept K0 (fun f => f) (fun _ _ f => f)
  have hE0 := hE.old (hO.none K0)
  have hbr : br < w.heap.size := lt_of_block h.blk
  have HR := hideP hR
  have HK0 := hideP K0
  have HG0 := hideP g0
  have HVB : Hid (∀ k, v.ownBlock = some k → k < w.heap.size) := hideP (fun k hk => (h.own.lt k hk).2)
  have hbx : ¬ w.heap.size = br := by omega
  unfold rdd at hR
  clear hE hO h g0 K0
  cases hp : pkn n l p with
  | none =>
    rw [hp] at hR
    have HRn : Hid (R = none) := hideP hR
    have C := hideP (pk_n _ hRd0 hl (by omega) hE0 hp)
    clear hR hp hRd0 hE0 HR
    go_enter Tryd.func68, Tryd.ntmps68
    go_wp2_with (go_at_call 69; refine C.out.mono ?_; clear C; rintro e W ⟨⟨b', rfl⟩, hK⟩; have HK := hideP (HK0.out.trans hK (fun _ f => f.elim)); clear hK)
    go_ret2
    rw [HRn.out]
    exact ⟨⟨_, rfl⟩, HK.out.mono (fun _ f => f.elim)⟩
  | some Gq =>
    obtain ⟨G, q⟩ := Gq
    rw [hp] at hR
    simp only at hR
    have C := hideP (pk_s _ hRd0 hl (by omega) hE0 hp)
    obtain ⟨_, _, gI, gP, _⟩ := pkn_back hRd0.isb hp
    have HGI := hideP gI
    have HGP := hideP gP
    obtain ⟨gl, hgl⟩ : ∃ gl, gl = G.length := ⟨_, rfl⟩
    rw [← hgl] at C hR
    have HGL := hideP hgl
    have gI' := gI
    clear hp hRd0 hE0 HR gI gP hgl gI'
    by_cases hne : gl = n
    · rw [if_pos hne] at hR
      have HRn : Hid (R = pairO q (dcs last b G)) := hideP hR
      subst hne
      obtain ⟨i0, hi, hz0, hz1, hz2⟩ := info_partsP Tryd.infoI
      clear hR
      go_enter Tryd.func68, Tryd.ntmps68
      go_wp2_with (first
        | (go_at_call 69; refine C.out.mono ?_; clear C; rintro e W1 ⟨ga, gc, rfl, hoG, hR1, hK1⟩; have HKw := hideP (HK0.out.mono (fun _ f => f.elim (C := _ ∨ _)) |>.trans hK1 (fun i hi => .inl hi)); have HRd1 := hideP hR1; have HG1 := hideP (hK1.heap HG0.out hbx); have x0 := cell_of_row _ _ 0 _ _ _ HG1.out; have x1 := cell_of_row _ _ 1 _ _ _ HG1.out; simp at x0 x1; have HoG := hideP (intsAt_own hoG); have s1 := HKw.out.size; clear hR1 hK1 hoG)
        | (at_make; refine wpList_make_own _ rfl _ _ 40 rfl W1.heap.size 3 i0 (.int .i64 0) 1 Tryd.underlying40 hi hz0 hz1 _ _ _ gl rfl rfl (by omega) (by rw [hz2]; omega) (by unfold maxLen; omega) (Nat.le_refl _) ?_))
      intro w1 ho1 hg1
      have HO1 := hideP ho1
      have HK1 : Hid (Kept (fun _ => False) W1 w1) := hideP ((Kept.grown hg1).mono (fun _ e => by cases e))
      clear ho1 hg1 hi hz0 hz1 hz2 x0 x1
      go_wp2
      go_loopw [1, 10, 34] (fun v1 v10 v34 wr => ∃ (acc : List Int) (k : Nat) (z : Int) (ua : Option Addr) (uc : Nat), v1 = .int .i64 z ∧ v10 = .slice ua k uc ∧ v34 = .int .i64 k ∧ k ≤ gl ∧ -1 ≤ z ∧ z ≤ 2147483646 ∧ Hid (wr.ownsRow W1.heap.size 3 1 (.slice ua k uc) k (is acc)) ∧ Hid (dcs last b G = appO acc (dcs last z (G.drop k))) ∧ Hid (Kept (fun _ => False) W1 wr)) (fun _ _ v34 _ => gl - (intOf v34).toNat)
      case atStart =>
        refine ⟨[], 0, b, _, _, rfl, rfl, rfl, by omega, hb1, hb2, HO1, hideP ?_, HK1⟩
        rw [List.drop_zero]
        cases dcs last b G <;> rfl
      case round =>
        obtain ⟨acc, k, z, ua, uc, rfl, rfl, rfl, hk, hz1, hz2, HOw, HD, HK⟩ := hrel
        clear HO1 HK1
        have x0 := HK.out.cell (cell_of_row _ _ 0 _ _ _ HG1.out) (fun f => f)
        simp at x0
        have hsr := HK.out.size
        by_cases hlt : k < gl
        · have hkk : (k : Int) < (gl : Int) := by omega
          have hkG : k < G.length := by rw [← HGL.out]; exact hlt
          obtain ⟨gb, go, rfl, hcg⟩ := (HoG.out.kept HK.out).get hkG
          obtain ⟨x, hx⟩ : ∃ x, x = G[k]?.getD 0 := ⟨_, rfl⟩
          rw [← hx] at hcg
          have hxG : G[k] = x := by rw [hx, List.getElem?_eq_getElem hkG]; rfl
          have x0n := HGP.out x (by rw [← hxG]; exact List.getElem_mem hkG)
          have hdr : G.drop k = x :: G.drop (k + 1) := by rw [List.drop_eq_getElem_cons hkG, hxG]
          by_cases hle : x ≤ last - 1 - z
          · have hle2 : ¬ last - 1 - z < x := by omega
            obtain ⟨y, hy⟩ : ∃ y, y = z + (x + 1) := ⟨_, rfl⟩
            have HD2 : Hid (dcs last b G = appO (acc ++ [y]) (dcs last y (G.drop (k + 1)))) := hideP (by rw [HD.out, hdr, dcs_step, if_pos hle, appO_step, ← hy])
            have e1 : IntKind.i64.wrap (x + 1) = x + 1 := by rw [IntKind.wrap_i64]; omega
            have e2 : IntKind.i64.wrap (z + (x + 1)) = y := by rw [IntKind.wrap_i64]; omega
            have hy1 : -1 ≤ y := by omega
            have hy2 : y ≤ 2147483646 := by omega
            clear hx hxG hdr HD hle
            have HY := hideP hy
            clear hy
            go_wp2_with (at_builtin; (try rw [← HY.out]); refine wpList_pushD rfl _ _ rfl _ k acc y rfl HOw hsr _ (by first | rfl | simp) rfl (by omega) ?_; intro g3 c3 W3 O3 K3 A3; have HK3 := hideP (HK.out.trans K3.out (fun i hi => .inr (HOw.out.lt i hi).1)); clear K3 A3)
            go_roundw
            case rel => exact ⟨acc ++ [y], k + 1, y, _, _, by first | rfl | (rw [HY.out]), rfl, by go_num, by omega, hy1, hy2, O3, HD2, HK3⟩
            case measure => simp [intOf]; omega
          · have hle2 : last - 1 - z < x := by omega
            have HRf : Hid (R = none) := hideP (by rw [HRn.out, HD.out, hdr, dcs_step, if_neg hle]; rfl)
            clear hx hxG hdr HD hle
            go_wp2
            go_ret2
            rw [HRf.out]
            exact ⟨⟨_, rfl⟩, HKw.out.trans HK.out (fun _ f => f.elim)⟩
        · have hkk : ¬ (k : Int) < (gl : Int) := by omega
          have hln := HOw.out.1
          rw [is_length, Nat.mul_one] at hln
          have hdr : G.drop k = [] := List.drop_of_length_le (by have := HGL.out; omega)
          have HLn := hideP hln
          clear hln
          by_cases hzl : z = last
          · have HRf : Hid (R = some (acc, q)) := hideP (by rw [HRn.out, HD.out, hdr, dcs, if_pos hzl]; simp [appO, pairO])
            have HRd2 := hideP (HRd1.out.kept HK.out (fun f => f) (fun _ _ f => f))
            have hzl2 : (z == last) = true := by simpa using hzl
            have HO2 := hideP (own_lowerQ HOw.out s1)
            clear hdr HD HOw
            go_wp2_with fail
            go_quiet (fail)
            go_wp2
            go_ret2
            rw [HRf.out]
            have kd := Kept.drewN wr nq
            refine ⟨ua, uc, ?_, ?_, HRd2.out.drewN nq, (HKw.out.trans HK.out (fun _ f => f.elim)).trans kd (fun _ f => f.elim)⟩
            · rw [HLn.out]; rfl
            · rw [HLn.out]; exact kd.row HO2.out (fun _ _ f => f)
          · have HRf : Hid (R = none) := hideP (by rw [HRn.out, HD.out, hdr, dcs, if_neg hzl]; rfl)
            have hzl2 : (z == last) = false := by simpa using hzl
            clear hdr HD HOw
            go_wp2_with fail
            go_quiet (fail)
            go_wp2
            go_ret2
            rw [HRf.out]
            exact ⟨⟨_, rfl⟩, (HKw.out.trans HK.out (fun _ f => f.elim)).trans (Kept.drewN wr nq) (fun _ f => f.elim)⟩
    · rw [if_neg hne] at hR
      have HRn : Hid (R = none) := hideP hR
      have hne1 : ¬ (gl : Int) = (n : Int) := by omega
      clear hR
      go_enter Tryd.func68, Tryd.ntmps68
      go_wp2_with (go_at_call 69; refine C.out.mono ?_; clear C; rintro e W1 ⟨ga, gc, rfl, hoG, hR1, hK1⟩; have HKw := hideP (HK0.out.mono (fun _ f => f.elim (C := _ ∨ _)) |>.trans hK1 (fun i hi => .inl hi)); have HG1 := hideP (hK1.heap HG0.out hbx); have x0 := cell_of_row _ _ 0 _ _ _ HG1.out; have x1 := cell_of_row _ _ 1 _ _ _ HG1.out; simp at x0 x1; clear hR1 hK1 hoG)
      go_ret2
      rw [HRn.out]
      exact ⟨⟨_, rfl⟩, HKw.out⟩
end Go.Proofs.YtbdhmibiggpomaaDoor
