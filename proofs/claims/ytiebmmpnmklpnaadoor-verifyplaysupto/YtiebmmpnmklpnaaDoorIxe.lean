import Derived.Test.YtiebmmpnmklpnaaDoorMrg3
import Derived.Test.YtiebmmpnmklpnaaDoorIzs
import Derived.Test.YtiebmmpnmklpnaaDoorIzg
namespace Go.Proofs.YtiebmmpnmklpnaaDoor
open Go.ChangeShapes Go.WideShapes Go.ChangeAt Go.RowKit

/-- What the document's Decode answers. -/
def rdcP (w : World) (T : Option (List In)) (e : Ending) (w' : World) : Prop :=
  (T = none → e = .returned (.tuple #[.slice none 0 0, .int .i64 21])) ∧
  (∀ m, T = some m → ∃ a c, e = .returned (.tuple #[.slice a m.length c, .int .i64 0]) ∧ w'.ownsRow w.heap.size 74 3 (.slice a m.length c) m.length (ivs m)) ∧ Kept (fun _ => False) w w'
theorem set3_1 {W : World} {g : Nat} {x0 x1 x2 v : Value} {t : TypeId} (h : W.heap[g]? = some (.cells #[x0, x1, x2] t (0, 0))) : (W.setCell ⟨g, 1, none⟩ v).heap[g]? = some (.cells #[x0, v, x2] t (0, 0)) := by
  rw [heap_setCell_same W g 1 _ t v h]; rfl
theorem set3_2 {W : World} {g : Nat} {x0 x1 x2 v : Value} {t : TypeId} (h : W.heap[g]? = some (.cells #[x0, x1, x2] t (0, 0))) : (W.setCell ⟨g, 2, none⟩ v).heap[g]? = some (.cells #[x0, x1, v] t (0, 0)) := by
  rw [heap_setCell_same W g 2 _ t v h]; rfl
set_option maxRecDepth 20000 in
set_option maxHeartbeats 8000000 in
/-- The document's Decode, at any bytes. -/
theorem rdecode_any (l : List Int) (a : Option Addr) (c : Nat) (w : World) (hL : BytesAt w a l) (hB : IsBytes l) (hl : l.length ≤ 1099511627776) :
    Calls Tryd.prog 24 #[.slice a l.length c] w (rdcP w (dcI l)) := by
  have HL := hideI hL
  have HBy := hideI hB
  obtain ⟨T, hT⟩ : ∃ T, T = dcI l := ⟨_, rfl⟩
  rw [← hT]
  have HTT := hideI hT
  have HG0 := hideI (gro_empty w w 74 3 (Kept.refl _ _))
  clear hL hB hT
  obtain ⟨nl, hnl⟩ : ∃ nl, nl = l.length := ⟨_, rfl⟩
  rw [← hnl] at hl ⊢
  have HNL := hideI hnl
  clear hnl
  go_enter Tryd.func24, Tryd.ntmps24
  go_wp2
  go_loopw [4, 5] (fun v4 v5 wr => ∃ (q n : Nat) (a' : Option Addr) (c' : Nat) (L : List In), v4 = .slice a' n c' ∧ v5 = .int .i64 q ∧ q ≤ nl ∧ Hid (n = L.length ∧ L.length ≤ q) ∧ Hid (wr.ownsRow w.heap.size 74 3 (.slice a' n c') n (ivs L)) ∧ Hid (T = (dcI (l.drop q)).map fun r => L ++ r) ∧ Hid (Kept (fun _ => False) w wr)) (fun _ v5 _ => nl - (intOf v5).toNat)
  case atStart => exact ⟨0, 0, _, _, [], rfl, rfl, by omega, hideI ⟨rfl, by simp⟩, hideI HG0.out.own, hideI (by rw [HTT.out]; simp), hideI HG0.out.kept⟩
  case round =>
    obtain ⟨q, n, a', c', L, rfl, rfl, hq, HN, HG, HD, HK⟩ := hrel
    by_cases hlt : q < nl
    · have hqi : (q : Int) < (nl : Int) := by omega
      have hql : q < l.length := by rw [← HNL.out]; exact hlt
      obtain ⟨fb, fo, ea, hc0⟩ := HL.out.get hql
      obtain ⟨ch, hcl, hc256, hcg⟩ := HBy.out.at hql
      rw [hcl] at hc0
      have hc1 := HK.out.cell hc0 (fun f => f)
      have HDR : Hid (l.drop q = (ch : Int) :: l.drop (q + 1)) := hideI (by rw [List.drop_eq_getElem_cons hql, hcg])
      have HLr : Hid (BytesAt wr a l) := hideI (fun hne => by obtain ⟨b, off, e, hcc⟩ := HL.out hne; exact ⟨b, off, e, fun k hk => HK.out.cell (hcc k hk) (fun f => f)⟩)
      subst ea
      clear hc0 hcl hcg
      have hn : n ≤ 2199023255552 := by have := HN.out.1; have := HN.out.2; omega
      have HKx := hideI (Kept.alloc wr (.cells #[.int .i64 (ch : Int), .int .u64 0, .int .u64 0] 74))
      have HXx : Hid ((wr.alloc (.cells #[.int .i64 (ch : Int), .int .u64 0, .int .u64 0] 74)).heap[wr.heap.size]? = some (.cells #[.int .i64 (ch : Int), .int .u64 0, .int .u64 0] 74 (0, 0))) := hideI (heap_alloc_new wr _)
      have HA := hideI (rargs_any (ch : Int) (wr.alloc (.cells #[.int .i64 (ch : Int), .int .u64 0, .int .u64 0] 74)))
      have hne : l.drop q ≠ [] := by rw [HDR.out]; simp
      cases hO : isO (ch : Int) with
      | false =>
        rw [arV_out hO] at HA
        have HBad : Hid (T = none) := hideI (by rw [HD.out, dcI_bad hne (by rw [HDR.out, tk1, if_neg (by simp [hO])])]; rfl)
        clear hO hne HD
        go_wp2_with (go_at_call 42; refine HA.out.mono ?_; clear HA; rintro e W3 ⟨rfl, K3⟩; have HK3 := hideI ((HK.out.trans HKx.out (fun _ f => f.elim)).trans K3 (fun _ f => f.elim)); clear K3)
        go_ret2
        exact ⟨fun _ => rfl, fun m h => by rw [HBad.out] at h; (cases h), HK3.out⟩
      | true =>
        rw [arV_in hO] at HA
        have HTk : Hid (tk1 (l.drop q) = (rdN (arN ch) (l.drop (q + 1))).map fun p => (⟨ch, p.1.getD 0 0, p.1.getD 1 0⟩, 1 + p.2)) := hideI (by rw [HDR.out, tk1, if_pos hO])
        have hm2 := arN_le (ch : Int)
        generalize arN (ch : Int) = m at *
        have HNE := hideI hne
        clear hO hne
        go_wp2_with (go_at_call 42; refine HA.out.mono ?_; clear HA; rintro e W3 ⟨rfl, K3⟩; have HK3 := hideI ((HK.out.trans HKx.out (fun _ f => f.elim)).trans K3 (fun _ f => f.elim)); have HG3 := hideI (K3.row (HKx.out.row HG.out (fun _ _ f => f)) (fun _ _ f => f)); have HX3 := hideI (K3.heap HXx.out (fun f => f)); clear K3)
        obtain ⟨xb, hxb⟩ : ∃ xb, xb = wr.heap.size := ⟨_, rfl⟩
        have hxw : w.heap.size ≤ xb := by rw [hxb]; exact HK.out.size
        have HGX : Hid (∀ i, (Value.slice a' n c').ownBlock = some i → i < xb) := hideI (fun i hi => by have := (HG.out.lt i hi).2; omega)
        rw [← hxb] at HX3 ⊢
        have HLw := hideI HL.out
        clear hxb HXx HKx HG HLr HK hc1
        go_loopw [5, 9] (fun u5 u9 wr => ∃ (i k : Nat) (vs : List Nat), i ≤ m ∧ u9 = .int .i64 i ∧ u5 = .int .i64 ((q + 1 + k : Nat) : Int) ∧ Hid (vs.length = i ∧ rdN m (l.drop (q + 1)) = (rdN (m - i) ((l.drop (q + 1)).drop k)).map fun p => (vs ++ p.1, k + p.2)) ∧ Hid (q + 1 + k ≤ nl) ∧ Hid (wr.heap[xb]? = some (.cells #[.int .i64 (ch : Int), .int .u64 (vs.getD 0 0 : Nat), .int .u64 (vs.getD 1 0 : Nat)] 74 (0, 0))) ∧ Hid (wr.ownsRow w.heap.size 74 3 (.slice a' n c') n (ivs L)) ∧ Hid (Kept (fun _ => False) w wr)) (fun _ u9 _ => m - (intOf u9).toNat)
        case atStart => exact ⟨0, 0, [], by omega, rfl, by simp, hideI ⟨rfl, by simp⟩, hideI (by omega), HX3, HG3, HK3⟩
        case round =>
          obtain ⟨i, k, vs, hi, rfl, rfl, HI, HKL, HX, HGi, HKi⟩ := hrel
          obtain ⟨b0, b1, b2, b3⟩ := cell_row3 HX.out
          have f1 := b3 1
          have f2 := b3 2
          clear b3
          by_cases hlt2 : i < m
          · have hii : (i : Int) < (m : Int) := by omega
            have hi2 : i < 2 := by omega
            have hdd : l.drop (q + 1 + k) = (l.drop (q + 1)).drop k := List.drop_drop.symm
            have HLr : Hid (BytesAt wr (some ⟨fb, fo, none⟩) l) := hideI (fun hne => by obtain ⟨b, off, e, hcc⟩ := HLw.out hne; exact ⟨b, off, e, fun k hk => HKi.out.cell (hcc k hk) (fun f => f)⟩)
            have hU := rgetu_anyI l (some ⟨fb, fo, none⟩) nl c (q + 1 + k) wr HNL.out HLr.out HBy.out (by rw [← HNL.out]; exact HKL.out) (by have := HNL.out; omega)
            rw [hdd] at hU
            cases hx : rdu 0 0 ((l.drop (q + 1)).drop k) with
            | error er =>
              rw [hx] at hU
              have HBad : Hid (T = none) := hideI (by rw [HD.out, dcI_bad HNE.out (by rw [HTk.out, rdN_stop hlt2 HI.out.2 hx]; rfl)]; rfl)
              unfold guVI at hU
              simp only at hU
              obtain ⟨z, hz⟩ : ∃ z : Int, z = ((er + 1 : Nat) : Int) := ⟨_, rfl⟩
              rw [← hz] at hU
              have hz1 : (z != 0) = true := by rw [bne_iff_ne]; omega
              have hz2 : ¬ z = 0 := by omega
              have hz3 : (z == 0) = false := by rw [beq_eq_false_iff_ne]; omega
              have HU := hideI hU
              clear hz hU hx hdd b0 b1 b2 f1 f2
              go_wp2_with (go_at_call 43; refine HU.out.mono ?_; clear HU; rintro e W5 ⟨rfl, e5⟩; subst e5)
              go_ret2
              exact ⟨fun _ => rfl, fun m h => by rw [HBad.out] at h; (cases h), HKi.out⟩
            | ok p =>
              obtain ⟨x, k2⟩ := p
              rw [hx] at hU
              unfold guVI at hU
              simp only at hU
              have HU := hideI hU
              have HIN := hideI (rdN_next hlt2 HI.out.2 hx)
              have HPL : Hid (q + 1 + k + k2 ≤ nl) := hideI (by
                have h1 := (rdu_le _ _ _ _ _ hx).2
                rw [List.length_drop, List.length_drop, ← HNL.out] at h1
                have := HKL.out
                omega)
              clear hU hx hdd
              obtain hi01 | hi01 : i = 0 ∨ i = 1 := by omega
              · subst hi01
                rw [show ((0 : Nat) : Int) = 0 from rfl]
                go_wp2_with (go_at_call 43; refine HU.out.mono ?_; clear HU; rintro e W5 ⟨rfl, e5⟩; subst e5)
                have hKs := Kept.setCell W5 ⟨xb, 1, none⟩ (.int .u64 (x : Int))
                have hkt : q + 1 + k + k2 ≤ nl := by have := HKL.out; have := HPL.out; omega
                go_roundw
                case rel =>
                  refine ⟨1, k + k2, vs ++ [x], by omega, by go_num, congrArg (Value.int .i64) (by omega), hideI ⟨by simp [HI.out.1], HIN.out⟩, hideI (by omega), hideI ?_, hideI (hKs.row HGi.out (fun i hi e => by have h1 := (HGX.out i hi); simp only at e; omega)), hideI (HKi.out.trans hKs (fun i e => .inr (by simp only at e; omega)))⟩
                  rw [set3_1 HX.out]
                  obtain rfl : vs = [] := List.eq_nil_of_length_eq_zero HI.out.1
                  rfl
                case measure => simp [intOf]; omega
              · subst hi01
                rw [show ((1 : Nat) : Int) = 1 from rfl]
                go_wp2_with (go_at_call 43; refine HU.out.mono ?_; clear HU; rintro e W5 ⟨rfl, e5⟩; subst e5)
                have hKs := Kept.setCell W5 ⟨xb, 2, none⟩ (.int .u64 (x : Int))
                have hkt : q + 1 + k + k2 ≤ nl := by have := HKL.out; have := HPL.out; omega
                go_roundw
                case rel =>
                  refine ⟨2, k + k2, vs ++ [x], by omega, by go_num, congrArg (Value.int .i64) (by omega), hideI ⟨by simp [HI.out.1], HIN.out⟩, hideI (by omega), hideI ?_, hideI (hKs.row HGi.out (fun i hi e => by have h1 := (HGX.out i hi); simp only at e; omega)), hideI (HKi.out.trans hKs (fun i e => .inr (by simp only at e; omega)))⟩
                  rw [set3_2 HX.out]
                  match vs, HI.out.1 with
                  | [y], _ => rfl
                case measure => simp [intOf]; omega
          · obtain rfl : i = m := by omega
            have HF : Hid (T = (dcI (l.drop (q + (1 + k)))).map fun r => (L ++ [⟨ch, vs.getD 0 0, vs.getD 1 0⟩]) ++ r) := hideI (by
              rw [HD.out, dcI_good (show tk1 (l.drop q) = some (⟨ch, vs.getD 0 0, vs.getD 1 0⟩, 1 + k) by rw [HTk.out, HI.out.2, Nat.sub_self, rdN]; simp), List.drop_drop, Option.map_map]
              congr 1
              funext r
              simp)
            have HKz0 := HKi
            have HB0 : Hid (w.heap.size ≤ wr.heap.size) := hideI HKi.out.size
            clear f1 f2 HD HTk
            go_wp2_with (at_builtin; refine StpQI.go ?_)
            refine ⟨?_⟩
            refine wpList_pushIn (base := w.heap.size) (W := wr) rfl (.tmp 55) (.tmp 57) rfl a' c' n L ⟨ch, vs.getD 0 0, vs.getD 1 0⟩ rfl HGi HB0 wr.heap.size rfl rfl hn ?_
            intro a7 c7 W7 HG7 HK7
            go_wp2
            go_roundw
            case rel => exact ⟨q + 1 + k, n + 1, a7, c7, L ++ [⟨ch, vs.getD 0 0, vs.getD 1 0⟩], rfl, rfl, HKL.out, hideI ⟨by simp [HN.out.1], by have := HN.out.2; simp; omega⟩, HG7, hideI (by rw [HF.out, show q + (1 + k) = q + 1 + k by omega]), hideI (HKi.out.trans HK7.out (fun i hi => .inr hi))⟩
            case measure => simp [intOf]; omega
    · obtain rfl : q = nl := by omega
      have HF : Hid (T = some L) := hideI (by rw [HD.out, List.drop_eq_nil_of_le (by rw [HNL.out]; exact Nat.le_refl _), dcI_nil]; simp)
      go_wp2
      go_ret2
      refine ⟨fun h => by rw [HF.out] at h; (cases h), fun m h => ?_, HK.out⟩
      rw [HF.out] at h
      obtain rfl := Option.some.inj h
      have hn := HN.out.1
      subst hn
      exact ⟨a', c', rfl, HG.out⟩
end Go.Proofs.YtiebmmpnmklpnaaDoor
