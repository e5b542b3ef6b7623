import Derived.Test.YtiemiphlfbaojaaDoorMrg8
import Derived.Test.YtiemiphlfbaojaaDoorMrg6
import Derived.Test.YtiemiphlfbaojaaDoorMrg5
import Derived.Handy
import Derived.OpenShut
namespace Go.Proofs.YtiemiphlfbaojaaDoor
open Go.ChangeShapes Go.WideShapes Go.ChangeAt Go.RowKit
variable {w : World}
def flK (r : Rs) (k : Nat) : List Int := ((List.range k).filter (fun i => mayB r i)).map (fun (i : Nat) => (i : Int))
theorem flK_next (r : Rs) (k : Nat) : flK r (k + 1) = flK r k ++ (if mayB r k then [(k : Int)] else []) := by
  unfold flK
  rw [List.range_succ, List.filter_append, List.map_append]
  congr 1
  cases h : mayB r k <;> simp [List.filter, h]
theorem flK_len (r : Rs) (k : Nat) : (flK r k).length ≤ k := by
  unfold flK
  rw [List.length_map]
  have := List.length_filter_le (fun i => mayB r i) (List.range k)
  rw [List.length_range] at this
  exact this
theorem smT_len (k : Nat) : 1 ≤ (smT k).length ∧ (smT k).length ≤ 3 := by
  unfold smT
  repeat' split
  all_goals simp
theorem take_any {R : List Tn} {i : Nat} {y : Tn} (f : Tn → Bool) (h : R[i]? = some y) : (R.take (i + 1)).any f = ((R.take i).any f || f y) := by
  rw [List.take_add_one, h, List.any_append]
  simp
theorem fl_start (w : World) : FlS w ((w.alloc (.cells #[] 3)).alloc (.cells #[.int .i64 0, .bool false, .slice none 0 0] 57)) (w.heap.size + 1) r00 none 0 0 (.slice (some ⟨w.heap.size, 0, none⟩) 0 0) 0 [] := by
  have K1 := Kept.alloc w (.cells #[] 3)
  have K2 := Kept.alloc (w.alloc (.cells #[] 3)) (.cells #[.int .i64 0, .bool false, .slice none 0 0] 57)
  have hn := heap_alloc_new (w.alloc (.cells #[] 3)) (.cells #[.int .i64 0, .bool false, .slice none 0 0] 57)
  have hs : (w.alloc (.cells #[] 3)).heap.size = w.heap.size + 1 := by simp
  rw [hs] at hn
  have g := gro_empty w w 3 1 (Kept.refl _ _)
  exact ⟨K1.trans K2 (fun _ f => f.elim), hn, ⟨⟨rfl, .inl ⟨rfl, rfl⟩⟩, rfl⟩, K2.row g.own (fun _ _ f => f), by omega⟩
set_option maxRecDepth 20000 in
set_option maxHeartbeats 8000000 in
theorem rfollow_any (R : List Tn) (n : Nat) (hn : n = R.length) (a0 : Option Addr) (rc : Nat) (w : World) (hR : Rw w a0 R) (hr : R.length ≤ 500000000000) : Calls Tryd.prog 10 #[.slice a0 n rc] w (lkPost w (rfF R) (rfF R).length) := by
  have HP : Hid (∀ a c m w', m = (rfF R).length → Kept (fun _ => False) w w' → w'.ownsRow w.heap.size 3 1 (.slice a m c) m (iv (rfF R)) → lkPost w (rfF R) (rfF R).length (.returned (.slice a m c)) w') := hideL (fun a c m w' e k g => by subst e; exact ⟨a, c, rfl, g, k⟩)
  generalize lkPost w (rfF R) (rfF R).length = QQ at *
  have FS := hideL (fl_start w)
  have HR := hideL hR
  have HN := hideL hn
  have HR0 : Hid (rfR (R.take 0) = some r00) := hideL (by rw [List.take_zero]; rfl)
  have hnb : n ≤ 500000000000 := by omega
  clear hR hn hr
  go_enter Tryd.func10, Tryd.ntmps10
  go_wp2_with fail
  generalize ((w.alloc (.cells #[] 3)).alloc (.cells #[.int .i64 0, .bool false, .slice none 0 0] 57)) = W2 at *
  obtain ⟨rb, hrb⟩ : ∃ rb, rb = w.heap.size + 1 := ⟨_, rfl⟩
  rw [← hrb] at FS ⊢
  clear hrb
  go_loopw [19] (fun jv wr => ∃ (i : Nat) (r : Rs) (oa : Option Addr) (on oc : Nat), i ≤ n ∧ jv = .int .i64 i ∧ Hid (rfR (R.take i) = some r) ∧ Hid (FlS w wr rb r oa on oc (.slice (some ⟨w.heap.size, 0, none⟩) 0 0) 0 [])) (fun jv _ => n - (intOf jv).toNat)
  case atStart => exact ⟨0, r00, none, 0, 0, by omega, rfl, HR0, FS⟩
  case round =>
    obtain ⟨i, r, oa, on, oc, hi, rfl, HRi, HF⟩ := hrel
    clear HR0 FS
    have hrl := rf_len (R := R) i r (by have := HN.out; omega) HRi.out
    have hon : on = r.op.length := HF.out.opn.2
    have hob : on ≤ 900000000000 := by omega
    have hra := hrl.2
    clear hrl hon
    by_cases hlt : i < n
    · have hiz : (i : Int) < (n : Int) := by omega
      have hil : i < R.length := by rw [← HN.out]; exact hlt
      have hy : R[i]? = some R[i] := List.getElem?_eq_getElem hil
      have hnx := rf_next hy
      rw [HRi.out] at hnx
      obtain ⟨g, og, e0, hc⟩ := (HR.out.later HF.out.kept) (by intro e; rw [e] at hil; simp at hil)
      have hc := hc i _ hy
      generalize R[i] = y at hc hnx hy
      obtain ⟨yk, yt, yn, ya, ye⟩ := y
      obtain ⟨y0, y1, y2, y3, y4⟩ := hc
      dsimp only at y0 y1 y2 y3 y4
      have KA := Kept.alloc wr (.cells #[.int .i64 yk, .string yt, .int .i64 yn, .int .i64 ya, .int .i64 ye] 59)
      have HV := hideL (HF.out.later KA)
      have hsv : rb + 1 ≤ (wr.alloc (.cells #[.int .i64 yk, .string yt, .int .i64 yn, .int .i64 ya, .int .i64 ye] 59)).heap.size := by have := HF.out.lt; have := KA.size; omega
      have CQ := hideL (quick_any r hra ⟨yk, yt, yn, ya, ye⟩ oa on oc (rb + 1) _ HV.out.opn hsv hob)
      unfold lxC at CQ
      obtain ⟨c0, c1, c2, -⟩ := row3_cells HV.out.row
      have HX : Hid (rfR (R.take (i + 1)) = stepF r ⟨yk, yt, yn, ya, ye⟩) := hideL hnx
      dsimp only at CQ
      subst e0
      obtain ⟨ra, rs9, rop⟩ := r
      dsimp only at *
      clear KA hy hnx hsv hra HF
      generalize hVV : wr.alloc (.cells #[.int .i64 yk, .string yt, .int .i64 yn, .int .i64 ya, .int .i64 ye] 59) = V at CQ HV c0 c1 c2
      rw [← hVV] at c0 c1 c2
      have HVV := hideL hVV
      clear hVV
      go_wp2_with (go_at_call 19; refine Stp13.go ?_)
      rw [HVV.out]
      refine ⟨?_⟩
      refine CQ.out.mono ?_
      clear CQ y0 y1 y2 y3 y4 c0 c1 c2 HVV
      rintro x W4 ⟨k4, h4⟩
      rcases h4 with ⟨hx, a9, sg9, va, vn, vc, rfl⟩ | ⟨q, va, vn, vc, hx, rfl, ho⟩
      · obtain ⟨kw, hou⟩ := HV.out.quick0 k4
        have HE : Hid (rfF R = []) := hideL (by
          have e1 := HX.out
          rw [hx] at e1
          unfold rfF
          rw [rf_take e1])
        have KN := Kept.alloc W4 (.cells #[.int .i64 a9, .bool sg9, .slice va vn vc] 57)
        have HK := hideL (kw.trans KN (fun _ f => f.elim))
        have HO := hideL (KN.row hou (fun _ _ f => f))
        clear k4 kw hou hx KN HV HX HRi
        go_wp2_with fail
        have e9 := HE.out
        refine HP.out _ _ 0 _ (by rw [e9]; rfl) HK.out ?_
        rw [e9]
        exact HO.out
      · obtain ⟨kw, hrow, hou, hO⟩ := HV.out.quick k4 ho
        have HRn : Hid (rfR (R.take (i + 1)) = some q) := hideL (by rw [HX.out]; exact hx)
        have HFn := hideL (fl_set (q := q) kw hrow hou hO HV.out.hb)
        obtain ⟨qa, qs, qop⟩ := q
        dsimp only at *
        have hrlt : rb < W4.heap.size := (Array.getElem?_eq_some_iff.mp hrow).1
        have n1 : ¬ rb = W4.heap.size := by omega
        have n2 : ¬ W4.heap.size = rb := by omega
        obtain ⟨d0, d1, d2, df⟩ := row3_cells hrow
        have f0 := df 0
        have f1 := df 1
        have f2 := df 2
        clear k4 kw hrow hou hO hx ho df HV HX HRi
        go_wp2_with fail
        go_roundw
        case rel => exact ⟨i + 1, ⟨qa, qs, qop⟩, va, vn, vc, by omega, by go_num, HRn, hideL (HFn.out.later (Kept.alloc _ _))⟩
        case measure => simp [intOf] <;> omega
    · have hiz : ¬ (i : Int) < (n : Int) := by omega
      have HE : Hid (rfF R = flK r 22) := hideL (by
        have e1 := HRi.out
        rw [List.take_of_length_le (by have := HN.out; omega)] at e1
        unfold rfF flK
        rw [e1])
      have HF0 := HF
      clear HRi
      go_wp2_with fail
      obtain ⟨W0, hW0⟩ : ∃ W0, W0 = wr := ⟨_, rfl⟩
      rw [← hW0] at HF0 HF ⊢
      clear hW0
      have HF2 : Hid (FlS w W0 rb r oa on oc (.slice (some ⟨w.heap.size, 0, none⟩) 0 0) 0 (flK r 0)) := HF0
      have HN0 : Hid (0 = (flK r 0).length) := hideL rfl
      clear HF0 HF HN HR hlt hiz
      go_loopw [9, 3] (fun kv ov wr => ∃ (k m : Nat) (a : Option Addr) (c : Nat), k ≤ 22 ∧ m ≤ k ∧ kv = .int .i64 k ∧ ov = .slice a m c ∧ Hid (m = (flK r k).length) ∧ Hid (FlS w wr rb r oa on oc (.slice a m c) m (flK r k))) (fun kv _ _ => 22 - (intOf kv).toNat)
      case atStart => exact ⟨0, 0, _, 0, by omega, by omega, rfl, rfl, HN0, HF2⟩
      case round =>
        obtain ⟨k, m, a, c, hk, hmk, rfl, rfl, HMk, HFk⟩ := hrel
        clear HF2 HN0
        by_cases hlt : k < 22
        · have hkz : (k : Int) < 22 := by omega
          have CS := hideL (some_any k wr)
          unfold smPost at CS
          obtain ⟨ml, hml⟩ : ∃ ml, ml = (smT k).length := ⟨_, rfl⟩
          rw [← hml] at CS
          have hml3 : ml ≤ 3 := by rw [hml]; exact (smT_len k).2
          have HML := hideL hml
          clear hml
          obtain ⟨W1, hW1⟩ : ∃ W1, W1 = wr := ⟨_, rfl⟩
          rw [← hW1] at HFk CS ⊢
          clear hW1
          go_wp2_with (go_at_call 20; refine CS.out.mono ?_; clear CS; rintro x W3 ⟨g3, rfl, r3, k3⟩; have HF3 := hideL (HFk.out.later k3); have HR3 := hideL r3; clear k3 r3)
          have HM0 : Hid (((smT k).take 0).any (fun t => (stepF r t).isSome) = false) := hideL rfl
          go_loopw [41, 10] (fun jv mv wr => ∃ (j : Nat) (B : Bool), j ≤ ml ∧ jv = .int .i64 j ∧ mv = .bool B ∧ Hid (((smT k).take j).any (fun t => (stepF r t).isSome) = B) ∧ Hid (FlS w wr rb r oa on oc (.slice a m c) m (flK r k)) ∧ Hid (Rw wr (some ⟨g3, 0, none⟩) (smT k))) (fun jv _ _ => ml - (intOf jv).toNat)
          case atStart => exact ⟨0, false, by omega, rfl, rfl, HM0, HF3, HR3⟩
          case round =>
            obtain ⟨j, B, hj, rfl, rfl, HB, HFj, HRj⟩ := hrel
            clear HF3 HR3 HM0 HFk
            by_cases hjl : j < ml
            · have hjz : (j : Int) < (ml : Int) := by omega
              have hjr : j < (smT k).length := by rw [← HML.out]; exact hjl
              have hy : (smT k)[j]? = some (smT k)[j] := List.getElem?_eq_getElem hjr
              have hnx := take_any (fun t => (stepF r t).isSome) hy
              rw [HB.out] at hnx
              obtain ⟨g, og, e0, hc⟩ := HRj.out (by intro e; rw [e] at hjr; simp at hjr)
              have hc := hc j _ hy
              injection e0 with e0
              injection e0 with e1 e2 _
              subst e1 e2
              generalize (smT k)[j] = y at hc hnx hy
              obtain ⟨yk, yt, yn, ya, ye⟩ := y
              obtain ⟨y0, y1, y2, y3, y4⟩ := hc
              rw [Nat.zero_add] at y0 y1 y2 y3 y4
              dsimp only at y0 y1 y2 y3 y4
              have KA := Kept.alloc wr (.cells #[.int .i64 yk, .string yt, .int .i64 yn, .int .i64 ya, .int .i64 ye] 59)
              have HV := hideL (HFj.out.later KA)
              have HRV := hideL (HRj.out.later KA)
              have CQ := hideL (step_any r hra ⟨yk, yt, yn, ya, ye⟩ oa on oc _ HV.out.opn.opv (by omega))
              unfold lxC at CQ
              obtain ⟨c0, c1, c2, -⟩ := row3_cells HV.out.row
              have HX := hideL hnx
              dsimp only at CQ
              generalize hXX : stepF r ⟨yk, yt, yn, ya, ye⟩ = X at CQ
              have HXX := hideL hXX
              obtain ⟨ra, rs9, rop⟩ := r
              dsimp only at *
              clear KA hy hnx HFj HRj HB hXX
              generalize hVV : wr.alloc (.cells #[.int .i64 yk, .string yt, .int .i64 yn, .int .i64 ya, .int .i64 ye] 59) = V at CQ HV c0 c1 c2 HRV
              rw [← hVV] at c0 c1 c2
              have HVV := hideL hVV
              clear hVV
              go_wp2_with (go_at_call 21; refine Stp13.go ?_)
              rw [HVV.out]
              refine ⟨?_⟩
              refine CQ.out.mono ?_
              clear CQ y0 y1 y2 y3 y4 c0 c1 c2 HVV
              rintro x W4 ⟨k4, h4⟩
              have hform : ∃ (a9 : Int) (sg9 : Bool) (va : Option Addr) (vn vc : Nat), x = .returned (.tuple #[.agg #[.int .i64 a9, .bool sg9, .slice va vn vc], .bool X.isSome]) := by
                rcases h4 with ⟨hx, a9, sg9, va, vn, vc, rfl⟩ | ⟨q, va, vn, vc, hx, rfl, _, _⟩
                · exact ⟨a9, sg9, va, vn, vc, by rw [hx]; rfl⟩
                · exact ⟨_, _, va, vn, vc, by rw [hx]; rfl⟩
              obtain ⟨a9, sg9, va, vn, vc, rfl⟩ := hform
              have KN := Kept.alloc W4 (.cells #[.int .i64 a9, .bool sg9, .slice va vn vc] 57)
              have HF4 := hideL ((HV.out.later k4).later KN)
              have HR4 := hideL ((HRV.out.later k4).later KN)
              have HBn : Hid (((smT k).take (j + 1)).any (fun t => (stepF ⟨ra, rs9, rop⟩ t).isSome) = (B || X.isSome)) := hideL (by rw [HX.out, ← HXX.out])
              generalize X.isSome = Y at *
              clear k4 h4 KN HV HRV HX HXX
              cases B
              all_goals
                go_wp2_with fail
                go_roundw
                case rel => exact ⟨j + 1, _, by omega, by go_num, rfl, HBn, HF4, HR4⟩
                case measure => simp [intOf] <;> omega
            · have hjz : ¬ (j : Int) < (ml : Int) := by omega
              have hmay : mayB r k = B := by
                have e1 := HB.out
                rw [List.take_of_length_le (by have := HML.out; omega)] at e1
                exact e1
              have hfn := flK_next r k
              rw [hmay] at hfn
              clear HB HRj hmay
              cases B with
              | false =>
                have HX : Hid (flK r (k + 1) = flK r k) := hideL (by rw [hfn]; exact List.append_nil _)
                rw [← HX.out] at HFj HMk
                clear hfn
                go_wp2_with fail
                go_roundw
                case rel => exact ⟨k + 1, m, a, c, by omega, by omega, by go_num, rfl, HMk, HFj⟩
                case measure => simp [intOf] <;> omega
              | true =>
                have HX : Hid (flK r (k + 1) = flK r k ++ [(k : Int)]) := hideL hfn
                have HO := hideL HFj.out.out
                have hws : w.heap.size ≤ wr.heap.size := HFj.out.kept.size
                have HMn : Hid (m + 1 = (flK r (k + 1)).length) := hideL (by rw [HX.out, List.length_append, ← HMk.out]; rfl)
                clear hfn
                go_wp2_with (at_builtin; refine wpList_pushO (base := w.heap.size) rfl _ _ rfl (.slice a m c) m _ (k : Int) rfl HO hws _ (by first | rfl | simp) rfl (by omega) ?_; intro a4 c4 W6 G6 K6; have HF6 := hideL (HFj.out.push G6.out K6.out); rw [← HX.out] at HF6; clear G6 K6 HO HFj)
                go_roundw
                case rel => exact ⟨k + 1, m + 1, a4, c4, by omega, by omega, by go_num, rfl, HMn, HF6⟩
                case measure => simp [intOf] <;> omega
        · have hkz : ¬ (k : Int) < 22 := by omega
          obtain rfl : k = 22 := by omega
          go_wp2_with fail
          refine HP.out a c m _ (by rw [HE.out]; exact HMk.out) HFk.out.kept ?_
          rw [HE.out]
          exact HFk.out.out
end Go.Proofs.YtiemiphlfbaojaaDoor
namespace Go.Proofs.YtiemiphlfbaojaaDoor
open Go.ChangeShapes Go.WideShapes Go.ChangeAt Go.RowKit
variable {w : World}

/-! The law SyntaxFollows. -/
set_option maxRecDepth 20000 in
set_option maxHeartbeats 4000000 in
theorem follows_all (R : List Tn) (n : Nat) (hn : n = R.length) (a0 : Option Addr) (rc : Nat) (w : World) (hC : ClsAt w) (hS : ∃ ad, SynAt w ad) (hR : Rw w a0 R) (hr : R.length ≤ 300000000000) :
    Calls Tryd.prog 4 #[.slice a0 n rc] w fun e w' => e = .returned (.bool true) ∧ Kept (fun _ => False) w w' := by
  obtain ⟨ad, hS⟩ := hS
  have CV := hideL (lives_yes ad hC hS)
  have C1 := hideL (fun W (k : Kept (fun _ => False) w W) => follow_any (w := W) (rc := rc) n hn (hR.later k) (by omega))
  have C2 := hideL (fun W (k : Kept (fun _ => False) w W) => rfollow_any R n hn a0 rc W (hR.later k) (by omega))
  rw [fol_ref R] at C1
  have hrl : (rfF R).length ≤ 22 := by
    rw [← fol_ref R]
    unfold folF
    split
    · simp
    · exact lack_len _ _
  generalize rfF R = L at *
  unfold lkPost at C1 C2
  obtain ⟨m, hm⟩ : ∃ m, m = L.length := ⟨_, rfl⟩
  rw [← hm] at C1 C2
  have hm22 : m ≤ 22 := by omega
  have HM := hideL hm
  clear hC hS hR hr hm hn hrl
  go_enter Tryd.func4, Tryd.ntmps4
  go_wp2_with (first
    | (go_at_call 5; refine CV.out.mono ?_; clear CV; rintro x W1 ⟨rfl, k1⟩; have K1 := hideL k1; clear k1)
    | (go_at_call 9; refine (C1.out _ K1.out).mono ?_; clear C1; rintro x W2 ⟨aa, ca, rfl, g2⟩; have K2 := hideL (K1.out.trans g2.kept (fun _ f => f.elim)); have G2 := hideL g2; clear g2 K1)
    | (go_at_call 10; refine (C2.out _ K2.out).mono ?_; clear C2; rintro x W3 ⟨ab, cb, rfl, g3⟩; have K3 := hideL (K2.out.trans g3.kept (fun _ f => f.elim)); have HA := hideL (G2.out.later g3.kept); have HB := hideL g3; clear g3 K2 G2))
  go_loopw [19] (fun jv wr => ∃ (j : Nat), j ≤ m ∧ jv = .int .i64 j ∧ Hid (Kept (fun _ => False) W3 wr)) (fun jv _ => m - (intOf jv).toNat)
  case atStart => exact ⟨0, by omega, rfl, hideL (Kept.refl _ _)⟩
  case round =>
    obtain ⟨j, hj, rfl, HK⟩ := hrel
    by_cases hlt : j < m
    · have hjz : (j : Int) < (m : Int) := by omega
      have hjL : j < L.length := by rw [← HM.out]; exact hlt
      obtain ⟨ga, ea, _, hca⟩ := HA.out.cell (by omega)
      obtain ⟨gb, eb, _, hcb⟩ := HB.out.cell (by omega)
      have xa := HK.out.cell (hca j _ (iv_at hjL)) (fun f => f)
      have xb := HK.out.cell (hcb j _ (iv_at hjL)) (fun f => f)
      generalize L[j] = x at xa xb
      subst ea eb
      clear hca hcb hjL
      have hq : (x != x) = false := by simp
      have HK2 := hideL (HK.out.trans (Kept.drew wr) (fun _ f => f.elim))
      clear HK
      go_wp2_with fail
      go_region
      go_wp2_with fail
      go_roundw
      case rel => exact ⟨j + 1, by omega, by go_num, HK2⟩
      case measure => simp [intOf] <;> omega
    · have hjz : ¬ (j : Int) < (m : Int) := by omega
      go_wp2_with fail
      go_ret
      exact ⟨rfl, K3.out.trans HK.out (fun _ f => f.elim)⟩
end Go.Proofs.YtiemiphlfbaojaaDoor
namespace Go.Proofs.YtiemiphlfbaojaaDoor
open Go.ChangeShapes Go.WideShapes Go.ChangeAt Go.RowKit

/-! Tokens that came in. -/
theorem bulk_posW {H : Type} (d : DataW H) : 1 ≤ Rows.uptoBulk d := by
  cases d with
  | lit l => cases l <;> simp [Rows.uptoBulk]
  | _ => simp [Rows.uptoBulk]
theorem list5W {α : Type} {l : List α} (h : l.length = 5) : ∃ a b c d e, l = [a, b, c, d, e] := by
  match l, h with
  | [a, b, c, d, e], _ => exact ⟨a, b, c, d, e, rfl⟩
theorem Tryd.cLx : Tryd.prog.cellsOf 3 = 1 ∧ Tryd.prog.cellsOf 9 = 1 ∧ Tryd.prog.cellsOf 59 = 5 := by
  refine ⟨?_, ?_, ?_⟩ <;> kernel_rfl
theorem choose_listW {α : Type} {P : Nat → α → Prop} : ∀ n, (∀ i, i < n → ∃ a, P i a) → ∃ l : List α, l.length = n ∧ ∀ i (h : i < l.length), P i l[i]
  | 0, _ => ⟨[], rfl, fun i h => by simp at h⟩
  | n + 1, h => by
    obtain ⟨l, hl, hp⟩ := choose_listW n (fun i hi => h i (by omega))
    obtain ⟨a, ha⟩ := h n (by omega)
    refine ⟨l ++ [a], by simp [hl], fun i hi => ?_⟩
    by_cases hn : i < l.length
    · rw [List.getElem_append_left hn]
      exact hp i hn
    · have : i = l.length := by simp at hi; omega
      subst this
      rw [List.getElem_append_right (by omega)]
      simp only [Nat.sub_self, List.getElem_cons_zero, hl]
      exact ha
set_option maxRecDepth 100000 in
theorem lex_of {H : Type} {enc : TypeId × Value → H} {W : World} {fuel : Nat} {cs : List Value} {x : DataW H × List MemPlace} (hf : DataW.trod enc Tryd.prog W 0 (fun _ => true) true fuel 59 cs = some x) :
    ∃ g : Tn, cs = [.int .i64 g.k, .string g.t, .int .i64 g.n, .int .i64 g.a, .int .i64 g.e] := by
  obtain ⟨xs, n, rfl, hx, hl, hxl, hfs⟩ := DataW.trod_struct Tryd.underlying59 hf
  obtain ⟨c1, c2, c4⟩ := Tryd.cLx
  obtain ⟨x0, x1, x2, x3, x4, rfl⟩ := list5W hxl
  rw [c4] at hl
  obtain ⟨y0, y1, y2, y3, y4, rfl⟩ := list5W hl
  have q0 : DataW.trod enc Tryd.prog W 0 (fun _ => true) true n 3 (([y0, y1, y2, y3, y4].drop 0).take (Tryd.prog.cellsOf 3)) = some x0 := hfs 0 _ rfl
  have q1 : DataW.trod enc Tryd.prog W 0 (fun _ => true) true n 9 (([y0, y1, y2, y3, y4].drop 1).take (Tryd.prog.cellsOf 9)) = some x1 := hfs 1 _ rfl
  have q2 : DataW.trod enc Tryd.prog W 0 (fun _ => true) true n 3 (([y0, y1, y2, y3, y4].drop 2).take (Tryd.prog.cellsOf 3)) = some x2 := hfs 2 _ rfl
  have q3 : DataW.trod enc Tryd.prog W 0 (fun _ => true) true n 3 (([y0, y1, y2, y3, y4].drop 3).take (Tryd.prog.cellsOf 3)) = some x3 := hfs 3 _ rfl
  have q4 : DataW.trod enc Tryd.prog W 0 (fun _ => true) true n 3 (([y0, y1, y2, y3, y4].drop 4).take (Tryd.prog.cellsOf 3)) = some x4 := hfs 4 _ rfl
  rw [c2] at q1
  rw [c1] at q0 q2 q3 q4
  simp only [List.drop, List.take] at q0 q1 q2 q3 q4
  obtain ⟨d, e0, -, -⟩ := DataW.trod_int Tryd.underlying3 q0
  obtain ⟨k, e1, -, -⟩ := DataW.trod_string Tryd.underlying9 q1
  obtain ⟨e, e2, -, -⟩ := DataW.trod_int Tryd.underlying3 q2
  obtain ⟨f, e3, -, -⟩ := DataW.trod_int Tryd.underlying3 q3
  obtain ⟨g, e4, -, -⟩ := DataW.trod_int Tryd.underlying3 q4
  simp only [List.cons.injEq, and_true] at e0 e1 e2 e3 e4
  subst e0 e1 e2 e3 e4
  exact ⟨⟨d, k, e, f, g⟩, rfl⟩
theorem len_leW {H : Type} : ∀ (ds : List (DataW H)), ds.length ≤ Rows.uptoBulkAll ds
  | [] => Nat.zero_le _
  | d :: ds => by
    have h0 : 1 ≤ Rows.uptoBulk d := bulk_posW d
    have h1 := len_leW ds
    simp only [Rows.uptoBulkAll, List.length_cons]
    omega
theorem lexs_of {H : Type} {enc : TypeId × Value → H} {W : World} {fuel : Nat} {cs : List Value} {x : DataW H × List MemPlace} (hf : DataW.trod enc Tryd.prog W 0 (fun _ => true) true fuel 31 cs = some x) :
    ∃ (a : Option Addr) (c : Nat) (S : List Tn), cs = [.slice a S.length c] ∧ Rw W a S ∧ S.length < Rows.uptoBulk x.1 := by
  rcases DataW.trod_slice Tryd.underlying31 hf with ⟨rfl, rfl⟩ | ⟨a, len, cap, elems, rest, n, _, rfl, rfl, _, hl, hm, hlen, hel, _, _⟩
  · exact ⟨none, 0, [], rfl, fun e => (e rfl).elim, bulk_posW _⟩
  obtain ⟨-, -, c4⟩ := Tryd.cLx
  rw [c4] at hel
  have hbk : Rows.uptoBulk (DataW.slice (H := H) (elems.map (·.1)) (rest.map (·.1))) = Rows.uptoBulkAll (elems.map (·.1)) + Rows.uptoBulkAll (rest.map (·.1)) + 1 := by simp only [Rows.uptoBulk]
  have each : ∀ i, i < len → ∃ o : Tn, (∀ j, j < 5 → W.cell? ((a.add (i * 5)).add j) = [Value.int .i64 o.k, .string o.t, .int .i64 o.n, .int .i64 o.a, .int .i64 o.e][j]?) := by
    intro i hi
    have h := hel i hi
    rw [List.getElem?_eq_getElem (by omega), Option.bind_eq_some_iff] at h
    obtain ⟨cs8, h1, h2⟩ := h
    obtain ⟨_, h3⟩ := (World.cells?_some h1).2
    obtain ⟨g, rfl⟩ := lex_of h2
    exact ⟨g, h3⟩
  obtain ⟨S, hS, hp⟩ := choose_listW len each
  refine ⟨some a, cap, S, by rw [hS], fun hne => ?_, ?_⟩
  · have hp0 : 0 < S.length := List.length_pos_iff.2 hne
    obtain ⟨b, off, spot⟩ := a
    have h00 := (hp 0 hp0) 0 (by omega)
    have hspot : spot = none := by
      have e : [Value.int .i64 (S[0]).k, .string (S[0]).t, .int .i64 (S[0]).n, .int .i64 (S[0]).a, .int .i64 (S[0]).e][0]? = some (.int .i64 (S[0]).k) := rfl
      rw [e] at h00
      simpa [Addr.add] using World.cell?_spot h00
    subst hspot
    refine ⟨b, off, rfl, fun k y hy => ?_⟩
    obtain ⟨hk, rfl⟩ := List.getElem?_eq_some_iff.1 hy
    have t0 := (hp k hk) 0 (by omega)
    have t1 := (hp k hk) 1 (by omega)
    have t2 := (hp k hk) 2 (by omega)
    have t3 := (hp k hk) 3 (by omega)
    have t4 := (hp k hk) 4 (by omega)
    rw [Go.WideShapes.add_plain, Go.WideShapes.add_plain] at t0 t1 t2 t3 t4
    exact ⟨t0, t1, t2, t3, t4⟩
  · have h1 := len_leW (elems.map (·.1))
    show S.length < Rows.uptoBulk (DataW.slice (H := H) (elems.map (·.1)) (rest.map (·.1)))
    rw [List.length_map] at h1
    omega
end Go.Proofs.YtiemiphlfbaojaaDoor
