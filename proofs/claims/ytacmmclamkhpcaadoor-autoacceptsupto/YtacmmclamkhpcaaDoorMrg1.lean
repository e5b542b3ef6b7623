import Derived.Test.YtacmmclamkhpcaaDoorWmb
import Derived.Test.YtacmmclamkhpcaaDoorAuh
import Derived.Laws.OwnMore
namespace Go.Proofs.YtacmmclamkhpcaaDoor
open Go.ChangeShapes Go.WideShapes Go.ChangeAt Go.RowKit

/-! The document's elements: every star is kept. -/
def elsN : List Int → List UInt8 → Option (List Int)
  | L, [] => some L
  | L, c :: r =>
    if c = 63 then elsN (L ++ [256]) r
    else if c = 42 then elsN (L ++ [257]) r
    else if c = 92 then (match r with
      | [] => none
      | d :: r => elsN (L ++ [(d.toNat : Int)]) r)
    else elsN (L ++ [(c.toNat : Int)]) r
theorem elsN63 (L : List Int) (r : List UInt8) : elsN L (63 :: r) = elsN (L ++ [256]) r := by rw [elsN.eq_def]; simp
theorem elsN42 (L : List Int) (r : List UInt8) : elsN L (42 :: r) = elsN (L ++ [257]) r := by rw [elsN.eq_def]; simp
theorem elsN92n (L : List Int) : elsN L [92] = none := by rw [elsN.eq_def]; simp
theorem elsN92 (L : List Int) (d : UInt8) (r : List UInt8) : elsN L (92 :: d :: r) = elsN (L ++ [(d.toNat : Int)]) r := by rw [elsN.eq_def]; simp
theorem elsNo (L : List Int) (c : UInt8) (r : List UInt8) (h1 : c ≠ 63) (h2 : c ≠ 42) (h3 : c ≠ 92) : elsN L (c :: r) = elsN (L ++ [(c.toNat : Int)]) r := by rw [elsN.eq_def]; simp [h1, h2, h3]
theorem elsNn (L : List Int) : elsN L [] = some L := by rw [elsN.eq_def]
/-- R with every star, E with one of stars side by side. -/
structure DdP (R E : List Int) : Prop where
  last : R.getLast? = E.getLast?
  whole : ∀ p, wm R p R.length = wm E p E.length
  some : ∀ p, (∃ i, wm R p i = true) ↔ ∃ i, wm E p i = true
theorem ddp_nil : DdP [] [] := ⟨rfl, fun _ => rfl, fun _ => Iff.rfl⟩
theorem wm_last {E : List Int} {e : Int} (p : List UInt8) : wm (E ++ [e]) p (E.length + 1) = match p with
    | [] => (decide (e = 257) && wm E [] E.length)
    | c :: q => if e = 257 then wm E (c :: q) E.length || wm (E ++ [e]) q (E.length + 1) else decide (e = 256 ∨ e = (c.toNat : Int)) && wm E q E.length := by
  cases p with
  | nil => rw [wm_s, getE, wm_more _ _ _ (Nat.le_refl _)]; simp
  | cons c q => rw [wm_cs, getE, wm_more _ _ _ (Nat.le_refl _), wm_more _ _ _ (Nat.le_refl _)]; simp
/-- Which beginnings match, with one element more. -/
theorem some_snoc {E : List Int} {e : Int} (p : List UInt8) : (∃ i, wm (E ++ [e]) p i = true) ↔ (∃ i, wm E p i = true) ∨ wm (E ++ [e]) p (E.length + 1) = true := by
  constructor
  · rintro ⟨i, hi⟩
    have hle := wm_le hi
    rw [List.length_append, List.length_singleton] at hle
    rcases Nat.lt_or_ge E.length i with h | h
    · right
      rw [show E.length + 1 = i by omega]
      exact hi
    · left
      exact ⟨i, by rw [wm_more _ _ _ h] at hi; exact hi⟩
  · rintro (⟨i, hi⟩ | hi)
    · exact ⟨i, by rw [wm_more _ _ _ (wm_le hi)]; exact hi⟩
    · exact ⟨_, hi⟩
theorem ddp_psh {R E : List Int} (h : DdP R E) (e : Int) : DdP (R ++ [e]) (psh E e) := by
  by_cases hd : e = 257 ∧ E.getLast? = some 257
  · obtain ⟨rfl, hl⟩ := hd
    rw [psh_star hl]
    have hRl := h.last.trans hl
    obtain ⟨R0, rfl⟩ : ∃ R0, R = R0 ++ [257] := by
      have hne : R ≠ [] := by intro e; rw [e] at hRl; cases hRl
      refine ⟨R.dropLast, ?_⟩
      rw [List.getLast?_eq_some_getLast hne] at hRl
      have := List.dropLast_concat_getLast hne
      rw [Option.some.inj hRl] at this
      exact this.symm
    have key : ∀ p, wm (R0 ++ [257] ++ [257]) p ((R0 ++ [257]).length + 1) = wm (R0 ++ [257]) p (R0 ++ [257]).length := by
      intro p
      induction p with
      | nil => rw [wm_last]; simp
      | cons c q ih =>
        rw [wm_last]
        simp only [if_true]
        rw [ih]
        have e2 : wm (R0 ++ [257]) (c :: q) (R0 ++ [257]).length = (wm R0 (c :: q) R0.length || wm (R0 ++ [257]) q (R0 ++ [257]).length) := by
          rw [List.length_append, List.length_singleton, wm_last]
          simp
        rw [e2]
        cases wm R0 (c :: q) R0.length <;> cases wm (R0 ++ [257]) q (R0 ++ [257]).length <;> rfl
    refine ⟨by rw [hl]; simp, fun p => ?_, fun p => ?_⟩
    · rw [← h.whole p, ← key p, List.length_append, List.length_singleton]
    · rw [some_snoc, key p, ← h.some p]
      exact ⟨fun h2 => h2.elim id (fun h3 => ⟨_, h3⟩), .inl⟩
  · have hp : psh E e = E ++ [e] := by unfold psh; rw [if_neg hd]
    rw [hp]
    have key : ∀ p, wm (R ++ [e]) p (R.length + 1) = wm (E ++ [e]) p (E.length + 1) := by
      intro p
      induction p with
      | nil => rw [wm_last, wm_last, h.whole]
      | cons c q ih =>
        rw [wm_last, wm_last]
        simp only []
        rw [h.whole, h.whole, ih]
    refine ⟨by simp, fun p => ?_, fun p => ?_⟩
    · rw [List.length_append, List.length_append, List.length_singleton]
      exact key p
    · rw [some_snoc, some_snoc, h.some p, key p]
theorem dd_els : ∀ (n : Nat) (l : List UInt8) (R E : List Int), l.length ≤ n → DdP R E → (elsN R l = none ∧ elsR E l = none) ∨ ∃ R2 E2, elsN R l = some R2 ∧ elsR E l = some E2 ∧ DdP R2 E2 := by
  intro n
  induction n with
  | zero =>
    intro l R E hl h
    cases l with
    | nil => exact .inr ⟨R, E, elsNn R, elsRn E, h⟩
    | cons a r => simp at hl
  | succ n ih =>
    intro l R E hl h
    cases l with
    | nil => exact .inr ⟨R, E, elsNn R, elsRn E, h⟩
    | cons c r =>
      rw [List.length_cons] at hl
      by_cases h1 : c = 63
      · subst h1; rw [elsN63, elsR63]; exact ih r _ _ (by omega) (ddp_psh h 256)
      · by_cases h2 : c = 42
        · subst h2; rw [elsN42, elsR42]; exact ih r _ _ (by omega) (ddp_psh h 257)
        · by_cases h3 : c = 92
          · subst h3
            cases r with
            | nil => rw [elsN92n, elsR92n]; exact .inl ⟨rfl, rfl⟩
            | cons d r =>
              rw [elsN92, elsR92]
              rw [List.length_cons] at hl
              exact ih r _ _ (by omega) (ddp_psh h _)
          · rw [elsNo _ c r h1 h2 h3, elsRo _ c r h1 h2 h3]
            exact ih r _ _ (by omega) (ddp_psh h _)
theorem dd_of {l : List UInt8} {E : List Int} (h : elsR [] l = some E) : ∃ R, elsN [] l = some R ∧ DdP R E ∧ NoSS E := by
  rcases dd_els l.length l [] [] (Nat.le_refl _) ddp_nil with ⟨_, h2⟩ | ⟨R2, E2, h1, h2, h3⟩
  · rw [h2] at h; cases h
  · rw [h2] at h
    cases h
    exact ⟨R2, h1, h3, noss_els l.length l [] E (Nat.le_refl _) noss_nil h2⟩
end Go.Proofs.YtacmmclamkhpcaaDoor
namespace Go.Proofs.YtacmmclamkhpcaaDoor
open Go.ChangeShapes Go.WideShapes Go.ChangeAt Go.RowKit

/-- An element as it lies. -/
def encE (e : Int) : List Value := [.bool (decide (e = 257)), .bool (decide (e = 256)), .int .u8 (if e = 257 ∨ e = 256 then 0 else e)]
def esV (L : List Int) : List Value := L.flatMap encE
theorem esV_app (L : List Int) (e : Int) : esV (L ++ [e]) = esV L ++ encE e := by unfold esV; simp
theorem enc_star : encE 257 = [.bool true, .bool false, .int .u8 0] := rfl
theorem enc_gap : encE 256 = [.bool false, .bool true, .int .u8 0] := rfl
theorem enc_let {q : Nat} (h : q < 256) : encE (q : Int) = [.bool false, .bool false, .int .u8 (q : Int)] := by
  unfold encE
  rw [decide_eq_false (by omega), decide_eq_false (by omega), if_neg (by omega)]
theorem wpList_pushE2 {w0 W : World} {ops : Array Oper} {rest : List Oper} {o : Oper} {act : Act} {Q : Exit → Act → World → Prop} (hgd : o.guard = none) (s x : Operand)
    (ho : o.op = .call { callee := .builtin .append, args := #[s, x], argTypes := #[81, 81] }) (v : Value) (n : Nat) (L : List Int) (e : Int) (b1 b2 : Bool) (y : Int) (he : encE e = [.bool b1, .bool b2, .int .u8 y]) (hs : act.eval s = v) (hG : Hid (Gro w0 W 85 3 v n (esV L))) (b : Nat) (hb : b = W.heap.size) (hx : act.eval x = .slice (some ⟨b, 0, none⟩) 1 1) (hn : n ≤ 1099511627776)
    (h : ∀ a' c' W', Hid (Gro w0 W' 85 3 (.slice a' (n + 1) c') (n + 1) (esV (L ++ [e]))) → wpList Tryd.prog ops Q rest (act.put o.dst (.slice a' (n + 1) c')) W') : wpList Tryd.prog ops Q (o :: rest) act (W.alloc (.cells #[.bool b1, .bool b2, .int .u8 y] 85)) := by
  subst hb
  obtain ⟨i0, hi, hz0, hz1, hz2⟩ := info_partsA Tryd.infoEl
  rw [esV_app, he] at h
  exact wpList_push hgd s x 81 ho 85 i0 (.agg #[.bool false, .bool false, .int .u8 0]) 3 3 Tryd.underlying81 hi hz0 hz1 hz2 rfl (by decide) v n (esV L) [.bool b1, .bool b2, .int .u8 y] hs hG hx rfl (by intro u hu; simp at hu; rcases hu with rfl | rfl | rfl <;> rfl) (hideG (by omega)) (hideG (by unfold maxLen; omega)) h
set_option maxRecDepth 20000 in
set_option maxHeartbeats 4000000 in
theorem relementsK (l : List UInt8) (R : List Int) (w : World) (hl : l.length ≤ 1099511627776) (hR : elsN [] l = some R) :
    Calls Tryd.prog 37 #[.string (bq l)] w fun e w' => ∃ a c, e = .returned (.tuple #[.slice a R.length c, .bool true]) ∧ Gro w w' 85 3 (.slice a R.length c) R.length (esV R) := by
  obtain ⟨Z, hZ⟩ : ∃ Z, Z = elsN [] l := ⟨_, rfl⟩
  have HZR : Hid (Z = some R) := hideG (by rw [hZ, hR])
  obtain ⟨s, hs⟩ : ∃ s, s = bq l := ⟨_, rfl⟩
  have hz : s.size = l.length := by rw [hs]; exact bq_size l
  have HX : Hid (∀ k (h : k < l.length) (h2 : k < s.size), s[k] = l[k]) := hideG (fun k h h2 => by subst hs; rfl)
  rw [← hs]
  have HZ := hideG hZ
  obtain ⟨n, hn⟩ : ∃ n, n = s.size := ⟨_, rfl⟩
  have hln : n ≤ 1099511627776 := by omega
  have HLn : Hid (n = l.length) := hideG (by omega)
  clear hZ hs hl hz hR
  go_enter Tryd.func37, Tryd.ntmps37
  go_wp2
  go_loopw [4, 5] (fun v iw wr => ∃ (i m : Nat) (a : Option Addr) (c : Nat) (L : List Int), i ≤ n ∧ m ≤ i ∧ iw = .int .i64 i ∧ v = .slice a m c ∧ Hid (m = L.length) ∧ Hid (Z = elsN L (l.drop i)) ∧ Hid (Gro w wr 85 3 (.slice a m c) m (esV L))) (fun _ iw _ => n - (intOf iw).toNat)
  case atStart => exact ⟨0, 0, _, _, [], by omega, by omega, rfl, rfl, hideG rfl, hideG (by rw [HZ.out, List.drop_zero]), hideG (gro_empty w w 85 3 (Kept.refl _ _))⟩
  case round =>
    obtain ⟨i, m, a, c, L, hi, hmi, rfl, rfl, HM, HD, HG⟩ := hrel
    clear HZ
    by_cases hlt : i < n
    · have hil : i < l.length := by rw [← HLn.out]; exact hlt
      have his : i < s.size := by rw [← hn]; exact hlt
      have hii : (i : Int) < (n : Int) := by omega
      have c0 := HX.out i hil his
      have hd : l.drop i = l[i] :: l.drop (i + 1) := List.drop_eq_getElem_cons hil
      have HD2 := HD.out
      rw [hd] at HD2
      generalize l[i] = x at *
      by_cases h42 : x = 42
      · subst h42
        have HQ : Hid (Z = elsN (L ++ [257]) (l.drop (i + 1))) := hideG (by rw [HD2, elsN42])
        have y0 : s[i].toNat = 42 := by rw [c0]; rfl
        clear c0 hd HD2 HD HX
        go_wp2_with (at_builtin; refine wpList_pushE2 rfl _ _ rfl _ m L 257 true false 0 (enc_star) rfl HG _ (by first | rfl | simp) rfl (by omega) ?_; clear HG; intro a1 c1 W1 G1)
        go_roundw
        case rel => exact ⟨i + 1, m + 1, a1, c1, L ++ [257], by omega, by omega, by go_num, rfl, hideG (by rw [List.length_append, ← HM.out]; rfl), HQ, G1⟩
        case measure => simp [intOf]; omega
      · by_cases h63 : x = 63
        · subst h63
          have HQ : Hid (Z = elsN (L ++ [256]) (l.drop (i + 1))) := hideG (by rw [HD2, elsN63])
          have y0 : s[i].toNat = 63 := by rw [c0]; rfl
          clear c0 hd HD2 HD HX
          go_wp2_with (at_builtin; refine wpList_pushE2 rfl _ _ rfl _ m L 256 false true 0 (enc_gap) rfl HG _ (by first | rfl | simp) rfl (by omega) ?_; clear HG; intro a1 c1 W1 G1)
          go_roundw
          case rel => exact ⟨i + 1, m + 1, a1, c1, L ++ [256], by omega, by omega, by go_num, rfl, hideG (by rw [List.length_append, ← HM.out]; rfl), HQ, G1⟩
          case measure => simp [intOf]; omega
        · by_cases h92 : x = 92
          · subst h92
            have y0 : s[i].toNat = 92 := by rw [c0]; rfl
            by_cases hE : i + 1 < n
            · have hil2 : i + 1 < l.length := by rw [← HLn.out]; exact hE
              have his2 : i + 1 < s.size := by rw [← hn]; exact hE
              have hd2 : l.drop (i + 1) = l[i + 1] :: l.drop (i + 1 + 1) := List.drop_eq_getElem_cons hil2
              rw [hd2] at HD2
              have HQ : Hid (Z = elsN (L ++ [((l[i + 1]).toNat : Int)]) (l.drop (i + 1 + 1))) := hideG (by rw [HD2, elsN92])
              have c1 := HX.out (i + 1) hil2 his2
              obtain ⟨q, hq⟩ : ∃ q, q = (l[i + 1]).toNat := ⟨_, rfl⟩
              have hqb : q < 256 := by rw [hq]; exact (l[i + 1]).toNat_lt
              have y1 : s[i + 1].toNat = q := by rw [c1, hq]
              rw [← hq] at HQ
              have e1 : ((i : Int) + 1 == (n : Int)) = false := by simp; omega
              have e2 : ¬ ((i : Int) + 1 = (n : Int)) := by omega
              clear c0 c1 hd HD2 HD HX hd2 hq
              go_wp2_with (at_builtin; refine wpList_pushE2 rfl _ _ rfl _ m L (q : Int) false false (q : Int) (enc_let hqb) rfl HG _ (by first | rfl | simp) rfl (by omega) ?_; clear HG; intro a1 c1 W1 G1)
              go_roundw
              case rel => exact ⟨i + 1 + 1, m + 1, a1, c1, L ++ [(q : Int)], by omega, by omega, by go_num, rfl, hideG (by rw [List.length_append, ← HM.out]; rfl), HQ, G1⟩
              case measure => simp [intOf]; omega
            · obtain rfl : n = i + 1 := by omega
              exfalso
              have h9 := HZR.out
              rw [HD2, List.drop_of_length_le (by have := HLn.out; omega), elsN92n] at h9
              cases h9
          · obtain ⟨q, hq⟩ : ∃ q, q = x.toNat := ⟨_, rfl⟩
            have hqb : q < 256 := by rw [hq]; exact x.toNat_lt
            have HQ : Hid (Z = elsN (L ++ [(q : Int)]) (l.drop (i + 1))) := hideG (by rw [HD2, elsNo _ _ _ h63 h42 h92, hq])
            have y0 : s[i].toNat = q := by rw [c0, hq]
            have q1 : ((q : Int) == 63) = false := by rw [hq]; exact u8_int' x 63 h63
            have q2 : ((q : Int) == 42) = false := by rw [hq]; exact u8_int' x 42 h42
            have q3 : ((q : Int) == 92) = false := by rw [hq]; exact u8_int' x 92 h92
            clear c0 hd HD2 HD HX h63 h42 h92 hq
            go_wp2_with (at_builtin; refine wpList_pushE2 rfl _ _ rfl _ m L (q : Int) false false (q : Int) (enc_let hqb) rfl HG _ (by first | rfl | simp) rfl (by omega) ?_; clear HG; intro a1 c1 W1 G1)
            go_roundw
            case rel => exact ⟨i + 1, m + 1, a1, c1, L ++ [(q : Int)], by omega, by omega, by go_num, rfl, hideG (by rw [List.length_append, ← HM.out]; rfl), HQ, G1⟩
            case measure => simp [intOf]; omega
    · obtain rfl : i = n := by omega
      have HQ : Hid (R = L) := hideG (by
        have h9 := HZR.out
        rw [HD.out, List.drop_of_length_le (by rw [HLn.out]; exact Nat.le_refl _), elsNn] at h9
        exact (Option.some.inj h9).symm)
      have hRL := HQ.out
      subst hRL
      have hm := HM.out
      subst hm
      clear HX HD HQ HZR
      go_wp2
      go_ret2
      exact ⟨_, _, rfl, HG.out⟩
end Go.Proofs.YtacmmclamkhpcaaDoor
namespace Go.Proofs.YtacmmclamkhpcaaDoor
open Go.ChangeShapes Go.WideShapes Go.ChangeAt Go.RowKit

def bw (L : List Bool) : List Value := L.map Value.bool
theorem bw_len (L : List Bool) : (bw L).length = L.length := by unfold bw; simp
theorem bw_at {L : List Bool} {j : Nat} (h : j < L.length) : (bw L)[j]? = some (.bool L[j]) := by unfold bw; simp [h]
theorem Tryd.infoBw : (Tryd.prog.info? 4).map (fun i => (i.zero, i.size, i.bytes)) = some (some (.bool false), 1, 1) := by kernel_rfl
theorem gro_makeB (w : World) (n : Nat) (h63 : n ≤ maxLen) : Gro w (w.alloc (.cells (madeCells (Value.bool false).cells (n * 1)) 4)) 4 1 (.slice (some ⟨w.heap.size, 0, none⟩) n n) n (bw (List.replicate n false)) := by
  refine ⟨⟨by rw [bw_len, List.length_replicate, Nat.mul_one], .inr ⟨w.heap.size, n, madeCells (Value.bool false).cells (n * 1), rfl, Nat.le_refl _, heap_alloc_new w _, Nat.le_refl _, h63, size_madeCells _ _, ?_⟩⟩, Kept.alloc _ _⟩
  have e : (Value.bool false).cells = #[.bool false] := rfl
  rw [e, Nat.mul_one, toList_madeCells_one]
  unfold bw
  rw [List.map_replicate, List.take_of_length_le (by simp)]
theorem wpList_makeB (w : World) {ops : Array Oper} {rest : List Oper} {o : Oper} {a : Act} {Q : Exit → Act → World → Prop}
    (hg : o.guard = none) (l c : Operand) (hop : o.op = Op.makeSlice 62 l c) (C : Int) (n : Nat) (hl : a.eval l = .int .i64 C) (hc : a.eval c = .int .i64 C) (hC : C = (n : Int)) (b2 : n ≤ 1099511627776)
    (hK : ∀ w', Hid (Gro w w' 4 1 (.slice (some ⟨w.heap.size, 0, none⟩) n n) n (bw (List.replicate n false))) → wpList Tryd.prog ops Q rest (a.put o.dst (.slice (some ⟨w.heap.size, 0, none⟩) n n)) w') :
    wpList Tryd.prog ops Q (o :: rest) a w := by
  refine wpList_plain hg fun K hK' => ?_
  obtain ⟨i0, hi, hz0, hz1, hz2⟩ := info_partsA Tryd.infoBw
  have hr := run_make (P := Tryd.prog) w 62 4 i0 (.bool false) Tryd.underlying62 hi hz0 .i64 .i64 (n : Int) (n : Int) (by omega) (Int.le_refl _) (by rw [hz2]; omega) (by omega)
  rw [hz1] at hr
  simp only [Int.toNat_natCast] at hr
  subst hC
  unfold Oper.wp execOp
  simp only [hop, hl, hc, Sem.run_bind, hr, Result.andThen_ok]
  exact hK' _ _ (hK _ (hideG (gro_makeB w n (by unfold maxLen; omega))))
/-- 'append' of one truth value; what else lies stays. -/
theorem wpList_pushBl {w0 W : World} {ops : Array Oper} {rest : List Oper} {o : Oper} {act : Act} {Q : Exit → Act → World → Prop} (hgd : o.guard = none) (s x : Operand)
    (ho : o.op = .call { callee := .builtin .append, args := #[s, x], argTypes := #[62, 62] }) (v : Value) (n : Nat) (L : List Bool) (y : Bool) (hs : act.eval s = v) (hG : Hid (Gro w0 W 4 1 v n (bw L))) (b : Nat) (hb : b = W.heap.size) (hx : act.eval x = .slice (some ⟨b, 0, none⟩) 1 1) (hn : n ≤ 1099511627776)
    (h : ∀ g c' W', Hid (Gro w0 W' 4 1 (.slice (some ⟨g, 0, none⟩) (n + 1) c') (n + 1) (bw (L ++ [y]))) → Hid (Kept (fun k => v.ownBlock = some k) W W') → Hid (v.ownBlock = some g ∨ W.heap.size ≤ g) → wpList Tryd.prog ops Q rest (act.put o.dst (.slice (some ⟨g, 0, none⟩) (n + 1) c')) W') : wpList Tryd.prog ops Q (o :: rest) act (W.alloc (.cells #[.bool y] 4)) := by
  subst hb
  obtain ⟨i0, hi, hz0, hz1, hz2⟩ := info_partsA Tryd.infoBw
  have e : bw (L ++ [y]) = bw L ++ [.bool y] := by unfold bw; simp
  rw [e] at h
  refine wpList_append_lies _ hgd s x 62 ho w0.heap.size 4 i0 (.bool false) 1 1 Tryd.underlying62 hi hz0 hz1 hz2 rfl (by decide) v n (bw L) hs (hG.out.own.alloc _) ⟨W.heap.size, 0, none⟩ 1 1 [.bool y] hx rfl (row_news W [.bool y] 4) (by intro u hu; simp at hu; subst hu; rfl) (by decide) (by unfold maxLen; omega) (by omega) (by have := hG.out.kept.size; simp; omega) _ rfl ?_
  intro g cap W' h1 h2 h3 _
  have kk : Kept (fun k => v.ownBlock = some k) W W' := ((Kept.alloc W _).mono (fun _ f => f.elim)).trans (Kept.grown h2) (fun i hi => .inl hi)
  exact h g cap W' ⟨h1, hG.out.kept.trans kk (fun i hi => .inr (hG.out.own.lt i hi).1)⟩ kk (h3.imp id (fun e => by rw [e]; simp))
theorem wm_rev_zero {R : List Int} {c : UInt8} {q : List UInt8} : wm R (c :: q).reverse 0 = false := by
  cases h : (c :: q).reverse with
  | nil => simp at h
  | cons d r => rfl
theorem wm_zero_let {R : List Int} {k : Nat} {e : Int} {s : List UInt8} (h : R[k]? = some e) (hne : e ≠ 257) : wm R (s.take 0).reverse (k + 1) = false := by
  show wm R [] (k + 1) = false
  rw [wm_s, h, decide_eq_false (by intro x; exact hne (Option.some.inj x))]
  rfl
theorem let_eq {e : Int} {ch : Nat} (h : ¬ e = 256) : decide (e = 256 ∨ e = (ch : Int)) = ((ch : Int) == e) := by
  by_cases h2 : e = (ch : Int)
  · rw [decide_eq_true (.inr h2), h2]; simp
  · rw [decide_eq_false (by intro x; rcases x with x | x; exact h x; exact h2 x)]
    exact (beq_eq_false_iff_ne.2 (fun x => h2 x.symm)).symm
theorem esV_at : ∀ {R : List Int} {k : Nat} (h : k < R.length) {i : Nat} {u : Value}, (encE R[k])[i]? = some u → (esV R)[k * 3 + i]? = some u := by
  intro R
  induction R with
  | nil => intro k h; simp at h
  | cons e R ih =>
    intro k h i u hu
    have hl : ∀ x, (encE x).length = 3 := fun x => rfl
    have e1 : esV (e :: R) = encE e ++ esV R := by unfold esV; simp
    rw [e1]
    cases k with
    | zero =>
      have hi : i < 3 := by
        have := (List.getElem?_eq_some_iff.1 hu).1
        simpa [encE] using this
      rw [Nat.zero_mul, Nat.zero_add, List.getElem?_append_left (by rw [hl]; exact hi)]
      exact hu
    | succ k =>
      rw [List.getElem?_append_right (by rw [hl]; omega), hl, show (k + 1) * 3 + i - 3 = k * 3 + i by omega]
      exact ih (by simpa using h) hu
/-- What stands in the row's lists. -/
def rowB (R : List Int) (s : List UInt8) (k : Nat) : List Bool := (List.range (k + 1)).map (wm R s.reverse)
theorem rowB_succ (R : List Int) (s : List UInt8) (k : Nat) : rowB R s (k + 1) = rowB R s k ++ [wm R s.reverse (k + 1)] := by unfold rowB; rw [List.range_succ]; simp
structure RwL (W1 wr : World) (R : List Int) (s : List UInt8) (m k g : Nat) (o : Value) : Prop where
  at_ : ∀ j, j ≤ m → wr.cell? ⟨g, j, none⟩ = some (.bool (wm R (s.take j).reverse k))
  out : Gro W1 wr 4 1 o (k + 1) (bw (rowB R s k))
  ne : o.ownBlock ≠ some g
/-- The list under way: j places written. -/
def prt (f : Nat → Bool) (m j : Nat) : List Bool := (List.range j).map f ++ List.replicate (m + 1 - j) false
theorem prt_len {f : Nat → Bool} {m j : Nat} (h : j ≤ m + 1) : (prt f m j).length = m + 1 := by unfold prt; simp; omega
theorem prt_zero (f : Nat → Bool) (m : Nat) : prt f m 0 = List.replicate (m + 1) false := by unfold prt; simp
theorem prt_at {f : Nat → Bool} {m j i : Nat} (h : i < j) : (prt f m j)[i]? = some (f i) := by unfold prt; rw [List.getElem?_append_left (by simpa using h)]; simp [h]
theorem prt_set {f : Nat → Bool} {m j : Nat} (h : j ≤ m) : (bw (prt f m j)).set j (.bool (f j)) = bw (prt f m (j + 1)) := by
  unfold bw prt
  have e : List.replicate (m + 1 - j) false = false :: List.replicate (m + 1 - (j + 1)) false := by
    rw [show m + 1 - j = (m + 1 - (j + 1)) + 1 by omega, List.replicate_succ]
  rw [e, List.map_append, List.set_append_right _ _ (by simp), List.range_succ]
  simp
theorem prt_next {f : Nat → Bool} {m j : Nat} (h : j ≤ m) : (bw (prt f m j))[j]? = some (.bool false) := by
  have e : (prt f m j)[j]? = some false := by
    unfold prt
    rw [List.getElem?_append_right (by simp), List.length_map, List.length_range, Nat.sub_self, List.getElem?_replicate, if_pos (by omega)]
  unfold bw
  rw [List.getElem?_map, e]; rfl
def seenF (f : Nat → Bool) : Nat → Bool
  | 0 => false
  | j + 1 => seenF f j || f j
theorem wm_seen {R : List Int} {k : Nat} (hs : R[k]? = some 257) (s : List UInt8) : ∀ j, j ≤ s.length → wm R (s.take j).reverse (k + 1) = seenF (fun i => wm R (s.take i).reverse k) (j + 1) := by
  intro j
  induction j with
  | zero =>
    intro _
    show wm R [] (k + 1) = (false || wm R (s.take 0).reverse k)
    rw [wm_s, decide_eq_true hs]
    simp
  | succ j ih =>
    intro hj
    have e := take_rev (a := s) (i := j) (by omega)
    show _ = (seenF _ (j + 1) || wm R (s.take (j + 1)).reverse k)
    rw [← ih (by omega), e, wm_cs, if_pos hs, Bool.or_comm]
def rowP (R : List Int) (s : List UInt8) (n : Nat) (w w' : World) (e : Ending) : Prop := (∃ g c, e = .returned (.slice (some ⟨g, 0, none⟩) (n + 1) c) ∧ ∀ i, i ≤ n → w'.cell? ⟨g, i, none⟩ = some (.bool (wm R s.reverse i))) ∧ Kept (fun _ => False) w w'
set_option maxRecDepth 20000 in
set_option maxHeartbeats 8000000 in
theorem rrow_any (l : List UInt8) (R : List Int) (s : List UInt8) (w : World) (hl : l.length ≤ 1048576) (hR : elsN [] l = some R) (hRl : R.length ≤ 1048576) (hs : s.length ≤ 1048576) : Calls Tryd.prog 24 #[.string (bq l), .string (bq s)] w fun e w' => rowP R s R.length w w' e := by
  have CE := hideG (relementsK l R w (by omega) hR)
  obtain ⟨n, hn⟩ : ∃ n, n = R.length := ⟨_, rfl⟩
  obtain ⟨sS, hsS⟩ : ∃ x, x = bq s := ⟨_, rfl⟩
  obtain ⟨sL, hsL⟩ : ∃ x, x = bq l := ⟨_, rfl⟩
  have zs : sS.size = s.length := by rw [hsS]; exact bq_size s
  have HXS : Hid (∀ k (h : k < s.length) (h2 : k < sS.size), sS[k] = s[k]) := hideG (fun k h h2 => by subst hsS; rfl)
  rw [← hsL] at CE ⊢
  rw [← hsS]
  rw [← hn] at CE ⊢
  obtain ⟨m, hm⟩ : ∃ m, sS.size = m := ⟨_, rfl⟩
  have hmb : m ≤ 1048576 := by omega
  have hnb : n ≤ 1048576 := by omega
  have HM : Hid (m = s.length) := hideG (by omega)
  have HN := hideG hn
  clear hsS hsL zs hs hl hn hR hRl
  go_enter Tryd.func24, Tryd.ntmps24
  go_wp2_with (first
    | (go_at_call 37; refine CE.out.mono ?_; clear CE; rintro e W1 ⟨ea, ec, rfl, G1⟩; have HE := hideG G1; clear G1)
    | (refine wpList_makeB _ rfl _ _ rfl _ (m + 1) rfl rfl (by omega) (by omega) ?_; intro W2 G2; refine Stp2.go ?_))
  refine ⟨?_⟩
  have c0 := G2.out.at (j := 0) (u := .bool false) (by unfold bw; simp)
  obtain ⟨S1, f0⟩ := G2.out.set 0 (.bool true)
  have HG2 := hideG G2.out
  have HS1 := hideG S1
  clear G2 S1
  have HKW := hideG HE.out.kept
  have HEc : Hid (∀ V k, k < n → Kept (fun _ => False) W1 V → ∃ eb, ea = some ⟨eb, 0, none⟩ ∧ ∀ i u, (encE (R.getD k 0))[i]? = some u → V.cell? ⟨eb, k * 3 + i, none⟩ = some u) := hideG (fun V k hk kV => by
    obtain ⟨eb, rfl, _, hc⟩ := HE.out.cell (by omega)
    refine ⟨eb, rfl, fun i u hu => kV.cell (hc _ u ?_) (fun f => f)⟩
    have hkl : k < R.length := by rw [← HN.out]; exact hk
    have e2 : R.getD k 0 = R[k] := by simp [List.getD, hkl]
    rw [e2] at hu
    exact esV_at hkl hu)
  clear HE
  have eb1 : ((m : Int) == 0) = decide (m = 0) := by
    rcases Nat.eq_zero_or_pos m with h | h
    · subst h; rfl
    · rw [decide_eq_false (by omega)]; simp; omega
  go_wp2
  generalize hW3 : (W2.setCell ⟨W1.heap.size, 0, none⟩ (.bool true)) = W3 at *
  have h23 : W2.heap.size = W3.heap.size := by rw [← hW3]; simp [World.setCell]
  have HL0 : Hid (RwL W1 (W3.alloc (.cells #[.bool (decide (m = 0))] 4)) R s m 0 W1.heap.size (.slice (some ⟨W2.heap.size, 0, none⟩) 1 1)) := hideG (by
    rw [h23]
    have ka := Kept.alloc W3 (.cells #[.bool (decide (m = 0))] 4)
    have hsz : W1.heap.size < W3.heap.size := by
      have h9 := HS1.out.own.lt W1.heap.size rfl
      exact h9.2
    refine ⟨fun j hj => ?_, ⟨⟨rfl, .inr ⟨W3.heap.size, 1, #[.bool (decide (m = 0))], rfl, by omega, heap_alloc_new W3 _, Nat.le_refl _, by decide, rfl, ?_⟩⟩, HS1.out.kept.trans ka (fun _ f => f.elim)⟩, fun e => by simp only [Value.ownBlock, Option.some.injEq] at e; omega⟩
    · refine ka.cell (HS1.out.at ?_) (fun f => f)
      cases j with
      | zero => simp [bw, wm_z]
      | succ j =>
        rw [List.getElem?_set_ne (by omega)]
        have hjs : j < s.length := by rw [← HM.out]; omega
        rw [take_rev hjs, wm_cz]
        unfold bw
        rw [List.getElem?_map, List.getElem?_replicate, if_pos (by omega)]
        rfl
    · unfold rowB bw
      have hms := HM.out
      cases s with
      | nil => simp at hms; subst hms; rfl
      | cons c q => rw [decide_eq_false (by rw [hms]; simp)]; simp; rw [show (q.reverse ++ [c]) = (c :: q).reverse by simp, wm_rev_zero])
  clear HG2 HS1 c0 f0 eb1 h23 hW3
  go_loopw [7, 8, 31] (fun v u kk wr => ∃ (k g oc : Nat) (oa : Option Addr), k ≤ n ∧ kk = .int .i64 k ∧ v = .slice (some ⟨g, 0, none⟩) (m + 1) (m + 1) ∧ u = .slice oa (k + 1) oc ∧ Hid (RwL W1 wr R s m k g (.slice oa (k + 1) oc))) (fun _ _ kk _ => n - (intOf kk).toNat)
  case atStart => exact ⟨0, _, _, _, Nat.zero_le _, rfl, rfl, rfl, HL0⟩
  case round =>
    obtain ⟨k, g, oc, oa, hk, rfl, rfl, rfl, HL⟩ := hrel
    clear HL0
    obtain ⟨W0, rfl⟩ : ∃ W0, W0 = wr := ⟨_, rfl⟩
    by_cases hkn : k < n
    · have i1 : (k : Int) < (n : Int) := by omega
      obtain ⟨eb, rfl, hec⟩ := HEc.out W0 k hkn HL.out.out.kept
      have x0 := hec 0 _ rfl
      have x1 := hec 1 _ rfl
      have x2 := hec 2 _ rfl
      rw [Nat.add_zero] at x0
      have hkR : k < R.length := by rw [← HN.out]; exact hkn
      have hRk : R[k]? = some (R.getD k 0) := by simp [List.getD, hkR]
      obtain ⟨e, he⟩ : ∃ e, e = R.getD k 0 := ⟨_, rfl⟩
      rw [← he] at x0 x1 x2 hRk
      obtain ⟨b1, hb1⟩ : ∃ b, b = decide (e = 257) := ⟨_, rfl⟩
      obtain ⟨b2, hb2⟩ : ∃ b, b = decide (e = 256) := ⟨_, rfl⟩
      obtain ⟨y, hy⟩ : ∃ y : Int, y = if e = 257 ∨ e = 256 then 0 else e := ⟨_, rfl⟩
      rw [← hb1] at x0
      rw [← hb2] at x1
      rw [← hy] at x2
      have HB1 := hideG hb1
      have HB2 := hideG hb2
      have HY := hideG hy
      have HRk := hideG hRk
      clear hec he hb1 hb2 hy hRk
      obtain ⟨Wb, hWb⟩ : ∃ Wb : World, Wb = W0.alloc (.cells #[.bool b1, .bool b2, .int .u8 y] 85) := ⟨_, rfl⟩
      have kb : Kept (fun _ => False) W0 Wb := by rw [hWb]; exact Kept.alloc _ _
      have hbx : Wb.heap[W0.heap.size]? = some (.cells #[.bool b1, .bool b2, .int .u8 y] 85 (0, 0)) := by rw [hWb]; exact heap_alloc_new W0 _
      have hWs : Wb.heap.size = W0.heap.size + 1 := by rw [hWb, World.size_alloc]
      have HBx : Hid (∀ V, Kept (fun _ => False) Wb V → V.cell? ⟨W0.heap.size, 0, none⟩ = some (.bool b1) ∧ V.cell? ⟨W0.heap.size, 1, none⟩ = some (.bool b2) ∧ V.cell? ⟨W0.heap.size, 2, none⟩ = some (.int .u8 y)) := hideG (fun V kV => by
        have h := kV.heap hbx (fun f => f)
        exact ⟨by simp [World.cell?, h], by simp [World.cell?, h], by simp [World.cell?, h]⟩)
      have HAt : Hid (∀ V j, j ≤ m → Kept (fun _ => False) Wb V → V.cell? ⟨g, j, none⟩ = some (.bool (wm R (s.take j).reverse k))) := hideG (fun V j hj kV => kV.cell (kb.cell (HL.out.at_ j hj) (fun f => f)) (fun f => f))
      have HKb := hideG kb
      have HWb := hideG hWb
      have HWs := hideG hWs
      clear kb hbx hWs
      go_wp2_with (refine wpList_makeB _ rfl _ _ rfl _ (m + 1) rfl rfl (by omega) (by omega) ?_; intro W5 G5; refine Stp2.go ?_)
      refine ⟨?_⟩
      rw [← HWb.out] at G5
      have esz : Wb.heap.size = W0.heap.size + 1 := HWs.out
      rw [esz] at G5
      have HG5 : Hid (Gro Wb W5 4 1 (.slice (some ⟨W0.heap.size + 1, 0, none⟩) (m + 1) (m + 1)) (m + 1) (bw (prt (fun j => wm R (s.take j).reverse (k + 1)) m 0))) := hideG (by rw [prt_zero]; exact G5.out)
      clear G5 esz x0 x1 x2 hWb
      go_wp2
      go_loopw [12, 13] (fun v jj wq => ∃ (j : Nat), j ≤ m + 1 ∧ jj = .int .i64 j ∧ v = .bool (seenF (fun i => wm R (s.take i).reverse k) j) ∧ Hid (Gro Wb wq 4 1 (.slice (some ⟨W0.heap.size + 1, 0, none⟩) (m + 1) (m + 1)) (m + 1) (bw (prt (fun j => wm R (s.take j).reverse (k + 1)) m j)))) (fun _ jj _ => m + 1 - (intOf jj).toNat)
      case atStart => exact ⟨0, Nat.zero_le _, rfl, rfl, HG5⟩
      case round =>
        obtain ⟨j, hj, rfl, rfl, HG⟩ := hrel
        clear HG5
        by_cases hjm : j ≤ m
        · have j1 : (j : Int) ≤ (m : Int) := by omega
          have j2 : (j : Int) < (m : Int) + 1 := by omega
          have a0 := HAt.out wr j hjm HG.out.kept
          obtain ⟨z0, z1, z2⟩ := HBx.out wr HG.out.kept
          have HSn : Hid (seenF (fun i => wm R (s.take i).reverse k) (j + 1) = (seenF (fun i => wm R (s.take i).reverse k) j || wm R (s.take j).reverse k)) := hideG rfl
          have HNx := hideG (fun v => HG.out.set j (.bool v))
          have c0 := HG.out.at (prt_next hjm)
          have HPs : Hid ((bw (prt (fun j => wm R (s.take j).reverse (k + 1)) m j)).set j (.bool (wm R (s.take j).reverse (k + 1))) = bw (prt (fun j => wm R (s.take j).reverse (k + 1)) m (j + 1))) := hideG (prt_set (f := fun j => wm R (s.take j).reverse (k + 1)) hjm)
          have f0 := (HNx.out false).2
          obtain ⟨sn2, hsn2⟩ : ∃ b, b = seenF (fun i => wm R (s.take i).reverse k) (j + 1) := ⟨_, rfl⟩
          obtain ⟨av, hav⟩ : ∃ b, b = wm R (s.take j).reverse k := ⟨_, rfl⟩
          obtain ⟨nv, hnv⟩ : ∃ b, b = wm R (s.take j).reverse (k + 1) := ⟨_, rfl⟩
          have HSn2 := hideG hsn2
          rw [← hsn2, ← hav] at HSn
          rw [← hav] at a0
          rw [← hnv] at HPs
          have HNv := hideG hnv
          clear hsn2 hav hnv
          generalize hsn : seenF (fun i => wm R (s.take i).reverse k) j = sn at *
          clear hsn
          have RELS : Hid (∀ V, Hid (Gro Wb V 4 1 (.slice (some ⟨W0.heap.size + 1, 0, none⟩) (m + 1) (m + 1)) (m + 1) (bw (prt (fun j => wm R (s.take j).reverse (k + 1)) m (j + 1)))) → Hid (Gro Wb V 4 1 (.slice (some ⟨W0.heap.size + 1, 0, none⟩) (m + 1) (m + 1)) (m + 1) (bw (prt (fun j => wm R (s.take j).reverse (k + 1)) m (j + 1))))) := hideG (fun V h => h)
          clear RELS
          by_cases hst : e = 257
          · have hb : b1 = true := by rw [HB1.out]; exact decide_eq_true hst
            have hnvs : nv = sn2 := by
              rw [HNv.out, HSn2.out]
              exact wm_seen (by rw [HRk.out, hst]) s j (by rw [← HM.out]; exact hjm)
            have HS7 := hideG (HNx.out sn2).1
            rw [hnvs] at HPs
            rw [HPs.out] at HS7
            subst hb
            clear hnvs HNx HPs HNv hst HB1
            have hx : sn2 = (sn || av) := HSn.out
            cases sn
            · rw [Bool.false_or] at hx
              subst hx
              clear HSn
              go_wp2
              go_roundw
              case rel => exact ⟨j + 1, by omega, by go_num, by rw [← HSn2.out], HS7⟩
              case measure => simp [intOf]; omega
            · rw [Bool.true_or] at hx
              subst hx
              clear HSn
              go_wp2
              go_roundw
              case rel => exact ⟨j + 1, by omega, by go_num, by rw [← HSn2.out], HS7⟩
              case measure => simp [intOf]; omega
          · have hb : b1 = false := by rw [HB1.out]; exact decide_eq_false hst
            subst hb
            have hWm : Hid (∀ i (h : i < s.length), j = i + 1 → nv = (decide (e = 256 ∨ e = ((s[i]).toNat : Int)) && wm R (s.take i).reverse k)) := hideG (fun i h e1 => by
              subst e1
              rw [HNv.out, take_rev h, wm_cs, HRk.out, if_neg (by intro q; exact hst (Option.some.inj q))]
              simp)
            have hx : sn2 = (sn || av) := HSn.out
            have HS7 := hideG (HNx.out nv).1
            rw [HPs.out] at HS7
            by_cases hj0 : j = 0
            · have j0 : ¬ ((0 : Int) < (j : Int)) := by omega
              have HJ0 := hideG hj0
              have hnv0 : nv = false := by rw [HNv.out, hj0]; exact wm_zero_let HRk.out hst
              cases sn
              · rw [Bool.false_or] at hx
                subst hx
                clear HSn
                have hnvE : nv = false := hnv0
                subst hnvE
                clear hWm HNv hj0
                have hS6 : Kept (fun _ => False) Wb wr.drew := HG.out.kept.trans (Kept.drewA wr 1) (fun _ f => f.elim)
                have HG6 := HG.out.later (Kept.drewA wr 1)
                have c6 : wr.drew.cell? ⟨W0.heap.size + 1, j, none⟩ = some (.bool false) := HG6.at (prt_next hjm)
                have f6 : wr.drew.frozen? ⟨W0.heap.size + 1, j, none⟩ = false := (HG6.set j (.bool false)).2
                have HS9 : Hid (Gro Wb (wr.drew.setCell ⟨W0.heap.size + 1, j, none⟩ (.bool false)) 4 1 (.slice (some ⟨W0.heap.size + 1, 0, none⟩) (m + 1) (m + 1)) (m + 1) (bw (prt (fun j => wm R (s.take j).reverse (k + 1)) m (j + 1)))) := hideG (by
                  have h9 := (HG6.set j (.bool false)).1
                  rw [HPs.out] at h9
                  exact h9)
                have hS8 : Kept (fun _ => False) Wb (wr.drew.setCell ⟨W0.heap.size + 1, j, none⟩ (.bool false)) := HS9.out.kept
                clear HG6 HS7 HNx HPs c0 f0
                go_wp2_with fail
                refine wp_region_held (S := fun V => Kept (fun _ => False) Wb V) (by kernel_rfl) ?_
                change wpAnyH _ _ _ _ _ _ _ _ (World.drew _)
                refine takeHA (i := 0) (d := 58) (v := .slice (some ⟨W0.heap.size + 1, 0, none⟩) (m + 1) (m + 1)) rfl rfl (by kernel_rfl) (by kernel_rfl) (by kernel_rfl) (fun _ _ _ h => h) (Or.inl ⟨by rfl, fun V hV => ?_⟩) hS6 ?_
                · (go_simp)
                simp only [Act.put, List.setIfInBounds_toArray, List.set_cons_zero, List.set_cons_succ]
                refine takeHA (i := 1) (d := 59) (v := .int .i64 (j : Int)) rfl rfl (by kernel_rfl) (by kernel_rfl) (by kernel_rfl) (fun _ _ _ h => h) (Or.inl ⟨by rfl, fun V hV => ?_⟩) hS6 ?_
                · (go_simp)
                simp only [Act.put, List.setIfInBounds_toArray, List.set_cons_zero, List.set_cons_succ]
                refine takeHA (i := 2) (d := 60) (v := .int .i64 (j : Int)) rfl rfl (by kernel_rfl) (by kernel_rfl) (by kernel_rfl) (fun _ _ _ h => h) (Or.inl ⟨by rfl, fun V hV => ?_⟩) hS6 ?_
                · (go_simp)
                simp only [Act.put, List.setIfInBounds_toArray, List.set_cons_zero, List.set_cons_succ]
                refine takeHA (i := 3) (d := 61) (v := .bool false) rfl rfl (by kernel_rfl) (by kernel_rfl) (by kernel_rfl) (fun _ _ _ h => h) (Or.inl ⟨by rfl, fun V hV => ?_⟩) hS6 ?_
                · (first | (go_simp; done) | (go_simp; exact HJ0.out))
                simp only [Act.put, List.setIfInBounds_toArray, List.set_cons_zero, List.set_cons_succ]
                refine takeHA (i := 4) (d := 62) (v := .bool false) rfl rfl (by kernel_rfl) (by kernel_rfl) (by kernel_rfl) (fun _ _ _ h => h) (Or.inl ⟨by rfl, fun V hV => ?_⟩) hS6 ?_
                · (go_simp)
                simp only [Act.put, List.setIfInBounds_toArray, List.set_cons_zero, List.set_cons_succ]
                refine takeHA (i := 5) (d := 63) (v := undef) rfl rfl (by kernel_rfl) (by kernel_rfl) (by kernel_rfl) (fun _ _ _ h => h) (Or.inr ⟨by rfl, rfl⟩) hS6 ?_
                simp only [Act.put, List.setIfInBounds_toArray, List.set_cons_zero, List.set_cons_succ]
                refine takeHA (i := 6) (d := 64) (v := undef) rfl rfl (by kernel_rfl) (by kernel_rfl) (by kernel_rfl) (fun _ _ _ h => h) (Or.inr ⟨by rfl, rfl⟩) hS6 ?_
                simp only [Act.put, List.setIfInBounds_toArray, List.set_cons_zero, List.set_cons_succ]
                refine takeHA (i := 7) (d := 65) (v := undef) rfl rfl (by kernel_rfl) (by kernel_rfl) (by kernel_rfl) (fun _ _ _ h => h) (Or.inr ⟨by rfl, rfl⟩) hS6 ?_
                simp only [Act.put, List.setIfInBounds_toArray, List.set_cons_zero, List.set_cons_succ]
                refine takeHA (i := 8) (d := 66) (v := undef) rfl rfl (by kernel_rfl) (by kernel_rfl) (by kernel_rfl) (fun _ _ _ h => h) (Or.inr ⟨by rfl, rfl⟩) hS6 ?_
                simp only [Act.put, List.setIfInBounds_toArray, List.set_cons_zero, List.set_cons_succ]
                refine takeHA (i := 9) (d := 67) (v := undef) rfl rfl (by kernel_rfl) (by kernel_rfl) (by kernel_rfl) (fun _ _ _ h => h) (Or.inr ⟨by rfl, rfl⟩) hS6 ?_
                simp only [Act.put, List.setIfInBounds_toArray, List.set_cons_zero, List.set_cons_succ]
                refine takeHA (i := 10) (d := 68) (v := .bool false) rfl rfl (by kernel_rfl) (by kernel_rfl) (by kernel_rfl) (fun _ _ _ h => h) (Or.inl ⟨by rfl, fun V hV => ?_⟩) hS6 ?_
                · (go_simp)
                simp only [Act.put, List.setIfInBounds_toArray, List.set_cons_zero, List.set_cons_succ]
                refine takeHA (i := 11) (d := 69) (v := .bool false) rfl rfl (by kernel_rfl) (by kernel_rfl) (by kernel_rfl) (fun _ _ _ h => h) (Or.inl ⟨by rfl, fun V hV => ?_⟩) hS6 ?_
                · (go_simp)
                simp only [Act.put, List.setIfInBounds_toArray, List.set_cons_zero, List.set_cons_succ]
                refine takeHA (i := 12) (d := 70) (v := undef) rfl rfl (by kernel_rfl) (by kernel_rfl) (by kernel_rfl) (fun _ _ _ h => h) (Or.inr ⟨by rfl, rfl⟩) hS6 ?_
                simp only [Act.put, List.setIfInBounds_toArray, List.set_cons_zero, List.set_cons_succ]
                refine takeHA (i := 13) (d := 71) (v := undef) rfl rfl (by kernel_rfl) (by kernel_rfl) (by kernel_rfl) (fun _ _ _ h => h) (Or.inr ⟨by rfl, rfl⟩) hS6 ?_
                simp only [Act.put, List.setIfInBounds_toArray, List.set_cons_zero, List.set_cons_succ]
                refine takeHA (i := 14) (d := 72) (v := undef) rfl rfl (by kernel_rfl) (by kernel_rfl) (by kernel_rfl) (fun _ _ _ h => h) (Or.inr ⟨by rfl, rfl⟩) hS6 ?_
                simp only [Act.put, List.setIfInBounds_toArray, List.set_cons_zero, List.set_cons_succ]
                refine takeHA (i := 15) (d := 73) (v := undef) rfl rfl (by kernel_rfl) (by kernel_rfl) (by kernel_rfl) (fun _ _ _ h => h) (Or.inr ⟨by rfl, rfl⟩) hS6 ?_
                simp only [Act.put, List.setIfInBounds_toArray, List.set_cons_zero, List.set_cons_succ]
                refine takeHA (i := 16) (d := 74) (v := undef) rfl rfl (by kernel_rfl) (by kernel_rfl) (by kernel_rfl) (fun _ _ _ h => h) (Or.inr ⟨by rfl, rfl⟩) hS6 ?_
                simp only [Act.put, List.setIfInBounds_toArray, List.set_cons_zero, List.set_cons_succ]
                refine takeHA (i := 17) (d := 75) (v := undef) rfl rfl (by kernel_rfl) (by kernel_rfl) (by kernel_rfl) (fun _ _ _ h => h) (Or.inr ⟨by rfl, rfl⟩) hS6 ?_
                simp only [Act.put, List.setIfInBounds_toArray, List.set_cons_zero, List.set_cons_succ]
                refine takeHA (i := 18) (d := 76) (v := undef) rfl rfl (by kernel_rfl) (by kernel_rfl) (by kernel_rfl) (fun _ _ _ h => h) (Or.inr ⟨by rfl, rfl⟩) hS6 ?_
                simp only [Act.put, List.setIfInBounds_toArray, List.set_cons_zero, List.set_cons_succ]
                refine takeHA (i := 19) (d := 77) (v := undef) rfl rfl (by kernel_rfl) (by kernel_rfl) (by kernel_rfl) (fun _ _ _ h => h) (Or.inr ⟨by rfl, rfl⟩) hS6 ?_
                simp only [Act.put, List.setIfInBounds_toArray, List.set_cons_zero, List.set_cons_succ]
                refine takeHA (i := 20) (d := 78) (v := undef) rfl rfl (by kernel_rfl) (by kernel_rfl) (by kernel_rfl) (fun _ _ _ h => h) (Or.inr ⟨by rfl, rfl⟩) hS6 ?_
                simp only [Act.put, List.setIfInBounds_toArray, List.set_cons_zero, List.set_cons_succ]
                refine takeHA (i := 21) (d := 79) (v := undef) rfl rfl (by kernel_rfl) (by kernel_rfl) (by kernel_rfl) (fun _ _ _ h => h) (Or.inr ⟨by rfl, rfl⟩) hS6 ?_
                simp only [Act.put, List.setIfInBounds_toArray, List.set_cons_zero, List.set_cons_succ]
                refine takeHA (i := 22) (d := 80) (v := undef) rfl rfl (by kernel_rfl) (by kernel_rfl) (by kernel_rfl) (fun _ _ _ h => h) (Or.inr ⟨by rfl, rfl⟩) hS6 ?_
                simp only [Act.put, List.setIfInBounds_toArray, List.set_cons_zero, List.set_cons_succ]
                refine takeHA (i := 23) (d := 81) (v := .bool false) rfl rfl (by kernel_rfl) (by kernel_rfl) (by kernel_rfl) (fun _ _ _ h => h) (Or.inl ⟨by rfl, fun V hV => ?_⟩) hS6 ?_
                · (go_simp)
                simp only [Act.put, List.setIfInBounds_toArray, List.set_cons_zero, List.set_cons_succ]
                refine takeHA (i := 24) (d := 82) (v := .pointer (some ⟨W0.heap.size + 1, j, none⟩)) rfl rfl (by kernel_rfl) (by kernel_rfl) (by kernel_rfl) (fun _ _ _ h => h) (Or.inl ⟨by rfl, fun V hV => ?_⟩) hS6 ?_
                · (go_simp)
                simp only [Act.put, List.setIfInBounds_toArray, List.set_cons_zero, List.set_cons_succ]
                refine wpAnyH_all (rs := [25]) (by kernel_rfl) (by simp) ?_
                intro q9 hi
                obtain rfl : q9 = 25 := by simpa using hi
                unfold wpOp
                go_simp
                first | refine Or.inl ⟨hS8, ?_⟩ | refine ⟨hS8, ?_⟩ | (change wpAnyH _ _ _ _ _ _ _ _ _) | refine Or.inl ?_
                refine wpAnyH_done (by kernel_rfl) ?_ _
                go_wp2
                go_roundw
                case rel => exact ⟨j + 1, by omega, by go_num, by rw [← HSn2.out], HS9⟩
                case measure => simp [intOf]; omega
              · rw [Bool.true_or] at hx
                subst hx
                clear HSn
                have hnvE : nv = false := hnv0
                subst hnvE
                clear hWm HNv hj0
                have hS6 : Kept (fun _ => False) Wb wr.drew := HG.out.kept.trans (Kept.drewA wr 1) (fun _ f => f.elim)
                have HG6 := HG.out.later (Kept.drewA wr 1)
                have c6 : wr.drew.cell? ⟨W0.heap.size + 1, j, none⟩ = some (.bool false) := HG6.at (prt_next hjm)
                have f6 : wr.drew.frozen? ⟨W0.heap.size + 1, j, none⟩ = false := (HG6.set j (.bool false)).2
                have HS9 : Hid (Gro Wb (wr.drew.setCell ⟨W0.heap.size + 1, j, none⟩ (.bool false)) 4 1 (.slice (some ⟨W0.heap.size + 1, 0, none⟩) (m + 1) (m + 1)) (m + 1) (bw (prt (fun j => wm R (s.take j).reverse (k + 1)) m (j + 1)))) := hideG (by
                  have h9 := (HG6.set j (.bool false)).1
                  rw [HPs.out] at h9
                  exact h9)
                have hS8 : Kept (fun _ => False) Wb (wr.drew.setCell ⟨W0.heap.size + 1, j, none⟩ (.bool false)) := HS9.out.kept
                clear HG6 HS7 HNx HPs c0 f0
                go_wp2_with fail
                refine wp_region_held (S := fun V => Kept (fun _ => False) Wb V) (by kernel_rfl) ?_
                change wpAnyH _ _ _ _ _ _ _ _ (World.drew _)
                refine takeHA (i := 0) (d := 58) (v := .slice (some ⟨W0.heap.size + 1, 0, none⟩) (m + 1) (m + 1)) rfl rfl (by kernel_rfl) (by kernel_rfl) (by kernel_rfl) (fun _ _ _ h => h) (Or.inl ⟨by rfl, fun V hV => ?_⟩) hS6 ?_
                · (go_simp)
                simp only [Act.put, List.setIfInBounds_toArray, List.set_cons_zero, List.set_cons_succ]
                refine takeHA (i := 1) (d := 59) (v := .int .i64 (j : Int)) rfl rfl (by kernel_rfl) (by kernel_rfl) (by kernel_rfl) (fun _ _ _ h => h) (Or.inl ⟨by rfl, fun V hV => ?_⟩) hS6 ?_
                · (go_simp)
                simp only [Act.put, List.setIfInBounds_toArray, List.set_cons_zero, List.set_cons_succ]
                refine takeHA (i := 2) (d := 60) (v := .int .i64 (j : Int)) rfl rfl (by kernel_rfl) (by kernel_rfl) (by kernel_rfl) (fun _ _ _ h => h) (Or.inl ⟨by rfl, fun V hV => ?_⟩) hS6 ?_
                · (go_simp)
                simp only [Act.put, List.setIfInBounds_toArray, List.set_cons_zero, List.set_cons_succ]
                refine takeHA (i := 3) (d := 61) (v := .bool false) rfl rfl (by kernel_rfl) (by kernel_rfl) (by kernel_rfl) (fun _ _ _ h => h) (Or.inl ⟨by rfl, fun V hV => ?_⟩) hS6 ?_
                · (first | (go_simp; done) | (go_simp; exact HJ0.out))
                simp only [Act.put, List.setIfInBounds_toArray, List.set_cons_zero, List.set_cons_succ]
                refine takeHA (i := 4) (d := 62) (v := .bool false) rfl rfl (by kernel_rfl) (by kernel_rfl) (by kernel_rfl) (fun _ _ _ h => h) (Or.inl ⟨by rfl, fun V hV => ?_⟩) hS6 ?_
                · (go_simp)
                simp only [Act.put, List.setIfInBounds_toArray, List.set_cons_zero, List.set_cons_succ]
                refine takeHA (i := 5) (d := 63) (v := undef) rfl rfl (by kernel_rfl) (by kernel_rfl) (by kernel_rfl) (fun _ _ _ h => h) (Or.inr ⟨by rfl, rfl⟩) hS6 ?_
                simp only [Act.put, List.setIfInBounds_toArray, List.set_cons_zero, List.set_cons_succ]
                refine takeHA (i := 6) (d := 64) (v := undef) rfl rfl (by kernel_rfl) (by kernel_rfl) (by kernel_rfl) (fun _ _ _ h => h) (Or.inr ⟨by rfl, rfl⟩) hS6 ?_
                simp only [Act.put, List.setIfInBounds_toArray, List.set_cons_zero, List.set_cons_succ]
                refine takeHA (i := 7) (d := 65) (v := undef) rfl rfl (by kernel_rfl) (by kernel_rfl) (by kernel_rfl) (fun _ _ _ h => h) (Or.inr ⟨by rfl, rfl⟩) hS6 ?_
                simp only [Act.put, List.setIfInBounds_toArray, List.set_cons_zero, List.set_cons_succ]
                refine takeHA (i := 8) (d := 66) (v := undef) rfl rfl (by kernel_rfl) (by kernel_rfl) (by kernel_rfl) (fun _ _ _ h => h) (Or.inr ⟨by rfl, rfl⟩) hS6 ?_
                simp only [Act.put, List.setIfInBounds_toArray, List.set_cons_zero, List.set_cons_succ]
                refine takeHA (i := 9) (d := 67) (v := undef) rfl rfl (by kernel_rfl) (by kernel_rfl) (by kernel_rfl) (fun _ _ _ h => h) (Or.inr ⟨by rfl, rfl⟩) hS6 ?_
                simp only [Act.put, List.setIfInBounds_toArray, List.set_cons_zero, List.set_cons_succ]
                refine takeHA (i := 10) (d := 68) (v := .bool false) rfl rfl (by kernel_rfl) (by kernel_rfl) (by kernel_rfl) (fun _ _ _ h => h) (Or.inl ⟨by rfl, fun V hV => ?_⟩) hS6 ?_
                · (go_simp)
                simp only [Act.put, List.setIfInBounds_toArray, List.set_cons_zero, List.set_cons_succ]
                refine takeHA (i := 11) (d := 69) (v := .bool false) rfl rfl (by kernel_rfl) (by kernel_rfl) (by kernel_rfl) (fun _ _ _ h => h) (Or.inl ⟨by rfl, fun V hV => ?_⟩) hS6 ?_
                · (go_simp)
                simp only [Act.put, List.setIfInBounds_toArray, List.set_cons_zero, List.set_cons_succ]
                refine takeHA (i := 12) (d := 70) (v := undef) rfl rfl (by kernel_rfl) (by kernel_rfl) (by kernel_rfl) (fun _ _ _ h => h) (Or.inr ⟨by rfl, rfl⟩) hS6 ?_
                simp only [Act.put, List.setIfInBounds_toArray, List.set_cons_zero, List.set_cons_succ]
                refine takeHA (i := 13) (d := 71) (v := undef) rfl rfl (by kernel_rfl) (by kernel_rfl) (by kernel_rfl) (fun _ _ _ h => h) (Or.inr ⟨by rfl, rfl⟩) hS6 ?_
                simp only [Act.put, List.setIfInBounds_toArray, List.set_cons_zero, List.set_cons_succ]
                refine takeHA (i := 14) (d := 72) (v := undef) rfl rfl (by kernel_rfl) (by kernel_rfl) (by kernel_rfl) (fun _ _ _ h => h) (Or.inr ⟨by rfl, rfl⟩) hS6 ?_
                simp only [Act.put, List.setIfInBounds_toArray, List.set_cons_zero, List.set_cons_succ]
                refine takeHA (i := 15) (d := 73) (v := undef) rfl rfl (by kernel_rfl) (by kernel_rfl) (by kernel_rfl) (fun _ _ _ h => h) (Or.inr ⟨by rfl, rfl⟩) hS6 ?_
                simp only [Act.put, List.setIfInBounds_toArray, List.set_cons_zero, List.set_cons_succ]
                refine takeHA (i := 16) (d := 74) (v := undef) rfl rfl (by kernel_rfl) (by kernel_rfl) (by kernel_rfl) (fun _ _ _ h => h) (Or.inr ⟨by rfl, rfl⟩) hS6 ?_
                simp only [Act.put, List.setIfInBounds_toArray, List.set_cons_zero, List.set_cons_succ]
                refine takeHA (i := 17) (d := 75) (v := undef) rfl rfl (by kernel_rfl) (by kernel_rfl) (by kernel_rfl) (fun _ _ _ h => h) (Or.inr ⟨by rfl, rfl⟩) hS6 ?_
                simp only [Act.put, List.setIfInBounds_toArray, List.set_cons_zero, List.set_cons_succ]
                refine takeHA (i := 18) (d := 76) (v := undef) rfl rfl (by kernel_rfl) (by kernel_rfl) (by kernel_rfl) (fun _ _ _ h => h) (Or.inr ⟨by rfl, rfl⟩) hS6 ?_
                simp only [Act.put, List.setIfInBounds_toArray, List.set_cons_zero, List.set_cons_succ]
                refine takeHA (i := 19) (d := 77) (v := undef) rfl rfl (by kernel_rfl) (by kernel_rfl) (by kernel_rfl) (fun _ _ _ h => h) (Or.inr ⟨by rfl, rfl⟩) hS6 ?_
                simp only [Act.put, List.setIfInBounds_toArray, List.set_cons_zero, List.set_cons_succ]
                refine takeHA (i := 20) (d := 78) (v := undef) rfl rfl (by kernel_rfl) (by kernel_rfl) (by kernel_rfl) (fun _ _ _ h => h) (Or.inr ⟨by rfl, rfl⟩) hS6 ?_
                simp only [Act.put, List.setIfInBounds_toArray, List.set_cons_zero, List.set_cons_succ]
                refine takeHA (i := 21) (d := 79) (v := undef) rfl rfl (by kernel_rfl) (by kernel_rfl) (by kernel_rfl) (fun _ _ _ h => h) (Or.inr ⟨by rfl, rfl⟩) hS6 ?_
                simp only [Act.put, List.setIfInBounds_toArray, List.set_cons_zero, List.set_cons_succ]
                refine takeHA (i := 22) (d := 80) (v := undef) rfl rfl (by kernel_rfl) (by kernel_rfl) (by kernel_rfl) (fun _ _ _ h => h) (Or.inr ⟨by rfl, rfl⟩) hS6 ?_
                simp only [Act.put, List.setIfInBounds_toArray, List.set_cons_zero, List.set_cons_succ]
                refine takeHA (i := 23) (d := 81) (v := .bool false) rfl rfl (by kernel_rfl) (by kernel_rfl) (by kernel_rfl) (fun _ _ _ h => h) (Or.inl ⟨by rfl, fun V hV => ?_⟩) hS6 ?_
                · (go_simp)
                simp only [Act.put, List.setIfInBounds_toArray, List.set_cons_zero, List.set_cons_succ]
                refine takeHA (i := 24) (d := 82) (v := .pointer (some ⟨W0.heap.size + 1, j, none⟩)) rfl rfl (by kernel_rfl) (by kernel_rfl) (by kernel_rfl) (fun _ _ _ h => h) (Or.inl ⟨by rfl, fun V hV => ?_⟩) hS6 ?_
                · (go_simp)
                simp only [Act.put, List.setIfInBounds_toArray, List.set_cons_zero, List.set_cons_succ]
                refine wpAnyH_all (rs := [25]) (by kernel_rfl) (by simp) ?_
                intro q9 hi
                obtain rfl : q9 = 25 := by simpa using hi
                unfold wpOp
                go_simp
                first | refine Or.inl ⟨hS8, ?_⟩ | refine ⟨hS8, ?_⟩ | (change wpAnyH _ _ _ _ _ _ _ _ _) | refine Or.inl ?_
                refine wpAnyH_done (by kernel_rfl) ?_ _
                go_wp2
                go_roundw
                case rel => exact ⟨j + 1, by omega, by go_num, by rw [← HSn2.out], HS9⟩
                case measure => simp [intOf]; omega
            · obtain ⟨i, hij⟩ : ∃ i, j = i + 1 := ⟨j - 1, by omega⟩
              have his : i < s.length := by rw [← HM.out]; omega
              have hws := hWm.out i his hij
              have j0 : (0 : Int) < (j : Int) := by omega
              have HA2 : Hid (∀ V, Kept (fun _ => False) Wb V → V.cell? ⟨g, i, none⟩ = some (.bool (wm R (s.take i).reverse k))) := hideG (fun V kV => HAt.out V i (by omega) kV)
              have jm : (j : Int) - 1 = (i : Int) := by omega
              have ji : (i : Int) < (m : Int) + 1 := by omega
              have his2 : i < sS.size := by rw [hm]; omega
              have xs := HXS.out i his his2
              obtain ⟨ch, hch⟩ : ∃ ch, ch = (s[i]).toNat := ⟨_, rfl⟩
              have xs2 : sS[i].toNat = ch := by rw [xs, hch]
              have hchb : ch < 256 := by rw [hch]; exact (s[i]).toNat_lt
              rw [← hch] at hws
              have ji2 : (i : Int) < (m : Int) := by omega
              have hib : i ≤ 1048576 := by omega
              have hj0n : 0 < j := by omega
              clear hWm xs hch hj0 hij
              obtain ⟨ap, hap⟩ : ∃ b, b = wm R (s.take i).reverse k := ⟨_, rfl⟩
              rw [← hap] at HA2 hws
              have u7 : IntKind.i64.wrap (i : Int) = (i : Int) := by rw [IntKind.wrap_i64]; omega
              clear hap
              by_cases hap1 : ap = false
              · subst hap1
                have hnvE : nv = false := by rw [hws, Bool.and_false]
                cases sn
                · rw [Bool.false_or] at hx
                  subst hx
                  clear HSn
                  subst hnvE
                  clear HNv hws
                  have hS6 : Kept (fun _ => False) Wb wr.drew := HG.out.kept.trans (Kept.drewA wr 1) (fun _ f => f.elim)
                  have HG6 := HG.out.later (Kept.drewA wr 1)
                  have c6 : wr.drew.cell? ⟨W0.heap.size + 1, j, none⟩ = some (.bool false) := HG6.at (prt_next hjm)
                  have f6 : wr.drew.frozen? ⟨W0.heap.size + 1, j, none⟩ = false := (HG6.set j (.bool false)).2
                  have HS9 : Hid (Gro Wb (wr.drew.setCell ⟨W0.heap.size + 1, j, none⟩ (.bool false)) 4 1 (.slice (some ⟨W0.heap.size + 1, 0, none⟩) (m + 1) (m + 1)) (m + 1) (bw (prt (fun j => wm R (s.take j).reverse (k + 1)) m (j + 1)))) := hideG (by
                    have h9 := (HG6.set j (.bool false)).1
                    rw [HPs.out] at h9
                    exact h9)
                  have hS8 : Kept (fun _ => False) Wb (wr.drew.setCell ⟨W0.heap.size + 1, j, none⟩ (.bool false)) := HS9.out.kept
                  clear HG6 HS7 HNx HPs c0 f0 
                  go_wp2_with fail
                  refine wp_region_held (S := fun V => Kept (fun _ => False) Wb V) (by kernel_rfl) ?_
                  change wpAnyH _ _ _ _ _ _ _ _ (World.drew _)
                  refine takeHA (i := 0) (d := 58) (v := .slice (some ⟨W0.heap.size + 1, 0, none⟩) (m + 1) (m + 1)) rfl rfl (by kernel_rfl) (by kernel_rfl) (by kernel_rfl) (fun _ _ _ h => h) (Or.inl ⟨by rfl, fun V hV => ?_⟩) hS6 ?_
                  · (go_simp)
                  simp only [Act.put, List.setIfInBounds_toArray, List.set_cons_zero, List.set_cons_succ]
                  refine takeHA (i := 1) (d := 59) (v := .int .i64 (j : Int)) rfl rfl (by kernel_rfl) (by kernel_rfl) (by kernel_rfl) (fun _ _ _ h => h) (Or.inl ⟨by rfl, fun V hV => ?_⟩) hS6 ?_
                  · (go_simp)
                  simp only [Act.put, List.setIfInBounds_toArray, List.set_cons_zero, List.set_cons_succ]
                  refine takeHA (i := 2) (d := 60) (v := .int .i64 (j : Int)) rfl rfl (by kernel_rfl) (by kernel_rfl) (by kernel_rfl) (fun _ _ _ h => h) (Or.inl ⟨by rfl, fun V hV => ?_⟩) hS6 ?_
                  · (go_simp)
                  simp only [Act.put, List.setIfInBounds_toArray, List.set_cons_zero, List.set_cons_succ]
                  refine takeHA (i := 3) (d := 61) (v := .bool true) rfl rfl (by kernel_rfl) (by kernel_rfl) (by kernel_rfl) (fun _ _ _ h => h) (Or.inl ⟨by rfl, fun V hV => ?_⟩) hS6 ?_
                  · (go_simp)
                  simp only [Act.put, List.setIfInBounds_toArray, List.set_cons_zero, List.set_cons_succ]
                  refine takeHA (i := 4) (d := 62) (v := .bool true) rfl rfl (by kernel_rfl) (by kernel_rfl) (by kernel_rfl) (fun _ _ _ h => h) (Or.inl ⟨by rfl, fun V hV => ?_⟩) hS6 ?_
                  · (go_simp)
                  simp only [Act.put, List.setIfInBounds_toArray, List.set_cons_zero, List.set_cons_succ]
                  refine takeHA (i := 5) (d := 63) (v := .slice (some ⟨g, 0, none⟩) (m + 1) (m + 1)) rfl rfl (by kernel_rfl) (by kernel_rfl) (by kernel_rfl) (fun _ _ _ h => h) (Or.inl ⟨by rfl, fun V hV => ?_⟩) hS6 ?_
                  · (go_simp)
                  simp only [Act.put, List.setIfInBounds_toArray, List.set_cons_zero, List.set_cons_succ]
                  refine takeHA (i := 6) (d := 64) (v := .int .i64 (j : Int)) rfl rfl (by kernel_rfl) (by kernel_rfl) (by kernel_rfl) (fun _ _ _ h => h) (Or.inl ⟨by rfl, fun V hV => ?_⟩) hS6 ?_
                  · (go_simp)
                  simp only [Act.put, List.setIfInBounds_toArray, List.set_cons_zero, List.set_cons_succ]
                  refine takeHA (i := 7) (d := 65) (v := .int .i64 (i : Int)) rfl rfl (by kernel_rfl) (by kernel_rfl) (by kernel_rfl) (fun _ _ _ h => h) (Or.inl ⟨by rfl, fun V hV => ?_⟩) hS6 ?_
                  · (go_simp)
                  simp only [Act.put, List.setIfInBounds_toArray, List.set_cons_zero, List.set_cons_succ]
                  refine takeHA (i := 8) (d := 66) (v := .pointer (some ⟨g, i, none⟩)) rfl rfl (by kernel_rfl) (by kernel_rfl) (by kernel_rfl) (fun _ _ _ h => h) (Or.inl ⟨by rfl, fun V hV => ?_⟩) hS6 ?_
                  · (go_simp)
                  simp only [Act.put, List.setIfInBounds_toArray, List.set_cons_zero, List.set_cons_succ]
                  refine takeHA (i := 9) (d := 67) (v := .bool false) rfl rfl (by kernel_rfl) (by kernel_rfl) (by kernel_rfl) (fun _ _ _ h => h) (Or.inl ⟨by rfl, fun V hV => ?_⟩) hS6 ?_
                  · (have zz := HA2.out V hV; go_simp)
                  simp only [Act.put, List.setIfInBounds_toArray, List.set_cons_zero, List.set_cons_succ]
                  refine takeHA (i := 10) (d := 68) (v := .bool false) rfl rfl (by kernel_rfl) (by kernel_rfl) (by kernel_rfl) (fun _ _ _ h => h) (Or.inl ⟨by rfl, fun V hV => ?_⟩) hS6 ?_
                  · (go_simp)
                  simp only [Act.put, List.setIfInBounds_toArray, List.set_cons_zero, List.set_cons_succ]
                  refine takeHA (i := 11) (d := 69) (v := .bool false) rfl rfl (by kernel_rfl) (by kernel_rfl) (by kernel_rfl) (fun _ _ _ h => h) (Or.inl ⟨by rfl, fun V hV => ?_⟩) hS6 ?_
                  · (go_simp)
                  simp only [Act.put, List.setIfInBounds_toArray, List.set_cons_zero, List.set_cons_succ]
                  refine takeHA (i := 12) (d := 70) (v := undef) rfl rfl (by kernel_rfl) (by kernel_rfl) (by kernel_rfl) (fun _ _ _ h => h) (Or.inr ⟨by rfl, rfl⟩) hS6 ?_
                  simp only [Act.put, List.setIfInBounds_toArray, List.set_cons_zero, List.set_cons_succ]
                  refine takeHA (i := 13) (d := 71) (v := undef) rfl rfl (by kernel_rfl) (by kernel_rfl) (by kernel_rfl) (fun _ _ _ h => h) (Or.inr ⟨by rfl, rfl⟩) hS6 ?_
                  simp only [Act.put, List.setIfInBounds_toArray, List.set_cons_zero, List.set_cons_succ]
                  refine takeHA (i := 14) (d := 72) (v := undef) rfl rfl (by kernel_rfl) (by kernel_rfl) (by kernel_rfl) (fun _ _ _ h => h) (Or.inr ⟨by rfl, rfl⟩) hS6 ?_
                  simp only [Act.put, List.setIfInBounds_toArray, List.set_cons_zero, List.set_cons_succ]
                  refine takeHA (i := 15) (d := 73) (v := undef) rfl rfl (by kernel_rfl) (by kernel_rfl) (by kernel_rfl) (fun _ _ _ h => h) (Or.inr ⟨by rfl, rfl⟩) hS6 ?_
                  simp only [Act.put, List.setIfInBounds_toArray, List.set_cons_zero, List.set_cons_succ]
                  refine takeHA (i := 16) (d := 74) (v := undef) rfl rfl (by kernel_rfl) (by kernel_rfl) (by kernel_rfl) (fun _ _ _ h => h) (Or.inr ⟨by rfl, rfl⟩) hS6 ?_
                  simp only [Act.put, List.setIfInBounds_toArray, List.set_cons_zero, List.set_cons_succ]
                  refine takeHA (i := 17) (d := 75) (v := undef) rfl rfl (by kernel_rfl) (by kernel_rfl) (by kernel_rfl) (fun _ _ _ h => h) (Or.inr ⟨by rfl, rfl⟩) hS6 ?_
                  simp only [Act.put, List.setIfInBounds_toArray, List.set_cons_zero, List.set_cons_succ]
                  refine takeHA (i := 18) (d := 76) (v := undef) rfl rfl (by kernel_rfl) (by kernel_rfl) (by kernel_rfl) (fun _ _ _ h => h) (Or.inr ⟨by rfl, rfl⟩) hS6 ?_
                  simp only [Act.put, List.setIfInBounds_toArray, List.set_cons_zero, List.set_cons_succ]
                  refine takeHA (i := 19) (d := 77) (v := undef) rfl rfl (by kernel_rfl) (by kernel_rfl) (by kernel_rfl) (fun _ _ _ h => h) (Or.inr ⟨by rfl, rfl⟩) hS6 ?_
                  simp only [Act.put, List.setIfInBounds_toArray, List.set_cons_zero, List.set_cons_succ]
                  refine takeHA (i := 20) (d := 78) (v := undef) rfl rfl (by kernel_rfl) (by kernel_rfl) (by kernel_rfl) (fun _ _ _ h => h) (Or.inr ⟨by rfl, rfl⟩) hS6 ?_
                  simp only [Act.put, List.setIfInBounds_toArray, List.set_cons_zero, List.set_cons_succ]
                  refine takeHA (i := 21) (d := 79) (v := undef) rfl rfl (by kernel_rfl) (by kernel_rfl) (by kernel_rfl) (fun _ _ _ h => h) (Or.inr ⟨by rfl, rfl⟩) hS6 ?_
                  simp only [Act.put, List.setIfInBounds_toArray, List.set_cons_zero, List.set_cons_succ]
                  refine takeHA (i := 22) (d := 80) (v := undef) rfl rfl (by kernel_rfl) (by kernel_rfl) (by kernel_rfl) (fun _ _ _ h => h) (Or.inr ⟨by rfl, rfl⟩) hS6 ?_
                  simp only [Act.put, List.setIfInBounds_toArray, List.set_cons_zero, List.set_cons_succ]
                  refine takeHA (i := 23) (d := 81) (v := .bool false) rfl rfl (by kernel_rfl) (by kernel_rfl) (by kernel_rfl) (fun _ _ _ h => h) (Or.inl ⟨by rfl, fun V hV => ?_⟩) hS6 ?_
                  · (go_simp)
                  simp only [Act.put, List.setIfInBounds_toArray, List.set_cons_zero, List.set_cons_succ]
                  refine takeHA (i := 24) (d := 82) (v := .pointer (some ⟨W0.heap.size + 1, j, none⟩)) rfl rfl (by kernel_rfl) (by kernel_rfl) (by kernel_rfl) (fun _ _ _ h => h) (Or.inl ⟨by rfl, fun V hV => ?_⟩) hS6 ?_
                  · (go_simp)
                  simp only [Act.put, List.setIfInBounds_toArray, List.set_cons_zero, List.set_cons_succ]
                  refine wpAnyH_all (rs := [25]) (by kernel_rfl) (by simp) ?_
                  intro q9 hi
                  obtain rfl : q9 = 25 := by simpa using hi
                  unfold wpOp
                  go_simp
                  first | refine Or.inl ⟨hS8, ?_⟩ | refine ⟨hS8, ?_⟩ | (change wpAnyH _ _ _ _ _ _ _ _ _) | refine Or.inl ?_
                  refine wpAnyH_done (by kernel_rfl) ?_ _
                  go_wp2
                  go_roundw
                  case rel => exact ⟨j + 1, by omega, by go_num, by rw [← HSn2.out], HS9⟩
                  case measure => simp [intOf]; omega
                · rw [Bool.true_or] at hx
                  subst hx
                  clear HSn
                  subst hnvE
                  clear HNv hws
                  have hS6 : Kept (fun _ => False) Wb wr.drew := HG.out.kept.trans (Kept.drewA wr 1) (fun _ f => f.elim)
                  have HG6 := HG.out.later (Kept.drewA wr 1)
                  have c6 : wr.drew.cell? ⟨W0.heap.size + 1, j, none⟩ = some (.bool false) := HG6.at (prt_next hjm)
                  have f6 : wr.drew.frozen? ⟨W0.heap.size + 1, j, none⟩ = false := (HG6.set j (.bool false)).2
                  have HS9 : Hid (Gro Wb (wr.drew.setCell ⟨W0.heap.size + 1, j, none⟩ (.bool false)) 4 1 (.slice (some ⟨W0.heap.size + 1, 0, none⟩) (m + 1) (m + 1)) (m + 1) (bw (prt (fun j => wm R (s.take j).reverse (k + 1)) m (j + 1)))) := hideG (by
                    have h9 := (HG6.set j (.bool false)).1
                    rw [HPs.out] at h9
                    exact h9)
                  have hS8 : Kept (fun _ => False) Wb (wr.drew.setCell ⟨W0.heap.size + 1, j, none⟩ (.bool false)) := HS9.out.kept
                  clear HG6 HS7 HNx HPs c0 f0 
                  go_wp2_with fail
                  refine wp_region_held (S := fun V => Kept (fun _ => False) Wb V) (by kernel_rfl) ?_
                  change wpAnyH _ _ _ _ _ _ _ _ (World.drew _)
                  refine takeHA (i := 0) (d := 58) (v := .slice (some ⟨W0.heap.size + 1, 0, none⟩) (m + 1) (m + 1)) rfl rfl (by kernel_rfl) (by kernel_rfl) (by kernel_rfl) (fun _ _ _ h => h) (Or.inl ⟨by rfl, fun V hV => ?_⟩) hS6 ?_
                  · (go_simp)
                  simp only [Act.put, List.setIfInBounds_toArray, List.set_cons_zero, List.set_cons_succ]
                  refine takeHA (i := 1) (d := 59) (v := .int .i64 (j : Int)) rfl rfl (by kernel_rfl) (by kernel_rfl) (by kernel_rfl) (fun _ _ _ h => h) (Or.inl ⟨by rfl, fun V hV => ?_⟩) hS6 ?_
                  · (go_simp)
                  simp only [Act.put, List.setIfInBounds_toArray, List.set_cons_zero, List.set_cons_succ]
                  refine takeHA (i := 2) (d := 60) (v := .int .i64 (j : Int)) rfl rfl (by kernel_rfl) (by kernel_rfl) (by kernel_rfl) (fun _ _ _ h => h) (Or.inl ⟨by rfl, fun V hV => ?_⟩) hS6 ?_
                  · (go_simp)
                  simp only [Act.put, List.setIfInBounds_toArray, List.set_cons_zero, List.set_cons_succ]
                  refine takeHA (i := 3) (d := 61) (v := .bool true) rfl rfl (by kernel_rfl) (by kernel_rfl) (by kernel_rfl) (fun _ _ _ h => h) (Or.inl ⟨by rfl, fun V hV => ?_⟩) hS6 ?_
                  · (go_simp)
                  simp only [Act.put, List.setIfInBounds_toArray, List.set_cons_zero, List.set_cons_succ]
                  refine takeHA (i := 4) (d := 62) (v := .bool true) rfl rfl (by kernel_rfl) (by kernel_rfl) (by kernel_rfl) (fun _ _ _ h => h) (Or.inl ⟨by rfl, fun V hV => ?_⟩) hS6 ?_
                  · (go_simp)
                  simp only [Act.put, List.setIfInBounds_toArray, List.set_cons_zero, List.set_cons_succ]
                  refine takeHA (i := 5) (d := 63) (v := .slice (some ⟨g, 0, none⟩) (m + 1) (m + 1)) rfl rfl (by kernel_rfl) (by kernel_rfl) (by kernel_rfl) (fun _ _ _ h => h) (Or.inl ⟨by rfl, fun V hV => ?_⟩) hS6 ?_
                  · (go_simp)
                  simp only [Act.put, List.setIfInBounds_toArray, List.set_cons_zero, List.set_cons_succ]
                  refine takeHA (i := 6) (d := 64) (v := .int .i64 (j : Int)) rfl rfl (by kernel_rfl) (by kernel_rfl) (by kernel_rfl) (fun _ _ _ h => h) (Or.inl ⟨by rfl, fun V hV => ?_⟩) hS6 ?_
                  · (go_simp)
                  simp only [Act.put, List.setIfInBounds_toArray, List.set_cons_zero, List.set_cons_succ]
                  refine takeHA (i := 7) (d := 65) (v := .int .i64 (i : Int)) rfl rfl (by kernel_rfl) (by kernel_rfl) (by kernel_rfl) (fun _ _ _ h => h) (Or.inl ⟨by rfl, fun V hV => ?_⟩) hS6 ?_
                  · (go_simp)
                  simp only [Act.put, List.setIfInBounds_toArray, List.set_cons_zero, List.set_cons_succ]
                  refine takeHA (i := 8) (d := 66) (v := .pointer (some ⟨g, i, none⟩)) rfl rfl (by kernel_rfl) (by kernel_rfl) (by kernel_rfl) (fun _ _ _ h => h) (Or.inl ⟨by rfl, fun V hV => ?_⟩) hS6 ?_
                  · (go_simp)
                  simp only [Act.put, List.setIfInBounds_toArray, List.set_cons_zero, List.set_cons_succ]
                  refine takeHA (i := 9) (d := 67) (v := .bool false) rfl rfl (by kernel_rfl) (by kernel_rfl) (by kernel_rfl) (fun _ _ _ h => h) (Or.inl ⟨by rfl, fun V hV => ?_⟩) hS6 ?_
                  · (have zz := HA2.out V hV; go_simp)
                  simp only [Act.put, List.setIfInBounds_toArray, List.set_cons_zero, List.set_cons_succ]
                  refine takeHA (i := 10) (d := 68) (v := .bool false) rfl rfl (by kernel_rfl) (by kernel_rfl) (by kernel_rfl) (fun _ _ _ h => h) (Or.inl ⟨by rfl, fun V hV => ?_⟩) hS6 ?_
                  · (go_simp)
                  simp only [Act.put, List.setIfInBounds_toArray, List.set_cons_zero, List.set_cons_succ]
                  refine takeHA (i := 11) (d := 69) (v := .bool false) rfl rfl (by kernel_rfl) (by kernel_rfl) (by kernel_rfl) (fun _ _ _ h => h) (Or.inl ⟨by rfl, fun V hV => ?_⟩) hS6 ?_
                  · (go_simp)
                  simp only [Act.put, List.setIfInBounds_toArray, List.set_cons_zero, List.set_cons_succ]
                  refine takeHA (i := 12) (d := 70) (v := undef) rfl rfl (by kernel_rfl) (by kernel_rfl) (by kernel_rfl) (fun _ _ _ h => h) (Or.inr ⟨by rfl, rfl⟩) hS6 ?_
                  simp only [Act.put, List.setIfInBounds_toArray, List.set_cons_zero, List.set_cons_succ]
                  refine takeHA (i := 13) (d := 71) (v := undef) rfl rfl (by kernel_rfl) (by kernel_rfl) (by kernel_rfl) (fun _ _ _ h => h) (Or.inr ⟨by rfl, rfl⟩) hS6 ?_
                  simp only [Act.put, List.setIfInBounds_toArray, List.set_cons_zero, List.set_cons_succ]
                  refine takeHA (i := 14) (d := 72) (v := undef) rfl rfl (by kernel_rfl) (by kernel_rfl) (by kernel_rfl) (fun _ _ _ h => h) (Or.inr ⟨by rfl, rfl⟩) hS6 ?_
                  simp only [Act.put, List.setIfInBounds_toArray, List.set_cons_zero, List.set_cons_succ]
                  refine takeHA (i := 15) (d := 73) (v := undef) rfl rfl (by kernel_rfl) (by kernel_rfl) (by kernel_rfl) (fun _ _ _ h => h) (Or.inr ⟨by rfl, rfl⟩) hS6 ?_
                  simp only [Act.put, List.setIfInBounds_toArray, List.set_cons_zero, List.set_cons_succ]
                  refine takeHA (i := 16) (d := 74) (v := undef) rfl rfl (by kernel_rfl) (by kernel_rfl) (by kernel_rfl) (fun _ _ _ h => h) (Or.inr ⟨by rfl, rfl⟩) hS6 ?_
                  simp only [Act.put, List.setIfInBounds_toArray, List.set_cons_zero, List.set_cons_succ]
                  refine takeHA (i := 17) (d := 75) (v := undef) rfl rfl (by kernel_rfl) (by kernel_rfl) (by kernel_rfl) (fun _ _ _ h => h) (Or.inr ⟨by rfl, rfl⟩) hS6 ?_
                  simp only [Act.put, List.setIfInBounds_toArray, List.set_cons_zero, List.set_cons_succ]
                  refine takeHA (i := 18) (d := 76) (v := undef) rfl rfl (by kernel_rfl) (by kernel_rfl) (by kernel_rfl) (fun _ _ _ h => h) (Or.inr ⟨by rfl, rfl⟩) hS6 ?_
                  simp only [Act.put, List.setIfInBounds_toArray, List.set_cons_zero, List.set_cons_succ]
                  refine takeHA (i := 19) (d := 77) (v := undef) rfl rfl (by kernel_rfl) (by kernel_rfl) (by kernel_rfl) (fun _ _ _ h => h) (Or.inr ⟨by rfl, rfl⟩) hS6 ?_
                  simp only [Act.put, List.setIfInBounds_toArray, List.set_cons_zero, List.set_cons_succ]
                  refine takeHA (i := 20) (d := 78) (v := undef) rfl rfl (by kernel_rfl) (by kernel_rfl) (by kernel_rfl) (fun _ _ _ h => h) (Or.inr ⟨by rfl, rfl⟩) hS6 ?_
                  simp only [Act.put, List.setIfInBounds_toArray, List.set_cons_zero, List.set_cons_succ]
                  refine takeHA (i := 21) (d := 79) (v := undef) rfl rfl (by kernel_rfl) (by kernel_rfl) (by kernel_rfl) (fun _ _ _ h => h) (Or.inr ⟨by rfl, rfl⟩) hS6 ?_
                  simp only [Act.put, List.setIfInBounds_toArray, List.set_cons_zero, List.set_cons_succ]
                  refine takeHA (i := 22) (d := 80) (v := undef) rfl rfl (by kernel_rfl) (by kernel_rfl) (by kernel_rfl) (fun _ _ _ h => h) (Or.inr ⟨by rfl, rfl⟩) hS6 ?_
                  simp only [Act.put, List.setIfInBounds_toArray, List.set_cons_zero, List.set_cons_succ]
                  refine takeHA (i := 23) (d := 81) (v := .bool false) rfl rfl (by kernel_rfl) (by kernel_rfl) (by kernel_rfl) (fun _ _ _ h => h) (Or.inl ⟨by rfl, fun V hV => ?_⟩) hS6 ?_
                  · (go_simp)
                  simp only [Act.put, List.setIfInBounds_toArray, List.set_cons_zero, List.set_cons_succ]
                  refine takeHA (i := 24) (d := 82) (v := .pointer (some ⟨W0.heap.size + 1, j, none⟩)) rfl rfl (by kernel_rfl) (by kernel_rfl) (by kernel_rfl) (fun _ _ _ h => h) (Or.inl ⟨by rfl, fun V hV => ?_⟩) hS6 ?_
                  · (go_simp)
                  simp only [Act.put, List.setIfInBounds_toArray, List.set_cons_zero, List.set_cons_succ]
                  refine wpAnyH_all (rs := [25]) (by kernel_rfl) (by simp) ?_
                  intro q9 hi
                  obtain rfl : q9 = 25 := by simpa using hi
                  unfold wpOp
                  go_simp
                  first | refine Or.inl ⟨hS8, ?_⟩ | refine ⟨hS8, ?_⟩ | (change wpAnyH _ _ _ _ _ _ _ _ _) | refine Or.inl ?_
                  refine wpAnyH_done (by kernel_rfl) ?_ _
                  go_wp2
                  go_roundw
                  case rel => exact ⟨j + 1, by omega, by go_num, by rw [← HSn2.out], HS9⟩
                  case measure => simp [intOf]; omega
              have hap2 : ap = true := by simpa using hap1
              subst hap2
              rw [Bool.and_true] at hws
              by_cases hgp : e = 256
              · have hb2' : b2 = true := by rw [HB2.out]; exact decide_eq_true hgp
                subst hb2'
                have hnvE : nv = true := by rw [hws]; exact decide_eq_true (.inl hgp)
                cases sn
                · rw [Bool.false_or] at hx
                  subst hx
                  clear HSn
                  subst hnvE
                  clear HNv hws
                  have hS6 : Kept (fun _ => False) Wb wr.drew := HG.out.kept.trans (Kept.drewA wr 1) (fun _ f => f.elim)
                  have HG6 := HG.out.later (Kept.drewA wr 1)
                  have c6 : wr.drew.cell? ⟨W0.heap.size + 1, j, none⟩ = some (.bool false) := HG6.at (prt_next hjm)
                  have f6 : wr.drew.frozen? ⟨W0.heap.size + 1, j, none⟩ = false := (HG6.set j (.bool true)).2
                  have HS9 : Hid (Gro Wb (wr.drew.setCell ⟨W0.heap.size + 1, j, none⟩ (.bool true)) 4 1 (.slice (some ⟨W0.heap.size + 1, 0, none⟩) (m + 1) (m + 1)) (m + 1) (bw (prt (fun j => wm R (s.take j).reverse (k + 1)) m (j + 1)))) := hideG (by
                    have h9 := (HG6.set j (.bool true)).1
                    rw [HPs.out] at h9
                    exact h9)
                  have hS8 : Kept (fun _ => False) Wb (wr.drew.setCell ⟨W0.heap.size + 1, j, none⟩ (.bool true)) := HS9.out.kept
                  clear HG6 HS7 HNx HPs c0 f0 
                  go_wp2_with fail
                  refine wp_region_held (S := fun V => Kept (fun _ => False) Wb V) (by kernel_rfl) ?_
                  change wpAnyH _ _ _ _ _ _ _ _ (World.drew _)
                  refine takeHA (i := 0) (d := 58) (v := .slice (some ⟨W0.heap.size + 1, 0, none⟩) (m + 1) (m + 1)) rfl rfl (by kernel_rfl) (by kernel_rfl) (by kernel_rfl) (fun _ _ _ h => h) (Or.inl ⟨by rfl, fun V hV => ?_⟩) hS6 ?_
                  · (go_simp)
                  simp only [Act.put, List.setIfInBounds_toArray, List.set_cons_zero, List.set_cons_succ]
                  refine takeHA (i := 1) (d := 59) (v := .int .i64 (j : Int)) rfl rfl (by kernel_rfl) (by kernel_rfl) (by kernel_rfl) (fun _ _ _ h => h) (Or.inl ⟨by rfl, fun V hV => ?_⟩) hS6 ?_
                  · (go_simp)
                  simp only [Act.put, List.setIfInBounds_toArray, List.set_cons_zero, List.set_cons_succ]
                  refine takeHA (i := 2) (d := 60) (v := .int .i64 (j : Int)) rfl rfl (by kernel_rfl) (by kernel_rfl) (by kernel_rfl) (fun _ _ _ h => h) (Or.inl ⟨by rfl, fun V hV => ?_⟩) hS6 ?_
                  · (go_simp)
                  simp only [Act.put, List.setIfInBounds_toArray, List.set_cons_zero, List.set_cons_succ]
                  refine takeHA (i := 3) (d := 61) (v := .bool true) rfl rfl (by kernel_rfl) (by kernel_rfl) (by kernel_rfl) (fun _ _ _ h => h) (Or.inl ⟨by rfl, fun V hV => ?_⟩) hS6 ?_
                  · (go_simp)
                  simp only [Act.put, List.setIfInBounds_toArray, List.set_cons_zero, List.set_cons_succ]
                  refine takeHA (i := 4) (d := 62) (v := .bool true) rfl rfl (by kernel_rfl) (by kernel_rfl) (by kernel_rfl) (fun _ _ _ h => h) (Or.inl ⟨by rfl, fun V hV => ?_⟩) hS6 ?_
                  · (go_simp)
                  simp only [Act.put, List.setIfInBounds_toArray, List.set_cons_zero, List.set_cons_succ]
                  refine takeHA (i := 5) (d := 63) (v := .slice (some ⟨g, 0, none⟩) (m + 1) (m + 1)) rfl rfl (by kernel_rfl) (by kernel_rfl) (by kernel_rfl) (fun _ _ _ h => h) (Or.inl ⟨by rfl, fun V hV => ?_⟩) hS6 ?_
                  · (go_simp)
                  simp only [Act.put, List.setIfInBounds_toArray, List.set_cons_zero, List.set_cons_succ]
                  refine takeHA (i := 6) (d := 64) (v := .int .i64 (j : Int)) rfl rfl (by kernel_rfl) (by kernel_rfl) (by kernel_rfl) (fun _ _ _ h => h) (Or.inl ⟨by rfl, fun V hV => ?_⟩) hS6 ?_
                  · (go_simp)
                  simp only [Act.put, List.setIfInBounds_toArray, List.set_cons_zero, List.set_cons_succ]
                  refine takeHA (i := 7) (d := 65) (v := .int .i64 (i : Int)) rfl rfl (by kernel_rfl) (by kernel_rfl) (by kernel_rfl) (fun _ _ _ h => h) (Or.inl ⟨by rfl, fun V hV => ?_⟩) hS6 ?_
                  · (go_simp)
                  simp only [Act.put, List.setIfInBounds_toArray, List.set_cons_zero, List.set_cons_succ]
                  refine takeHA (i := 8) (d := 66) (v := .pointer (some ⟨g, i, none⟩)) rfl rfl (by kernel_rfl) (by kernel_rfl) (by kernel_rfl) (fun _ _ _ h => h) (Or.inl ⟨by rfl, fun V hV => ?_⟩) hS6 ?_
                  · (go_simp)
                  simp only [Act.put, List.setIfInBounds_toArray, List.set_cons_zero, List.set_cons_succ]
                  refine takeHA (i := 9) (d := 67) (v := .bool true) rfl rfl (by kernel_rfl) (by kernel_rfl) (by kernel_rfl) (fun _ _ _ h => h) (Or.inl ⟨by rfl, fun V hV => ?_⟩) hS6 ?_
                  · (have zz := HA2.out V hV; go_simp)
                  simp only [Act.put, List.setIfInBounds_toArray, List.set_cons_zero, List.set_cons_succ]
                  refine takeHA (i := 10) (d := 68) (v := .bool true) rfl rfl (by kernel_rfl) (by kernel_rfl) (by kernel_rfl) (fun _ _ _ h => h) (Or.inl ⟨by rfl, fun V hV => ?_⟩) hS6 ?_
                  · (go_simp)
                  simp only [Act.put, List.setIfInBounds_toArray, List.set_cons_zero, List.set_cons_succ]
                  refine takeHA (i := 11) (d := 69) (v := .bool true) rfl rfl (by kernel_rfl) (by kernel_rfl) (by kernel_rfl) (fun _ _ _ h => h) (Or.inl ⟨by rfl, fun V hV => ?_⟩) hS6 ?_
                  · (go_simp)
                  simp only [Act.put, List.setIfInBounds_toArray, List.set_cons_zero, List.set_cons_succ]
                  refine takeHA (i := 12) (d := 70) (v := .pointer (some ⟨W0.heap.size, 1, none⟩)) rfl rfl (by kernel_rfl) (by kernel_rfl) (by kernel_rfl) (fun _ _ _ h => h) (Or.inl ⟨by rfl, fun V hV => ?_⟩) hS6 ?_
                  · (go_simp)
                  simp only [Act.put, List.setIfInBounds_toArray, List.set_cons_zero, List.set_cons_succ]
                  refine takeHA (i := 13) (d := 71) (v := .bool true) rfl rfl (by kernel_rfl) (by kernel_rfl) (by kernel_rfl) (fun _ _ _ h => h) (Or.inl ⟨by rfl, fun V hV => ?_⟩) hS6 ?_
                  · (obtain ⟨q0, q1, q2⟩ := HBx.out V hV; go_simp)
                  simp only [Act.put, List.setIfInBounds_toArray, List.set_cons_zero, List.set_cons_succ]
                  refine takeHA (i := 14) (d := 72) (v := .bool true) rfl rfl (by kernel_rfl) (by kernel_rfl) (by kernel_rfl) (fun _ _ _ h => h) (Or.inl ⟨by rfl, fun V hV => ?_⟩) hS6 ?_
                  · (go_simp)
                  simp only [Act.put, List.setIfInBounds_toArray, List.set_cons_zero, List.set_cons_succ]
                  refine takeHA (i := 15) (d := 73) (v := undef) rfl rfl (by kernel_rfl) (by kernel_rfl) (by kernel_rfl) (fun _ _ _ h => h) (Or.inr ⟨by rfl, rfl⟩) hS6 ?_
                  simp only [Act.put, List.setIfInBounds_toArray, List.set_cons_zero, List.set_cons_succ]
                  refine takeHA (i := 16) (d := 74) (v := undef) rfl rfl (by kernel_rfl) (by kernel_rfl) (by kernel_rfl) (fun _ _ _ h => h) (Or.inr ⟨by rfl, rfl⟩) hS6 ?_
                  simp only [Act.put, List.setIfInBounds_toArray, List.set_cons_zero, List.set_cons_succ]
                  refine takeHA (i := 17) (d := 75) (v := undef) rfl rfl (by kernel_rfl) (by kernel_rfl) (by kernel_rfl) (fun _ _ _ h => h) (Or.inr ⟨by rfl, rfl⟩) hS6 ?_
                  simp only [Act.put, List.setIfInBounds_toArray, List.set_cons_zero, List.set_cons_succ]
                  refine takeHA (i := 18) (d := 76) (v := undef) rfl rfl (by kernel_rfl) (by kernel_rfl) (by kernel_rfl) (fun _ _ _ h => h) (Or.inr ⟨by rfl, rfl⟩) hS6 ?_
                  simp only [Act.put, List.setIfInBounds_toArray, List.set_cons_zero, List.set_cons_succ]
                  refine takeHA (i := 19) (d := 77) (v := undef) rfl rfl (by kernel_rfl) (by kernel_rfl) (by kernel_rfl) (fun _ _ _ h => h) (Or.inr ⟨by rfl, rfl⟩) hS6 ?_
                  simp only [Act.put, List.setIfInBounds_toArray, List.set_cons_zero, List.set_cons_succ]
                  refine takeHA (i := 20) (d := 78) (v := undef) rfl rfl (by kernel_rfl) (by kernel_rfl) (by kernel_rfl) (fun _ _ _ h => h) (Or.inr ⟨by rfl, rfl⟩) hS6 ?_
                  simp only [Act.put, List.setIfInBounds_toArray, List.set_cons_zero, List.set_cons_succ]
                  refine takeHA (i := 21) (d := 79) (v := undef) rfl rfl (by kernel_rfl) (by kernel_rfl) (by kernel_rfl) (fun _ _ _ h => h) (Or.inr ⟨by rfl, rfl⟩) hS6 ?_
                  simp only [Act.put, List.setIfInBounds_toArray, List.set_cons_zero, List.set_cons_succ]
                  refine takeHA (i := 22) (d := 80) (v := .bool true) rfl rfl (by kernel_rfl) (by kernel_rfl) (by kernel_rfl) (fun _ _ _ h => h) (Or.inl ⟨by rfl, fun V hV => ?_⟩) hS6 ?_
                  · (go_simp)
                  simp only [Act.put, List.setIfInBounds_toArray, List.set_cons_zero, List.set_cons_succ]
                  refine takeHA (i := 23) (d := 81) (v := .bool true) rfl rfl (by kernel_rfl) (by kernel_rfl) (by kernel_rfl) (fun _ _ _ h => h) (Or.inl ⟨by rfl, fun V hV => ?_⟩) hS6 ?_
                  · (go_simp)
                  simp only [Act.put, List.setIfInBounds_toArray, List.set_cons_zero, List.set_cons_succ]
                  refine takeHA (i := 24) (d := 82) (v := .pointer (some ⟨W0.heap.size + 1, j, none⟩)) rfl rfl (by kernel_rfl) (by kernel_rfl) (by kernel_rfl) (fun _ _ _ h => h) (Or.inl ⟨by rfl, fun V hV => ?_⟩) hS6 ?_
                  · (go_simp)
                  simp only [Act.put, List.setIfInBounds_toArray, List.set_cons_zero, List.set_cons_succ]
                  refine wpAnyH_all (rs := [25]) (by kernel_rfl) (by simp) ?_
                  intro q9 hi
                  obtain rfl : q9 = 25 := by simpa using hi
                  unfold wpOp
                  go_simp
                  first | refine Or.inl ⟨hS8, ?_⟩ | refine ⟨hS8, ?_⟩ | (change wpAnyH _ _ _ _ _ _ _ _ _) | refine Or.inl ?_
                  refine wpAnyH_done (by kernel_rfl) ?_ _
                  go_wp2
                  go_roundw
                  case rel => exact ⟨j + 1, by omega, by go_num, by rw [← HSn2.out], HS9⟩
                  case measure => simp [intOf]; omega
                · rw [Bool.true_or] at hx
                  subst hx
                  clear HSn
                  subst hnvE
                  clear HNv hws
                  have hS6 : Kept (fun _ => False) Wb wr.drew := HG.out.kept.trans (Kept.drewA wr 1) (fun _ f => f.elim)
                  have HG6 := HG.out.later (Kept.drewA wr 1)
                  have c6 : wr.drew.cell? ⟨W0.heap.size + 1, j, none⟩ = some (.bool false) := HG6.at (prt_next hjm)
                  have f6 : wr.drew.frozen? ⟨W0.heap.size + 1, j, none⟩ = false := (HG6.set j (.bool true)).2
                  have HS9 : Hid (Gro Wb (wr.drew.setCell ⟨W0.heap.size + 1, j, none⟩ (.bool true)) 4 1 (.slice (some ⟨W0.heap.size + 1, 0, none⟩) (m + 1) (m + 1)) (m + 1) (bw (prt (fun j => wm R (s.take j).reverse (k + 1)) m (j + 1)))) := hideG (by
                    have h9 := (HG6.set j (.bool true)).1
                    rw [HPs.out] at h9
                    exact h9)
                  have hS8 : Kept (fun _ => False) Wb (wr.drew.setCell ⟨W0.heap.size + 1, j, none⟩ (.bool true)) := HS9.out.kept
                  clear HG6 HS7 HNx HPs c0 f0 
                  go_wp2_with fail
                  refine wp_region_held (S := fun V => Kept (fun _ => False) Wb V) (by kernel_rfl) ?_
                  change wpAnyH _ _ _ _ _ _ _ _ (World.drew _)
                  refine takeHA (i := 0) (d := 58) (v := .slice (some ⟨W0.heap.size + 1, 0, none⟩) (m + 1) (m + 1)) rfl rfl (by kernel_rfl) (by kernel_rfl) (by kernel_rfl) (fun _ _ _ h => h) (Or.inl ⟨by rfl, fun V hV => ?_⟩) hS6 ?_
                  · (go_simp)
                  simp only [Act.put, List.setIfInBounds_toArray, List.set_cons_zero, List.set_cons_succ]
                  refine takeHA (i := 1) (d := 59) (v := .int .i64 (j : Int)) rfl rfl (by kernel_rfl) (by kernel_rfl) (by kernel_rfl) (fun _ _ _ h => h) (Or.inl ⟨by rfl, fun V hV => ?_⟩) hS6 ?_
                  · (go_simp)
                  simp only [Act.put, List.setIfInBounds_toArray, List.set_cons_zero, List.set_cons_succ]
                  refine takeHA (i := 2) (d := 60) (v := .int .i64 (j : Int)) rfl rfl (by kernel_rfl) (by kernel_rfl) (by kernel_rfl) (fun _ _ _ h => h) (Or.inl ⟨by rfl, fun V hV => ?_⟩) hS6 ?_
                  · (go_simp)
                  simp only [Act.put, List.setIfInBounds_toArray, List.set_cons_zero, List.set_cons_succ]
                  refine takeHA (i := 3) (d := 61) (v := .bool true) rfl rfl (by kernel_rfl) (by kernel_rfl) (by kernel_rfl) (fun _ _ _ h => h) (Or.inl ⟨by rfl, fun V hV => ?_⟩) hS6 ?_
                  · (go_simp)
                  simp only [Act.put, List.setIfInBounds_toArray, List.set_cons_zero, List.set_cons_succ]
                  refine takeHA (i := 4) (d := 62) (v := .bool true) rfl rfl (by kernel_rfl) (by kernel_rfl) (by kernel_rfl) (fun _ _ _ h => h) (Or.inl ⟨by rfl, fun V hV => ?_⟩) hS6 ?_
                  · (go_simp)
                  simp only [Act.put, List.setIfInBounds_toArray, List.set_cons_zero, List.set_cons_succ]
                  refine takeHA (i := 5) (d := 63) (v := .slice (some ⟨g, 0, none⟩) (m + 1) (m + 1)) rfl rfl (by kernel_rfl) (by kernel_rfl) (by kernel_rfl) (fun _ _ _ h => h) (Or.inl ⟨by rfl, fun V hV => ?_⟩) hS6 ?_
                  · (go_simp)
                  simp only [Act.put, List.setIfInBounds_toArray, List.set_cons_zero, List.set_cons_succ]
                  refine takeHA (i := 6) (d := 64) (v := .int .i64 (j : Int)) rfl rfl (by kernel_rfl) (by kernel_rfl) (by kernel_rfl) (fun _ _ _ h => h) (Or.inl ⟨by rfl, fun V hV => ?_⟩) hS6 ?_
                  · (go_simp)
                  simp only [Act.put, List.setIfInBounds_toArray, List.set_cons_zero, List.set_cons_succ]
                  refine takeHA (i := 7) (d := 65) (v := .int .i64 (i : Int)) rfl rfl (by kernel_rfl) (by kernel_rfl) (by kernel_rfl) (fun _ _ _ h => h) (Or.inl ⟨by rfl, fun V hV => ?_⟩) hS6 ?_
                  · (go_simp)
                  simp only [Act.put, List.setIfInBounds_toArray, List.set_cons_zero, List.set_cons_succ]
                  refine takeHA (i := 8) (d := 66) (v := .pointer (some ⟨g, i, none⟩)) rfl rfl (by kernel_rfl) (by kernel_rfl) (by kernel_rfl) (fun _ _ _ h => h) (Or.inl ⟨by rfl, fun V hV => ?_⟩) hS6 ?_
                  · (go_simp)
                  simp only [Act.put, List.setIfInBounds_toArray, List.set_cons_zero, List.set_cons_succ]
                  refine takeHA (i := 9) (d := 67) (v := .bool true) rfl rfl (by kernel_rfl) (by kernel_rfl) (by kernel_rfl) (fun _ _ _ h => h) (Or.inl ⟨by rfl, fun V hV => ?_⟩) hS6 ?_
                  · (have zz := HA2.out V hV; go_simp)
                  simp only [Act.put, List.setIfInBounds_toArray, List.set_cons_zero, List.set_cons_succ]
                  refine takeHA (i := 10) (d := 68) (v := .bool true) rfl rfl (by kernel_rfl) (by kernel_rfl) (by kernel_rfl) (fun _ _ _ h => h) (Or.inl ⟨by rfl, fun V hV => ?_⟩) hS6 ?_
                  · (go_simp)
                  simp only [Act.put, List.setIfInBounds_toArray, List.set_cons_zero, List.set_cons_succ]
                  refine takeHA (i := 11) (d := 69) (v := .bool true) rfl rfl (by kernel_rfl) (by kernel_rfl) (by kernel_rfl) (fun _ _ _ h => h) (Or.inl ⟨by rfl, fun V hV => ?_⟩) hS6 ?_
                  · (go_simp)
                  simp only [Act.put, List.setIfInBounds_toArray, List.set_cons_zero, List.set_cons_succ]
                  refine takeHA (i := 12) (d := 70) (v := .pointer (some ⟨W0.heap.size, 1, none⟩)) rfl rfl (by kernel_rfl) (by kernel_rfl) (by kernel_rfl) (fun _ _ _ h => h) (Or.inl ⟨by rfl, fun V hV => ?_⟩) hS6 ?_
                  · (go_simp)
                  simp only [Act.put, List.setIfInBounds_toArray, List.set_cons_zero, List.set_cons_succ]
                  refine takeHA (i := 13) (d := 71) (v := .bool true) rfl rfl (by kernel_rfl) (by kernel_rfl) (by kernel_rfl) (fun _ _ _ h => h) (Or.inl ⟨by rfl, fun V hV => ?_⟩) hS6 ?_
                  · (obtain ⟨q0, q1, q2⟩ := HBx.out V hV; go_simp)
                  simp only [Act.put, List.setIfInBounds_toArray, List.set_cons_zero, List.set_cons_succ]
                  refine takeHA (i := 14) (d := 72) (v := .bool true) rfl rfl (by kernel_rfl) (by kernel_rfl) (by kernel_rfl) (fun _ _ _ h => h) (Or.inl ⟨by rfl, fun V hV => ?_⟩) hS6 ?_
                  · (go_simp)
                  simp only [Act.put, List.setIfInBounds_toArray, List.set_cons_zero, List.set_cons_succ]
                  refine takeHA (i := 15) (d := 73) (v := undef) rfl rfl (by kernel_rfl) (by kernel_rfl) (by kernel_rfl) (fun _ _ _ h => h) (Or.inr ⟨by rfl, rfl⟩) hS6 ?_
                  simp only [Act.put, List.setIfInBounds_toArray, List.set_cons_zero, List.set_cons_succ]
                  refine takeHA (i := 16) (d := 74) (v := undef) rfl rfl (by kernel_rfl) (by kernel_rfl) (by kernel_rfl) (fun _ _ _ h => h) (Or.inr ⟨by rfl, rfl⟩) hS6 ?_
                  simp only [Act.put, List.setIfInBounds_toArray, List.set_cons_zero, List.set_cons_succ]
                  refine takeHA (i := 17) (d := 75) (v := undef) rfl rfl (by kernel_rfl) (by kernel_rfl) (by kernel_rfl) (fun _ _ _ h => h) (Or.inr ⟨by rfl, rfl⟩) hS6 ?_
                  simp only [Act.put, List.setIfInBounds_toArray, List.set_cons_zero, List.set_cons_succ]
                  refine takeHA (i := 18) (d := 76) (v := undef) rfl rfl (by kernel_rfl) (by kernel_rfl) (by kernel_rfl) (fun _ _ _ h => h) (Or.inr ⟨by rfl, rfl⟩) hS6 ?_
                  simp only [Act.put, List.setIfInBounds_toArray, List.set_cons_zero, List.set_cons_succ]
                  refine takeHA (i := 19) (d := 77) (v := undef) rfl rfl (by kernel_rfl) (by kernel_rfl) (by kernel_rfl) (fun _ _ _ h => h) (Or.inr ⟨by rfl, rfl⟩) hS6 ?_
                  simp only [Act.put, List.setIfInBounds_toArray, List.set_cons_zero, List.set_cons_succ]
                  refine takeHA (i := 20) (d := 78) (v := undef) rfl rfl (by kernel_rfl) (by kernel_rfl) (by kernel_rfl) (fun _ _ _ h => h) (Or.inr ⟨by rfl, rfl⟩) hS6 ?_
                  simp only [Act.put, List.setIfInBounds_toArray, List.set_cons_zero, List.set_cons_succ]
                  refine takeHA (i := 21) (d := 79) (v := undef) rfl rfl (by kernel_rfl) (by kernel_rfl) (by kernel_rfl) (fun _ _ _ h => h) (Or.inr ⟨by rfl, rfl⟩) hS6 ?_
                  simp only [Act.put, List.setIfInBounds_toArray, List.set_cons_zero, List.set_cons_succ]
                  refine takeHA (i := 22) (d := 80) (v := .bool true) rfl rfl (by kernel_rfl) (by kernel_rfl) (by kernel_rfl) (fun _ _ _ h => h) (Or.inl ⟨by rfl, fun V hV => ?_⟩) hS6 ?_
                  · (go_simp)
                  simp only [Act.put, List.setIfInBounds_toArray, List.set_cons_zero, List.set_cons_succ]
                  refine takeHA (i := 23) (d := 81) (v := .bool true) rfl rfl (by kernel_rfl) (by kernel_rfl) (by kernel_rfl) (fun _ _ _ h => h) (Or.inl ⟨by rfl, fun V hV => ?_⟩) hS6 ?_
                  · (go_simp)
                  simp only [Act.put, List.setIfInBounds_toArray, List.set_cons_zero, List.set_cons_succ]
                  refine takeHA (i := 24) (d := 82) (v := .pointer (some ⟨W0.heap.size + 1, j, none⟩)) rfl rfl (by kernel_rfl) (by kernel_rfl) (by kernel_rfl) (fun _ _ _ h => h) (Or.inl ⟨by rfl, fun V hV => ?_⟩) hS6 ?_
                  · (go_simp)
                  simp only [Act.put, List.setIfInBounds_toArray, List.set_cons_zero, List.set_cons_succ]
                  refine wpAnyH_all (rs := [25]) (by kernel_rfl) (by simp) ?_
                  intro q9 hi
                  obtain rfl : q9 = 25 := by simpa using hi
                  unfold wpOp
                  go_simp
                  first | refine Or.inl ⟨hS8, ?_⟩ | refine ⟨hS8, ?_⟩ | (change wpAnyH _ _ _ _ _ _ _ _ _) | refine Or.inl ?_
                  refine wpAnyH_done (by kernel_rfl) ?_ _
                  go_wp2
                  go_roundw
                  case rel => exact ⟨j + 1, by omega, by go_num, by rw [← HSn2.out], HS9⟩
                  case measure => simp [intOf]; omega
              · have hb2' : b2 = false := by rw [HB2.out]; exact decide_eq_false hgp
                subst hb2'
                have hye : y = e := by rw [HY.out]; exact if_neg (by intro h; rcases h with h | h; exact hst h; exact hgp h)
                have hnvE : nv = ((ch : Int) == y) := by rw [hws, hye]; exact let_eq hgp
                cases sn
                · rw [Bool.false_or] at hx
                  subst hx
                  clear HSn
                  subst hnvE
                  clear HNv hws hye
                  have hS6 : Kept (fun _ => False) Wb wr.drew := HG.out.kept.trans (Kept.drewA wr 1) (fun _ f => f.elim)
                  have HG6 := HG.out.later (Kept.drewA wr 1)
                  have c6 : wr.drew.cell? ⟨W0.heap.size + 1, j, none⟩ = some (.bool false) := HG6.at (prt_next hjm)
                  have f6 : wr.drew.frozen? ⟨W0.heap.size + 1, j, none⟩ = false := (HG6.set j (.bool ((ch : Int) == y))).2
                  have HS9 : Hid (Gro Wb (wr.drew.setCell ⟨W0.heap.size + 1, j, none⟩ (.bool ((ch : Int) == y))) 4 1 (.slice (some ⟨W0.heap.size + 1, 0, none⟩) (m + 1) (m + 1)) (m + 1) (bw (prt (fun j => wm R (s.take j).reverse (k + 1)) m (j + 1)))) := hideG (by
                    have h9 := (HG6.set j (.bool ((ch : Int) == y))).1
                    rw [HPs.out] at h9
                    exact h9)
                  have hS8 : Kept (fun _ => False) Wb (wr.drew.setCell ⟨W0.heap.size + 1, j, none⟩ (.bool ((ch : Int) == y))) := HS9.out.kept
                  clear HG6 HS7 HNx HPs c0 f0 
                  go_wp2_with fail
                  refine wp_region_held (S := fun V => Kept (fun _ => False) Wb V) (by kernel_rfl) ?_
                  change wpAnyH _ _ _ _ _ _ _ _ (World.drew _)
                  refine takeHA (i := 0) (d := 58) (v := .slice (some ⟨W0.heap.size + 1, 0, none⟩) (m + 1) (m + 1)) rfl rfl (by kernel_rfl) (by kernel_rfl) (by kernel_rfl) (fun _ _ _ h => h) (Or.inl ⟨by rfl, fun V hV => ?_⟩) hS6 ?_
                  · (go_simp)
                  simp only [Act.put, List.setIfInBounds_toArray, List.set_cons_zero, List.set_cons_succ]
                  refine takeHA (i := 1) (d := 59) (v := .int .i64 (j : Int)) rfl rfl (by kernel_rfl) (by kernel_rfl) (by kernel_rfl) (fun _ _ _ h => h) (Or.inl ⟨by rfl, fun V hV => ?_⟩) hS6 ?_
                  · (go_simp)
                  simp only [Act.put, List.setIfInBounds_toArray, List.set_cons_zero, List.set_cons_succ]
                  refine takeHA (i := 2) (d := 60) (v := .int .i64 (j : Int)) rfl rfl (by kernel_rfl) (by kernel_rfl) (by kernel_rfl) (fun _ _ _ h => h) (Or.inl ⟨by rfl, fun V hV => ?_⟩) hS6 ?_
                  · (go_simp)
                  simp only [Act.put, List.setIfInBounds_toArray, List.set_cons_zero, List.set_cons_succ]
                  refine takeHA (i := 3) (d := 61) (v := .bool true) rfl rfl (by kernel_rfl) (by kernel_rfl) (by kernel_rfl) (fun _ _ _ h => h) (Or.inl ⟨by rfl, fun V hV => ?_⟩) hS6 ?_
                  · (go_simp)
                  simp only [Act.put, List.setIfInBounds_toArray, List.set_cons_zero, List.set_cons_succ]
                  refine takeHA (i := 4) (d := 62) (v := .bool true) rfl rfl (by kernel_rfl) (by kernel_rfl) (by kernel_rfl) (fun _ _ _ h => h) (Or.inl ⟨by rfl, fun V hV => ?_⟩) hS6 ?_
                  · (go_simp)
                  simp only [Act.put, List.setIfInBounds_toArray, List.set_cons_zero, List.set_cons_succ]
                  refine takeHA (i := 5) (d := 63) (v := .slice (some ⟨g, 0, none⟩) (m + 1) (m + 1)) rfl rfl (by kernel_rfl) (by kernel_rfl) (by kernel_rfl) (fun _ _ _ h => h) (Or.inl ⟨by rfl, fun V hV => ?_⟩) hS6 ?_
                  · (go_simp)
                  simp only [Act.put, List.setIfInBounds_toArray, List.set_cons_zero, List.set_cons_succ]
                  refine takeHA (i := 6) (d := 64) (v := .int .i64 (j : Int)) rfl rfl (by kernel_rfl) (by kernel_rfl) (by kernel_rfl) (fun _ _ _ h => h) (Or.inl ⟨by rfl, fun V hV => ?_⟩) hS6 ?_
                  · (go_simp)
                  simp only [Act.put, List.setIfInBounds_toArray, List.set_cons_zero, List.set_cons_succ]
                  refine takeHA (i := 7) (d := 65) (v := .int .i64 (i : Int)) rfl rfl (by kernel_rfl) (by kernel_rfl) (by kernel_rfl) (fun _ _ _ h => h) (Or.inl ⟨by rfl, fun V hV => ?_⟩) hS6 ?_
                  · (go_simp)
                  simp only [Act.put, List.setIfInBounds_toArray, List.set_cons_zero, List.set_cons_succ]
                  refine takeHA (i := 8) (d := 66) (v := .pointer (some ⟨g, i, none⟩)) rfl rfl (by kernel_rfl) (by kernel_rfl) (by kernel_rfl) (fun _ _ _ h => h) (Or.inl ⟨by rfl, fun V hV => ?_⟩) hS6 ?_
                  · (go_simp)
                  simp only [Act.put, List.setIfInBounds_toArray, List.set_cons_zero, List.set_cons_succ]
                  refine takeHA (i := 9) (d := 67) (v := .bool true) rfl rfl (by kernel_rfl) (by kernel_rfl) (by kernel_rfl) (fun _ _ _ h => h) (Or.inl ⟨by rfl, fun V hV => ?_⟩) hS6 ?_
                  · (have zz := HA2.out V hV; go_simp)
                  simp only [Act.put, List.setIfInBounds_toArray, List.set_cons_zero, List.set_cons_succ]
                  refine takeHA (i := 10) (d := 68) (v := .bool true) rfl rfl (by kernel_rfl) (by kernel_rfl) (by kernel_rfl) (fun _ _ _ h => h) (Or.inl ⟨by rfl, fun V hV => ?_⟩) hS6 ?_
                  · (go_simp)
                  simp only [Act.put, List.setIfInBounds_toArray, List.set_cons_zero, List.set_cons_succ]
                  refine takeHA (i := 11) (d := 69) (v := .bool true) rfl rfl (by kernel_rfl) (by kernel_rfl) (by kernel_rfl) (fun _ _ _ h => h) (Or.inl ⟨by rfl, fun V hV => ?_⟩) hS6 ?_
                  · (go_simp)
                  simp only [Act.put, List.setIfInBounds_toArray, List.set_cons_zero, List.set_cons_succ]
                  refine takeHA (i := 12) (d := 70) (v := .pointer (some ⟨W0.heap.size, 1, none⟩)) rfl rfl (by kernel_rfl) (by kernel_rfl) (by kernel_rfl) (fun _ _ _ h => h) (Or.inl ⟨by rfl, fun V hV => ?_⟩) hS6 ?_
                  · (go_simp)
                  simp only [Act.put, List.setIfInBounds_toArray, List.set_cons_zero, List.set_cons_succ]
                  refine takeHA (i := 13) (d := 71) (v := .bool false) rfl rfl (by kernel_rfl) (by kernel_rfl) (by kernel_rfl) (fun _ _ _ h => h) (Or.inl ⟨by rfl, fun V hV => ?_⟩) hS6 ?_
                  · (obtain ⟨q0, q1, q2⟩ := HBx.out V hV; go_simp)
                  simp only [Act.put, List.setIfInBounds_toArray, List.set_cons_zero, List.set_cons_succ]
                  refine takeHA (i := 14) (d := 72) (v := .bool false) rfl rfl (by kernel_rfl) (by kernel_rfl) (by kernel_rfl) (fun _ _ _ h => h) (Or.inl ⟨by rfl, fun V hV => ?_⟩) hS6 ?_
                  · (go_simp)
                  simp only [Act.put, List.setIfInBounds_toArray, List.set_cons_zero, List.set_cons_succ]
                  refine takeHA (i := 15) (d := 73) (v := .string sS) rfl rfl (by kernel_rfl) (by kernel_rfl) (by kernel_rfl) (fun _ _ _ h => h) (Or.inl ⟨by rfl, fun V hV => ?_⟩) hS6 ?_
                  · (go_simp)
                  simp only [Act.put, List.setIfInBounds_toArray, List.set_cons_zero, List.set_cons_succ]
                  refine takeHA (i := 16) (d := 74) (v := .int .i64 (j : Int)) rfl rfl (by kernel_rfl) (by kernel_rfl) (by kernel_rfl) (fun _ _ _ h => h) (Or.inl ⟨by rfl, fun V hV => ?_⟩) hS6 ?_
                  · (go_simp)
                  simp only [Act.put, List.setIfInBounds_toArray, List.set_cons_zero, List.set_cons_succ]
                  refine takeHA (i := 17) (d := 75) (v := .int .i64 (i : Int)) rfl rfl (by kernel_rfl) (by kernel_rfl) (by kernel_rfl) (fun _ _ _ h => h) (Or.inl ⟨by rfl, fun V hV => ?_⟩) hS6 ?_
                  · (go_simp)
                  simp only [Act.put, List.setIfInBounds_toArray, List.set_cons_zero, List.set_cons_succ]
                  refine takeHA (i := 18) (d := 76) (v := .int .u8 (ch : Int)) rfl rfl (by kernel_rfl) (by kernel_rfl) (by kernel_rfl) (fun _ _ _ h => h) (Or.inl ⟨by rfl, fun V hV => ?_⟩) hS6 ?_
                  · (go_simp)
                  simp only [Act.put, List.setIfInBounds_toArray, List.set_cons_zero, List.set_cons_succ]
                  refine takeHA (i := 19) (d := 77) (v := .pointer (some ⟨W0.heap.size, 2, none⟩)) rfl rfl (by kernel_rfl) (by kernel_rfl) (by kernel_rfl) (fun _ _ _ h => h) (Or.inl ⟨by rfl, fun V hV => ?_⟩) hS6 ?_
                  · (go_simp)
                  simp only [Act.put, List.setIfInBounds_toArray, List.set_cons_zero, List.set_cons_succ]
                  refine takeHA (i := 20) (d := 78) (v := .int .u8 y) rfl rfl (by kernel_rfl) (by kernel_rfl) (by kernel_rfl) (fun _ _ _ h => h) (Or.inl ⟨by rfl, fun V hV => ?_⟩) hS6 ?_
                  · (obtain ⟨q0, q1, q2⟩ := HBx.out V hV; go_simp)
                  simp only [Act.put, List.setIfInBounds_toArray, List.set_cons_zero, List.set_cons_succ]
                  refine takeHA (i := 21) (d := 79) (v := .bool ((ch : Int) == y)) rfl rfl (by kernel_rfl) (by kernel_rfl) (by kernel_rfl) (fun _ _ _ h => h) (Or.inl ⟨by rfl, fun V hV => ?_⟩) hS6 ?_
                  · (go_simp)
                  simp only [Act.put, List.setIfInBounds_toArray, List.set_cons_zero, List.set_cons_succ]
                  refine takeHA (i := 22) (d := 80) (v := .bool ((ch : Int) == y)) rfl rfl (by kernel_rfl) (by kernel_rfl) (by kernel_rfl) (fun _ _ _ h => h) (Or.inl ⟨by rfl, fun V hV => ?_⟩) hS6 ?_
                  · (go_simp)
                  simp only [Act.put, List.setIfInBounds_toArray, List.set_cons_zero, List.set_cons_succ]
                  refine takeHA (i := 23) (d := 81) (v := .bool ((ch : Int) == y)) rfl rfl (by kernel_rfl) (by kernel_rfl) (by kernel_rfl) (fun _ _ _ h => h) (Or.inl ⟨by rfl, fun V hV => ?_⟩) hS6 ?_
                  · (go_simp)
                  simp only [Act.put, List.setIfInBounds_toArray, List.set_cons_zero, List.set_cons_succ]
                  refine takeHA (i := 24) (d := 82) (v := .pointer (some ⟨W0.heap.size + 1, j, none⟩)) rfl rfl (by kernel_rfl) (by kernel_rfl) (by kernel_rfl) (fun _ _ _ h => h) (Or.inl ⟨by rfl, fun V hV => ?_⟩) hS6 ?_
                  · (go_simp)
                  simp only [Act.put, List.setIfInBounds_toArray, List.set_cons_zero, List.set_cons_succ]
                  refine wpAnyH_all (rs := [25]) (by kernel_rfl) (by simp) ?_
                  intro q9 hi
                  obtain rfl : q9 = 25 := by simpa using hi
                  unfold wpOp
                  go_simp
                  first | refine Or.inl ⟨hS8, ?_⟩ | refine ⟨hS8, ?_⟩ | (change wpAnyH _ _ _ _ _ _ _ _ _) | refine Or.inl ?_
                  refine wpAnyH_done (by kernel_rfl) ?_ _
                  go_wp2
                  go_roundw
                  case rel => exact ⟨j + 1, by omega, by go_num, by rw [← HSn2.out], HS9⟩
                  case measure => simp [intOf]; omega
                · rw [Bool.true_or] at hx
                  subst hx
                  clear HSn
                  subst hnvE
                  clear HNv hws hye
                  have hS6 : Kept (fun _ => False) Wb wr.drew := HG.out.kept.trans (Kept.drewA wr 1) (fun _ f => f.elim)
                  have HG6 := HG.out.later (Kept.drewA wr 1)
                  have c6 : wr.drew.cell? ⟨W0.heap.size + 1, j, none⟩ = some (.bool false) := HG6.at (prt_next hjm)
                  have f6 : wr.drew.frozen? ⟨W0.heap.size + 1, j, none⟩ = false := (HG6.set j (.bool ((ch : Int) == y))).2
                  have HS9 : Hid (Gro Wb (wr.drew.setCell ⟨W0.heap.size + 1, j, none⟩ (.bool ((ch : Int) == y))) 4 1 (.slice (some ⟨W0.heap.size + 1, 0, none⟩) (m + 1) (m + 1)) (m + 1) (bw (prt (fun j => wm R (s.take j).reverse (k + 1)) m (j + 1)))) := hideG (by
                    have h9 := (HG6.set j (.bool ((ch : Int) == y))).1
                    rw [HPs.out] at h9
                    exact h9)
                  have hS8 : Kept (fun _ => False) Wb (wr.drew.setCell ⟨W0.heap.size + 1, j, none⟩ (.bool ((ch : Int) == y))) := HS9.out.kept
                  clear HG6 HS7 HNx HPs c0 f0 
                  go_wp2_with fail
                  refine wp_region_held (S := fun V => Kept (fun _ => False) Wb V) (by kernel_rfl) ?_
                  change wpAnyH _ _ _ _ _ _ _ _ (World.drew _)
                  refine takeHA (i := 0) (d := 58) (v := .slice (some ⟨W0.heap.size + 1, 0, none⟩) (m + 1) (m + 1)) rfl rfl (by kernel_rfl) (by kernel_rfl) (by kernel_rfl) (fun _ _ _ h => h) (Or.inl ⟨by rfl, fun V hV => ?_⟩) hS6 ?_
                  · (go_simp)
                  simp only [Act.put, List.setIfInBounds_toArray, List.set_cons_zero, List.set_cons_succ]
                  refine takeHA (i := 1) (d := 59) (v := .int .i64 (j : Int)) rfl rfl (by kernel_rfl) (by kernel_rfl) (by kernel_rfl) (fun _ _ _ h => h) (Or.inl ⟨by rfl, fun V hV => ?_⟩) hS6 ?_
                  · (go_simp)
                  simp only [Act.put, List.setIfInBounds_toArray, List.set_cons_zero, List.set_cons_succ]
                  refine takeHA (i := 2) (d := 60) (v := .int .i64 (j : Int)) rfl rfl (by kernel_rfl) (by kernel_rfl) (by kernel_rfl) (fun _ _ _ h => h) (Or.inl ⟨by rfl, fun V hV => ?_⟩) hS6 ?_
                  · (go_simp)
                  simp only [Act.put, List.setIfInBounds_toArray, List.set_cons_zero, List.set_cons_succ]
                  refine takeHA (i := 3) (d := 61) (v := .bool true) rfl rfl (by kernel_rfl) (by kernel_rfl) (by kernel_rfl) (fun _ _ _ h => h) (Or.inl ⟨by rfl, fun V hV => ?_⟩) hS6 ?_
                  · (go_simp)
                  simp only [Act.put, List.setIfInBounds_toArray, List.set_cons_zero, List.set_cons_succ]
                  refine takeHA (i := 4) (d := 62) (v := .bool true) rfl rfl (by kernel_rfl) (by kernel_rfl) (by kernel_rfl) (fun _ _ _ h => h) (Or.inl ⟨by rfl, fun V hV => ?_⟩) hS6 ?_
                  · (go_simp)
                  simp only [Act.put, List.setIfInBounds_toArray, List.set_cons_zero, List.set_cons_succ]
                  refine takeHA (i := 5) (d := 63) (v := .slice (some ⟨g, 0, none⟩) (m + 1) (m + 1)) rfl rfl (by kernel_rfl) (by kernel_rfl) (by kernel_rfl) (fun _ _ _ h => h) (Or.inl ⟨by rfl, fun V hV => ?_⟩) hS6 ?_
                  · (go_simp)
                  simp only [Act.put, List.setIfInBounds_toArray, List.set_cons_zero, List.set_cons_succ]
                  refine takeHA (i := 6) (d := 64) (v := .int .i64 (j : Int)) rfl rfl (by kernel_rfl) (by kernel_rfl) (by kernel_rfl) (fun _ _ _ h => h) (Or.inl ⟨by rfl, fun V hV => ?_⟩) hS6 ?_
                  · (go_simp)
                  simp only [Act.put, List.setIfInBounds_toArray, List.set_cons_zero, List.set_cons_succ]
                  refine takeHA (i := 7) (d := 65) (v := .int .i64 (i : Int)) rfl rfl (by kernel_rfl) (by kernel_rfl) (by kernel_rfl) (fun _ _ _ h => h) (Or.inl ⟨by rfl, fun V hV => ?_⟩) hS6 ?_
                  · (go_simp)
                  simp only [Act.put, List.setIfInBounds_toArray, List.set_cons_zero, List.set_cons_succ]
                  refine takeHA (i := 8) (d := 66) (v := .pointer (some ⟨g, i, none⟩)) rfl rfl (by kernel_rfl) (by kernel_rfl) (by kernel_rfl) (fun _ _ _ h => h) (Or.inl ⟨by rfl, fun V hV => ?_⟩) hS6 ?_
                  · (go_simp)
                  simp only [Act.put, List.setIfInBounds_toArray, List.set_cons_zero, List.set_cons_succ]
                  refine takeHA (i := 9) (d := 67) (v := .bool true) rfl rfl (by kernel_rfl) (by kernel_rfl) (by kernel_rfl) (fun _ _ _ h => h) (Or.inl ⟨by rfl, fun V hV => ?_⟩) hS6 ?_
                  · (have zz := HA2.out V hV; go_simp)
                  simp only [Act.put, List.setIfInBounds_toArray, List.set_cons_zero, List.set_cons_succ]
                  refine takeHA (i := 10) (d := 68) (v := .bool true) rfl rfl (by kernel_rfl) (by kernel_rfl) (by kernel_rfl) (fun _ _ _ h => h) (Or.inl ⟨by rfl, fun V hV => ?_⟩) hS6 ?_
                  · (go_simp)
                  simp only [Act.put, List.setIfInBounds_toArray, List.set_cons_zero, List.set_cons_succ]
                  refine takeHA (i := 11) (d := 69) (v := .bool true) rfl rfl (by kernel_rfl) (by kernel_rfl) (by kernel_rfl) (fun _ _ _ h => h) (Or.inl ⟨by rfl, fun V hV => ?_⟩) hS6 ?_
                  · (go_simp)
                  simp only [Act.put, List.setIfInBounds_toArray, List.set_cons_zero, List.set_cons_succ]
                  refine takeHA (i := 12) (d := 70) (v := .pointer (some ⟨W0.heap.size, 1, none⟩)) rfl rfl (by kernel_rfl) (by kernel_rfl) (by kernel_rfl) (fun _ _ _ h => h) (Or.inl ⟨by rfl, fun V hV => ?_⟩) hS6 ?_
                  · (go_simp)
                  simp only [Act.put, List.setIfInBounds_toArray, List.set_cons_zero, List.set_cons_succ]
                  refine takeHA (i := 13) (d := 71) (v := .bool false) rfl rfl (by kernel_rfl) (by kernel_rfl) (by kernel_rfl) (fun _ _ _ h => h) (Or.inl ⟨by rfl, fun V hV => ?_⟩) hS6 ?_
                  · (obtain ⟨q0, q1, q2⟩ := HBx.out V hV; go_simp)
                  simp only [Act.put, List.setIfInBounds_toArray, List.set_cons_zero, List.set_cons_succ]
                  refine takeHA (i := 14) (d := 72) (v := .bool false) rfl rfl (by kernel_rfl) (by kernel_rfl) (by kernel_rfl) (fun _ _ _ h => h) (Or.inl ⟨by rfl, fun V hV => ?_⟩) hS6 ?_
                  · (go_simp)
                  simp only [Act.put, List.setIfInBounds_toArray, List.set_cons_zero, List.set_cons_succ]
                  refine takeHA (i := 15) (d := 73) (v := .string sS) rfl rfl (by kernel_rfl) (by kernel_rfl) (by kernel_rfl) (fun _ _ _ h => h) (Or.inl ⟨by rfl, fun V hV => ?_⟩) hS6 ?_
                  · (go_simp)
                  simp only [Act.put, List.setIfInBounds_toArray, List.set_cons_zero, List.set_cons_succ]
                  refine takeHA (i := 16) (d := 74) (v := .int .i64 (j : Int)) rfl rfl (by kernel_rfl) (by kernel_rfl) (by kernel_rfl) (fun _ _ _ h => h) (Or.inl ⟨by rfl, fun V hV => ?_⟩) hS6 ?_
                  · (go_simp)
                  simp only [Act.put, List.setIfInBounds_toArray, List.set_cons_zero, List.set_cons_succ]
                  refine takeHA (i := 17) (d := 75) (v := .int .i64 (i : Int)) rfl rfl (by kernel_rfl) (by kernel_rfl) (by kernel_rfl) (fun _ _ _ h => h) (Or.inl ⟨by rfl, fun V hV => ?_⟩) hS6 ?_
                  · (go_simp)
                  simp only [Act.put, List.setIfInBounds_toArray, List.set_cons_zero, List.set_cons_succ]
                  refine takeHA (i := 18) (d := 76) (v := .int .u8 (ch : Int)) rfl rfl (by kernel_rfl) (by kernel_rfl) (by kernel_rfl) (fun _ _ _ h => h) (Or.inl ⟨by rfl, fun V hV => ?_⟩) hS6 ?_
                  · (go_simp)
                  simp only [Act.put, List.setIfInBounds_toArray, List.set_cons_zero, List.set_cons_succ]
                  refine takeHA (i := 19) (d := 77) (v := .pointer (some ⟨W0.heap.size, 2, none⟩)) rfl rfl (by kernel_rfl) (by kernel_rfl) (by kernel_rfl) (fun _ _ _ h => h) (Or.inl ⟨by rfl, fun V hV => ?_⟩) hS6 ?_
                  · (go_simp)
                  simp only [Act.put, List.setIfInBounds_toArray, List.set_cons_zero, List.set_cons_succ]
                  refine takeHA (i := 20) (d := 78) (v := .int .u8 y) rfl rfl (by kernel_rfl) (by kernel_rfl) (by kernel_rfl) (fun _ _ _ h => h) (Or.inl ⟨by rfl, fun V hV => ?_⟩) hS6 ?_
                  · (obtain ⟨q0, q1, q2⟩ := HBx.out V hV; go_simp)
                  simp only [Act.put, List.setIfInBounds_toArray, List.set_cons_zero, List.set_cons_succ]
                  refine takeHA (i := 21) (d := 79) (v := .bool ((ch : Int) == y)) rfl rfl (by kernel_rfl) (by kernel_rfl) (by kernel_rfl) (fun _ _ _ h => h) (Or.inl ⟨by rfl, fun V hV => ?_⟩) hS6 ?_
                  · (go_simp)
                  simp only [Act.put, List.setIfInBounds_toArray, List.set_cons_zero, List.set_cons_succ]
                  refine takeHA (i := 22) (d := 80) (v := .bool ((ch : Int) == y)) rfl rfl (by kernel_rfl) (by kernel_rfl) (by kernel_rfl) (fun _ _ _ h => h) (Or.inl ⟨by rfl, fun V hV => ?_⟩) hS6 ?_
                  · (go_simp)
                  simp only [Act.put, List.setIfInBounds_toArray, List.set_cons_zero, List.set_cons_succ]
                  refine takeHA (i := 23) (d := 81) (v := .bool ((ch : Int) == y)) rfl rfl (by kernel_rfl) (by kernel_rfl) (by kernel_rfl) (fun _ _ _ h => h) (Or.inl ⟨by rfl, fun V hV => ?_⟩) hS6 ?_
                  · (go_simp)
                  simp only [Act.put, List.setIfInBounds_toArray, List.set_cons_zero, List.set_cons_succ]
                  refine takeHA (i := 24) (d := 82) (v := .pointer (some ⟨W0.heap.size + 1, j, none⟩)) rfl rfl (by kernel_rfl) (by kernel_rfl) (by kernel_rfl) (fun _ _ _ h => h) (Or.inl ⟨by rfl, fun V hV => ?_⟩) hS6 ?_
                  · (go_simp)
                  simp only [Act.put, List.setIfInBounds_toArray, List.set_cons_zero, List.set_cons_succ]
                  refine wpAnyH_all (rs := [25]) (by kernel_rfl) (by simp) ?_
                  intro q9 hi
                  obtain rfl : q9 = 25 := by simpa using hi
                  unfold wpOp
                  go_simp
                  first | refine Or.inl ⟨hS8, ?_⟩ | refine ⟨hS8, ?_⟩ | (change wpAnyH _ _ _ _ _ _ _ _ _) | refine Or.inl ?_
                  refine wpAnyH_done (by kernel_rfl) ?_ _
                  go_wp2
                  go_roundw
                  case rel => exact ⟨j + 1, by omega, by go_num, by rw [← HSn2.out], HS9⟩
                  case measure => simp [intOf]; omega
        · have j1 : ¬ ((j : Int) ≤ (m : Int)) := by omega
          have hjE : j = m + 1 := by omega
          subst hjE
          have hlast := HG.out.at (j := m) (u := .bool (wm R (s.take m).reverse (k + 1))) (by unfold bw; rw [List.getElem?_map, prt_at (by omega)]; rfl)
          rw [List.take_of_length_le (by rw [HM.out]; exact Nat.le_refl _)] at hlast
          have HAll : Hid (∀ j, j ≤ m → wr.cell? ⟨W0.heap.size + 1, j, none⟩ = some (.bool (wm R (s.take j).reverse (k + 1)))) := hideG (fun j hj2 => HG.out.at (by unfold bw; rw [List.getElem?_map, prt_at (by omega)]; rfl))
          have HO := hideG ((HL.out.out.later HKb.out).later HG.out.kept)
          have hob : ∀ q, (Value.slice oa (k + 1) oc).ownBlock = some q → q < W0.heap.size := fun q hq => (HL.out.out.own.lt q hq).2
          have HOb := hideG hob
          have hsz : W0.heap.size + 1 < wr.heap.size := (HG.out.own.lt (W0.heap.size + 1) rfl).2
          have HSz := hideG hsz
          have HRs := hideG (rowB_succ R s k)
          generalize wm R s.reverse (k + 1) = nv at *
          have j3 : (m : Int) < (m : Int) + 1 := by omega
          clear HL hob hsz HKb HBx HAt
          go_wp2_with (at_builtin; refine wpList_pushBl rfl _ _ rfl _ (k + 1) (rowB R s k) nv rfl HO _ (by first | rfl | simp) rfl (by omega) ?_; clear HO; intro g9 c9 W9 G9 K9 B9; rw [← HRs.out] at G9)
          go_roundw
          case rel =>
            refine ⟨k + 1, W0.heap.size + 1, c9, some ⟨g9, 0, none⟩, by omega, by go_num, rfl, rfl, hideG ⟨fun j hj2 => K9.out.cell (HAll.out j hj2) (fun e => ?_), G9.out, fun e => ?_⟩⟩
            · have := HOb.out _ e
              simp only at this
              omega
            · simp only [Value.ownBlock, Option.some.injEq] at e
              rcases B9.out with h | h
              · have := HOb.out _ h
                omega
              · have := HSz.out
                omega
          case measure => simp [intOf]; omega
    · have hkE : k = n := by omega
      subst hkE
      have i1 : ¬ ((k : Int) < (k : Int)) := by omega
      have HF : Hid (∃ g9, oa = some ⟨g9, 0, none⟩ ∧ ∀ i, i ≤ k → W0.cell? ⟨g9, i, none⟩ = some (.bool (wm R s.reverse i))) := hideG (by
        obtain ⟨g9, e9, _, hc⟩ := HL.out.out.cell (by omega)
        refine ⟨g9, e9, fun i hi => hc i _ ?_⟩
        unfold rowB bw
        rw [List.getElem?_map, List.getElem?_map, List.getElem?_range (by omega)]
        rfl)
      have HK9 := hideG (HKW.out.trans HL.out.out.kept (fun _ f => f.elim))
      clear HL HEc
      go_wp2
      go_ret
      obtain ⟨g9, rfl, hc⟩ := HF.out
      exact ⟨⟨g9, oc, rfl, hc⟩, HK9.out⟩
end Go.Proofs.YtacmmclamkhpcaaDoor
