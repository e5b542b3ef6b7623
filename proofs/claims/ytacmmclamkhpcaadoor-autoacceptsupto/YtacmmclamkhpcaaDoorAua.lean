import Derived.Test.YtacmmclamkhpcaaDoorGro
import Derived.Test.YtacmmclamkhpcaaDoorStm
namespace Go.Proofs.YtacmmclamkhpcaaDoor
open Go.ChangeShapes Go.WideShapes Go.ChangeAt Go.RowKit

theorem Tryd.infoI : (Tryd.prog.info? 3).map (fun i => (i.zero, i.size, i.bytes)) = some (some (.int .i64 0), 1, 8) := by kernel_rfl
/-- Numbers as cells. -/
def iv (L : List Int) : List Value := L.map (fun x => .int .i64 x)
theorem iv_len (L : List Int) : (iv L).length = L.length := by unfold iv; simp
theorem iv_app (L : List Int) (x : Int) : iv (L ++ [x]) = iv L ++ [.int .i64 x] := by unfold iv; simp
theorem iv_at {L : List Int} {j : Nat} (h : j < L.length) : (iv L)[j]? = some (.int .i64 L[j]) := by unfold iv; simp [h]
theorem info_partsA {e : TypeId} {z : Value} {s b : Nat} (h : (Tryd.prog.info? e).map (fun i => (i.zero, i.size, i.bytes)) = some (some z, s, b)) : ∃ i, Tryd.prog.info? e = some i ∧ i.zero = some z ∧ i.size = s ∧ i.bytes = b := by
  cases hx : Tryd.prog.info? e with
  | none => rw [hx] at h; cases h
  | some i =>
    rw [hx] at h
    simp only [Option.map_some, Option.some.injEq, Prod.mk.injEq] at h
    exact ⟨i, rfl, h.1, h.2.1, h.2.2⟩
theorem wpList_pushI {w0 W : World} {ops : Array Oper} {rest : List Oper} {o : Oper} {act : Act} {Q : Exit → Act → World → Prop} (hgd : o.guard = none) (s x : Operand)
    (ho : o.op = .call { callee := .builtin .append, args := #[s, x], argTypes := #[53, 53] }) (v : Value) (n : Nat) (L : List Int) (y : Int) (hs : act.eval s = v) (hG : Hid (Gro w0 W 3 1 v n (iv L))) (b : Nat) (hb : b = W.heap.size) (hx : act.eval x = .slice (some ⟨b, 0, none⟩) 1 1) (hn : n ≤ 1099511627776)
    (h : ∀ a' c' W', Hid (Gro w0 W' 3 1 (.slice a' (n + 1) c') (n + 1) (iv (L ++ [y]))) → wpList Tryd.prog ops Q rest (act.put o.dst (.slice a' (n + 1) c')) W') : wpList Tryd.prog ops Q (o :: rest) act (W.alloc (.cells #[.int .i64 y] 3)) := by
  subst hb
  obtain ⟨i0, hi, hz0, hz1, hz2⟩ := info_partsA Tryd.infoI
  rw [iv_app] at h
  exact wpList_push hgd s x 53 ho 3 i0 (.int .i64 0) 1 8 Tryd.underlying53 hi hz0 hz1 hz2 rfl (by decide) v n (iv L) [.int .i64 y] hs hG hx rfl (by intro u hu; simp at hu; subst hu; rfl) (hideG (by omega)) (hideG (by unfold maxLen; omega)) h
theorem Gro.baseA {w wB W : World} {e : TypeId} {sz : Nat} {v : Value} {n : Nat} {xs : List Value} (h : Gro wB W e sz v n xs) (k : Kept (fun _ => False) w wB) : Gro w W e sz v n xs := by
  refine ⟨⟨h.own.1, ?_⟩, k.trans h.kept (fun _ f => f.elim)⟩
  rcases h.own.2 with hn | ⟨g, cap, cur, e1, hb, rest⟩
  · exact .inl hn
  · exact .inr ⟨g, cap, cur, e1, Nat.le_trans k.size hb, rest⟩
/-- A pattern's elements: letters, 256 a gap, 257 a star; of stars side by side one is kept. -/
def psh (L : List Int) (e : Int) : List Int := if e = 257 ∧ L.getLast? = some 257 then L else L ++ [e]
def elsR : List Int → List UInt8 → Option (List Int)
  | L, [] => some L
  | L, c :: r =>
    if c = 63 then elsR (psh L 256) r
    else if c = 42 then elsR (psh L 257) r
    else if c = 92 then (match r with
      | [] => none
      | d :: r => elsR (psh L (d.toNat : Int)) r)
    else elsR (psh L (c.toNat : Int)) r
theorem elsR63 (L : List Int) (r : List UInt8) : elsR L (63 :: r) = elsR (psh L 256) r := by rw [elsR.eq_def]; simp
theorem elsR42 (L : List Int) (r : List UInt8) : elsR L (42 :: r) = elsR (psh L 257) r := by rw [elsR.eq_def]; simp
theorem elsR92n (L : List Int) : elsR L [92] = none := by rw [elsR.eq_def]; simp
theorem elsR92 (L : List Int) (d : UInt8) (r : List UInt8) : elsR L (92 :: d :: r) = elsR (psh L (d.toNat : Int)) r := by rw [elsR.eq_def]; simp
theorem elsRo (L : List Int) (c : UInt8) (r : List UInt8) (h1 : c ≠ 63) (h2 : c ≠ 42) (h3 : c ≠ 92) : elsR L (c :: r) = elsR (psh L (c.toNat : Int)) r := by rw [elsR.eq_def]; simp [h1, h2, h3]
theorem elsRn (L : List Int) : elsR L [] = some L := by rw [elsR.eq_def]
theorem psh_len (L : List Int) (e : Int) : (psh L e).length ≤ L.length + 1 := by
  unfold psh
  split
  · omega
  · simp
theorem psh_ne {L : List Int} {e : Int} (h : e ≠ 257) : psh L e = L ++ [e] := by unfold psh; rw [if_neg (fun x => h x.1)]
theorem psh_nil (e : Int) : psh [] e = [e] := by unfold psh; simp
theorem psh_star {L : List Int} (h : L.getLast? = some 257) : psh L 257 = L := by unfold psh; rw [if_pos ⟨rfl, h⟩]
theorem psh_other {L : List Int} (h : L.getLast? ≠ some 257) : psh L 257 = L ++ [257] := by unfold psh; rw [if_neg (fun x => h x.2)]
def elPost (w w' : World) : Option (List Int) → Ending → Prop
  | none, e => e = .returned (.tuple #[.slice none 0 0, .bool false]) ∧ Kept (fun _ => False) w w'
  | some L, e => ∃ a c, e = .returned (.tuple #[.slice a L.length c, .bool true]) ∧ Gro w w' 3 1 (.slice a L.length c) L.length (iv L)
theorem u8_int (c d : UInt8) (h : c = d) : ((c.toNat : Int) == (d.toNat : Int)) = true := by subst h; simp
theorem u8_int' (c d : UInt8) (h : c ≠ d) : ((c.toNat : Int) == (d.toNat : Int)) = false := by
  have : c.toNat ≠ d.toNat := fun e => h (UInt8.toNat_inj.1 e)
  simp
  omega
set_option maxRecDepth 20000 in
set_option maxHeartbeats 4000000 in
theorem elementsOf_any (l : List UInt8) (w : World) (hl : l.length ≤ 1099511627776) :
    Calls Tryd.prog 31 #[.string (bq l)] w fun e w' => elPost w w' (elsR [] l) e := by
  obtain ⟨Z, hZ⟩ : ∃ Z, Z = elsR [] l := ⟨_, rfl⟩
  obtain ⟨s, hs⟩ : ∃ s, s = bq l := ⟨_, rfl⟩
  have hz : s.size = l.length := by rw [hs]; exact bq_size l
  have HX : Hid (∀ k (h : k < l.length) (h2 : k < s.size), s[k] = l[k]) := hideG (fun k h h2 => by subst hs; rfl)
  rw [← hs, ← hZ]
  have HZ := hideG hZ
  obtain ⟨n, hn⟩ : ∃ n, n = s.size := ⟨_, rfl⟩
  have HN := hideG hn
  have hln : n ≤ 1099511627776 := by omega
  have HLn : Hid (n = l.length) := hideG (by omega)
  clear hZ hs hl hz
  go_enter Tryd.func31, Tryd.ntmps31
  go_wp2
  go_loopw [4, 5] (fun v iw wr => ∃ (i m : Nat) (a : Option Addr) (c : Nat) (L : List Int), i ≤ n ∧ m ≤ i ∧ iw = .int .i64 i ∧ v = .slice a m c ∧ Hid (m = L.length) ∧ Hid (Z = elsR L (l.drop i)) ∧ Hid (Gro w wr 3 1 (.slice a m c) m (iv L))) (fun _ iw _ => n - (intOf iw).toNat)
  case atStart => exact ⟨0, 0, none, 0, [], by omega, by omega, rfl, rfl, hideG rfl, hideG (by rw [HZ.out, List.drop_zero]), hideG (gro_nil w _ 1)⟩
  case round =>
    obtain ⟨i, m, a, c, L, hi, hmi, rfl, rfl, HM, HD, HG⟩ := hrel
    clear HZ
    by_cases hlt : i < n
    · have hil : i < l.length := by rw [← HLn.out]; exact hlt
      have his : i < s.size := by rw [← hn]; exact hlt
      have hii : (i : Int) < (n : Int) := by omega
      have c0 := HX.out i hil his
      have hd : l.drop i = l[i] :: l.drop (i + 1) := List.drop_eq_getElem_cons hil
      have HD2 := HD.out
      rw [hd] at HD2
      generalize l[i] = x at *
      by_cases h63 : x = 63
      · subst h63
        have HQ : Hid (Z = elsR (L ++ [256]) (l.drop (i + 1))) := hideG (by rw [HD2, elsR63, psh_ne (by decide)])
        have y0 : s[i].toNat = 63 := by rw [c0]; rfl
        clear c0 hd HD2 HD HX
        go_wp2_with (at_builtin; refine wpList_pushI rfl _ _ rfl _ m L 256 rfl HG _ (by first | rfl | simp) rfl (by omega) ?_; clear HG; intro a1 c1 W1 G1)
        go_roundw
        case rel => exact ⟨i + 1, m + 1, a1, c1, L ++ [256], by omega, by omega, by go_num, rfl, hideG (by rw [List.length_append, ← HM.out]; rfl), HQ, G1⟩
        case measure => simp [intOf]; omega
      · by_cases h42 : x = 42
        · subst h42
          have y0 : s[i].toNat = 42 := by rw [c0]; rfl
          by_cases hL : L.getLast? = some 257
          · have HQ : Hid (Z = elsR L (l.drop (i + 1))) := hideG (by rw [HD2, elsR42, psh_star hL])
            have hm0 : 0 < m := by
              rw [HM.out]
              cases L with
              | nil => simp at hL
              | cons _ _ => simp
            obtain ⟨g, rfl, hg, hc⟩ := HG.out.cell hm0
            have z0 := hc (m - 1) (.int .i64 257) (by
              have hm := HM.out
              rw [iv_at (by omega)]
              rw [List.getLast?_eq_getElem?] at hL
              rw [← hm, List.getElem?_eq_getElem (by omega)] at hL
              exact congrArg (fun y => some (Value.int .i64 y)) (Option.some.inj hL))
            have m1 : (m : Int) - 1 = ((m - 1 : Nat) : Int) := by omega
            have m2 : (0 : Int) < (m : Int) := by omega
            clear c0 hd HD2 HD HX hc
            go_wp2
            go_roundw
            case rel => exact ⟨i + 1, m, _, c, L, by omega, by omega, by go_num, rfl, HM, HQ, HG⟩
            case measure => simp [intOf]; omega
          · have HQ : Hid (Z = elsR (L ++ [257]) (l.drop (i + 1))) := hideG (by rw [HD2, elsR42, psh_other hL])
            rcases Nat.eq_zero_or_pos m with hm0 | hm0
            · subst hm0
              clear c0 hd HD2 HD HX
              have HG0 : Hid (Gro w wr 3 1 (.slice a 0 c) 0 (iv L)) := HG
              go_wp2_with (at_builtin; refine wpList_pushI rfl _ _ rfl _ 0 L 257 rfl HG0 _ (by first | rfl | simp) rfl (by omega) ?_; clear HG0; intro a1 c1 W1 G1)
              go_roundw
              case rel => exact ⟨i + 1, 1, a1, c1, L ++ [257], by omega, by omega, by go_num, rfl, hideG (by rw [List.length_append, ← HM.out]; rfl), HQ, G1⟩
              case measure => simp [intOf]; omega
            · obtain ⟨g, rfl, hg, hc⟩ := HG.out.cell hm0
              have hml : m - 1 < L.length := by have := HM.out; omega
              have z0 := hc (m - 1) (.int .i64 L[m - 1]) (iv_at hml)
              have zn : L[m - 1] ≠ 257 := by
                intro e
                apply hL
                rw [List.getLast?_eq_getElem?, ← HM.out, List.getElem?_eq_getElem hml, e]
              generalize L[m - 1] = q at *
              have zq : (q == 257) = false := by simp; omega
              have m1 : (m : Int) - 1 = ((m - 1 : Nat) : Int) := by omega
              have m2 : (0 : Int) < (m : Int) := by omega
              clear c0 hd HD2 HD HX hc
              go_wp2_with (at_builtin; refine wpList_pushI rfl _ _ rfl _ m L 257 rfl HG _ (by first | rfl | simp) rfl (by omega) ?_; clear HG; intro a1 c1 W1 G1)
              go_roundw
              case rel => exact ⟨i + 1, m + 1, a1, c1, L ++ [257], by omega, by omega, by go_num, rfl, hideG (by rw [List.length_append, ← HM.out]; rfl), HQ, G1⟩
              case measure => simp [intOf]; omega
        · by_cases h92 : x = 92
          · subst h92
            have y0 : s[i].toNat = 92 := by rw [c0]; rfl
            by_cases hE : i + 1 < n
            · have hil2 : i + 1 < l.length := by rw [← HLn.out]; exact hE
              have his2 : i + 1 < s.size := by rw [← hn]; exact hE
              have c1 := HX.out (i + 1) hil2 his2
              have hd2 : l.drop (i + 1) = l[i + 1] :: l.drop (i + 1 + 1) := List.drop_eq_getElem_cons hil2
              rw [hd2] at HD2
              generalize l[i + 1] = y at *
              obtain ⟨q, hq⟩ : ∃ q, q = y.toNat := ⟨_, rfl⟩
              have hqb : q < 256 := by rw [hq]; exact y.toNat_lt
              have HQ : Hid (Z = elsR (L ++ [(q : Int)]) (l.drop (i + 1 + 1))) := hideG (by rw [HD2, elsR92, psh_ne (by omega), hq])
              have y1 : s[i + 1].toNat = q := by rw [c1, hq]
              have e1 : ((i : Int) + 1 == (n : Int)) = false := by simp; omega
              have e2 : ¬ ((i : Int) + 1 = (n : Int)) := by omega
              have q9 : ((q : Int) == 257) = false := by simp; omega
              clear c0 hd HD2 HD HX c1 hd2 hq
              go_wp2_with (at_builtin; refine wpList_pushI rfl _ _ rfl _ m L (q : Int) rfl HG _ (by first | rfl | simp) rfl (by omega) ?_; clear HG; intro a1 c1 W1 G1)
              go_roundw
              case rel => exact ⟨i + 1 + 1, m + 1, a1, c1, L ++ [(q : Int)], by omega, by omega, by go_num, rfl, hideG (by rw [List.length_append, ← HM.out]; rfl), HQ, G1⟩
              case measure => simp [intOf]; omega
            · obtain rfl : n = i + 1 := by omega
              have HQ : Hid (Z = none) := hideG (by rw [HD2, List.drop_of_length_le (by have := HLn.out; omega), elsR92n])
              obtain rfl : Z = none := HQ.out
              clear c0 hd HD2 HD HX
              go_wp2
              go_ret2
              exact ⟨rfl, HG.out.kept⟩
          · obtain ⟨q, hq⟩ : ∃ q, q = x.toNat := ⟨_, rfl⟩
            have hqb : q < 256 := by rw [hq]; exact x.toNat_lt
            have HQ : Hid (Z = elsR (L ++ [(q : Int)]) (l.drop (i + 1))) := hideG (by rw [HD2, elsRo _ _ _ h63 h42 h92, psh_ne (by omega), hq])
            have y0 : s[i].toNat = q := by rw [c0, hq]
            have q1 : ((q : Int) == 63) = false := by rw [hq]; exact u8_int' x 63 h63
            have q2 : ((q : Int) == 42) = false := by rw [hq]; exact u8_int' x 42 h42
            have q3 : ((q : Int) == 92) = false := by rw [hq]; exact u8_int' x 92 h92
            have q9 : ((q : Int) == 257) = false := by simp; omega
            clear c0 hd HD2 HD HX h63 h42 h92 hq
            go_wp2_with (at_builtin; refine wpList_pushI rfl _ _ rfl _ m L (q : Int) rfl HG _ (by first | rfl | simp) rfl (by omega) ?_; clear HG; intro a1 c1 W1 G1)
            go_roundw
            case rel => exact ⟨i + 1, m + 1, a1, c1, L ++ [(q : Int)], by omega, by omega, by go_num, rfl, hideG (by rw [List.length_append, ← HM.out]; rfl), HQ, G1⟩
            case measure => simp [intOf]; omega
    · obtain rfl : i = n := by omega
      have HQ : Hid (Z = some L) := hideG (by rw [HD.out, List.drop_of_length_le (by rw [HLn.out]; exact Nat.le_refl _), elsRn])
      obtain rfl : Z = some L := HQ.out
      have hmm := HM.out
      clear HX HD HQ
      go_wp2
      go_ret2
      subst hmm
      exact ⟨_, _, rfl, HG.out⟩
end Go.Proofs.YtacmmclamkhpcaaDoor
