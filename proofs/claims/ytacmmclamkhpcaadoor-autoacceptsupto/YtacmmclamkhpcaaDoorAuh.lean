import Derived.Test.YtacmmclamkhpcaaDoorAug
import Derived.Test.YtacmmclamkhpcaaDoorBld
namespace Go.Proofs.YtacmmclamkhpcaaDoor
open Go.ChangeShapes Go.WideShapes Go.ChangeAt Go.RowKit

/-! The document's elements, as far as to whether there are any. -/
theorem elsR_same : ∀ (n : Nat) (l : List UInt8) (L M : List Int), l.length ≤ n → (elsR L l).isSome = (elsR M l).isSome := by
  intro n
  induction n with
  | zero =>
    intro l L M hl
    cases l with
    | nil => rw [elsRn, elsRn]; rfl
    | cons a r => simp at hl
  | succ n ih =>
    intro l L M hl
    cases l with
    | nil => rw [elsRn, elsRn]; rfl
    | cons c r =>
      rw [List.length_cons] at hl
      by_cases h1 : c = 63
      · subst h1
        rw [elsR63, elsR63]
        exact ih r _ _ (by omega)
      · by_cases h2 : c = 42
        · subst h2
          rw [elsR42, elsR42]
          exact ih r _ _ (by omega)
        · by_cases h3 : c = 92
          · subst h3
            cases r with
            | nil => rw [elsR92n, elsR92n]
            | cons d r =>
              rw [elsR92, elsR92]
              rw [List.length_cons] at hl
              exact ih r _ _ (by omega)
          · rw [elsRo L c r h1 h2 h3, elsRo M c r h1 h2 h3]
            exact ih r _ _ (by omega)
/-- Is it a pattern? -/
def gd (l : List UInt8) : Bool := (elsR [] l).isSome
theorem gd63 (r : List UInt8) : gd (63 :: r) = gd r := by unfold gd; rw [elsR63]; exact elsR_same _ r _ _ (Nat.le_refl _)
theorem gd42 (r : List UInt8) : gd (42 :: r) = gd r := by unfold gd; rw [elsR42]; exact elsR_same _ r _ _ (Nat.le_refl _)
theorem gd92n : gd [92] = false := by unfold gd; rw [elsR92n]; rfl
theorem gd92 (d : UInt8) (r : List UInt8) : gd (92 :: d :: r) = gd r := by unfold gd; rw [elsR92]; exact elsR_same _ r _ _ (Nat.le_refl _)
theorem gdo (c : UInt8) (r : List UInt8) (h1 : c ≠ 63) (h2 : c ≠ 42) (h3 : c ≠ 92) : gd (c :: r) = gd r := by unfold gd; rw [elsRo [] c r h1 h2 h3]; exact elsR_same _ r _ _ (Nat.le_refl _)
theorem gdn : gd [] = true := by unfold gd; rw [elsRn]; rfl
theorem Tryd.infoEl : (Tryd.prog.info? 85).map (fun i => (i.zero, i.size, i.bytes)) = some (some (.agg #[.bool false, .bool false, .int .u8 0]), 3, 3) := by kernel_rfl
/-- A grown list, whatever it holds. -/
def GroX (w0 w : World) (v : Value) (n : Nat) : Prop := ∃ xs, Gro w0 w 85 3 v n xs
theorem wpList_pushE {w0 W : World} {ops : Array Oper} {rest : List Oper} {o : Oper} {act : Act} {Q : Exit → Act → World → Prop} (hgd : o.guard = none) (s x : Operand)
    (ho : o.op = .call { callee := .builtin .append, args := #[s, x], argTypes := #[81, 81] }) (v : Value) (n : Nat) (b1 b2 : Bool) (y : Int) (hs : act.eval s = v) (hG : Hid (GroX w0 W v n)) (b : Nat) (hb : b = W.heap.size) (hx : act.eval x = .slice (some ⟨b, 0, none⟩) 1 1) (hn : n ≤ 1099511627776)
    (h : ∀ a' c' W', Hid (GroX w0 W' (.slice a' (n + 1) c') (n + 1)) → wpList Tryd.prog ops Q rest (act.put o.dst (.slice a' (n + 1) c')) W') : wpList Tryd.prog ops Q (o :: rest) act (W.alloc (.cells #[.bool b1, .bool b2, .int .u8 y] 85)) := by
  subst hb
  obtain ⟨xs, hG⟩ := hG.out
  obtain ⟨i0, hi, hz0, hz1, hz2⟩ := info_partsA Tryd.infoEl
  exact wpList_push hgd s x 81 ho 85 i0 (.agg #[.bool false, .bool false, .int .u8 0]) 3 3 Tryd.underlying81 hi hz0 hz1 hz2 rfl (by decide) v n xs [.bool b1, .bool b2, .int .u8 y] hs (hideG hG) hx rfl (by intro u hu; simp at hu; rcases hu with rfl | rfl | rfl <;> rfl) (hideG (by omega)) (hideG (by unfold maxLen; omega)) (fun a' c' W' g => h a' c' W' ⟨_, g.out⟩)
set_option maxRecDepth 20000 in
set_option maxHeartbeats 4000000 in
theorem relements_any (l : List UInt8) (w : World) (hl : l.length ≤ 1099511627776) :
    Calls Tryd.prog 37 #[.string (bq l)] w fun e w' => (∃ v, e = .returned (.tuple #[v, .bool (gd l)])) ∧ Kept (fun _ => False) w w' := by
  obtain ⟨Z, hZ⟩ : ∃ Z, Z = gd l := ⟨_, rfl⟩
  obtain ⟨s, hs⟩ : ∃ s, s = bq l := ⟨_, rfl⟩
  have hz : s.size = l.length := by rw [hs]; exact bq_size l
  have HX : Hid (∀ k (h : k < l.length) (h2 : k < s.size), s[k] = l[k]) := hideG (fun k h h2 => by subst hs; rfl)
  rw [← hs, ← hZ]
  have HZ := hideG hZ
  obtain ⟨n, hn⟩ : ∃ n, n = s.size := ⟨_, rfl⟩
  have hln : n ≤ 1099511627776 := by omega
  have HLn : Hid (n = l.length) := hideG (by omega)
  clear hZ hs hl hz
  go_enter Tryd.func37, Tryd.ntmps37
  go_wp2
  go_loopw [4, 5] (fun v iw wr => ∃ (i m : Nat) (a : Option Addr) (c : Nat), i ≤ n ∧ m ≤ i ∧ iw = .int .i64 i ∧ v = .slice a m c ∧ Hid (Z = gd (l.drop i)) ∧ Hid (GroX w wr (.slice a m c) m)) (fun _ iw _ => n - (intOf iw).toNat)
  case atStart => exact ⟨0, 0, _, _, by omega, by omega, rfl, rfl, hideG (by rw [HZ.out, List.drop_zero]), hideG ⟨_, gro_empty w w 85 3 (Kept.refl _ _)⟩⟩
  case round =>
    obtain ⟨i, m, a, c, hi, hmi, rfl, rfl, HD, HG⟩ := hrel
    clear HZ
    by_cases hlt : i < n
    · have hil : i < l.length := by rw [← HLn.out]; exact hlt
      have his : i < s.size := by rw [← hn]; exact hlt
      have hii : (i : Int) < (n : Int) := by omega
      have c0 := HX.out i hil his
      have hd : l.drop i = l[i] :: l.drop (i + 1) := List.drop_eq_getElem_cons hil
      have HD2 := HD.out
      rw [hd] at HD2
      generalize l[i] = x at *
      by_cases h42 : x = 42
      · subst h42
        have HQ : Hid (Z = gd (l.drop (i + 1))) := hideG (by rw [HD2, gd42])
        have y0 : s[i].toNat = 42 := by rw [c0]; rfl
        clear c0 hd HD2 HD HX
        go_wp2_with (at_builtin; refine wpList_pushE rfl _ _ rfl _ m true false 0 rfl HG _ (by first | rfl | simp) rfl (by omega) ?_; clear HG; intro a1 c1 W1 G1)
        go_roundw
        case rel => exact ⟨i + 1, m + 1, a1, c1, by omega, by omega, by go_num, rfl, HQ, G1⟩
        case measure => simp [intOf]; omega
      · by_cases h63 : x = 63
        · subst h63
          have HQ : Hid (Z = gd (l.drop (i + 1))) := hideG (by rw [HD2, gd63])
          have y0 : s[i].toNat = 63 := by rw [c0]; rfl
          clear c0 hd HD2 HD HX
          go_wp2_with (at_builtin; refine wpList_pushE rfl _ _ rfl _ m false true 0 rfl HG _ (by first | rfl | simp) rfl (by omega) ?_; clear HG; intro a1 c1 W1 G1)
          go_roundw
          case rel => exact ⟨i + 1, m + 1, a1, c1, by omega, by omega, by go_num, rfl, HQ, G1⟩
          case measure => simp [intOf]; omega
        · by_cases h92 : x = 92
          · subst h92
            have y0 : s[i].toNat = 92 := by rw [c0]; rfl
            by_cases hE : i + 1 < n
            · have hil2 : i + 1 < l.length := by rw [← HLn.out]; exact hE
              have his2 : i + 1 < s.size := by rw [← hn]; exact hE
              have hd2 : l.drop (i + 1) = l[i + 1] :: l.drop (i + 1 + 1) := List.drop_eq_getElem_cons hil2
              rw [hd2] at HD2
              have HQ : Hid (Z = gd (l.drop (i + 1 + 1))) := hideG (by rw [HD2, gd92])
              obtain ⟨q, hq⟩ : ∃ q, q = s[i + 1].toNat := ⟨_, rfl⟩
              have hqb : q < 256 := by rw [hq]; exact s[i + 1].toNat_lt
              have y1 : s[i + 1].toNat = q := hq.symm
              have e1 : ((i : Int) + 1 == (n : Int)) = false := by simp; omega
              have e2 : ¬ ((i : Int) + 1 = (n : Int)) := by omega
              clear c0 hd HD2 HD HX hd2 hq
              go_wp2_with (at_builtin; refine wpList_pushE rfl _ _ rfl _ m false false (q : Int) rfl HG _ (by first | rfl | simp) rfl (by omega) ?_; clear HG; intro a1 c1 W1 G1)
              go_roundw
              case rel => exact ⟨i + 1 + 1, m + 1, a1, c1, by omega, by omega, by go_num, rfl, HQ, G1⟩
              case measure => simp [intOf]; omega
            · obtain rfl : n = i + 1 := by omega
              have HQ : Hid (Z = false) := hideG (by rw [HD2, List.drop_of_length_le (by have := HLn.out; omega), gd92n])
              obtain rfl : Z = false := HQ.out
              obtain ⟨xs, hg⟩ := HG.out
              have HK := hideG hg.kept
              clear c0 hd HD2 HD HX hg
              go_wp2
              go_ret2
              exact ⟨⟨_, rfl⟩, HK.out⟩
          · obtain ⟨q, hq⟩ : ∃ q, q = x.toNat := ⟨_, rfl⟩
            have hqb : q < 256 := by rw [hq]; exact x.toNat_lt
            have HQ : Hid (Z = gd (l.drop (i + 1))) := hideG (by rw [HD2, gdo _ _ h63 h42 h92])
            have y0 : s[i].toNat = q := by rw [c0, hq]
            have q1 : ((q : Int) == 63) = false := by rw [hq]; exact u8_int' x 63 h63
            have q2 : ((q : Int) == 42) = false := by rw [hq]; exact u8_int' x 42 h42
            have q3 : ((q : Int) == 92) = false := by rw [hq]; exact u8_int' x 92 h92
            clear c0 hd HD2 HD HX h63 h42 h92 hq
            go_wp2_with (at_builtin; refine wpList_pushE rfl _ _ rfl _ m false false (q : Int) rfl HG _ (by first | rfl | simp) rfl (by omega) ?_; clear HG; intro a1 c1 W1 G1)
            go_roundw
            case rel => exact ⟨i + 1, m + 1, a1, c1, by omega, by omega, by go_num, rfl, HQ, G1⟩
            case measure => simp [intOf]; omega
    · obtain rfl : i = n := by omega
      have HQ : Hid (Z = true) := hideG (by rw [HD.out, List.drop_of_length_le (by rw [HLn.out]; exact Nat.le_refl _), gdn])
      obtain rfl : Z = true := HQ.out
      obtain ⟨xs, hg⟩ := HG.out
      have HK := hideG hg.kept
      clear HX HD HQ hg
      go_wp2
      go_ret2
      exact ⟨⟨_, rfl⟩, HK.out⟩
theorem rgood_any (l : List UInt8) (w : World) (hl : l.length ≤ 1099511627776) :
    Calls Tryd.prog 35 #[.string (bq l)] w fun e w' => e = .returned (.bool (gd l)) ∧ Kept (fun _ => False) w w' := by
  have CE := hideG (relements_any l w hl)
  go_enter Tryd.func35, Tryd.ntmps35
  go_wp2_with (go_at_call 37; refine CE.out.mono ?_; clear CE; rintro e W ⟨⟨v, rfl⟩, K1⟩)
  go_ret
  exact ⟨rfl, K1⟩
end Go.Proofs.YtacmmclamkhpcaaDoor
