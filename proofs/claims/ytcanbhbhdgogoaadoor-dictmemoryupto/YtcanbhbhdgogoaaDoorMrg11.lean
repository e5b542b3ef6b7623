import Derived.Test.YtcanbhbhdgogoaaDoorRdB
import Derived.Laws.AppendOwnNone
import Derived.BigQuiet
import Derived.OrdersHeld
import Derived.Deep.RegionWith
import Derived.Laws.MakeOwn
import Derived.Deep.AppendLies
import Derived.Deep.RegionLaw
import Derived.ArgAppend
namespace Go.Proofs.YtcanbhbhdgogoaaDoor
open Go.ChangeShapes Go.WideShapes Go.ChangeAt Go.RowKit
theorem hideCW {p : Prop} (h : p) : Hid p := h
theorem own_bytesFW {w : World} {base g n cap : Nat} {l : List Int} (h : w.ownsRow base 5 1 (.slice (some ⟨g, 0, none⟩) n cap) n (bs l)) : BytesAt w (some ⟨g, 0, none⟩) l ∧ g < w.heap.size := by
  obtain ⟨a, c, e, hb, _⟩ := bytes_of_own h
  simp only [Value.slice.injEq] at e
  obtain ⟨rfl, _, _⟩ := e
  refine ⟨hb, ?_⟩
  rcases h.2 with ⟨e, _⟩ | ⟨g', cap', cur, hv, _, hg, _⟩
  · cases e
  · simp only [Value.slice.injEq, Option.some.injEq, Addr.mk.injEq, and_true] at hv
    obtain ⟨rfl, _⟩ := hv
    exact lt_of_block hg
theorem bytes_keptFW {w w' : World} {a : Option Addr} {l : List Int} (h : BytesAt w a l) (k : Kept (fun _ => False) w w') : BytesAt w' a l := by
  intro hne
  obtain ⟨b, off, e, hc⟩ := h hne
  exact ⟨b, off, e, fun j hj => k.cell (hc j hj) (fun f => f)⟩

/-- A slice of bytes in memory that is younger than w. -/
structure OwnBW (w W : World) (v : Value) (xs : List Int) : Prop where
  row : W.ownsRow w.heap.size 5 1 v xs.length (bs xs)
  kept : Kept (fun _ => False) w W
theorem ownB_emptyW (w : World) : OwnBW w (w.alloc (.cells #[] 5)) (.slice (some ⟨w.heap.size, 0, none⟩) 0 0) [] :=
  ⟨⟨rfl, .inr ⟨w.heap.size, 0, #[], rfl, Nat.le_refl _, heap_alloc_new w _, Nat.le_refl _, Nat.zero_le _, rfl, rfl⟩⟩, Kept.alloc w _⟩
theorem OwnBW.at {w W : World} {v : Value} {xs : List Int} (h : OwnBW w W v xs) : ∃ a c, v = .slice a xs.length c ∧ BytesAt W a xs ∧ (a = none → c = 0) := by
  obtain ⟨a, c, e, hb, _⟩ := bytes_of_own h.row
  refine ⟨a, c, e, hb, fun ha => ?_⟩
  rcases h.row.2 with ⟨e', _⟩ | ⟨g, cap, cur, e', _⟩
  · rw [e] at e'; simp only [Value.slice.injEq] at e'; exact e'.2.2
  · rw [e, ha] at e'; simp at e'
theorem OwnBW.grow {w W W' : World} {v v' : Value} {xs ys : List Int} (h : OwnBW w W v xs) (h1 : W'.ownsRow w.heap.size 5 1 v' ys.length (bs ys)) (h2 : W.grownBy W' v.ownBlock) : OwnBW w W' v' ys := by
  refine ⟨h1, h.kept.trans (Kept.grown h2) ?_⟩
  intro i hi
  rcases h.row.2 with ⟨e, _⟩ | ⟨g, cap, cur, e, hg, _⟩
  · rw [e] at hi; simp [Value.ownBlock] at hi
  · rw [e] at hi
    simp only [Value.ownBlock, Option.some.injEq] at hi
    exact .inr (by omega)
/-- append(x, y...) of bytes: one law for whatever y. -/
theorem wpList_appW {w W : World} {ops : Array Oper} {rest : List Oper} {o : Oper} {act : Act} {Q : Exit → Act → World → Prop} (hgd : o.guard = none) (s x : Operand)
    (ho : o.op = .call { callee := .builtin .append, args := #[s, x], argTypes := #[25, 25] })
    (v : Value) (xs l : List Int) (hs : act.eval s = v) (ad : Option Addr) (c : Nat) (hx : act.eval x = .slice ad l.length c)
    (hown : Hid (OwnBW w W v xs)) (hB : Hid (BytesAt W ad l)) (ha : Hid (ad = none → c = 0)) (hr : xs.length + l.length ≤ 140737488355328)
    (h : ∀ a' c' W', Hid (OwnBW w W' (.slice a' (xs ++ l).length c') (xs ++ l)) → wpList Tryd.prog ops Q rest (act.put o.dst (.slice a' (xs ++ l).length c')) W') : wpList Tryd.prog ops Q (o :: rest) act W := by
  obtain ⟨i0, hi, hz0, hz1, hz2⟩ := info_parts Tryd.infoB
  have hle : w.heap.size ≤ W.heap.size := hown.out.kept.size
  cases ad with
  | none =>
    obtain rfl : l = [] := by
      cases l with
      | nil => rfl
      | cons x r => obtain ⟨b, off, e, _⟩ := hB.out (by simp); cases e
    obtain rfl := ha.out rfl
    obtain ⟨a', c', rfl, _⟩ := hown.out.at
    refine wpList_append_own_none hgd s x 25 ho w.heap.size 5 i0 1 Tryd.underlying25 hi _ _ _ hs hown.out.row hx ?_
    have := h a' c' W (by rw [List.append_nil]; exact hown)
    rwa [List.append_nil] at this
  | some ad =>
    have hcl : ∀ j u, (bs l)[j]? = some u → W.cell? (ad.add j) = some u := by
      by_cases hl : l = []
      · subst hl; intro j u hu; simp [bs] at hu
      · obtain ⟨b, off, e, hcc⟩ := hB.out hl
        cases e
        exact BytesAt.cells hcc
    refine wpList_append_own_at _ hgd s x 25 ho w.heap.size 5 i0 (.int .u8 0) 1 1 Tryd.underlying25 hi hz0 hz1 hz2 rfl (by decide) _ _ _ hs hown.out.row ad l.length c (bs l) hx (by rw [bs_length]; omega) hcl (bs_one l) (by unfold maxLen; omega) (by omega) hle ?_
    intro v' w1 hown1 hgrow _ _
    have e : bs xs ++ bs l = bs (xs ++ l) := by simp [bs]
    rw [e, ← List.length_append] at hown1
    have q := hown.out.grow hown1 hgrow
    obtain ⟨a', c', rfl, _⟩ := q.at
    exact h a' c' w1 q
/-- The same, with lists and lengths that have names. -/
theorem wpList_apnW {w W : World} {ops : Array Oper} {rest : List Oper} {o : Oper} {act : Act} {Q : Exit → Act → World → Prop} (hgd : o.guard = none) (s x : Operand)
    (ho : o.op = .call { callee := .builtin .append, args := #[s, x], argTypes := #[25, 25] })
    (v : Value) (xs l ys : List Int) (m n : Nat) (hs : act.eval s = v) (ad : Option Addr) (c : Nat) (hx : act.eval x = .slice ad m c)
    (hm : Hid (m = l.length)) (hys : Hid (ys = xs ++ l)) (hn : Hid (n = ys.length))
    (hown : Hid (OwnBW w W v xs)) (hB : Hid (BytesAt W ad l)) (ha : Hid (ad = none → c = 0)) (hr : Hid (ys.length ≤ 140737488355328))
    (h : ∀ a' c' W', Hid (OwnBW w W' (.slice a' n c') ys) → wpList Tryd.prog ops Q rest (act.put o.dst (.slice a' n c')) W') : wpList Tryd.prog ops Q (o :: rest) act W := by
  have h1 := hm.out
  have h2 := hys.out
  have h3 := hn.out
  have h4 := hr.out
  clear hm hys hn hr
  subst h1 h2 h3
  exact wpList_appW hgd s x ho v xs l hs ad c hx hown hB ha (by rw [List.length_append] at h4; exact h4) h
theorem OwnBW.alloc {w W : World} {v : Value} {xs : List Int} (h : OwnBW w W v xs) (o : Obj) : OwnBW w (W.alloc o) v xs :=
  ⟨(Kept.alloc W o).row h.row (fun _ _ f => f), h.kept.trans (Kept.alloc W o) (fun _ f => f.elim)⟩
theorem built_bytesW (w : World) (l : List Int) (fr : Nat × Nat) : BytesAt (w.alloc (.cells (bs l).toArray 5 fr)) (some ⟨w.heap.size, 0, none⟩) l := by
  intro _
  refine ⟨w.heap.size, 0, rfl, fun k hk => ?_⟩
  rw [Nat.zero_add, World.cell?_alloc_mark]
  simp [bs, List.getElem?_eq_getElem hk]

/-- What Mark answers hangs on its two numbers alone. -/
def MarkIsW (mk : Nat → Nat → Int) : Prop := ∀ (i j : Nat), i < 281474976710656 → j < 281474976710656 → ∀ w, Calls Tryd.prog 26 #[.int .i64 i, .int .i64 j] w fun e w' => e = .returned (.int .i64 (mk i j)) ∧ w' = w
set_option maxRecDepth 20000 in
set_option maxHeartbeats 1000000 in
theorem mark_oneW (i j : Nat) (hi : i < 281474976710656) (hj : j < 281474976710656) : ∃ m : Int, ∀ w, Calls Tryd.prog 26 #[.int .i64 i, .int .i64 j] w fun e w' => e = .returned (.int .i64 m) ∧ w' = w := by
  apply Exists.intro
  case h =>
    intro w
    go_enter Tryd.func26, Tryd.ntmps26
    go_wp2
    go_ret
    exact ⟨rfl, rfl⟩
theorem mark_funW : ∃ mk, MarkIsW mk := by
  have h : ∀ i j : Nat, ∃ m : Int, i < 281474976710656 → j < 281474976710656 → ∀ w, Calls Tryd.prog 26 #[.int .i64 i, .int .i64 j] w fun e w' => e = .returned (.int .i64 m) ∧ w' = w := by
    intro i j
    by_cases hi : i < 281474976710656
    · by_cases hj : j < 281474976710656
      · obtain ⟨m, hm⟩ := mark_oneW i j hi hj
        exact ⟨m, fun _ _ => hm⟩
      · exact ⟨0, fun _ h => (hj h).elim⟩
    · exact ⟨0, fun h => (hi h).elim⟩
  exact ⟨fun i j => Classical.choose (h i j), fun i j hi hj w => Classical.choose_spec (h i j) hi hj w⟩
/-- A mark's byte. -/
def mkbW (mk : Nat → Nat → Int) (i j : Nat) : Int := mk i j % 256
theorem mkb_byteW (mk : Nat → Nat → Int) (i j : Nat) : 0 ≤ mkbW mk i j ∧ mkbW mk i j ≤ 255 := by unfold mkbW; omega
def mksW (mk : Nat → Nat → Int) (i n : Nat) : List Int := (List.range n).map (mkbW mk i)
theorem mks_lengthW (mk : Nat → Nat → Int) (i n : Nat) : (mksW mk i n).length = n := by simp [mksW]
theorem mks_succW (mk : Nat → Nat → Int) (i n : Nat) : mksW mk i (n + 1) = mksW mk i n ++ [mkbW mk i n] := by simp [mksW, List.range_succ]
theorem mks_getW (mk : Nat → Nat → Int) (i n j : Nat) (h : j < n) : (mksW mk i n)[j]?.getD 0 = mkbW mk i j := by simp [mksW, h]
theorem mks_bytesW (mk : Nat → Nat → Int) (i n : Nat) : IsBytes (mksW mk i n) := by
  intro x hx
  obtain ⟨j, _, rfl⟩ := List.mem_map.1 hx
  exact mkb_byteW mk i j

set_option maxRecDepth 20000 in
set_option maxHeartbeats 2000000 in
theorem spare_anyW (mk : Nat → Nat → Int) (hmk : MarkIsW mk) (l : List Int) (a : Option Addr) (c : Nat) (w : World) (hB : BytesAt w a l) (ha : a = none → c = 0) (hl : l.length ≤ 140737488354000) :
    Calls Tryd.prog 10 #[.slice a l.length c] w fun e w' => ∃ g c', e = .returned (.tuple #[.slice (some ⟨g, 0, none⟩) l.length c', .slice (some ⟨g, 0, none⟩) (l.length + 80) c']) ∧ OwnBW w w' (.slice (some ⟨g, 0, none⟩) (l.length + 80) c') (l ++ mksW mk 7 80) := by
  obtain ⟨n, hn⟩ : ∃ n, n = l.length := ⟨_, rfl⟩
  obtain ⟨i0, hi, hz0, hz1, hz2⟩ := info_parts Tryd.infoB
  obtain ⟨w1, hrun, hown, hgrow⟩ := run_make_own (P := Tryd.prog) (w := w) w.heap.size 25 5 i0 (.int .u8 0) 1 Tryd.underlying25 hi hz0 hz1 .i64 .i64 (n + 80) (by rw [hz2]; omega) (by unfold maxLen; omega) (Nat.le_refl _)
  rw [show ((n + 80 : Nat) : Int) = (n : Int) + 80 by omega] at hrun
  have k1 : Kept (fun _ => False) w w1 := (Kept.grown hgrow).mono (fun _ e => by cases e)
  have PE : Hid (OwnBW w w1 (.slice (some ⟨w.heap.size, 0, none⟩) 0 (n + 80)) []) := ⟨hown, k1⟩
  have QE : Hid (BytesAt w1 a l) := bytes_keptFW hB k1
  clear hi hz0 hz1 hz2 hown hgrow k1
  have NL := hideCW hn
  have YL : Hid (l = [] ++ l) := rfl
  have LL : Hid (l.length ≤ 140737488355328) := by show l.length ≤ _; omega
  have ZL := hideCW ha
  rw [← hn]
  have hln : n ≤ 140737488354000 := by omega
  have i1 : ((n : Int) + 80).toNat = n + 80 := by omega
  have i3 : IntKind.i64.wrap ((n : Int) + 80) = (n : Int) + 80 := by rw [IntKind.wrap_i64]; omega
  clear hB ha hn hl
  have HM := hideCW hmk
  clear hmk
  go_enter Tryd.func10, Tryd.ntmps10
  go_wp2_with (at_builtin; refine wpList_apnW rfl _ _ rfl _ [] l l n n rfl a c rfl NL YL NL PE QE ZL LL ?_; clear PE QE; intro a1 c1 W1 O1)
  go_loopw [4, 5] (fun f i wr => ∃ (k : Nat) (af : Option Addr) (m cf : Nat), k ≤ 80 ∧ m = n + k ∧ i = .int .i64 k ∧ f = .slice af m cf ∧ Hid (OwnBW w wr (.slice af m cf) (l ++ mksW mk 7 k))) (fun _ i _ => 80 - (intOf i).toNat)
  case atStart => exact ⟨0, a1, n, c1, Nat.zero_le _, rfl, rfl, rfl, by show OwnBW w W1 _ (l ++ []); rw [List.append_nil]; exact O1.out⟩
  case round =>
    obtain ⟨k, af, m, cf, hk, hm, rfl, rfl, HO⟩ := hrel
    subst hm
    clear O1
    by_cases hlt : k < 80
    · have MC := hideCW (HM.out 7 k (by decide) (by omega))
      have z7 : ((7 : Nat) : Int) = 7 := rfl
      rw [z7] at MC
      obtain ⟨ys, hys⟩ : ∃ ys, ys = l ++ mksW mk 7 (k + 1) := ⟨_, rfl⟩
      obtain ⟨ny, hny⟩ : ∃ n, n = ys.length := ⟨_, rfl⟩
      have hyl : ny = n + (k + 1) := by rw [hny, hys, List.length_append, mks_lengthW, ← NL.out]
      have YS : Hid (ys = (l ++ mksW mk 7 k) ++ [mkbW mk 7 k]) := by show ys = _; rw [hys, mks_succW, List.append_assoc]
      have NY := hideCW hny
      have LY : Hid (ys.length ≤ 140737488355328) := by show ys.length ≤ _; omega
      have HYS := hideCW hys
      have P1 := hideCW (HO.out.alloc (.cells (bs [mkbW mk 7 k]).toArray 5))
      have Q1 := hideCW (built_bytesW wr [mkbW mk 7 k] (0, 0))
      have Z1 : Hid ((some ⟨wr.heap.size, 0, none⟩ : Option Addr) = none → 1 = 0) := fun e => nomatch e
      have N1 : Hid (1 = [mkbW mk 7 k].length) := rfl
      have eb : mkbW mk 7 k = mk 7 k % 256 := rfl
      rw [eb] at YS P1 Q1 N1
      generalize mk 7 k = q at MC YS P1 Q1 N1
      have hq8 : IntKind.u8.wrap q = q % 256 := IntKind.wrap_u8 q
      have i2 : (k : Int) < 80 := by omega
      clear hys hny HO HM eb
      go_wp2_with (first | (go_at_call 26; refine (MC.out _).mono ?_; rintro e W4 ⟨rfl, e4⟩; subst e4) | (at_builtin; refine wpList_apnW rfl _ _ rfl _ _ [q % 256] ys 1 ny rfl (some ⟨W4.heap.size, 0, none⟩) 1 rfl N1 YS NY P1 Q1 Z1 LY ?_; clear P1 Q1; intro a3 c3 W3 P2))
      go_roundw
      case rel => exact ⟨k + 1, a3, n + (k + 1), c3, by omega, rfl, by go_num, rfl, by rw [← HYS.out, ← hyl]; exact P2⟩
      case measure => simp [intOf]; omega
    · obtain rfl : k = 80 := by omega
      obtain ⟨g, hg⟩ : ∃ g, af = some ⟨g, 0, none⟩ := by
        rcases HO.out.row.2 with ⟨_, e⟩ | ⟨g, cap, cur, e, _⟩
        · rw [List.length_append, mks_lengthW] at e; omega
        · simp only [Value.slice.injEq] at e
          exact ⟨g, e.1⟩
      subst hg
      have hcf : n + 80 ≤ cf := by
        rcases HO.out.row.2 with ⟨e, _⟩ | ⟨g', cap, cur, e, _, _, h1, _⟩
        · cases e
        · simp only [Value.slice.injEq] at e
          omega
      have j1 : (n : Int) ≤ (cf : Int) := by omega
      have j2 : n ≤ cf := by omega
      have i2 : ¬ ((80 : Nat) : Int) < 80 := by omega
      clear HM
      go_wp2
      go_ret2
      exact ⟨g, cf, rfl, HO.out⟩
set_option maxRecDepth 20000 in
set_option maxHeartbeats 2000000 in
theorem keptm_anyW (mk : Nat → Nat → Int) (hmk : MarkIsW mk) (l : List Int) (g cf : Nat) (b : Option Addr) (c n N : Nat) (w : World) (hF : BytesAt w (some ⟨g, 0, none⟩) (l ++ mksW mk 7 80)) (hB : BytesAt w b l) (hn : n = l.length) (hN : N = n + 80) (hl : l.length ≤ 140737488354000) :
    Calls Tryd.prog 12 #[.slice (some ⟨g, 0, none⟩) N cf, .slice b n c] w fun e w' => e = .returned (.bool true) ∧ Kept (fun _ => False) w w' := by
  obtain ⟨g', o', eg, hcf⟩ := hF (by intro e; have := congrArg List.length e; rw [List.length_append, mks_lengthW] at this; simp at this)
  simp only [Option.some.injEq, Addr.mk.injEq, and_true] at eg
  obtain ⟨rfl, rfl⟩ := eg
  have cA : Hid (∀ W, Kept (fun _ => False) w W → ∀ k, k < n → W.cell? ⟨g, k, none⟩ = some (.int .u8 (l[k]?.getD 0))) := by
    intro W q k hk
    have h := q.cell (hcf k (by rw [List.length_append, mks_lengthW]; omega)) (fun f => f)
    rw [List.getElem?_append_left (by omega), Nat.zero_add] at h
    exact h
  have cM : Hid (∀ W, Kept (fun _ => False) w W → ∀ k, k < 80 → W.cell? ⟨g, n + k, none⟩ = some (.int .u8 (mkbW mk 7 k))) := by
    intro W q k hk
    have h := q.cell (hcf (n + k) (by rw [List.length_append, mks_lengthW]; omega)) (fun f => f)
    rw [List.getElem?_append_right (by omega), show n + k - l.length = k by omega, mks_getW _ _ _ _ hk, Nat.zero_add] at h
    exact h
  have cB : Hid (∀ W, Kept (fun _ => False) w W → l ≠ [] → ∃ b0 o0, b = some ⟨b0, o0, none⟩ ∧ ∀ k, k < n → W.cell? ⟨b0, o0 + k, none⟩ = some (.int .u8 (l[k]?.getD 0))) := by
    intro W q hne
    obtain ⟨b0, o0, e, h⟩ := bytes_keptFW hB q hne
    exact ⟨b0, o0, e, fun k hk => h k (by omega)⟩
  have hne : n ≠ 0 → l ≠ [] := by intro h e; rw [e] at hn; exact h hn
  have HM := hideCW hmk
  have hnb : n ≤ 140737488354000 := by omega
  subst hN
  clear hF hB hcf hmk hn hl
  go_enter Tryd.func12, Tryd.ntmps12
  go_wp2
  go_loopw [15] (fun i wr => ∃ k : Nat, k ≤ n ∧ i = .int .i64 k ∧ Hid (Kept (fun _ => False) w wr)) (fun i _ => n - (intOf i).toNat)
  case atStart => exact ⟨0, Nat.zero_le _, rfl, Kept.refl _ _⟩
  case round =>
    obtain ⟨k, hk, rfl, HK⟩ := hrel
    by_cases hlt : k < n
    · obtain ⟨b0, o0, rfl, hb0⟩ := cB.out wr HK.out (hne (by omega))
      have x1 := cA.out wr HK.out k hlt
      have x2 := hb0 k hlt
      generalize l[k]?.getD 0 = y at x1 x2
      have i2 : (k : Int) < (n : Int) := by omega
      have i3 : (k : Int) < (n : Int) + 80 := by omega
      have i4 : k < n + 80 := by omega
      clear hb0 cA cB cM HM
      go_wp2
      go_quiet (fail)
      go_wp2
      go_roundw
      case rel => exact ⟨k + 1, by omega, by go_num, HK.out.trans (Kept.drewN _ _) (fun _ f => f.elim)⟩
      case measure => simp [intOf]; omega
    · have hkn : k = n := by omega
      subst hkn
      have i2 : ¬ ((k : Int) < (k : Int)) := by omega
      clear hlt hk cA cB
      go_wp2
      go_loopw [6] (fun i wr => ∃ j : Nat, j ≤ 80 ∧ i = .int .i64 j ∧ Hid (Kept (fun _ => False) w wr)) (fun i _ => 80 - (intOf i).toNat)
      case atStart => exact ⟨0, Nat.zero_le _, rfl, HK⟩
      case round =>
        obtain ⟨j, hj, rfl, HJ⟩ := hrel
        clear HK
        by_cases hjl : j < 80
        · have MC := hideCW (fun (W : World) => HM.out 7 j (by decide) (by omega) W)
          have z7 : ((7 : Nat) : Int) = 7 := rfl
          rw [z7] at MC
          have x1 := cM.out wr HJ.out j hjl
          have eb : mkbW mk 7 j = mk 7 j % 256 := rfl
          rw [eb] at x1
          generalize mk 7 j = q at x1 MC
          have hq8 : IntKind.u8.wrap q = q % 256 := IntKind.wrap_u8 q
          have j1 : (j : Int) < 80 := by omega
          have j2 : ((k : Int) + (j : Int)).toNat = k + j := by omega
          have j3 : (k : Int) + (j : Int) < (k : Int) + 80 := by omega
          have j5 : IntKind.i64.wrap ((k : Int) + (j : Int)) = (k : Int) + (j : Int) := by rw [IntKind.wrap_i64]; omega
          have j6 : (0 : Int) ≤ (k : Int) + (j : Int) := by omega
          have j4 : k + j < k + 80 := by omega
          clear cM HM eb
          go_wp2
          go_region_with (go_at_call 26; refine (MC.out _).mono ?_; rintro e W5 ⟨rfl, e5⟩; subst e5)
          all_goals
            go_wp2
            go_roundw
            case rel => exact ⟨j + 1, by omega, by go_num, HJ.out.trans (Kept.drewN _ 1) (fun _ f => f.elim)⟩
            case measure => simp [intOf]; omega
        · have j1 : ¬ ((j : Int) < 80) := by omega
          clear cM HM
          go_wp2
          go_ret
          exact ⟨rfl, HJ.out⟩
end Go.Proofs.YtcanbhbhdgogoaaDoor
namespace Go.Proofs.YtcanbhbhdgogoaaDoor
open Go.ChangeShapes Go.WideShapes Go.ChangeAt Go.RowKit

/-- The first j places marked, the others as they were. -/
def mkdW (mk : Nat → Nat → Int) (t j : Nat) (l : List Int) : List Int := mksW mk t j ++ l.drop j
theorem mkd_zeroW (mk : Nat → Nat → Int) (t : Nat) (l : List Int) : mkdW mk t 0 l = l := by simp [mkdW, mksW]
theorem mkd_allW (mk : Nat → Nat → Int) (t : Nat) (l : List Int) : mkdW mk t l.length l = mksW mk t l.length := by simp [mkdW]
theorem mkd_lengthW (mk : Nat → Nat → Int) (t j : Nat) (l : List Int) (h : j ≤ l.length) : (mkdW mk t j l).length = l.length := by
  rw [mkdW, List.length_append, mks_lengthW, List.length_drop]; omega
theorem mkd_setW (mk : Nat → Nat → Int) (t j : Nat) (l : List Int) (h : j < l.length) : (mkdW mk t j l).set j (mkbW mk t j) = mkdW mk t (j + 1) l := by
  have hm := mks_lengthW mk t j
  have e := List.drop_eq_getElem_cons h
  rw [mkdW, List.set_append_right _ _ (by omega), hm, Nat.sub_self, mkdW, mks_succW, List.append_assoc, e]
  rfl
theorem row_setW {W : World} {base g n c j : Nat} {l : List Int} {x : Int} (ho : W.ownsRow base 5 1 (.slice (some ⟨g, 0, none⟩) n c) n (bs l)) (hj : j < n) (hn : n = l.length) :
    (W.setCell ⟨g, j, none⟩ (.int .u8 x)).ownsRow base 5 1 (.slice (some ⟨g, 0, none⟩) n c) n (bs (l.set j x)) ∧ W.cell? ⟨g, j, none⟩ = some (.int .u8 (l[j]?.getD 0)) ∧ W.frozen? ⟨g, j, none⟩ = false := by
  rcases ho.2 with ⟨e, _⟩ | ⟨g', cap, cur, hv, hb, hg, h1, h2, h3, h4⟩
  · cases e
  simp only [Value.slice.injEq, Option.some.injEq, Addr.mk.injEq, and_true, true_and] at hv
  obtain ⟨rfl, rfl⟩ := hv
  have hc : W.cell? ⟨g, j, none⟩ = some (.int .u8 (l[j]?.getD 0)) := by
    rw [cell_of_row _ _ j _ _ _ hg]
    have h5 : (cur.toList.take (n * 1))[j]? = (bs l)[j]? := by rw [h4]
    rw [List.getElem?_take, if_pos (by omega), Array.getElem?_toList] at h5
    rw [h5]
    simp [bs, List.getElem?_eq_getElem (show j < l.length by omega)]
  refine ⟨⟨by rw [bs_length, List.length_set]; omega, .inr ⟨g, c, _, rfl, hb, heap_setCell_same W g j cur _ (.int .u8 x) hg, h1, h2, by simp [h3], ?_⟩⟩, hc, by simp [World.frozen?, hg]⟩
  rw [Array.toList_setIfInBounds, List.take_set, h4]
  simp [bs, List.map_set]
theorem own_bytesF'W {w : World} {base g n cap : Nat} {l : List Int} (h : w.ownsRow base 5 1 (.slice (some ⟨g, 0, none⟩) n cap) n (bs l)) : BytesAt w (some ⟨g, 0, none⟩) l := (own_bytesFW h).1
/-- A list of lists of bytes, each in memory of its own. -/
structure OwW (w W : World) (b off : Nat) (V : List Value) (X : Nat → List Int) : Prop where
  out : ∀ t (h : t < V.length), W.cell? ⟨b, off + t, none⟩ = some V[t]
  row : ∀ t (h : t < V.length), W.ownsRow 0 5 1 V[t] (X t).length (bs (X t))
  kept : Kept (fun k => ∃ v ∈ V, v.ownBlock = some k) w W
structure AptW (b : Nat) (V : List Value) : Prop where
  two : ∀ t s (ht : t < V.length) (hs : s < V.length), t ≠ s → ∀ g, V[t].ownBlock = some g → V[s].ownBlock ≠ some g
  outer : ∀ v ∈ V, v.ownBlock ≠ some b
theorem OwW.put {w W : World} {b off : Nat} {V : List Value} {X X' : Nat → List Int} {i j g n c : Nat} {x : Int} (h : OwW w W b off V X) (ha : AptW b V) (hi : i < V.length) (hv : V[i] = .slice (some ⟨g, 0, none⟩) n c) (hn : n = (X i).length) (hj : j < n) (hX : X' i = (X i).set j x) (hX2 : ∀ t, t ≠ i → X' t = X t) :
    OwW w (W.setCell ⟨g, j, none⟩ (.int .u8 x)) b off V X' := by
  have hr := h.row i hi
  rw [hv, ← hn] at hr
  obtain ⟨r1, r2, r3⟩ := row_setW (x := x) hr hj hn
  have hown : V[i].ownBlock = some g := by rw [hv]; rfl
  have ks := Kept.setCell W ⟨g, j, none⟩ (.int .u8 x)
  refine ⟨fun t ht => ks.cell (h.out t ht) (fun e => ha.outer _ (List.getElem_mem hi) (by rw [hown]; exact congrArg some e.symm)), fun t ht => ?_, h.kept.trans ks (fun k e => .inl ⟨V[i], List.getElem_mem hi, by rw [hown]; exact congrArg some e.symm⟩)⟩
  by_cases hti : t = i
  · subst hti
    rw [hX, List.length_set, ← hn, hv]
    exact r1
  · rw [hX2 t hti]
    exact ks.row (h.row t ht) (fun k e1 e2 => ha.two t i ht hi hti k e1 (by rw [hown]; exact congrArg some e2.symm))
/-- The lists while they grow: V as they came, V2 as they have grown. -/
structure OgW (mk : Nat → Nat → Int) (w W : World) (b off gb : Nat) (V V2 : List Value) (ns m : Nat → Nat) : Prop where
  len : V2.length = V.length
  out : ∀ t (h : t < V.length), W.cell? ⟨b, off + t, none⟩ = some V[t]
  old : ∀ t (h : t < V.length), ∃ a c, V[t] = .slice a (ns t) c ∧ BytesAt W a (mksW mk t (ns t)) ∧ (∀ ad, a = some ad → ad.off = 0 ∧ ad.spot = none)
  outG : ∃ cs : Array Value, W.heap[gb]? = some (.cells cs 25 (0, 0)) ∧ ∀ t (h : t < V2.length), cs[t]? = some V2[t]
  row : ∀ t (h : t < V2.length), W.ownsRow 0 5 1 V2[t] (m t) (bs (mksW mk t (m t)))
  two : ∀ t s (ht : t < V2.length) (hs : s < V2.length), t ≠ s → ∀ g, V2[t].ownBlock = some g → V2[s].ownBlock ≠ some g
  cross : ∀ t s (ht : t < V2.length) (hs : s < V.length), t ≠ s → ∀ g, V2[t].ownBlock = some g → V[s].ownBlock ≠ some g
  same : ∀ t, t < V.length → ns t ≤ m t
  far : ∀ v ∈ V2, v.ownBlock ≠ some gb ∧ v.ownBlock ≠ some b
  farV : gb ≠ b ∧ ∀ v ∈ V, v.ownBlock ≠ some gb
  new : ∀ v ∈ V2, ∀ g, v.ownBlock = some g → (∃ v' ∈ V, v'.ownBlock = some g) ∨ w.heap.size ≤ g
  newb : w.heap.size ≤ gb
  vlt : ∀ t (h : t < V.length) k, V[t].ownBlock = some k → k < W.heap.size
  blt : b < W.heap.size
  ow : ∀ t (h : t < V.length) g, V[t].ownBlock = some g → ∃ cur : Array Value, W.heap[g]? = some (.cells cur 5 (0, 0)) ∧ ns t ≤ cur.size
  kept : Kept (fun k => ∃ v ∈ V, v.ownBlock = some k) w W
theorem OgW.same' {mk : Nat → Nat → Int} {w W W' : World} {b off gb : Nat} {V V2 : List Value} {ns m : Nat → Nat} (h : OgW mk w W b off gb V V2 ns m) (k : Kept (fun _ => False) W W') : OgW mk w W' b off gb V V2 ns m := by
  obtain ⟨cs, c1, c2⟩ := h.outG
  exact ⟨h.len, fun t ht => k.cell (h.out t ht) (fun f => f), fun t ht => (h.old t ht).imp fun a ⟨c, e, hb, hz⟩ => ⟨c, e, bytes_keptFW hb k, hz⟩, ⟨cs, k.heap c1 (fun f => f), c2⟩, fun t ht => k.row (h.row t ht) (fun _ _ f => f), h.two, h.cross, h.same, h.far, h.farV, h.new, h.newb, fun t ht j e => Nat.lt_of_lt_of_le (h.vlt t ht j e) k.size, Nat.lt_of_lt_of_le h.blt k.size, fun t ht g e => (h.ow t ht g e).imp fun cur ⟨e1, e2⟩ => ⟨k.heap e1 (fun f => f), e2⟩, h.kept.trans k (fun _ f => f.elim)⟩
/-- grown[i] = append(grown[i], mark). -/
theorem OgW.grow {mk : Nat → Nat → Int} {w W W1 : World} {b off gb : Nat} {V V2 : List Value} {ns m m' : Nat → Nat} {i g cap : Nat} (h : OgW mk w W b off gb V V2 ns m) (hi : i < V2.length)
    (hrow : W1.ownsRow 0 5 1 (.slice (some ⟨g, 0, none⟩) (m i + 1) cap) (m i + 1) (bs (mksW mk i (m i + 1)))) (hat : V2[i].ownBlock = some g ∧ Kept (fun k => k = g) W W1 ∨ W.heap.size ≤ g ∧ Kept (fun _ => False) W W1) (hm : m' i = m i + 1) (hm2 : ∀ t, t ≠ i → m' t = m t) :
    W1.cell? ⟨gb, i, none⟩ = some V2[i] ∧ W1.frozen? ⟨gb, i, none⟩ = false ∧ OgW mk w (W1.setCell ⟨gb, i, none⟩ (.slice (some ⟨g, 0, none⟩) (m i + 1) cap)) b off gb V (V2.set i (.slice (some ⟨g, 0, none⟩) (m i + 1) cap)) ns m' := by
  obtain ⟨v', hv'⟩ : ∃ v' : Value, v' = .slice (some ⟨g, 0, none⟩) (m i + 1) cap := ⟨_, rfl⟩
  have ho' : v'.ownBlock = some g := by rw [hv']; rfl
  obtain ⟨cs, c1, c2⟩ := h.outG
  have hiV : i < V.length := by rw [← h.len]; exact hi
  have hf := h.far _ (List.getElem_mem hi)
  -- the block that is written is none of the others'
  have kg : Kept (fun k => k = g) W W1 := by
    rcases hat with ⟨_, k⟩ | ⟨_, k⟩
    · exact k
    · exact k.mono (fun _ f => f.elim)
  have gne : ∀ k, k < W.heap.size → V2[i].ownBlock ≠ some k → k ≠ g := by
    intro k hk hne e
    rcases hat with ⟨e1, _⟩ | ⟨e1, _⟩
    · exact hne (by rw [e1, e])
    · omega
  have hgb : gb < W.heap.size := lt_of_block c1
  have gbg : gb ≠ g := gne gb hgb hf.1
  have h1b : W1.heap[gb]? = some (.cells cs 25 (0, 0)) := kg.heap c1 gbg
  have ks := Kept.setCell W1 ⟨gb, i, none⟩ v'
  have hs := heap_setCell_same W1 gb i cs _ v' h1b
  have hci := c2 i hi
  rw [← hv']
  refine ⟨(cell_of_row _ _ i _ _ _ h1b).trans hci, by simp [World.frozen?, h1b], ?_⟩
  have hlenS : (V2.set i v').length = V2.length := List.length_set ..
  have hget : ∀ t (ht : t < (V2.set i v').length), (V2.set i v')[t] = if t = i then v' else V2[t]'(by rw [hlenS] at ht; exact ht) := by
    intro t ht
    rw [List.getElem_set]
    by_cases e : i = t
    · rw [if_pos e, if_pos e.symm]
    · rw [if_neg e, if_neg (fun e' => e e'.symm)]
  have rowlt : ∀ t (ht : t < V2.length) k, V2[t].ownBlock = some k → k < W.heap.size := fun t ht k hk => ((h.row t ht).lt k hk).2
  refine ⟨by rw [hlenS, h.len], fun t ht => ?_, fun t ht => ?_, ⟨_, hs, fun t ht => ?_⟩, fun t ht => ?_, fun t s ht hs' hts k e1 => ?_, fun t s ht hs' hts k e1 => ?_, fun t ht => ?_, fun v hv => ?_, h.farV, fun v hv k hk => ?_, h.newb, fun t ht k e => Nat.lt_of_lt_of_le (h.vlt t ht k e) (Nat.le_trans kg.size ks.size), Nat.lt_of_lt_of_le h.blt (Nat.le_trans kg.size ks.size), fun t ht k e1 => ?_, ?_⟩
  · -- out
    have hb := World.block_lt_of_cell? W _ (h.out t ht)
    refine ks.cell (kg.cell (h.out t ht) (gne b hb hf.2)) (fun e => h.farV.1 e.symm)
  · -- old
    obtain ⟨a, c, e, hb, hz⟩ := h.old t ht
    refine ⟨a, c, e, ?_, hz⟩
    intro hne
    obtain ⟨b', o', ea, hc⟩ := hb hne
    have hVt : V[t].ownBlock = some b' := by rw [e, ea]; rfl
    have hbgb : b' ≠ gb := fun e' => h.farV.2 _ (List.getElem_mem ht) (by rw [hVt, e'])
    have hblt : b' < W.heap.size := World.block_lt_of_cell? W ⟨b', o' + 0, none⟩ (hc 0 (List.length_pos_iff.2 hne))
    by_cases hbg : b' = g
    · -- in place: only where t is i
      have hti : t = i := by
        apply Classical.byContradiction
        intro hne2
        rcases hat with ⟨e1, _⟩ | ⟨e1, _⟩
        · exact h.cross i t hi ht (fun e' => hne2 e'.symm) g e1 (by rw [hVt, hbg])
        · omega
      subst hti
      have hle := h.same t ht
      have ho0 : o' = 0 := by
        have := (hz _ ea).1
        exact this
      refine ⟨b', o', ea, fun k hk => ?_⟩
      rw [mks_lengthW] at hk
      have hcell : W1.cell? ⟨g, k, none⟩ = some (.int .u8 (mkbW mk t k)) := by
        obtain ⟨b2, o2, e2, hc2⟩ := own_bytesF'W hrow (by intro e'; have := congrArg List.length e'; rw [mks_lengthW] at this; simp at this)
        simp only [Option.some.injEq, Addr.mk.injEq, and_true] at e2
        obtain ⟨rfl, rfl⟩ := e2
        have := hc2 k (by rw [mks_lengthW]; omega)
        rw [Nat.zero_add, mks_getW _ _ _ _ (by omega)] at this
        exact this
      rw [mks_getW _ _ _ _ hk, ho0, Nat.zero_add, hbg]
      exact ks.cell hcell (fun e' => gbg e'.symm)
    · exact ⟨b', o', ea, fun k hk => ks.cell (kg.cell (hc k hk) hbg) hbgb⟩
  · -- the outer list of those that grow
    rw [hlenS] at ht
    have hg2 := hget t (by rw [hlenS]; exact ht)
    rw [hg2]
    by_cases e : t = i
    · subst e
      rw [if_pos rfl, Array.getElem?_setIfInBounds_self, if_pos (Array.getElem?_eq_some_iff.1 hci).1]
    · rw [if_neg e, Array.getElem?_setIfInBounds_ne (fun e' => e e'.symm)]
      exact c2 t ht
  · -- rows
    have ht' : t < V2.length := by rw [hlenS] at ht; exact ht
    rw [hget t ht]
    by_cases e : t = i
    · subst e
      rw [if_pos rfl, hm]
      have hrow' := hrow
      rw [← hv'] at hrow'
      exact ks.row hrow' (fun k e1 e2 => gbg (by rw [ho'] at e1; rw [Option.some.inj e1]; exact e2.symm))
    · rw [if_neg e, hm2 t e]
      refine ks.row (kg.row (h.row t ht') (fun k e1 => gne k (rowlt t ht' k e1) (fun e2 => h.two t i ht' hi e k e1 e2))) (fun k e1 e2 => (h.far _ (List.getElem_mem ht')).1 (by rw [e1]; exact congrArg some e2))
  · -- two
    have ht' : t < V2.length := by rw [hlenS] at ht; exact ht
    have hs2 : s < V2.length := by rw [hlenS] at hs'; exact hs'
    rw [hget t ht] at e1
    rw [hget s hs']
    by_cases e : t = i
    · rw [if_pos e] at e1
      rw [if_neg (fun e' => hts (e.trans e'.symm))]
      intro e2
      have hkg : k = g := by rw [ho'] at e1; exact (Option.some.inj e1).symm
      rcases hat with ⟨q1, _⟩ | ⟨q1, _⟩
      · exact h.two s i hs2 hi (fun e' => hts (e.trans e'.symm)) k e2 (by rw [q1, hkg])
      · have := rowlt s hs2 k e2
        omega
    · rw [if_neg e] at e1
      by_cases e3 : s = i
      · rw [if_pos e3]
        intro e2
        have hkg : k = g := by rw [ho'] at e2; exact (Option.some.inj e2).symm
        exact gne k (rowlt t ht' k e1) (fun q => h.two t i ht' hi e k e1 q) hkg
      · rw [if_neg e3]
        exact h.two t s ht' hs2 hts k e1
  · -- cross
    have ht' : t < V2.length := by rw [hlenS] at ht; exact ht
    rw [hget t ht] at e1
    by_cases e : t = i
    · rw [if_pos e] at e1
      have hkg : k = g := by rw [ho'] at e1; exact (Option.some.inj e1).symm
      rcases hat with ⟨q1, _⟩ | ⟨q1, _⟩
      · subst e
        exact h.cross t s hi hs' hts k (by rw [q1, hkg])
      · intro e2
        obtain ⟨a, c, e3, hb, hz⟩ := h.old s hs'
        rw [e3] at e2
        have hlt : k < W.heap.size := by
          have hcell := h.out s hs'
          exact h.vlt s hs' k (by rw [e3]; exact e2)
        omega
    · rw [if_neg e] at e1
      exact h.cross t s ht' hs' hts k e1
  · -- lengths
    by_cases e : t = i
    · subst e
      rw [hm]
      have := h.same t ht
      omega
    · rw [hm2 t e]
      exact h.same t ht
  · -- far
    rcases List.mem_or_eq_of_mem_set hv with hv | rfl
    · exact h.far v hv
    · rw [ho']
      refine ⟨fun e => gbg (Option.some.inj e).symm, fun e => ?_⟩
      rcases hat with ⟨q1, _⟩ | ⟨q1, _⟩
      · exact hf.2 (by rw [q1]; exact e)
      · have hbl := h.blt
        have := Option.some.inj e
        omega
  · -- new
    rcases List.mem_or_eq_of_mem_set hv with hv | rfl
    · exact h.new v hv k hk
    · rw [ho'] at hk
      have hkg := Option.some.inj hk
      rcases hat with ⟨q1, _⟩ | ⟨q1, _⟩
      · exact h.new _ (List.getElem_mem hi) k (by rw [q1, hkg])
      · have := h.kept.size
        exact .inr (by omega)
  · -- ow
    obtain ⟨cur, hcur, hle⟩ := h.ow t ht k e1
    have hkgb : k ≠ gb := fun e' => h.farV.2 _ (List.getElem_mem ht) (by rw [e1, e'])
    by_cases hkg : k = g
    · have hti : t = i := by
        apply Classical.byContradiction
        intro hne2
        rcases hat with ⟨q1, _⟩ | ⟨q1, _⟩
        · exact h.cross i t hi ht (fun e' => hne2 e'.symm) g q1 (by rw [e1, hkg])
        · have := lt_of_block hcur
          omega
      subst hti
      have hle2 := h.same t ht
      rcases hrow.2 with ⟨e2, _⟩ | ⟨g2, cap2, cur2, e2, _, hg2, hn2, _, hs2, _⟩
      · simp at e2
      · simp only [Value.slice.injEq, Option.some.injEq, Addr.mk.injEq, and_true, true_and] at e2
        obtain ⟨e3, e4⟩ := e2
        rw [← e3, ← hkg] at hg2
        exact ⟨cur2, ks.heap hg2 hkgb, by omega⟩
    · exact ⟨cur, ks.heap (kg.heap hcur hkg) hkgb, hle⟩
  · -- kept
    refine (h.kept.trans kg ?_).trans ks ?_
    · intro k e
      rcases hat with ⟨q1, _⟩ | ⟨q1, _⟩
      · exact h.new _ (List.getElem_mem hi) k (by rw [q1, e])
      · have := h.kept.size
        exact .inr (by omega)
    · intro k e
      have := h.newb
      exact .inr (by simp only at e; omega)
theorem row_pushW {W : World} {base k n c : Nat} {l : List Int} {x : Int} (ho : W.ownsRow base 5 1 (.slice (some ⟨k, 0, none⟩) n c) n (bs l)) (hn : n = l.length) (hc : n + 1 ≤ c) :
    (W.setCell ⟨k, n, none⟩ (.int .u8 x)).ownsRow base 5 1 (.slice (some ⟨k, 0, none⟩) (n + 1) c) (n + 1) (bs (l ++ [x])) ∧ (W.cell? ⟨k, n, none⟩).isSome = true ∧ W.frozen? ⟨k, n, none⟩ = false := by
  rcases ho.2 with ⟨e, _⟩ | ⟨g', cap, cur, hv, hb, hg, h1, h2, h3, h4⟩
  · cases e
  simp only [Value.slice.injEq, Option.some.injEq, Addr.mk.injEq, and_true, true_and] at hv
  obtain ⟨rfl, rfl⟩ := hv
  have hlt : n < cur.size := by omega
  refine ⟨⟨by rw [bs_length, List.length_append]; simp; omega, .inr ⟨k, c, _, rfl, hb, heap_setCell_same W k n cur _ (.int .u8 x) hg, hc, h2, by simp [h3], ?_⟩⟩, ?_, by simp [World.frozen?, hg]⟩
  · rw [Array.toList_setIfInBounds, Nat.mul_one, List.take_add_one, List.take_set_of_le (by omega), bs_append]
    rw [Nat.mul_one] at h4
    rw [h4, List.getElem?_set_self (by simpa using hlt)]
    rfl
  · rw [cell_of_row _ _ n _ _ _ hg, Array.getElem?_eq_getElem hlt]
    rfl
/-- The append of a mark, as one step of a region that draws. -/
theorem step_growW {mk : Nat → Nat → Int} {W : World} {v : Value} {t m : Nat} {ops : Array Oper} {o : Oper} {a : Act} {K : Act → World → Prop} {Q : Exit → Act → World → Prop} {E : Prop} (hgd : o.guard = none) (s x : Operand)
    (ho : o.op = .call { callee := .builtin .append, args := #[s, x], argTypes := #[25, 25] }) (hrow : W.ownsRow 0 5 1 v m (bs (mksW mk t m))) (hs : a.eval s = v) (ad : Nat) (c : Nat) (hx : a.eval x = .slice (some ⟨ad, 0, none⟩) 1 c) (hc : W.cell? ⟨ad, 0, none⟩ = some (.int .u8 (mkbW mk t m))) (hm : m ≤ 140737488354900)
    (h : ∀ g cap W1, W1.ownsRow 0 5 1 (.slice (some ⟨g, 0, none⟩) (m + 1) cap) (m + 1) (bs (mksW mk t (m + 1))) → (v.ownBlock = some g ∧ Kept (fun k => k = g) W W1 ∨ W.heap.size ≤ g ∧ Kept (fun _ => False) W W1) → K (a.put o.dst (.slice (some ⟨g, 0, none⟩) (m + 1) cap)) W1) :
    if Region.wanted o (yielded ops a.tmps) = true then Oper.wp Tryd.prog o a W K Q else E := by
  obtain ⟨i0, hi, hz0, hz1, hz2⟩ := info_parts Tryd.infoB
  have hnews : ∀ j u, (bs [mkbW mk t m])[j]? = some u → W.cell? ((⟨ad, 0, none⟩ : Addr).add j) = some u := by
    intro j u hj
    match j, hj with
    | 0, hj => simp only [bs, List.map_cons, List.map_nil, List.getElem?_cons_zero, Option.some.injEq] at hj; subst hj; simpa [Addr.add] using hc
  have hms : bs (mksW mk t m) ++ bs [mkbW mk t m] = bs (mksW mk t (m + 1)) := by rw [mks_succW, bs_append]
  rcases hrow.2 with ⟨rfl, h0⟩ | ⟨k, cap, cur, rfl, hb, hg, h1, h2, h3, h4⟩
  · refine step_append_lies (w := W) hgd s x 25 ho 0 5 i0 (.int .u8 0) 1 1 Tryd.underlying25 hi hz0 hz1 hz2 rfl (by decide) _ m (bs (mksW mk t m)) hs hrow ⟨ad, 0, none⟩ 1 c (bs [mkbW mk t m]) hx rfl hnews (bs_one _) (by decide) (by unfold maxLen; omega) (by omega) (Nat.zero_le _) _ rfl ?_
    intro g cap w' r1 r2 r3 _
    rw [hms] at r1
    refine h g cap w' r1 (.inr ⟨?_, (Kept.grown r2).mono (fun _ e => by cases e)⟩)
    rcases r3 with e | e
    · cases e
    · omega
  · by_cases hroom : m + 1 ≤ cap
    · obtain ⟨q1, q2, q3⟩ := row_pushW (x := mkbW mk t m) hrow (mks_lengthW mk t m).symm hroom
      refine step_append_room hgd s x 25 ho 5 i0 1 Tryd.underlying25 hi hz1 k 0 m cap hs ⟨ad, 0, none⟩ 1 c (bs [mkbW mk t m]) hx rfl hnews (bs_one _) hroom ?_ ?_
      · intro j hj
        have : j = 0 := by simp [bs] at hj; omega
        subst this
        simp only [Nat.zero_add, Nat.mul_one, Nat.add_zero]
        exact ⟨q2, q3⟩
      · have e : W.setCells k (0 + m * 1) (bs [mkbW mk t m]) = W.setCell ⟨k, m, none⟩ (.int .u8 (mkbW mk t m)) := by
          rw [Nat.zero_add, Nat.mul_one]; rfl
        rw [e]
        rw [← mks_succW] at q1
        exact h k cap _ q1 (.inl ⟨rfl, Kept.setCell W ⟨k, m, none⟩ _⟩)
    · have hw : Region.wanted o (yielded ops a.tmps) = true := by simp [Region.wanted, hgd]
      rw [if_pos hw]
      have holds : ∀ j u, (bs (mksW mk t m))[j]? = some u → W.cell? ((⟨k, 0, none⟩ : Addr).add j) = some u := by
        intro j u hj
        rw [← h4, List.getElem?_take] at hj
        split at hj
        · have hadd : (⟨k, 0, none⟩ : Addr).add j = ⟨k, j, none⟩ := by rw [Go.WideShapes.add_plain, Nat.zero_add]
          rw [hadd, cell_of_row _ _ j _ _ _ hg]
          simpa using hj
        · cases hj
      obtain ⟨v', w', hrun, r1, r2⟩ := run_append_arg_grows (P := Tryd.prog) (w := W) 25 o.type 5 i0 (.int .u8 0) 1 1 Tryd.underlying25 hi hz0 hz1 hz2 rfl (by decide) ⟨k, 0, none⟩ m cap (bs (mksW mk t m)) (by rw [bs_length, mks_lengthW]; omega) holds ⟨ad, 0, none⟩ 1 c (bs [mkbW mk t m]) rfl hnews (by omega) (by unfold maxLen; omega) (by omega)
      rw [hms] at r1
      rcases r1.2 with ⟨_, e⟩ | ⟨g, cap', cur', rfl, hb', r⟩
      · omega
      unfold Oper.wp
      simp [execOp, ho, resolve, invoke, builtin, hs, hx, hrun, Result.andThen]
      exact h g cap' w' ⟨r1.1, .inr ⟨g, cap', cur', rfl, Nat.zero_le _, r⟩⟩ (.inr ⟨hb', (Kept.grown r2).mono (fun _ e => by cases e)⟩)
end Go.Proofs.YtcanbhbhdgogoaaDoor
namespace Go.Proofs.YtcanbhbhdgogoaaDoor
open Go.ChangeShapes Go.WideShapes Go.ChangeAt Go.RowKit

theorem OwW.congr {w W : World} {b off : Nat} {V : List Value} {X X' : Nat → List Int} (h : OwW w W b off V X) (e : ∀ t, t < V.length → X t = X' t) : OwW w W b off V X' :=
  ⟨h.out, fun t ht => by rw [← e t ht]; exact h.row t ht, h.kept⟩
theorem row_sliceW {W : World} {base n : Nat} {v : Value} {xs : List Value} (h : W.ownsRow base 5 1 v n xs) : ∃ a c, v = .slice a n c ∧ (0 < n → ∃ g, a = some ⟨g, 0, none⟩) ∧ (∀ ad, a = some ad → ad.off = 0 ∧ ad.spot = none) := by
  rcases h.2 with ⟨rfl, e⟩ | ⟨g, cap, cur, rfl, _⟩
  · exact ⟨none, 0, by rw [e], fun h => by omega, fun ad e => by cases e⟩
  · exact ⟨_, _, rfl, fun _ => ⟨g, rfl⟩, fun ad e => by cases e; exact ⟨rfl, rfl⟩⟩
theorem Tryd.infoSlW : (Tryd.prog.info? 25).map (fun i => (i.zero, i.size, i.bytes)) = some (some (.slice none 0 0), 1, 24) := by kernel_rfl
theorem og_startW {mk : Nat → Nat → Int} {w wr w1 : World} {b off gb : Nat} {V : List Value} {ns : Nat → Nat} {cs : Array Value} (h : OwW w wr b off V (fun t => mksW mk t (ns t))) (ha : AptW b V) (hb : b < w.heap.size) (k : Kept (fun _ => False) wr w1) (hgb : wr.heap.size ≤ gb) (hc : w1.heap[gb]? = some (.cells cs 25 (0, 0))) (ht : cs.toList.take V.length = V) :
    OgW mk w w1 b off gb V V ns (fun t => ns t + 0) := by
  have hsz := h.kept.size
  have rw1 : ∀ t (ht : t < V.length), w1.ownsRow 0 5 1 V[t] (ns t) (bs (mksW mk t (ns t))) := fun t ht => by
    have := k.row (h.row t ht) (fun _ _ f => f)
    rwa [mks_lengthW] at this
  have hlt : ∀ t (ht : t < V.length) j, V[t].ownBlock = some j → j < wr.heap.size := fun t ht j e => ((h.row t ht).lt j e).2
  have hmem : ∀ v ∈ V, ∀ j, v.ownBlock = some j → j < wr.heap.size := fun v hv j e => by
    obtain ⟨t, ht, rfl⟩ := List.mem_iff_getElem.1 hv
    exact hlt t ht j e
  refine ⟨rfl, fun t ht => k.cell (h.out t ht) (fun f => f), fun t ht => ?_, ⟨cs, hc, fun t h2 => ?_⟩, fun t ht => by rw [Nat.add_zero]; exact rw1 t ht, ha.two, fun t s ht hs hts => ha.two t s ht hs hts, fun t _ => by rw [Nat.add_zero]; exact Nat.le_refl _, fun v hv => ⟨fun e => ?_, ha.outer v hv⟩, ⟨by omega, fun v hv e => ?_⟩, fun v hv g e => .inl ⟨v, hv, e⟩, by omega, fun t ht j e => Nat.lt_of_lt_of_le (hlt t ht j e) k.size, by have := k.size; omega, fun t ht g e => ?_, h.kept.trans k (fun _ f => f.elim)⟩
  · obtain ⟨a, c, e, hp, hz⟩ := row_sliceW (rw1 t ht)
    refine ⟨a, c, e, ?_, hz⟩
    have hr := rw1 t ht
    rw [e] at hr
    intro hne
    obtain ⟨g, rfl⟩ := hp (by have := List.length_pos_iff.2 hne; rw [mks_lengthW] at this; exact this)
    exact own_bytesF'W hr hne
  · have h3 : (cs.toList.take V.length)[t]? = V[t]? := by rw [ht]
    rw [List.getElem?_take, if_pos h2, Array.getElem?_toList, List.getElem?_eq_getElem h2] at h3
    exact h3
  · have := hmem v hv gb e
    omega
  · have := hmem v hv gb e
    omega
  · have hr := rw1 t ht
    rcases hr.2 with ⟨e2, _⟩ | ⟨g2, cap2, cur2, e2, _, hg2, hn2, _, hs2, _⟩
    · rw [e2] at e; simp [Value.ownBlock] at e
    · rw [e2] at e
      simp only [Value.ownBlock, Option.some.injEq] at e
      subst e
      exact ⟨cur2, hg2, by omega⟩
/-- What Own leaves: each list marked; nothing else written. -/
structure OwnPostW (mk : Nat → Nat → Int) (V : List Value) (L : Nat → List Int) (w w' : World) : Prop where
  marked : ∀ t (h : t < V.length), ∃ a c, V[t] = .slice a (L t).length c ∧ BytesAt w' a (mksW mk t (L t).length)
  ow : ∀ t (h : t < V.length) g, V[t].ownBlock = some g → ∃ cur : Array Value, w'.heap[g]? = some (.cells cur 5 (0, 0)) ∧ (L t).length ≤ cur.size
  kept : Kept (fun k => ∃ v ∈ V, v.ownBlock = some k) w w'
/-- Whatever the world. -/
def Any0W (_ : World) : Prop := True
theorem any0W (W : World) : Any0W W := trivial
theorem wpOp_ofW {P : Program} {ops : Array Oper} {Q : Exit → Act → World → Prop} {i : Nat} {o : Oper} {K : Act → World → Prop} {a : Act} {w : World} (hi : ops[i]? = some o) (h : if Region.wanted o (yielded ops a.tmps) = true then Oper.wp P o a w K Q else K (a.put o.dst undef) w) : wpOp P ops Q i K a w := by
  unfold wpOp
  simp only [hi]
  by_cases hw : Region.wanted o (yielded ops a.tmps) = true
  · rw [if_pos hw] at h ⊢
    exact .inl h
  · rw [if_neg hw] at h ⊢
    exact h
theorem takeMW {P : Program} {ops : Array Oper} {Q : Exit → Act → World → Prop} {md : Region.Mode} {S : World → Prop} {i d : Nat} {oi : Oper} {v : Value} {fuel : Nat} {listed : Array Bool} {a : Act} {w : World} (hi : ops[i]? = some oi) (hd : oi.dst = some d)
    (hs : Region.noSelect ops = true) (hf : Region.free md ops listed i = true) (hr : (Region.ready md ops listed).contains i = true)
    (hQ : ∀ c a w, Q (.panic c) (a.put (some d) v) w → Q (.panic c) a w) (hy : YieldsIf P ops S oi v a) (hS : S w)
    (h : wpAnyH P md ops Q S fuel (listed.setIfInBounds i true) (a.put (some d) v) w) : wpAnyH P md ops Q S (fuel + 1) listed a w := by
  rw [← hd] at hQ h
  exact wpAnyH_take hi hs hf hr hQ hy hS h
set_option maxRecDepth 20000 in
set_option maxHeartbeats 8000000 in
theorem own_anyW (mk : Nat → Nat → Int) (hmk : MarkIsW mk) (V : List Value) (L : Nat → List Int) (b off c N : Nat) (w : World) (hO : OwW w w b off V L) (hA : AptW b V) (hN : N = V.length) (hN0 : 0 < N) (hNb : N ≤ 68719476736) (hL : ∀ t, t < N → (L t).length ≤ 140737488354000) (hb : b < w.heap.size) :
    Calls Tryd.prog 13 #[.slice (some ⟨b, off, none⟩) N c] w fun e w' => e = .returned (.bool true) ∧ OwnPostW mk V L w w' := by
  have HM := hideCW hmk
  have HA := hideCW hA
  have HO := hideCW hO
  have HL := hideCW hL
  have HN := hideCW hN
  clear hmk hA hO hL hN
  go_enter Tryd.func13, Tryd.ntmps13
  go_wp2
  go_loopw [15] (fun i wr => ∃ k : Nat, k ≤ N ∧ i = .int .i64 k ∧ Hid (OwW w wr b off V (fun t => if t < k then mkdW mk t (L t).length (L t) else L t))) (fun i _ => N - (intOf i).toNat)
  case atStart => exact ⟨0, Nat.zero_le _, rfl, HO.out.congr (fun t _ => by simp)⟩
  case round =>
    obtain ⟨k, hk, rfl, HK⟩ := hrel
    by_cases hlt : k < N
    · have hkV : k < V.length := by rw [← HN.out]; exact hlt
      have hx := HK.out.out k hkV
      have hrw := HK.out.row k hkV
      simp only [Nat.lt_irrefl, if_false] at hrw
      obtain ⟨a, cc, hv, hva, _⟩ := row_sliceW hrw
      have hlen := HL.out k hlt
      rw [hv] at hx
      obtain ⟨n, hn⟩ : ∃ n, n = (L k).length := ⟨_, rfl⟩
      rw [← hn] at hx hva hlen
      have HV := hideCW hv
      have Hn := hideCW hn
      have i1 : (k : Int) < (N : Int) := by omega
      clear hrw hv hn
      go_wp2
      go_loopw [22] (fun j wr => ∃ q : Nat, q ≤ n ∧ j = .int .i64 q ∧ Hid (OwW w wr b off V (fun t => if t < k then mkdW mk t (L t).length (L t) else if t = k then mkdW mk k q (L k) else L t))) (fun j _ => n - (intOf j).toNat)
      case atStart =>
        refine ⟨0, Nat.zero_le _, rfl, HK.out.congr (fun t _ => ?_)⟩
        by_cases e1 : t < k
        · rw [if_pos e1, if_pos e1]
        · rw [if_neg e1, if_neg e1]
          by_cases e2 : t = k
          · rw [if_pos e2, mkd_zeroW, e2]
          · rw [if_neg e2]
      case round =>
        obtain ⟨q, hq, rfl, HQ⟩ := hrel
        clear HK hx
        by_cases hqn : q < n
        · obtain ⟨g, rfl⟩ := hva (by omega)
          have MC := hideCW (fun (W : World) => HM.out k q (by omega) (by omega) W)
          have hput := fun (x : Int) => HQ.out.put (X' := fun t => if t < k then mkdW mk t (L t).length (L t) else if t = k then (mkdW mk k q (L k)).set q x else L t) (x := x) (j := q) HA.out hkV (by rw [← Hn.out] at HV; exact HV.out) (by simp only [Nat.lt_irrefl, if_false, if_true]; rw [mkd_lengthW _ _ _ _ (by rw [← Hn.out]; exact hq), Hn.out]) hqn (by simp) (fun t ht => by simp [ht])
          have hrow := HQ.out.row k hkV
          simp only [Nat.lt_irrefl, if_false, if_true] at hrow
          rw [mkd_lengthW _ _ _ _ (by rw [← Hn.out]; exact hq), HV.out, ← Hn.out] at hrow
          obtain ⟨_, c1, c2⟩ := row_setW (x := 0) hrow hqn (by rw [mkd_lengthW _ _ _ _ (by rw [← Hn.out]; exact hq), Hn.out])
          have HP : Hid (OwW w (wr.setCell ⟨g, q, none⟩ (.int .u8 (mk k q % 256))) b off V (fun t => if t < k then mkdW mk t (L t).length (L t) else if t = k then mkdW mk k (q + 1) (L k) else L t)) := by
            refine (hput (mk k q % 256)).congr (fun t _ => ?_)
            have e0 : mk k q % 256 = mkbW mk k q := rfl
            rw [e0, mkd_setW _ _ _ _ (by rw [← Hn.out]; exact hqn)]
          generalize (mkdW mk k q (L k))[q]?.getD 0 = y0 at c1
          generalize mk k q = z at MC HP
          have hq8 : IntKind.u8.wrap z = z % 256 := IntKind.wrap_u8 z
          have i2 : (q : Int) < (n : Int) := by omega
          clear hput hrow HQ
          go_wp2_with (go_at_call 26; refine (MC.out _).mono ?_; rintro e W5 ⟨rfl, e5⟩; subst e5)
          go_roundw
          case rel => exact ⟨q + 1, by omega, by go_num, HP⟩
          case measure => simp [intOf]; omega
        · have hqe : q = n := by omega
          subst hqe
          have HF : Hid (OwW w wr b off V (fun t => if t < k + 1 then mkdW mk t (L t).length (L t) else L t)) := by
            refine HQ.out.congr (fun t _ => ?_)
            by_cases e1 : t < k
            · rw [if_pos e1, if_pos (by omega)]
            · rw [if_neg e1]
              by_cases e2 : t = k
              · rw [if_pos e2, if_pos (by omega), e2, Hn.out]
              · rw [if_neg e2, if_neg (by omega)]
          have i2 : ¬ ((q : Int) < (q : Int)) := by omega
          clear HQ
          go_wp2
          go_roundw
          case rel => exact ⟨k + 1, by omega, by go_num, HF⟩
          case measure => simp [intOf]; omega
    · obtain rfl : k = N := by omega
      obtain ⟨ns, hns⟩ : ∃ ns : Nat → Nat, ns = fun t => (L t).length := ⟨_, rfl⟩
      have H1 : OwW w wr b off V (fun t => mksW mk t (ns t)) := by
        refine HK.out.congr (fun t ht => ?_)
        rw [if_pos (by rw [HN.out]; exact ht), mkd_allW, hns]
      clear HK hlt hk
      obtain ⟨j0, hj, hy0, hy1, hy2⟩ := info_parts Tryd.infoSlW
      obtain ⟨o0, ho0⟩ : ∃ o : Obj, o = .cells #[] 25 := ⟨_, rfl⟩
      have kA := Kept.alloc wr o0
      have hnews : ∀ j u, V[j]? = some u → (wr.alloc o0).cell? ((⟨b, off, none⟩ : Addr).add j) = some u := by
        intro j u hju
        obtain ⟨hjl, rfl⟩ := List.getElem?_eq_some_iff.1 hju
        rw [Go.WideShapes.add_plain]
        exact kA.cell (H1.out j hjl) (fun f => f)
      have hone : ∀ u ∈ V, u.oneCell' = true := by
        intro u hu
        obtain ⟨t, ht, rfl⟩ := List.mem_iff_getElem.1 hu
        obtain ⟨a, c', e, _⟩ := row_sliceW (H1.row t ht)
        rw [e]; rfl
      have hown0 : (wr.alloc o0).ownsRow wr.heap.size 25 1 (.slice (some ⟨wr.heap.size, 0, none⟩) 0 0) 0 [] := by
        rw [ho0]
        exact ⟨rfl, .inr ⟨wr.heap.size, 0, #[], rfl, Nat.le_refl _, heap_alloc_new wr _, Nat.le_refl _, Nat.zero_le _, rfl, rfl⟩⟩
      have hlV : V.length = k * 1 := by rw [HN.out]; omega
      have hsz0 : wr.heap.size ≤ (wr.alloc o0).heap.size := kA.size
      have HH1 := hideCW H1
      clear H1
      subst ho0
      have i1 : ¬ ((k : Int) < (k : Int)) := by omega
      go_wp2_with (at_builtin; refine wpList_append_own_at _ rfl _ _ 42 rfl wr.heap.size 25 j0 (.slice none 0 0) 1 24 Tryd.underlying42 hj hy0 hy1 hy2 rfl (by decide) _ _ _ rfl hown0 ⟨b, off, none⟩ k c V rfl hlV hnews hone (by unfold maxLen; omega) (by omega) hsz0 ?_; clear hown0 hnews hone; intro v1 w1 hown1 hgrow1 _ _)
      rw [Nat.zero_add, List.nil_append] at hown1
      obtain ⟨gb, cG, cs, hv1, hgb, hcs, htk⟩ : ∃ gb cG cs, v1 = .slice (some ⟨gb, 0, none⟩) k cG ∧ wr.heap.size ≤ gb ∧ w1.heap[gb]? = some (.cells cs 25 (0, 0)) ∧ cs.toList.take V.length = V := by
        rcases hown1.2 with ⟨_, e⟩ | ⟨g, cap, cur, e, hb', hg', _, _, _, ht'⟩
        · omega
        · exact ⟨g, cap, cur, e, hb', hg', by rw [hlV]; exact ht'⟩
      subst hv1
      have kw1 : Kept (fun _ => False) wr w1 := kA.trans (Kept.grown hgrow1) (fun i e => .inr (by have e' := Option.some.inj (show some wr.heap.size = some i from e); omega))
      have HG0 := hideCW (og_startW (ns := ns) HH1.out HA.out hb kw1 hgb hcs htk)
      clear hown1 hgrow1 kw1 hgb hcs htk HH1 kA hj hy0 hy1 hy2 hlV hsz0
      obtain ⟨N, hNN⟩ : ∃ N, N = k := ⟨_, rfl⟩
      subst hNN
      have hnsb : ∀ t, t < N → ns t ≤ 140737488354000 := by rw [hns]; exact HL.out
      have HNS := hideCW hns
      have HNB := hideCW hnsb
      clear hns hnsb HL HO
      go_wp2
      go_loopw [7] (fun kk wr => ∃ (r : Nat) (V2 : List Value), r ≤ 80 ∧ kk = .int .i64 r ∧ Hid (OgW mk w wr b off gb V V2 ns (fun t => ns t + r))) (fun kk _ => 80 - (intOf kk).toNat)
      case atStart => exact ⟨0, V, Nat.zero_le _, rfl, HG0⟩
      case round =>
        obtain ⟨r, V2, hr, rfl, HR⟩ := hrel
        clear HG0
        by_cases hr80 : r < 80
        · have i2 : (r : Int) < 80 := by omega
          go_wp2
          go_loopw [43] (fun ii wr => ∃ (q : Nat) (V3 : List Value), q ≤ N ∧ ii = .int .i64 q ∧ Hid (OgW mk w wr b off gb V V3 ns (fun t => if t < q then ns t + r + 1 else ns t + r))) (fun ii _ => N - (intOf ii).toNat)
          case atStart => exact ⟨0, V2, Nat.zero_le _, rfl, by have h := HR.out; simp only [Nat.not_lt_zero, if_false]; exact h⟩
          case round =>
            obtain ⟨q, V3, hq, rfl, HQ⟩ := hrel
            clear HR
            by_cases hqN : q < N
            · have hq3 : q < V3.length := by rw [HQ.out.len, ← HN.out]; exact hqN
              have hrow := HQ.out.row q hq3
              simp only [Nat.lt_irrefl, if_false] at hrow
              obtain ⟨mq, hmq⟩ : ∃ m, m = ns q + r := ⟨_, rfl⟩
              rw [← hmq] at hrow
              have hnq := HNB.out q hqN
              have hmqb : mq ≤ 140737488354900 := by omega
              obtain ⟨a2, c2', hv2, _, _⟩ := row_sliceW hrow
              obtain ⟨cs2, hc2, hcs2⟩ := HQ.out.outG
              have x0 : wr.cell? ⟨gb, q, none⟩ = some (.slice a2 mq c2') := by rw [cell_of_row _ _ q _ _ _ hc2, hcs2 q hq3, hv2]
              have MC := hideCW (fun (W : World) => HM.out q mq (by omega) (by omega) W)
              have hrowA : (wr.alloc (.cells #[.int .u8 (mk q mq % 256)] 5)).drew.ownsRow 0 5 1 (.slice a2 mq c2') mq (bs (mksW mk q mq)) := by
                have h1 := (Kept.drewN (wr.alloc (.cells #[.int .u8 (mk q mq % 256)] 5)) 1).row ((Kept.alloc wr (.cells #[.int .u8 (mk q mq % 256)] 5)).row hrow (fun _ _ f => f)) (fun _ _ f => f)
                rwa [hv2] at h1
              have hcellA : (wr.alloc (.cells #[.int .u8 (mk q mq % 256)] 5)).drew.cell? ⟨wr.heap.size, 0, none⟩ = some (.int .u8 (mkbW mk q mq)) := (Kept.drewN (wr.alloc (.cells #[.int .u8 (mk q mq % 256)] 5)) 1).cell (cell_of_row _ _ 0 _ _ _ (heap_alloc_new wr _)) (fun f => f)
              have x0a : (wr.alloc (.cells #[.int .u8 (mk q mq % 256)] 5)).cell? ⟨gb, q, none⟩ = some (.slice a2 mq c2') := (Kept.alloc wr _).cell x0 (fun f => f)
              have HGR : Hid (∀ g cap W1, W1.ownsRow 0 5 1 (.slice (some ⟨g, 0, none⟩) (mq + 1) cap) (mq + 1) (bs (mksW mk q (mq + 1))) → ((Value.slice a2 mq c2').ownBlock = some g ∧ Kept (fun k => k = g) (wr.alloc (.cells #[.int .u8 (mk q mq % 256)] 5)).drew W1 ∨ (wr.alloc (.cells #[.int .u8 (mk q mq % 256)] 5)).drew.heap.size ≤ g ∧ Kept (fun _ => False) (wr.alloc (.cells #[.int .u8 (mk q mq % 256)] 5)).drew W1) → W1.cell? ⟨gb, q, none⟩ = some (.slice a2 mq c2') ∧ W1.frozen? ⟨gb, q, none⟩ = false ∧ Hid (OgW mk w (W1.setCell ⟨gb, q, none⟩ (.slice (some ⟨g, 0, none⟩) (mq + 1) cap)) b off gb V (V3.set q (.slice (some ⟨g, 0, none⟩) (mq + 1) cap)) ns (fun t => if t < q + 1 then ns t + r + 1 else ns t + r))) := by
                intro g cap W1 r1 r2
                have hO := (HQ.out.same' (Kept.alloc wr (.cells #[.int .u8 (mk q mq % 256)] 5))).same' (Kept.drewN _ 1)
                have hmm : (if q < q then ns q + r + 1 else ns q + r) = mq := by simp [hmq]
                have hgr := hO.grow (m' := fun t => if t < q + 1 then ns t + r + 1 else ns t + r) (g := g) (cap := cap) (W1 := W1) hq3 (by rw [hmm]; exact r1) (by rw [hv2]; exact r2) (by simp) (fun t ht => by
                  by_cases e1 : t < q
                  · simp [e1, show t < q + 1 by omega]
                  · simp [e1, show ¬ t < q + 1 by omega])
                rw [hmm, hv2] at hgr
                exact hgr
              have eb : mkbW mk q mq = mk q mq % 256 := rfl
              generalize mk q mq = z at MC hrowA hcellA HGR x0a eb
              have hq8 : IntKind.u8.wrap z = z % 256 := IntKind.wrap_u8 z
              have i3 : (q : Int) < (N : Int) := by omega
              clear hrow hv2 hc2 hcs2 HQ hmq hnq
              go_wp2
              refine wp_region_held (S := Any0W) (by kernel_rfl) ?_
              change wpAnyH _ _ _ _ _ _ _ _ (World.drew _)
              refine takeMW (i := 0) (d := 51) (v := .slice (some ⟨gb, 0, none⟩) N cG) rfl rfl (by kernel_rfl) (by kernel_rfl) (by kernel_rfl) (fun _ _ _ h => h) (Or.inl ⟨by rfl, fun W _ => ?_⟩) (any0W _) ?_
              · go_simp
              simp only [Act.put, List.setIfInBounds_toArray, List.set_cons_zero, List.set_cons_succ]
              refine takeMW (i := 1) (d := 52) (v := .int .i64 q) rfl rfl (by kernel_rfl) (by kernel_rfl) (by kernel_rfl) (fun _ _ _ h => h) (Or.inl ⟨by rfl, fun W _ => ?_⟩) (any0W _) ?_
              · go_simp
              simp only [Act.put, List.setIfInBounds_toArray, List.set_cons_zero, List.set_cons_succ]
              refine takeMW (i := 2) (d := 53) (v := .slice (some ⟨gb, 0, none⟩) N cG) rfl rfl (by kernel_rfl) (by kernel_rfl) (by kernel_rfl) (fun _ _ _ h => h) (Or.inl ⟨by rfl, fun W _ => ?_⟩) (any0W _) ?_
              · go_simp
              simp only [Act.put, List.setIfInBounds_toArray, List.set_cons_zero, List.set_cons_succ]
              refine takeMW (i := 3) (d := 54) (v := .int .i64 q) rfl rfl (by kernel_rfl) (by kernel_rfl) (by kernel_rfl) (fun _ _ _ h => h) (Or.inl ⟨by rfl, fun W _ => ?_⟩) (any0W _) ?_
              · go_simp
              simp only [Act.put, List.setIfInBounds_toArray, List.set_cons_zero, List.set_cons_succ]
              refine takeMW (i := 6) (d := 57) (v := .int .i64 q) rfl rfl (by kernel_rfl) (by kernel_rfl) (by kernel_rfl) (fun _ _ _ h => h) (Or.inl ⟨by rfl, fun W _ => ?_⟩) (any0W _) ?_
              · go_simp
              simp only [Act.put, List.setIfInBounds_toArray, List.set_cons_zero, List.set_cons_succ]
              refine takeMW (i := 7) (d := 58) (v := .int .i64 mq) rfl rfl (by kernel_rfl) (by kernel_rfl) (by kernel_rfl) (fun _ _ _ h => h) (Or.inl ⟨by rfl, fun W _ => ?_⟩) (any0W _) ?_
              · go_simp
              simp only [Act.put, List.setIfInBounds_toArray, List.set_cons_zero, List.set_cons_succ]
              refine takeMW (i := 4) (d := 55) (v := .pointer (some ⟨gb, q, none⟩)) rfl rfl (by kernel_rfl) (by kernel_rfl) (by kernel_rfl) (fun _ _ _ h => h) (Or.inl ⟨by rfl, fun W _ => ?_⟩) (any0W _) ?_
              · go_simp
              simp only [Act.put, List.setIfInBounds_toArray, List.set_cons_zero, List.set_cons_succ]
              refine wpAnyH_all (rs := [5, 8]) (by kernel_rfl) (by simp) ?_
              intro i hi
              rcases (by simpa using hi : i = 5 ∨ i = 8) with rfl | rfl
              · unfold wpOp
                go_simp
                first | refine ⟨any0W _, ?_⟩ | refine Or.inl ⟨any0W _, ?_⟩
                refine wpAnyH_all (rs := [8]) (by kernel_rfl) (by simp) ?_
                intro i hi
                obtain rfl : i = 8 := by simpa using hi
                unfold wpOp
                go_simp
                first | refine (MC.out _).mono ?_ | refine Or.inl ((MC.out _).mono ?_)
                rintro e W5 ⟨rfl, e5⟩
                subst e5
                refine ⟨any0W _, ?_⟩
                refine takeMW (i := 9) (d := 60) (v := .int .u8 (z % 256)) rfl rfl (by kernel_rfl) (by kernel_rfl) (by kernel_rfl) (fun _ _ _ h => h) (Or.inl ⟨by rfl, fun W _ => ?_⟩) (any0W _) ?_
                · go_simp
                simp only [Act.put, List.setIfInBounds_toArray, List.set_cons_zero, List.set_cons_succ]
                refine wpAnyH_all (rs := [10]) (by kernel_rfl) (by simp) ?_
                intro i hi
                obtain rfl : i = 10 := by simpa using hi
                unfold wpOp
                go_simp
                first | refine ⟨any0W _, ?_⟩ | refine Or.inl ⟨any0W _, ?_⟩
                refine wpAnyH_all (rs := [11]) (by kernel_rfl) (by simp) ?_
                intro i hi
                obtain rfl : i = 11 := by simpa using hi
                refine wpOp_ofW rfl ?_
                refine step_growW (mk := mk) (t := q) (m := mq) rfl _ _ rfl hrowA rfl _ 1 rfl hcellA hmqb ?_
                intro g cap W1 r1 r2
                refine ⟨any0W _, ?_⟩
                obtain ⟨c1, c2, HG⟩ := HGR.out g cap W1 r1 r2
                simp only [Act.put, List.setIfInBounds_toArray]
                refine takeMW (i := 12) (d := 63) (v := .pointer (some ⟨gb, q, none⟩)) rfl rfl (by kernel_rfl) (by kernel_rfl) (by kernel_rfl) (fun _ _ _ h => h) (Or.inl ⟨by rfl, fun W _ => ?_⟩) (any0W _) ?_
                · go_simp
                simp only [Act.put]
                refine wpAnyH_all (rs := [13]) (by kernel_rfl) (by simp) ?_
                intro i hi
                obtain rfl : i = 13 := by simpa using hi
                unfold wpOp
                go_simp
                first | refine ⟨any0W _, ?_⟩ | refine Or.inl ⟨any0W _, ?_⟩
                refine wpAnyH_done (by kernel_rfl) ?_ _
                go_wp2
                go_roundw
                case rel => exact ⟨q + 1, _, by omega, by go_num, HG⟩
                case measure => simp [intOf]; omega
              · unfold wpOp
                go_simp
                first | refine (MC.out _).mono ?_ | refine Or.inl ((MC.out _).mono ?_)
                rintro e W5 ⟨rfl, e5⟩
                subst e5
                refine ⟨any0W _, ?_⟩
                refine takeMW (i := 9) (d := 60) (v := .int .u8 (z % 256)) rfl rfl (by kernel_rfl) (by kernel_rfl) (by kernel_rfl) (fun _ _ _ h => h) (Or.inl ⟨by rfl, fun W _ => ?_⟩) (any0W _) ?_
                · go_simp
                simp only [Act.put, List.setIfInBounds_toArray, List.set_cons_zero, List.set_cons_succ]
                refine wpAnyH_all (rs := [5, 10]) (by kernel_rfl) (by simp) ?_
                intro i hi
                rcases (by simpa using hi : i = 5 ∨ i = 10) with rfl | rfl
                · unfold wpOp
                  go_simp
                  first | refine ⟨any0W _, ?_⟩ | refine Or.inl ⟨any0W _, ?_⟩
                  refine wpAnyH_all (rs := [10]) (by kernel_rfl) (by simp) ?_
                  intro i hi
                  obtain rfl : i = 10 := by simpa using hi
                  unfold wpOp
                  go_simp
                  first | refine ⟨any0W _, ?_⟩ | refine Or.inl ⟨any0W _, ?_⟩
                  refine wpAnyH_all (rs := [11]) (by kernel_rfl) (by simp) ?_
                  intro i hi
                  obtain rfl : i = 11 := by simpa using hi
                  refine wpOp_ofW rfl ?_
                  refine step_growW (mk := mk) (t := q) (m := mq) rfl _ _ rfl hrowA rfl _ 1 rfl hcellA hmqb ?_
                  intro g cap W1 r1 r2
                  refine ⟨any0W _, ?_⟩
                  obtain ⟨c1, c2, HG⟩ := HGR.out g cap W1 r1 r2
                  simp only [Act.put, List.setIfInBounds_toArray]
                  refine takeMW (i := 12) (d := 63) (v := .pointer (some ⟨gb, q, none⟩)) rfl rfl (by kernel_rfl) (by kernel_rfl) (by kernel_rfl) (fun _ _ _ h => h) (Or.inl ⟨by rfl, fun W _ => ?_⟩) (any0W _) ?_
                  · go_simp
                  simp only [Act.put]
                  refine wpAnyH_all (rs := [13]) (by kernel_rfl) (by simp) ?_
                  intro i hi
                  obtain rfl : i = 13 := by simpa using hi
                  unfold wpOp
                  go_simp
                  first | refine ⟨any0W _, ?_⟩ | refine Or.inl ⟨any0W _, ?_⟩
                  refine wpAnyH_done (by kernel_rfl) ?_ _
                  go_wp2
                  go_roundw
                  case rel => exact ⟨q + 1, _, by omega, by go_num, HG⟩
                  case measure => simp [intOf]; omega
                · unfold wpOp
                  go_simp
                  first | refine ⟨any0W _, ?_⟩ | refine Or.inl ⟨any0W _, ?_⟩
                  refine wpAnyH_all (rs := [5]) (by kernel_rfl) (by simp) ?_
                  intro i hi
                  obtain rfl : i = 5 := by simpa using hi
                  unfold wpOp
                  go_simp
                  first | refine ⟨any0W _, ?_⟩ | refine Or.inl ⟨any0W _, ?_⟩
                  refine wpAnyH_all (rs := [11]) (by kernel_rfl) (by simp) ?_
                  intro i hi
                  obtain rfl : i = 11 := by simpa using hi
                  refine wpOp_ofW rfl ?_
                  refine step_growW (mk := mk) (t := q) (m := mq) rfl _ _ rfl hrowA rfl _ 1 rfl hcellA hmqb ?_
                  intro g cap W1 r1 r2
                  refine ⟨any0W _, ?_⟩
                  obtain ⟨c1, c2, HG⟩ := HGR.out g cap W1 r1 r2
                  simp only [Act.put, List.setIfInBounds_toArray]
                  refine takeMW (i := 12) (d := 63) (v := .pointer (some ⟨gb, q, none⟩)) rfl rfl (by kernel_rfl) (by kernel_rfl) (by kernel_rfl) (fun _ _ _ h => h) (Or.inl ⟨by rfl, fun W _ => ?_⟩) (any0W _) ?_
                  · go_simp
                  simp only [Act.put]
                  refine wpAnyH_all (rs := [13]) (by kernel_rfl) (by simp) ?_
                  intro i hi
                  obtain rfl : i = 13 := by simpa using hi
                  unfold wpOp
                  go_simp
                  first | refine ⟨any0W _, ?_⟩ | refine Or.inl ⟨any0W _, ?_⟩
                  refine wpAnyH_done (by kernel_rfl) ?_ _
                  go_wp2
                  go_roundw
                  case rel => exact ⟨q + 1, _, by omega, by go_num, HG⟩
                  case measure => simp [intOf]; omega
            · have hqe : q = N := by omega
              subst hqe
              have HF : Hid (OgW mk w wr b off gb V V3 ns (fun t => ns t + (r + 1))) := by
                have h := HQ.out
                refine ⟨h.len, h.out, h.old, h.outG, fun t ht => ?_, h.two, h.cross, fun t ht => by omega, h.far, h.farV, h.new, h.newb, h.vlt, h.blt, h.ow, h.kept⟩
                have h1 := h.row t ht
                have ht' : t < q := by rw [HN.out, ← h.len]; exact ht
                simp only [ht', if_true] at h1
                rw [← Nat.add_assoc]
                exact h1
              have i3 : ¬ ((q : Int) < (q : Int)) := by omega
              clear HQ
              go_wp2
              go_roundw
              case rel => exact ⟨r + 1, V3, by omega, by go_num, HF⟩
              case measure => simp [intOf]; omega
        · obtain rfl : r = 80 := by omega
          have z80 : ((80 : Nat) : Int) = 80 := rfl
          rw [z80]
          clear hr80 hr
          have hlen2 : V2.length = N := by rw [HR.out.len, HN.out]
          -- what every list reads, in every world that has only drawn since
          obtain ⟨W0, hW0⟩ : ∃ W0, W0 = wr := ⟨_, rfl⟩
          have RD : Hid (∀ q, q < N → ∃ g2 c2 a1 c1, ∀ W, Kept (fun _ => False) W0 W → W.cell? ⟨gb, q, none⟩ = some (.slice (some ⟨g2, 0, none⟩) (ns q + 80) c2) ∧ (∀ s, s < ns q + 80 → W.cell? ⟨g2, s, none⟩ = some (.int .u8 (mk q s % 256))) ∧ W.cell? ⟨b, off + q, none⟩ = some (.slice a1 (ns q) c1) ∧ (0 < ns q → ∃ g1, a1 = some ⟨g1, 0, none⟩ ∧ ∀ s, s < ns q → W.cell? ⟨g1, s, none⟩ = some (.int .u8 (mk q s % 256)))) := by
            intro q hq
            have hO := HR.out
            rw [← hW0] at hO
            have hq2 : q < V2.length := by omega
            have hqV : q < V.length := by rw [← hO.len]; exact hq2
            have hrow := hO.row q hq2
            obtain ⟨a2, c2, e2, hp2, _⟩ := row_sliceW hrow
            obtain ⟨g2, rfl⟩ := hp2 (by omega)
            obtain ⟨cs2, hc2, hcs2⟩ := hO.outG
            obtain ⟨a1, c1, e1, hb1, hz1⟩ := hO.old q hqV
            rw [e2] at hrow
            refine ⟨g2, c2, a1, c1, fun W kk => ⟨?_, fun s hs => ?_, ?_, fun hpos => ?_⟩⟩
            · refine kk.cell ?_ (fun f => f)
              rw [cell_of_row _ _ q _ _ _ hc2, hcs2 q hq2, e2]
            · obtain ⟨b2, o2, e3, hc3⟩ := own_bytesF'W hrow (by intro e'; have := congrArg List.length e'; rw [mks_lengthW] at this; simp at this)
              simp only [Option.some.injEq, Addr.mk.injEq, and_true] at e3
              obtain ⟨rfl, rfl⟩ := e3
              have h3 := kk.cell (hc3 s (by rw [mks_lengthW]; exact hs)) (fun f => f)
              rw [Nat.zero_add, mks_getW _ _ _ _ hs] at h3
              exact h3
            · refine kk.cell ?_ (fun f => f)
              rw [hO.out q hqV, e1]
            · obtain ⟨b2, o2, e3, hc3⟩ := hb1 (by intro e'; have := congrArg List.length e'; rw [mks_lengthW] at this; simp at this; omega)
              have ho := (hz1 _ e3).1
              simp only at ho
              subst ho
              refine ⟨b2, e3, fun s hs => ?_⟩
              have h3 := kk.cell (hc3 s (by rw [mks_lengthW]; exact hs)) (fun f => f)
              rw [Nat.zero_add, mks_getW _ _ _ _ hs] at h3
              exact h3
          have FIN : Hid (∀ W, Kept (fun _ => False) W0 W → OwnPostW mk V L w W) := by
            intro W kk
            have hO := HR.out
            rw [← hW0] at hO
            refine ⟨fun t ht => ?_, fun t ht g e => ?_, hO.kept.trans kk (fun _ f => f.elim)⟩
            · obtain ⟨a1, c1, e1, hb1, _⟩ := hO.old t ht
              rw [HNS.out] at e1 hb1
              exact ⟨a1, c1, e1, bytes_keptFW hb1 kk⟩
            · obtain ⟨cur, e1, e2⟩ := hO.ow t ht g e
              rw [HNS.out] at e2
              exact ⟨cur, kk.heap e1 (fun f => f), e2⟩
          have K0 : Hid (Kept (fun _ => False) W0 wr) := by rw [hW0]; exact Kept.refl _ _
          clear HR HNS hW0 HA
          have i2 : ¬ ((80 : Int) < 80) := by omega
          go_wp2
          go_loopw [67] (fun ii wr => ∃ q : Nat, q ≤ N ∧ ii = .int .i64 q ∧ Hid (Kept (fun _ => False) W0 wr)) (fun ii _ => N - (intOf ii).toNat)
          case atStart => exact ⟨0, Nat.zero_le _, rfl, K0⟩
          case round =>
            obtain ⟨q, hq, rfl, HQ⟩ := hrel
            clear K0
            by_cases hqN : q < N
            · obtain ⟨g2, c2, a1, c1, HX⟩ := RD.out q hqN
              have x1 := (HX wr HQ.out).1
              have HXX := hideCW HX
              clear HX
              obtain ⟨nq, hnq⟩ : ∃ n, n = ns q := ⟨_, rfl⟩
              have hnb := HNB.out q hqN
              rw [← hnq] at x1 hnb
              have HNQ := hideCW hnq
              have i3 : (q : Int) < (N : Int) := by omega
              clear hnq
              go_wp2
              go_loopw [74] (fun jj wr => ∃ s : Nat, s ≤ nq + 80 ∧ jj = .int .i64 s ∧ Hid (Kept (fun _ => False) W0 wr)) (fun jj _ => nq + 80 - (intOf jj).toNat)
              case atStart => exact ⟨0, Nat.zero_le _, rfl, HQ⟩
              case round =>
                obtain ⟨s, hs, rfl, HS⟩ := hrel
                by_cases hsl : s < nq + 80
                · have YA : ∀ W, Kept (fun _ => False) W0 W → W.cell? ⟨b, off + q, none⟩ = some (.slice a1 nq c1) ∧ W.cell? ⟨g2, s, none⟩ = some (.int .u8 (mk q s % 256)) ∧ (s < nq → ∃ g1, a1 = some ⟨g1, 0, none⟩ ∧ W.cell? ⟨g1, s, none⟩ = some (.int .u8 (mk q s % 256))) := by
                    intro W kk
                    obtain ⟨_, y2, y3, y4⟩ := HXX.out W kk
                    rw [← HNQ.out] at y2 y3 y4
                    refine ⟨y3, y2 s hsl, fun h => ?_⟩
                    obtain ⟨g1, e1, h1⟩ := y4 (by omega)
                    exact ⟨g1, e1, h1 s h⟩
                  have MC := hideCW (fun (W : World) => HM.out q s (by omega) (by omega) W)
                  generalize mk q s = z at MC YA
                  have y2s := (YA wr HS.out).2.1
                  have hq8 : IntKind.u8.wrap z = z % 256 := IntKind.wrap_u8 z
                  have i4 : (s : Int) < (nq : Int) + 80 := by omega
                  have i5 : s < nq + 80 := hsl
                  have HD1 : Kept (fun _ => False) W0 wr.drew := HS.out.trans (Kept.drewN wr 1) (fun _ f => f.elim)
                  have HD : Kept (fun _ => False) W0 wr.drew.drew := (HS.out.trans (Kept.drewN wr 1) (fun _ f => f.elim)).trans (Kept.drewN _ 1) (fun _ f => f.elim)
                  by_cases hs1 : s < nq
                  · obtain ⟨g1, rfl, y5⟩ := (YA wr HS.out).2.2 hs1
                    have YY : Hid (∀ W, Kept (fun _ => False) W0 W → W.cell? ⟨b, off + q, none⟩ = some (.slice (some ⟨g1, 0, none⟩) nq c1) ∧ W.cell? ⟨g2, s, none⟩ = some (.int .u8 (z % 256)) ∧ W.cell? ⟨g1, s, none⟩ = some (.int .u8 (z % 256))) := by
                      intro W kk
                      obtain ⟨u1, u2, u3⟩ := YA W kk
                      obtain ⟨g', e', h'⟩ := u3 hs1
                      cases e'
                      exact ⟨u1, u2, h'⟩
                    have i6 : (s : Int) < (nq : Int) := by omega
                    clear YA HXX RD FIN HM y5
                    go_wp2
                    refine wp_region_held (S := fun W => Kept (fun _ => False) W0 W) (by kernel_rfl) ?_
                    change wpAnyH _ _ _ _ _ _ _ _ (World.drew _)
                    refine takeMW (i := 0) (d := 77) (v := .slice (some ⟨g2, 0, none⟩) (nq + 80) c2) rfl rfl (by kernel_rfl) (by kernel_rfl) (by kernel_rfl) (fun _ _ _ h => h) (Or.inl ⟨by rfl, fun W hW => ?_⟩) HD1 ?_
                    · go_simp
                    simp only [Act.put, List.setIfInBounds_toArray, List.set_cons_zero, List.set_cons_succ]
                    refine takeMW (i := 1) (d := 78) (v := .int .i64 s) rfl rfl (by kernel_rfl) (by kernel_rfl) (by kernel_rfl) (fun _ _ _ h => h) (Or.inl ⟨by rfl, fun W hW => ?_⟩) HD1 ?_
                    · go_simp
                    simp only [Act.put, List.setIfInBounds_toArray, List.set_cons_zero, List.set_cons_succ]
                    refine takeMW (i := 2) (d := 79) (v := .pointer (some ⟨g2, s, none⟩)) rfl rfl (by kernel_rfl) (by kernel_rfl) (by kernel_rfl) (fun _ _ _ h => h) (Or.inl ⟨by rfl, fun W hW => ?_⟩) HD1 ?_
                    · go_simp
                    simp only [Act.put, List.setIfInBounds_toArray, List.set_cons_zero, List.set_cons_succ]
                    refine takeMW (i := 3) (d := 80) (v := .int .u8 (z % 256)) rfl rfl (by kernel_rfl) (by kernel_rfl) (by kernel_rfl) (fun _ _ _ h => h) (Or.inl ⟨by rfl, fun W hW => ?_⟩) HD1 ?_
                    · (obtain ⟨w1, w2, w3⟩ := YY.out W hW; go_simp)
                    simp only [Act.put, List.setIfInBounds_toArray, List.set_cons_zero, List.set_cons_succ]
                    refine takeMW (i := 4) (d := 81) (v := .int .i64 q) rfl rfl (by kernel_rfl) (by kernel_rfl) (by kernel_rfl) (fun _ _ _ h => h) (Or.inl ⟨by rfl, fun W hW => ?_⟩) HD1 ?_
                    · go_simp
                    simp only [Act.put, List.setIfInBounds_toArray, List.set_cons_zero, List.set_cons_succ]
                    refine takeMW (i := 5) (d := 82) (v := .int .i64 s) rfl rfl (by kernel_rfl) (by kernel_rfl) (by kernel_rfl) (fun _ _ _ h => h) (Or.inl ⟨by rfl, fun W hW => ?_⟩) HD1 ?_
                    · go_simp
                    simp only [Act.put, List.setIfInBounds_toArray, List.set_cons_zero, List.set_cons_succ]
                    refine wpAnyH_all (rs := [6]) (by kernel_rfl) (by simp) ?_
                    intro i hi
                    obtain rfl : i = 6 := by simpa using hi
                    unfold wpOp
                    go_simp
                    first | refine (MC.out _).mono ?_ | refine Or.inl ((MC.out _).mono ?_)
                    rintro e W5 ⟨rfl, e5⟩
                    subst e5
                    refine ⟨HD1, ?_⟩
                    refine takeMW (i := 7) (d := 84) (v := .int .u8 (z % 256)) rfl rfl (by kernel_rfl) (by kernel_rfl) (by kernel_rfl) (fun _ _ _ h => h) (Or.inl ⟨by rfl, fun W hW => ?_⟩) HD1 ?_
                    · go_simp
                    simp only [Act.put, List.setIfInBounds_toArray, List.set_cons_zero, List.set_cons_succ]
                    refine takeMW (i := 8) (d := 85) (v := .bool false) rfl rfl (by kernel_rfl) (by kernel_rfl) (by kernel_rfl) (fun _ _ _ h => h) (Or.inl ⟨by rfl, fun W hW => ?_⟩) HD1 ?_
                    · go_simp
                    simp only [Act.put, List.setIfInBounds_toArray, List.set_cons_zero, List.set_cons_succ]
                    refine wpAnyH_done (by kernel_rfl) ?_ _
                    go_wp2
                    refine wp_region_held (S := fun W => Kept (fun _ => False) W0 W) (by kernel_rfl) ?_
                    change wpAnyH _ _ _ _ _ _ _ _ (World.drew _)
                    refine takeMW (i := 0) (d := 86) (v := .int .i64 s) rfl rfl (by kernel_rfl) (by kernel_rfl) (by kernel_rfl) (fun _ _ _ h => h) (Or.inl ⟨by rfl, fun W hW => ?_⟩) HD ?_
                    · go_simp
                    simp only [Act.put, List.setIfInBounds_toArray, List.set_cons_zero, List.set_cons_succ]
                    refine takeMW (i := 1) (d := 87) (v := .slice (some ⟨b, off, none⟩) N c) rfl rfl (by kernel_rfl) (by kernel_rfl) (by kernel_rfl) (fun _ _ _ h => h) (Or.inl ⟨by rfl, fun W hW => ?_⟩) HD ?_
                    · go_simp
                    simp only [Act.put, List.setIfInBounds_toArray, List.set_cons_zero, List.set_cons_succ]
                    refine takeMW (i := 2) (d := 88) (v := .int .i64 q) rfl rfl (by kernel_rfl) (by kernel_rfl) (by kernel_rfl) (fun _ _ _ h => h) (Or.inl ⟨by rfl, fun W hW => ?_⟩) HD ?_
                    · go_simp
                    simp only [Act.put, List.setIfInBounds_toArray, List.set_cons_zero, List.set_cons_succ]
                    refine takeMW (i := 3) (d := 89) (v := .pointer (some ⟨b, off + q, none⟩)) rfl rfl (by kernel_rfl) (by kernel_rfl) (by kernel_rfl) (fun _ _ _ h => h) (Or.inl ⟨by rfl, fun W hW => ?_⟩) HD ?_
                    · go_simp
                    simp only [Act.put, List.setIfInBounds_toArray, List.set_cons_zero, List.set_cons_succ]
                    refine takeMW (i := 4) (d := 90) (v := .slice (some ⟨g1, 0, none⟩) nq c1) rfl rfl (by kernel_rfl) (by kernel_rfl) (by kernel_rfl) (fun _ _ _ h => h) (Or.inl ⟨by rfl, fun W hW => ?_⟩) HD ?_
                    · (obtain ⟨w1, w2, w3⟩ := YY.out W hW; go_simp)
                    simp only [Act.put, List.setIfInBounds_toArray, List.set_cons_zero, List.set_cons_succ]
                    refine takeMW (i := 5) (d := 91) (v := .int .i64 nq) rfl rfl (by kernel_rfl) (by kernel_rfl) (by kernel_rfl) (fun _ _ _ h => h) (Or.inl ⟨by rfl, fun W hW => ?_⟩) HD ?_
                    · go_simp
                    simp only [Act.put, List.setIfInBounds_toArray, List.set_cons_zero, List.set_cons_succ]
                    refine takeMW (i := 6) (d := 92) (v := .bool true) rfl rfl (by kernel_rfl) (by kernel_rfl) (by kernel_rfl) (fun _ _ _ h => h) (Or.inl ⟨by rfl, fun W hW => ?_⟩) HD ?_
                    · go_simp
                    simp only [Act.put, List.setIfInBounds_toArray, List.set_cons_zero, List.set_cons_succ]
                    refine takeMW (i := 7) (d := 93) (v := .bool true) rfl rfl (by kernel_rfl) (by kernel_rfl) (by kernel_rfl) (fun _ _ _ h => h) (Or.inl ⟨by rfl, fun W hW => ?_⟩) HD ?_
                    · go_simp
                    simp only [Act.put, List.setIfInBounds_toArray, List.set_cons_zero, List.set_cons_succ]
                    refine takeMW (i := 8) (d := 94) (v := .slice (some ⟨b, off, none⟩) N c) rfl rfl (by kernel_rfl) (by kernel_rfl) (by kernel_rfl) (fun _ _ _ h => h) (Or.inl ⟨by rfl, fun W hW => ?_⟩) HD ?_
                    · go_simp
                    simp only [Act.put, List.setIfInBounds_toArray, List.set_cons_zero, List.set_cons_succ]
                    refine takeMW (i := 9) (d := 95) (v := .int .i64 q) rfl rfl (by kernel_rfl) (by kernel_rfl) (by kernel_rfl) (fun _ _ _ h => h) (Or.inl ⟨by rfl, fun W hW => ?_⟩) HD ?_
                    · go_simp
                    simp only [Act.put, List.setIfInBounds_toArray, List.set_cons_zero, List.set_cons_succ]
                    refine takeMW (i := 10) (d := 96) (v := .pointer (some ⟨b, off + q, none⟩)) rfl rfl (by kernel_rfl) (by kernel_rfl) (by kernel_rfl) (fun _ _ _ h => h) (Or.inl ⟨by rfl, fun W hW => ?_⟩) HD ?_
                    · go_simp
                    simp only [Act.put, List.setIfInBounds_toArray, List.set_cons_zero, List.set_cons_succ]
                    refine takeMW (i := 11) (d := 97) (v := .slice (some ⟨g1, 0, none⟩) nq c1) rfl rfl (by kernel_rfl) (by kernel_rfl) (by kernel_rfl) (fun _ _ _ h => h) (Or.inl ⟨by rfl, fun W hW => ?_⟩) HD ?_
                    · (obtain ⟨w1, w2, w3⟩ := YY.out W hW; go_simp)
                    simp only [Act.put, List.setIfInBounds_toArray, List.set_cons_zero, List.set_cons_succ]
                    refine takeMW (i := 12) (d := 98) (v := .int .i64 s) rfl rfl (by kernel_rfl) (by kernel_rfl) (by kernel_rfl) (fun _ _ _ h => h) (Or.inl ⟨by rfl, fun W hW => ?_⟩) HD ?_
                    · go_simp
                    simp only [Act.put, List.setIfInBounds_toArray, List.set_cons_zero, List.set_cons_succ]
                    refine takeMW (i := 13) (d := 99) (v := .pointer (some ⟨g1, s, none⟩)) rfl rfl (by kernel_rfl) (by kernel_rfl) (by kernel_rfl) (fun _ _ _ h => h) (Or.inl ⟨by rfl, fun W hW => ?_⟩) HD ?_
                    · go_simp
                    simp only [Act.put, List.setIfInBounds_toArray, List.set_cons_zero, List.set_cons_succ]
                    refine takeMW (i := 14) (d := 100) (v := .int .u8 (z % 256)) rfl rfl (by kernel_rfl) (by kernel_rfl) (by kernel_rfl) (fun _ _ _ h => h) (Or.inl ⟨by rfl, fun W hW => ?_⟩) HD ?_
                    · (obtain ⟨w1, w2, w3⟩ := YY.out W hW; go_simp)
                    simp only [Act.put, List.setIfInBounds_toArray, List.set_cons_zero, List.set_cons_succ]
                    refine takeMW (i := 15) (d := 101) (v := .slice (some ⟨g2, 0, none⟩) (nq + 80) c2) rfl rfl (by kernel_rfl) (by kernel_rfl) (by kernel_rfl) (fun _ _ _ h => h) (Or.inl ⟨by rfl, fun W hW => ?_⟩) HD ?_
                    · go_simp
                    simp only [Act.put, List.setIfInBounds_toArray, List.set_cons_zero, List.set_cons_succ]
                    refine takeMW (i := 16) (d := 102) (v := .int .i64 s) rfl rfl (by kernel_rfl) (by kernel_rfl) (by kernel_rfl) (fun _ _ _ h => h) (Or.inl ⟨by rfl, fun W hW => ?_⟩) HD ?_
                    · go_simp
                    simp only [Act.put, List.setIfInBounds_toArray, List.set_cons_zero, List.set_cons_succ]
                    refine takeMW (i := 17) (d := 103) (v := .pointer (some ⟨g2, s, none⟩)) rfl rfl (by kernel_rfl) (by kernel_rfl) (by kernel_rfl) (fun _ _ _ h => h) (Or.inl ⟨by rfl, fun W hW => ?_⟩) HD ?_
                    · go_simp
                    simp only [Act.put, List.setIfInBounds_toArray, List.set_cons_zero, List.set_cons_succ]
                    refine takeMW (i := 18) (d := 104) (v := .int .u8 (z % 256)) rfl rfl (by kernel_rfl) (by kernel_rfl) (by kernel_rfl) (fun _ _ _ h => h) (Or.inl ⟨by rfl, fun W hW => ?_⟩) HD ?_
                    · (obtain ⟨w1, w2, w3⟩ := YY.out W hW; go_simp)
                    simp only [Act.put, List.setIfInBounds_toArray, List.set_cons_zero, List.set_cons_succ]
                    refine takeMW (i := 19) (d := 105) (v := .bool false) rfl rfl (by kernel_rfl) (by kernel_rfl) (by kernel_rfl) (fun _ _ _ h => h) (Or.inl ⟨by rfl, fun W hW => ?_⟩) HD ?_
                    · go_simp
                    simp only [Act.put, List.setIfInBounds_toArray, List.set_cons_zero, List.set_cons_succ]
                    refine takeMW (i := 20) (d := 106) (v := .bool false) rfl rfl (by kernel_rfl) (by kernel_rfl) (by kernel_rfl) (fun _ _ _ h => h) (Or.inl ⟨by rfl, fun W hW => ?_⟩) HD ?_
                    · go_simp
                    simp only [Act.put, List.setIfInBounds_toArray, List.set_cons_zero, List.set_cons_succ]
                    refine wpAnyH_done (by kernel_rfl) ?_ _
                    go_wp2
                    go_roundw
                    case rel => exact ⟨s + 1, by omega, by go_num, HD⟩
                    case measure => simp [intOf]; omega
                  · have YY : Hid (∀ W, Kept (fun _ => False) W0 W → W.cell? ⟨b, off + q, none⟩ = some (.slice a1 nq c1) ∧ W.cell? ⟨g2, s, none⟩ = some (.int .u8 (z % 256))) := fun W kk => ⟨(YA W kk).1, (YA W kk).2.1⟩
                    have i6 : ¬ ((s : Int) < (nq : Int)) := by omega
                    clear YA HXX RD FIN HM
                    go_wp2
                    refine wp_region_held (S := fun W => Kept (fun _ => False) W0 W) (by kernel_rfl) ?_
                    change wpAnyH _ _ _ _ _ _ _ _ (World.drew _)
                    refine takeMW (i := 0) (d := 77) (v := .slice (some ⟨g2, 0, none⟩) (nq + 80) c2) rfl rfl (by kernel_rfl) (by kernel_rfl) (by kernel_rfl) (fun _ _ _ h => h) (Or.inl ⟨by rfl, fun W hW => ?_⟩) HD1 ?_
                    · go_simp
                    simp only [Act.put, List.setIfInBounds_toArray, List.set_cons_zero, List.set_cons_succ]
                    refine takeMW (i := 1) (d := 78) (v := .int .i64 s) rfl rfl (by kernel_rfl) (by kernel_rfl) (by kernel_rfl) (fun _ _ _ h => h) (Or.inl ⟨by rfl, fun W hW => ?_⟩) HD1 ?_
                    · go_simp
                    simp only [Act.put, List.setIfInBounds_toArray, List.set_cons_zero, List.set_cons_succ]
                    refine takeMW (i := 2) (d := 79) (v := .pointer (some ⟨g2, s, none⟩)) rfl rfl (by kernel_rfl) (by kernel_rfl) (by kernel_rfl) (fun _ _ _ h => h) (Or.inl ⟨by rfl, fun W hW => ?_⟩) HD1 ?_
                    · go_simp
                    simp only [Act.put, List.setIfInBounds_toArray, List.set_cons_zero, List.set_cons_succ]
                    refine takeMW (i := 3) (d := 80) (v := .int .u8 (z % 256)) rfl rfl (by kernel_rfl) (by kernel_rfl) (by kernel_rfl) (fun _ _ _ h => h) (Or.inl ⟨by rfl, fun W hW => ?_⟩) HD1 ?_
                    · (obtain ⟨w1, w2⟩ := YY.out W hW; go_simp)
                    simp only [Act.put, List.setIfInBounds_toArray, List.set_cons_zero, List.set_cons_succ]
                    refine takeMW (i := 4) (d := 81) (v := .int .i64 q) rfl rfl (by kernel_rfl) (by kernel_rfl) (by kernel_rfl) (fun _ _ _ h => h) (Or.inl ⟨by rfl, fun W hW => ?_⟩) HD1 ?_
                    · go_simp
                    simp only [Act.put, List.setIfInBounds_toArray, List.set_cons_zero, List.set_cons_succ]
                    refine takeMW (i := 5) (d := 82) (v := .int .i64 s) rfl rfl (by kernel_rfl) (by kernel_rfl) (by kernel_rfl) (fun _ _ _ h => h) (Or.inl ⟨by rfl, fun W hW => ?_⟩) HD1 ?_
                    · go_simp
                    simp only [Act.put, List.setIfInBounds_toArray, List.set_cons_zero, List.set_cons_succ]
                    refine wpAnyH_all (rs := [6]) (by kernel_rfl) (by simp) ?_
                    intro i hi
                    obtain rfl : i = 6 := by simpa using hi
                    unfold wpOp
                    go_simp
                    first | refine (MC.out _).mono ?_ | refine Or.inl ((MC.out _).mono ?_)
                    rintro e W5 ⟨rfl, e5⟩
                    subst e5
                    refine ⟨HD1, ?_⟩
                    refine takeMW (i := 7) (d := 84) (v := .int .u8 (z % 256)) rfl rfl (by kernel_rfl) (by kernel_rfl) (by kernel_rfl) (fun _ _ _ h => h) (Or.inl ⟨by rfl, fun W hW => ?_⟩) HD1 ?_
                    · go_simp
                    simp only [Act.put, List.setIfInBounds_toArray, List.set_cons_zero, List.set_cons_succ]
                    refine takeMW (i := 8) (d := 85) (v := .bool false) rfl rfl (by kernel_rfl) (by kernel_rfl) (by kernel_rfl) (fun _ _ _ h => h) (Or.inl ⟨by rfl, fun W hW => ?_⟩) HD1 ?_
                    · go_simp
                    simp only [Act.put, List.setIfInBounds_toArray, List.set_cons_zero, List.set_cons_succ]
                    refine wpAnyH_done (by kernel_rfl) ?_ _
                    go_wp2
                    refine wp_region_held (S := fun W => Kept (fun _ => False) W0 W) (by kernel_rfl) ?_
                    change wpAnyH _ _ _ _ _ _ _ _ (World.drew _)
                    refine takeMW (i := 0) (d := 86) (v := .int .i64 s) rfl rfl (by kernel_rfl) (by kernel_rfl) (by kernel_rfl) (fun _ _ _ h => h) (Or.inl ⟨by rfl, fun W hW => ?_⟩) HD ?_
                    · go_simp
                    simp only [Act.put, List.setIfInBounds_toArray, List.set_cons_zero, List.set_cons_succ]
                    refine takeMW (i := 1) (d := 87) (v := .slice (some ⟨b, off, none⟩) N c) rfl rfl (by kernel_rfl) (by kernel_rfl) (by kernel_rfl) (fun _ _ _ h => h) (Or.inl ⟨by rfl, fun W hW => ?_⟩) HD ?_
                    · go_simp
                    simp only [Act.put, List.setIfInBounds_toArray, List.set_cons_zero, List.set_cons_succ]
                    refine takeMW (i := 2) (d := 88) (v := .int .i64 q) rfl rfl (by kernel_rfl) (by kernel_rfl) (by kernel_rfl) (fun _ _ _ h => h) (Or.inl ⟨by rfl, fun W hW => ?_⟩) HD ?_
                    · go_simp
                    simp only [Act.put, List.setIfInBounds_toArray, List.set_cons_zero, List.set_cons_succ]
                    refine takeMW (i := 3) (d := 89) (v := .pointer (some ⟨b, off + q, none⟩)) rfl rfl (by kernel_rfl) (by kernel_rfl) (by kernel_rfl) (fun _ _ _ h => h) (Or.inl ⟨by rfl, fun W hW => ?_⟩) HD ?_
                    · go_simp
                    simp only [Act.put, List.setIfInBounds_toArray, List.set_cons_zero, List.set_cons_succ]
                    refine takeMW (i := 4) (d := 90) (v := .slice a1 nq c1) rfl rfl (by kernel_rfl) (by kernel_rfl) (by kernel_rfl) (fun _ _ _ h => h) (Or.inl ⟨by rfl, fun W hW => ?_⟩) HD ?_
                    · (obtain ⟨w1, w2⟩ := YY.out W hW; go_simp)
                    simp only [Act.put, List.setIfInBounds_toArray, List.set_cons_zero, List.set_cons_succ]
                    refine takeMW (i := 5) (d := 91) (v := .int .i64 nq) rfl rfl (by kernel_rfl) (by kernel_rfl) (by kernel_rfl) (fun _ _ _ h => h) (Or.inl ⟨by rfl, fun W hW => ?_⟩) HD ?_
                    · go_simp
                    simp only [Act.put, List.setIfInBounds_toArray, List.set_cons_zero, List.set_cons_succ]
                    refine takeMW (i := 6) (d := 92) (v := .bool false) rfl rfl (by kernel_rfl) (by kernel_rfl) (by kernel_rfl) (fun _ _ _ h => h) (Or.inl ⟨by rfl, fun W hW => ?_⟩) HD ?_
                    · go_simp
                    simp only [Act.put, List.setIfInBounds_toArray, List.set_cons_zero, List.set_cons_succ]
                    refine takeMW (i := 7) (d := 93) (v := .bool false) rfl rfl (by kernel_rfl) (by kernel_rfl) (by kernel_rfl) (fun _ _ _ h => h) (Or.inl ⟨by rfl, fun W hW => ?_⟩) HD ?_
                    · go_simp
                    simp only [Act.put, List.setIfInBounds_toArray, List.set_cons_zero, List.set_cons_succ]
                    refine takeMW (i := 8) (d := 94) (v := undef) rfl rfl (by kernel_rfl) (by kernel_rfl) (by kernel_rfl) (fun _ _ _ h => h) (Or.inr ⟨by rfl, rfl⟩) HD ?_
                    simp only [Act.put, List.setIfInBounds_toArray, List.set_cons_zero, List.set_cons_succ]
                    refine takeMW (i := 9) (d := 95) (v := undef) rfl rfl (by kernel_rfl) (by kernel_rfl) (by kernel_rfl) (fun _ _ _ h => h) (Or.inr ⟨by rfl, rfl⟩) HD ?_
                    simp only [Act.put, List.setIfInBounds_toArray, List.set_cons_zero, List.set_cons_succ]
                    refine takeMW (i := 10) (d := 96) (v := undef) rfl rfl (by kernel_rfl) (by kernel_rfl) (by kernel_rfl) (fun _ _ _ h => h) (Or.inr ⟨by rfl, rfl⟩) HD ?_
                    simp only [Act.put, List.setIfInBounds_toArray, List.set_cons_zero, List.set_cons_succ]
                    refine takeMW (i := 11) (d := 97) (v := undef) rfl rfl (by kernel_rfl) (by kernel_rfl) (by kernel_rfl) (fun _ _ _ h => h) (Or.inr ⟨by rfl, rfl⟩) HD ?_
                    simp only [Act.put, List.setIfInBounds_toArray, List.set_cons_zero, List.set_cons_succ]
                    refine takeMW (i := 12) (d := 98) (v := undef) rfl rfl (by kernel_rfl) (by kernel_rfl) (by kernel_rfl) (fun _ _ _ h => h) (Or.inr ⟨by rfl, rfl⟩) HD ?_
                    simp only [Act.put, List.setIfInBounds_toArray, List.set_cons_zero, List.set_cons_succ]
                    refine takeMW (i := 13) (d := 99) (v := undef) rfl rfl (by kernel_rfl) (by kernel_rfl) (by kernel_rfl) (fun _ _ _ h => h) (Or.inr ⟨by rfl, rfl⟩) HD ?_
                    simp only [Act.put, List.setIfInBounds_toArray, List.set_cons_zero, List.set_cons_succ]
                    refine takeMW (i := 14) (d := 100) (v := undef) rfl rfl (by kernel_rfl) (by kernel_rfl) (by kernel_rfl) (fun _ _ _ h => h) (Or.inr ⟨by rfl, rfl⟩) HD ?_
                    simp only [Act.put, List.setIfInBounds_toArray, List.set_cons_zero, List.set_cons_succ]
                    refine takeMW (i := 15) (d := 101) (v := undef) rfl rfl (by kernel_rfl) (by kernel_rfl) (by kernel_rfl) (fun _ _ _ h => h) (Or.inr ⟨by rfl, rfl⟩) HD ?_
                    simp only [Act.put, List.setIfInBounds_toArray, List.set_cons_zero, List.set_cons_succ]
                    refine takeMW (i := 16) (d := 102) (v := undef) rfl rfl (by kernel_rfl) (by kernel_rfl) (by kernel_rfl) (fun _ _ _ h => h) (Or.inr ⟨by rfl, rfl⟩) HD ?_
                    simp only [Act.put, List.setIfInBounds_toArray, List.set_cons_zero, List.set_cons_succ]
                    refine takeMW (i := 17) (d := 103) (v := undef) rfl rfl (by kernel_rfl) (by kernel_rfl) (by kernel_rfl) (fun _ _ _ h => h) (Or.inr ⟨by rfl, rfl⟩) HD ?_
                    simp only [Act.put, List.setIfInBounds_toArray, List.set_cons_zero, List.set_cons_succ]
                    refine takeMW (i := 18) (d := 104) (v := undef) rfl rfl (by kernel_rfl) (by kernel_rfl) (by kernel_rfl) (fun _ _ _ h => h) (Or.inr ⟨by rfl, rfl⟩) HD ?_
                    simp only [Act.put, List.setIfInBounds_toArray, List.set_cons_zero, List.set_cons_succ]
                    refine takeMW (i := 19) (d := 105) (v := undef) rfl rfl (by kernel_rfl) (by kernel_rfl) (by kernel_rfl) (fun _ _ _ h => h) (Or.inr ⟨by rfl, rfl⟩) HD ?_
                    simp only [Act.put, List.setIfInBounds_toArray, List.set_cons_zero, List.set_cons_succ]
                    refine takeMW (i := 20) (d := 106) (v := .bool false) rfl rfl (by kernel_rfl) (by kernel_rfl) (by kernel_rfl) (fun _ _ _ h => h) (Or.inl ⟨by rfl, fun W hW => ?_⟩) HD ?_
                    · go_simp
                    simp only [Act.put, List.setIfInBounds_toArray, List.set_cons_zero, List.set_cons_succ]
                    refine wpAnyH_done (by kernel_rfl) ?_ _
                    go_wp2
                    go_roundw
                    case rel => exact ⟨s + 1, by omega, by go_num, HD⟩
                    case measure => simp [intOf]; omega
                · have hse : s = nq + 80 := by omega
                  have i4 : ¬ ((s : Int) < ((nq + 80 : Nat) : Int)) := by omega
                  go_wp2
                  go_roundw
                  case rel => exact ⟨q + 1, by omega, by go_num, HS⟩
                  case measure => simp [intOf]; omega
            · have i3 : ¬ ((q : Int) < (N : Int)) := by omega
              have HF := hideCW (FIN.out wr HQ.out)
              clear RD FIN
              go_wp2
              go_ret
              exact ⟨rfl, HF.out⟩
end Go.Proofs.YtcanbhbhdgogoaaDoor
