import Derived.Test.YtakjaablankipaaDoorLzm
namespace Go.Proofs.YtakjaablankipaaDoor
open Go.ChangeShapes Go.WideShapes Go.ChangeAt Go.RowKit

/-! The document's Scan. -/
theorem Gs13.sgb {w0 w : World} {a : Option Addr} {c n : Nat} {G : List Sg} (h : Gs13 w0 w a c n G) (hn : 0 < n) : ∃ b, a = some ⟨b, 0, none⟩ ∧ n ≤ c ∧ SgB w b G := by
  rcases h.gro.own.2 with ⟨_, e2⟩ | ⟨g, cap, cur, e1, hg, hh, h1, h2, _⟩
  · omega
  · simp only [Value.slice.injEq] at e1
    obtain ⟨rfl, -, rfl⟩ := e1
    refine ⟨g, rfl, by omega, ⟨fun k y ey => ?_, cur, _, hh⟩⟩
    obtain ⟨hk, rfl⟩ := List.getElem?_eq_some_iff.1 ey
    obtain ⟨g', e', x0, x1, x2, x3⟩ := h.cell k hk
    obtain rfl : g = g' := by simpa using e'
    rw [Nat.zero_add]
    exact ⟨x0, x1, x2, x3⟩
theorem sp_mono {l : List UInt8} {G : List Sg} {k p j q : Nat} (h : SP l G k p) (h' : SP l G j q) (hlt : p < q) : k < j := by
  rcases Nat.lt_or_ge k j with hc | hc
  · exact hc
  · have := (sp_piece l G (k - j) j q p h' (by rw [show j + (k - j) = k by omega]; exact h) (by have := h.2.2; omega)).1
    omega
theorem sp_prev (l : List UInt8) (G : List Sg) : ∀ (n k p q : Nat), SP l G k p → SP l G (k + n + 1) q → ∃ y, G[k + n]? = some y ∧ y.p + y.z = q := by
  intro n
  induction n with
  | zero =>
    intro k p q h h'
    rcases sp_cases h with ⟨_, h2⟩ | ⟨x, q', _, hx, hq, hS, _⟩
    · have := h'.2.2; omega
    · refine ⟨x, hx, ?_⟩
      rw [hq]
      exact sp_uniq hS h'
  | succ n ih =>
    intro k p q h h'
    rcases sp_cases h with ⟨_, h2⟩ | ⟨x, q', _, hx, hq, hS, _⟩
    · have := h'.2.2; omega
    · obtain ⟨y, h1, h2⟩ := ih (k + 1) q' q hS (by rw [show k + 1 + n + 1 = k + (n + 1) + 1 by omega]; exact h')
      exact ⟨y, by rw [show k + (n + 1) = k + 1 + n by omega]; exact h1, h2⟩
/-- 'append(s, x)' of a token, beside lists of other types. -/
theorem wpList_pushLx {w0 W : World} {ops : Array Oper} {rest : List Oper} {o : Oper} {act : Act} {Q : Exit → Act → World → Prop} (hgd : o.guard = none) (s x : Operand)
    (ho : o.op = .call { callee := .builtin .append, args := #[s, x], argTypes := #[23, 23] }) (a : Option Addr) (c0 n : Nat) (L : List Lx) (y : Lx) (k : Int) (t : ByteArray) (nn a0 e0 : Int) (hs : act.eval s = .slice a n c0) (hG : Hid (Tks w0 W a c0 n L)) (b : Nat) (hb : b = W.heap.size) (hx : act.eval x = .slice (some ⟨b, 0, none⟩) 1 1)
    (hy : Hid (k = (y.k : Int) ∧ t = bq y.t ∧ nn = y.n ∧ a0 = (y.a : Int) ∧ e0 = (y.e : Int))) (hn : n ≤ 1000000000000)
    (h : ∀ a' c' W', Hid (Tks w0 W' a' c' (n + 1) (L ++ [y])) → Hid (KT 41 W W') → wpList Tryd.prog ops Q rest (act.put o.dst (.slice a' (n + 1) c')) W') : wpList Tryd.prog ops Q (o :: rest) act (W.alloc (.cells #[.int .i64 k, .string t, .int .i64 nn, .int .i64 a0, .int .i64 e0] 41)) := by
  subst hb
  obtain ⟨i0, hi, hz0, hz1, hz2⟩ := info_partsL Tryd.infoLx
  obtain ⟨rfl, rfl, rfl, rfl, rfl⟩ := hy.out
  refine wpList_pushT hgd s x 23 ho 41 i0 (.agg #[.int .i64 0, .string ⟨#[]⟩, .int .i64 0, .int .i64 0, .int .i64 0]) 5 48 Tryd.underlying23 hi hz0 hz1 hz2 rfl (by decide) (.slice a n c0) n (lxv L) (lv1 y) hs (hideL hG.out.gro) hx rfl (by
    intro u hu
    simp [lv1] at hu
    rcases hu with rfl | rfl | rfl | rfl | rfl <;> rfl) (hideL (by omega)) (hideL (by unfold maxLen; omega)) ?_
  intro a' c' W' g k
  refine h a' c' W' ⟨?_, by rw [List.length_append, hG.out.len]; rfl⟩ k
  rw [lxv_append]
  have e : lxv [y] = lv1 y := List.append_nil _
  rw [e]
  exact g.out
/-- What the document's Scan answers. -/
def rsPost (w : World) (Z : List Lx × Option Nat) (x : Ending) (w' : World) : Prop :=
  (Z.2 = none ∧ ∃ a c m, x = .returned (.tuple #[.slice a m c, .int .i64 0, .int .i64 0]) ∧ Tks w w' a c m Z.1) ∨ (∃ f : Nat, Z.2 = some f ∧ (∃ a c, x = .returned (.tuple #[.slice a 0 c, .int .i64 (f : Int), .int .i64 16])) ∧ Kept (fun _ => False) w w')
theorem bk_cl (c : UInt8) : bkB c = (cl c == 101) := by
  have := u8_all (fun c => bkB c == (cl c == 101)) (by decide +kernel) c
  simpa using this
theorem cm_end (L : List Lx) (p f : Nat) : cmL L (scF (f + 1) p []) = (L ++ [endT p], none) := by rw [sc_nil]; rfl
theorem tks_empty (w W : World) (k : Kept (fun _ => False) w W) : Tks w (W.alloc (.cells #[] 41)) (some ⟨W.heap.size, 0, none⟩) 0 0 [] := ⟨gro_empty w W _ _ k, rfl⟩
theorem sc_stepB {l : List UInt8} {p : Nat} (L : List Lx) {c : UInt8} {s : List UInt8} (hd : l.drop p = c :: s) (hb : cl c = 101) : cmL L (scF (l.length - p + 1) p (l.drop p)) = cmL L (scF (l.length - (p + 1) + 1) (p + 1) (l.drop (p + 1))) := by
  obtain ⟨hlt, h1⟩ := drop_next hd
  rw [hd, sc_blank _ _ _ _ hb, h1, show l.length - p = l.length - (p + 1) + 1 by omega]
theorem sc_stepT {l : List UInt8} {p : Nat} (L : List Lx) {c : UInt8} {s : List UInt8} (hd : l.drop p = c :: s) (hb : cl c ≠ 101) (t : Tk) (ht : tokF (l.drop p) = some t) : cmL L (scF (l.length - p + 1) p (l.drop p)) = cmL (L ++ [⟨t.k, t.t, t.n, p, p + t.z⟩]) (scF (l.length - (p + t.z) + 1) (p + t.z) (l.drop (p + t.z))) := by
  have hz := tok_len _ t ht
  rw [List.length_drop] at hz
  have e : (l.drop p).drop t.z = l.drop (p + t.z) := List.drop_drop
  rw [← cm_cm, hd, sc_tok _ _ _ _ hb t (hd ▸ ht), ← hd, e, sc_fuel (l.length - p) (l.length - (p + t.z) + 1) _ _ (by rw [List.length_drop]; omega) (by rw [List.length_drop]; omega)]
theorem sc_stepN {l : List UInt8} {p : Nat} (L : List Lx) {c : UInt8} {s : List UInt8} (hd : l.drop p = c :: s) (hb : cl c ≠ 101) (ht : tokF (l.drop p) = none) : (cmL L (scF (l.length - p + 1) p (l.drop p))).2 = some p := by
  rw [hd, sc_bad _ _ _ _ hb (hd ▸ ht)]
  rfl
theorem sign_ways {l : List UInt8} {p q : Nat} {x : Sg} (hh : (∃ d s, l.drop p = 92 :: d :: s ∧ x = ⟨d, true, p, 2⟩ ∧ q = p + 2) ∨ (l.drop p = [92] ∧ x = ⟨92, false, p, 1⟩ ∧ q = p + 1) ∨ (∃ c s, l.drop p = c :: s ∧ c ≠ 92 ∧ x = ⟨c, false, p, 1⟩ ∧ q = p + 1)) : (∃ s, x.l = false ∧ bkB x.c = true ∧ l.drop p = x.c :: s ∧ q = p + 1) ∨ ((x.l = true ∨ bkB x.c = false) ∧ ∃ c s, l.drop p = c :: s ∧ bkB c = false) := by
  rcases hh with ⟨d, s, hd, rfl, rfl⟩ | ⟨hd, rfl, rfl⟩ | ⟨c, s, hd, h92, rfl, rfl⟩
  · exact .inr ⟨.inl rfl, 92, _, hd, by decide⟩
  · exact .inr ⟨.inr (show bkB 92 = false by decide), 92, _, hd, by decide⟩
  · rcases Bool.eq_false_or_eq_true (bkB c) with hb | hb
    · exact .inl ⟨s, rfl, hb, hd, rfl⟩
    · exact .inr ⟨.inr hb, c, s, hd, hb⟩
/-- 'one' at a token, with the sign behind which it ends. -/
theorem one_yes (l : List UInt8) (G : List Sg) (b n cp i p : Nat) (w : World) (hn : n = G.length) (hnb : n ≤ 400000000000) (hG : SgB w b G) (hS : SP l G i p) (hcp : n ≤ cp) (hin : i < n) {c : UInt8} {s : List UInt8} (hd : l.drop p = c :: s) (hbc : bkB c = false) (t : Tk) (ht : tokF (l.drop p) = some t) :
    Calls Tryd.prog 18 #[.slice (some ⟨b, 0, none⟩) n cp, .int .i64 (i : Int)] w fun x w' => ∃ (j yp yz : Nat), x = .returned (.tuple #[.agg #[.int .i64 ((t.k : Nat) : Int), .string (bq t.t), .int .i64 t.n, .int .i64 (p : Int), .int .i64 0], .int .i64 ((j : Int) + 1)]) ∧ Hid (SP l G (j + 1) (p + t.z)) ∧ i ≤ j ∧ j < n ∧ w'.cell? ⟨b, j * 4 + 2, none⟩ = some (.int .i64 (yp : Int)) ∧ w'.cell? ⟨b, j * 4 + 3, none⟩ = some (.int .i64 (yz : Int)) ∧ Hid (yp + yz = p + t.z) ∧ yp + yz ≤ l.length ∧ Kept (fun _ => False) w w' := by
  refine (one13_any l G b n cp i p w hn hnb hG hS hcp hin (fun c' s' h => by rw [hd] at h; obtain ⟨rfl, _⟩ := List.cons.inj h; exact hbc)).mono ?_
  rintro x w' ⟨⟨h1, _⟩ | ⟨t', j, h1, h2, rfl⟩, hk⟩
  · rw [ht] at h1; cases h1
  · rw [ht] at h1
    obtain rfl := Option.some.inj h1
    have hz := tok_len _ t ht
    rw [List.length_drop] at hz
    have hlt := sp_mono hS h2 (by omega)
    obtain ⟨j, rfl⟩ : ∃ j', j = j' + 1 := ⟨j - 1, by omega⟩
    obtain ⟨y, hy, hq⟩ := sp_prev l G (j - i) i p (p + t.z) hS (by rw [show i + (j - i) + 1 = j + 1 by omega]; exact h2)
    rw [show i + (j - i) = j by omega] at hy
    obtain ⟨-, -, y2, y3⟩ := (hG.later hk).l j y hy
    rw [Nat.zero_add] at y2 y3
    have hjn := h2.2.2
    exact ⟨j, y.p, y.z, rfl, h2, by omega, by omega, y2, y3, hq, by have := h2.2.1; omega, hk⟩
theorem one_no (l : List UInt8) (G : List Sg) (b n cp i p : Nat) (w : World) (hn : n = G.length) (hnb : n ≤ 400000000000) (hG : SgB w b G) (hS : SP l G i p) (hcp : n ≤ cp) (hin : i < n) {c : UInt8} {s : List UInt8} (hd : l.drop p = c :: s) (hbc : bkB c = false) (ht : tokF (l.drop p) = none) :
    Calls Tryd.prog 18 #[.slice (some ⟨b, 0, none⟩) n cp, .int .i64 (i : Int)] w fun x w' => ∃ (z : Int), x = .returned (.tuple #[.agg #[.int .i64 (-1), .string ⟨#[]⟩, .int .i64 0, .int .i64 (p : Int), .int .i64 0], .int .i64 z]) ∧ Kept (fun _ => False) w w' := by
  refine (one13_any l G b n cp i p w hn hnb hG hS hcp hin (fun c' s' h => by rw [hd] at h; obtain ⟨rfl, _⟩ := List.cons.inj h; exact hbc)).mono ?_
  rintro x w' ⟨⟨_, z, rfl⟩ | ⟨t', j, h1, h2, rfl⟩, hk⟩
  · exact ⟨z, rfl, hk⟩
  · rw [ht] at h1; cases h1
end Go.Proofs.YtakjaablankipaaDoor
