import Derived.Test.YtiemiphlfbaojaaDoorMrg9
import Derived.Test.YtiemiphlfbaojaaDoorMrg1
namespace Go.Proofs.YtiemiphlfbaojaaDoor
open Go.ChangeShapes Go.WideShapes Go.ChangeAt Go.RowKit

/-! The document's scanner: over signs. The sign at the index i stands at the byte p: SP. -/
def SP (l : List UInt8) (G : List Sg) (i p : Nat) : Prop := G.drop i = sgp p (l.drop p) ∧ p ≤ l.length ∧ i ≤ G.length
theorem sp_zero (l : List UInt8) : SP l (sgp 0 l) 0 0 := ⟨by rw [List.drop_zero, List.drop_zero], Nat.zero_le _, Nat.zero_le _⟩
theorem drop_cons_at {α : Type} {G : List α} {i : Nat} {x : α} {r : List α} (h : G.drop i = x :: r) : i < G.length ∧ G[i]? = some x ∧ G.drop (i + 1) = r := by
  have hi : i < G.length := by
    rcases Nat.lt_or_ge i G.length with q | q
    · exact q
    · rw [List.drop_of_length_le q] at h; cases h
  rw [List.drop_eq_getElem_cons hi] at h
  obtain ⟨h1, h2⟩ := List.cons.inj h
  exact ⟨hi, by rw [List.getElem?_eq_getElem hi, h1], h2⟩
theorem sp_cases {l : List UInt8} {G : List Sg} {i p : Nat} (h : SP l G i p) : (p = l.length ∧ G.length ≤ i) ∨ (∃ x q, i < G.length ∧ G[i]? = some x ∧ x.p + x.z = q ∧ SP l G (i + 1) q ∧ ((∃ d s, l.drop p = 92 :: d :: s ∧ x = ⟨d, true, p, 2⟩ ∧ q = p + 2) ∨ (l.drop p = [92] ∧ x = ⟨92, false, p, 1⟩ ∧ q = p + 1) ∨ (∃ c s, l.drop p = c :: s ∧ c ≠ 92 ∧ x = ⟨c, false, p, 1⟩ ∧ q = p + 1))) := by
  obtain ⟨hg, hp, hi⟩ := h
  cases hd : l.drop p with
  | nil =>
    left
    have h1 := congrArg List.length hd
    rw [List.length_drop] at h1
    rw [hd, sgp_nil] at hg
    have h2 := congrArg List.length hg
    rw [List.length_drop] at h2
    simp at h1 h2
    omega
  | cons c s =>
    right
    obtain ⟨hlt, hd1⟩ := drop_next hd
    by_cases h92 : c = 92
    · subst h92
      cases s with
      | nil =>
        rw [hd, sgp_one] at hg
        obtain ⟨h1, h2, h3⟩ := drop_cons_at hg
        exact ⟨_, p + 1, h1, h2, rfl, ⟨by rw [h3, hd1, sgp_nil], hlt, h1⟩, .inr (.inl ⟨rfl, rfl, rfl⟩)⟩
      | cons d s =>
        obtain ⟨hlt2, hd2⟩ := drop_next hd1
        rw [hd, sgp_esc] at hg
        obtain ⟨h1, h2, h3⟩ := drop_cons_at hg
        exact ⟨_, p + 2, h1, h2, rfl, ⟨by rw [h3]; exact congrArg _ hd2.symm, by omega, h1⟩, .inl ⟨d, s, rfl, rfl, rfl⟩⟩
    · rw [hd, sgp_oth p c s h92] at hg
      obtain ⟨h1, h2, h3⟩ := drop_cons_at hg
      exact ⟨_, p + 1, h1, h2, rfl, ⟨by rw [h3, hd1], hlt, h1⟩, .inr (.inr ⟨c, s, rfl, h92, rfl, rfl⟩)⟩
/-- Signs in memory, from a place of a row on. -/
def SgL (w : World) (b off : Nat) (G : List Sg) : Prop := ∀ k y, G[k]? = some y → w.cell? ⟨b, off + k * 4, none⟩ = some (.int .u8 (y.c.toNat : Int)) ∧ w.cell? ⟨b, off + k * 4 + 1, none⟩ = some (.bool y.l) ∧ w.cell? ⟨b, off + k * 4 + 2, none⟩ = some (.int .i64 (y.p : Int)) ∧ w.cell? ⟨b, off + k * 4 + 3, none⟩ = some (.int .i64 (y.z : Int))
theorem SgL.later {w w' : World} {b off : Nat} {G : List Sg} (h : SgL w b off G) (k : Kept (fun _ => False) w w') : SgL w' b off G := fun j y e => by
  obtain ⟨h0, h1, h2, h3⟩ := h j y e
  exact ⟨k.cell h0 (fun f => f), k.cell h1 (fun f => f), k.cell h2 (fun f => f), k.cell h3 (fun f => f)⟩
/-- Is the sign at i this byte, not as a letter? -/
def spl (G : List Sg) (i : Nat) (c : UInt8) : Bool := match G[i]? with
  | none => false
  | some x => !x.l && x.c == c
set_option maxRecDepth 20000 in
set_option maxHeartbeats 2000000 in
theorem plain13_any (G : List Sg) (b n cp i : Nat) (c : UInt8) (w : World) (hn : n = G.length) (hG : SgL w b 0 G) :
    Calls Tryd.prog 81 #[.slice (some ⟨b, 0, none⟩) n cp, .int .i64 (i : Int), .int .u8 (c.toNat : Int)] w fun e w' => e = .returned (.bool (spl G i c)) ∧ w' = w := by
  have hcb : c.toNat < 256 := c.toNat_lt
  unfold spl
  by_cases hi : i < n
  · have hiG : i < G.length := by omega
    rw [List.getElem?_eq_getElem hiG]
    obtain ⟨x0, x1, -, -⟩ := hG i _ (List.getElem?_eq_getElem hiG)
    rw [Nat.zero_add] at x0 x1
    generalize G[i] = X at *
    obtain ⟨xc, xl, xp, xz⟩ := X
    dsimp only at x0 x1 ⊢
    have hz : (i : Int) < (n : Int) := by omega
    have q1 : ((xc.toNat : Int) == (c.toNat : Int)) = (xc == c) := by
      by_cases h : xc = c
      · subst h; simp
      · rw [u8_intL xc c h, beq_eq_false_iff_ne.2 h]
    generalize (xc == c) = t at *
    have hxb : xc.toNat < 256 := xc.toNat_lt
    generalize xc.toNat = m1 at *
    generalize c.toNat = m2 at *
    clear hn hiG hG
    cases xl <;> cases t
    all_goals
      go_enter Tryd.func81, Tryd.ntmps81
      go_wp2
      go_ret
      exact ⟨rfl, rfl⟩
  · have hz : ¬ (i : Int) < (n : Int) := by omega
    rw [List.getElem?_eq_none (by omega)]
    generalize c.toNat = m2 at *
    clear hn hG
    go_enter Tryd.func81, Tryd.ntmps81
    go_wp2
    go_ret
    exact ⟨rfl, rfl⟩
set_option maxRecDepth 20000 in
set_option maxHeartbeats 2000000 in
theorem digit13_any (c : UInt8) (w : World) : Calls Tryd.prog 87 #[.int .u8 (c.toNat : Int)] w fun e w' => e = .returned (.bool (cl c == 102)) ∧ w' = w := by
  have hcb : c.toNat < 256 := c.toNat_lt
  have h1 : (cl c == 102) = (decide (48 ≤ c.toNat) && decide (c.toNat ≤ 57)) := by
    have := u8_all (fun c => (cl c == 102) == (decide (48 ≤ c.toNat) && decide (c.toNat ≤ 57))) (by decide +kernel) c
    simpa using this
  rw [h1]
  generalize c.toNat = m at *
  clear h1
  by_cases a1 : 48 ≤ m
  · have z1 : (48 : Int) ≤ (m : Int) := by omega
    by_cases a2 : m ≤ 57
    · have z2 : (m : Int) ≤ 57 := by omega
      rw [decide_eq_true a1, decide_eq_true a2]
      go_enter Tryd.func87, Tryd.ntmps87
      go_wp2
      go_ret
      exact ⟨rfl, rfl⟩
    · have z2 : ¬ (m : Int) ≤ 57 := by omega
      have z3 : decide ((m : Int) ≤ 57) = false := decide_eq_false z2
      rw [decide_eq_true a1, decide_eq_false a2]
      go_enter Tryd.func87, Tryd.ntmps87
      go_wp2
      go_ret
      exact ⟨rfl, rfl⟩
  · have z1 : ¬ (48 : Int) ≤ (m : Int) := by omega
    rw [decide_eq_false a1]
    go_enter Tryd.func87, Tryd.ntmps87
    go_wp2
    go_ret
    exact ⟨rfl, rfl⟩
end Go.Proofs.YtiemiphlfbaojaaDoor
namespace Go.Proofs.YtiemiphlfbaojaaDoor
open Go.ChangeShapes Go.WideShapes Go.ChangeAt Go.RowKit

theorem wpList_minL {P : Program} {W : World} {ops : Array Oper} {rest : List Oper} {o : Oper} {act : Act} {Q : Exit → Act → World → Prop} {ts : Array TypeId} (hgd : o.guard = none) (s t : Operand)
    (ho : o.op = .call { callee := .builtin .min, args := #[s, t], argTypes := ts }) (x y m : Int) (hs : act.eval s = .int .i64 x) (ht : act.eval t = .int .i64 y) (hm : m = if y < x then y else x)
    (h : wpList P ops Q rest (act.put o.dst (.int .i64 m)) W) : wpList P ops Q (o :: rest) act W :=
  wpList_plain hgd fun _ hK => wp_minL s t ho x y m hs ht hm (hK _ _ h)
/-- The number as the document reckons it. -/
def nm2 : Nat → List UInt8 → Nat
  | v, [] => v
  | v, c :: r => if cl c = 102 then nm2 (min (10 * v + (c.toNat - 48)) 1099511627776) r else v
theorem nm2_yes (v : Nat) (c : UInt8) (r : List UInt8) (h : cl c = 102) : nm2 v (c :: r) = nm2 (min (10 * v + (c.toNat - 48)) 1099511627776) r := by rw [nm2, if_pos h]
theorem nm2_no (v : Nat) (c : UInt8) (r : List UInt8) (h : cl c ≠ 102) : nm2 v (c :: r) = v := by rw [nm2, if_neg h]
theorem nm_rel : ∀ (r : List UInt8) (v v2 : Nat), (v = v2 ∧ v ≤ 999999999) ∨ (999999999 < v ∧ 999999999 < v2) → (nmV v r = nm2 v2 r ∧ nmV v r ≤ 999999999) ∨ (999999999 < nmV v r ∧ 999999999 < nm2 v2 r) := by
  intro r
  induction r with
  | nil => intro v v2 h; rw [nmV, nm2]; exact h
  | cons c r ih =>
    intro v v2 h
    by_cases hc : cl c = 102
    · rw [nm_yes v c r hc, nm2_yes v2 c r hc]
      apply ih
      rw [Nat.min_def, Nat.min_def]
      split <;> split <;> omega
    · rw [nm_no v c r hc, nm2_no v2 c r hc]
      exact h
/-- What the document's number answers. -/
def nmA (r : List UInt8) : Int := if 0 < dgL r ∧ nmV 0 r ≤ 999999999 then (nmV 0 r : Nat) else -1
theorem nmA_end (r : List UInt8) (V k : Nat) (hk : k = dgL r) (hV : nm2 0 r = V) : (k = 0 → nmA r = -1) ∧ (0 < k → 999999999 < V → nmA r = -1) ∧ (0 < k → V ≤ 999999999 → nmA r = (V : Nat)) := by
  have h := nm_rel r 0 0 (.inl ⟨rfl, by omega⟩)
  unfold nmA
  rw [← hk]
  refine ⟨fun h0 => by rw [if_neg (by omega)], fun h0 hv => by rw [if_neg (by omega)], fun h0 hv => ?_⟩
  rw [if_pos (by omega)]
  have : nmV 0 r = V := by omega
  rw [this]
theorem sp_dig {l : List UInt8} {G : List Sg} {i p : Nat} (h : SP l G i p) (c : UInt8) (s : List UInt8) (hd : l.drop p = c :: s) (hc : cl c = 102) : G[i]? = some ⟨c, false, p, 1⟩ ∧ SP l G (i + 1) (p + 1) := by
  have h92 : c ≠ 92 := by intro e; subst e; revert hc; decide +kernel
  rcases sp_cases h with ⟨h1, _⟩ | ⟨x, q, _, hx, _, hs, hh⟩
  · rw [List.drop_of_length_le (by omega)] at hd; cases hd
  · rcases hh with ⟨d, t, e, _⟩ | ⟨e, _⟩ | ⟨c', t, e, _, rfl, rfl⟩
    · rw [hd] at e; exact absurd (List.cons.inj e).1 h92
    · rw [hd] at e; exact absurd (List.cons.inj e).1 h92
    · rw [hd] at e
      obtain ⟨rfl, rfl⟩ := List.cons.inj e
      exact ⟨hx, hs⟩
/-- No digit here. -/
theorem sp_nodig {l : List UInt8} {G : List Sg} {i p : Nat} (h : SP l G i p) (hn : dgL (l.drop p) = 0) : G.length ≤ i ∨ ∃ x, G[i]? = some x ∧ (x.l = true ∨ (cl x.c == 102) = false) := by
  rcases sp_cases h with ⟨_, h2⟩ | ⟨x, q, _, hx, _, _, hh⟩
  · exact .inl h2
  · right
    refine ⟨x, hx, ?_⟩
    rcases hh with ⟨d, t, _, rfl, _⟩ | ⟨_, rfl, _⟩ | ⟨c, t, e, _, rfl, _⟩
    · exact .inl rfl
    · exact .inr (show (cl 92 == 102) = false by decide +kernel)
    · right
      rw [e] at hn
      by_cases hc : cl c = 102
      · rw [dg_yes c t hc] at hn; cases hn
      · simpa using hc
set_option maxRecDepth 20000 in
set_option maxHeartbeats 4000000 in
theorem rnumber_any (l : List UInt8) (G : List Sg) (b n cp i p : Nat) (w : World) (hn : n = G.length) (hnb : n ≤ 400000000000) (hG : SgL w b 0 G) (hS : SP l G i p) (hi : i ≤ n) :
    Calls Tryd.prog 80 #[.slice (some ⟨b, 0, none⟩) n cp, .int .i64 (i : Int)] w fun e w' => e = .returned (.tuple #[.int .i64 (nmA (l.drop p)), .int .i64 ((i + dgL (l.drop p) : Nat) : Int)]) ∧ w' = w := by
  obtain ⟨r, hr⟩ : ∃ r, r = l.drop p := ⟨_, rfl⟩
  rw [← hr]
  have HG := hideL hG
  have HN := hideL hn
  have CD := hideL (fun (c : UInt8) W => digit13_any c W)
  have HS0 : Hid (SP l G (i + 0) (p + 0)) := hideL hS
  have HD0 : Hid (dgL r = 0 + dgL (l.drop (p + 0))) := hideL (by rw [hr]; simp)
  have HV0 : Hid (nm2 0 r = nm2 0 (l.drop (p + 0))) := hideL (by rw [hr]; rfl)
  have HE := hideL (nmA_end r)
  clear hG hn hS hr
  go_enter Tryd.func80, Tryd.ntmps80
  go_wp2
  go_loopw [1, 6] (fun iv nv wr => ∃ (k V : Nat) (z : Int), nv = .int .i64 z ∧ iv = .int .i64 ((i + k : Nat) : Int) ∧ i + k ≤ n ∧ V ≤ 1099511627776 ∧ Hid ((k = 0 ∧ z = -1 ∧ V = 0) ∨ (0 < k ∧ z = (V : Int))) ∧ Hid (SP l G (i + k) (p + k)) ∧ Hid (dgL r = k + dgL (l.drop (p + k))) ∧ Hid (nm2 0 r = nm2 V (l.drop (p + k))) ∧ Hid (wr = w)) (fun iv _ _ => n - (intOf iv).toNat)
  case atStart => exact ⟨0, 0, _, rfl, rfl, by omega, by omega, hideL (.inl ⟨rfl, rfl, rfl⟩), HS0, HD0, HV0, hideL rfl⟩
  case round =>
    obtain ⟨k, V, z, rfl, rfl, hik, hV, HZ, HS, HD, HV, HW⟩ := hrel
    have HW := HW.out
    subst HW
    clear HS0 HD0 HV0
    by_cases hdig : dgL (l.drop (p + k)) = 0
    · have hkd : k = dgL r := by rw [HD.out, hdig]; rfl
      have hVr : nm2 0 r = V := by
        rw [HV.out]
        cases hd : l.drop (p + k) with
        | nil => rw [nm2]
        | cons c s =>
          rw [hd] at hdig
          by_cases hc : cl c = 102
          · rw [dg_yes c s hc] at hdig; cases hdig
          · rw [nm2_no _ _ _ hc]
      obtain ⟨e0, e1, e2⟩ := HE.out V k hkd hVr
      have HF : Hid ((999999999 < z → nmA r = -1) ∧ (z ≤ 999999999 → nmA r = z) ∧ dgL r = k) := hideL (by
        rcases HZ.out with ⟨h0, rfl, rfl⟩ | ⟨h0, rfl⟩
        · exact ⟨fun h => by omega, fun _ => e0 h0, hkd.symm⟩
        · exact ⟨fun h => e1 h0 (by omega), fun h => e2 h0 (by omega), hkd.symm⟩)
      have hzb : z ≤ 1099511627776 := by rcases HZ.out with ⟨_, rfl, _⟩ | ⟨_, rfl⟩ <;> omega
      have ek := HF.out.2.2
      have hno := sp_nodig HS.out hdig
      clear HD HV HZ HE e0 e1 e2 hkd hVr hdig HS
      by_cases hz9 : 999999999 < z
      · have HA := hideL (HF.out.1 hz9)
        clear HF
        by_cases hin : i + k < n
        · have hiz : ((i + k : Nat) : Int) < (n : Int) := by omega
          have hiy : (i : Int) + (k : Int) < (n : Int) := by omega
          have hg : ¬ G.length ≤ i + k := by have := HN.out; omega
          obtain ⟨x, hx, hxx⟩ := hno.resolve_left hg
          obtain ⟨x0, x1, -, -⟩ := HG.out (i + k) x hx
          rw [Nat.zero_add] at x0 x1
          have C1 := hideL (fun W => CD.out x.c W)
          obtain ⟨xc, xl, xp, xz⟩ := x
          dsimp only at x0 x1 C1 hxx
          have hxb : xc.toNat < 256 := xc.toNat_lt
          generalize xc.toNat = xm at *
          generalize (cl xc == 102) = tt at *
          clear CD hno hx hg
          cases xl with
          | true =>
            clear C1
            go_wp2
            go_ret2
            exact ⟨by first | (rw [HA.out]; rfl) | (rw [HA.out, ek]; rfl), rfl⟩
          | false =>
            obtain rfl : tt = false := by rcases hxx with h | h; cases h; exact h
            go_wp2_with (go_at_call 87; refine (C1.out _).mono ?_; clear C1; rintro e W3 ⟨rfl, e3⟩; subst e3)
            go_ret2
            exact ⟨by first | (rw [HA.out]; rfl) | (rw [HA.out, ek]; rfl), rfl⟩
        · have hiz : ¬ ((i + k : Nat) : Int) < (n : Int) := by omega
          have hiy : ¬ (i : Int) + (k : Int) < (n : Int) := by omega
          clear CD hno
          go_wp2
          go_ret2
          exact ⟨by first | (rw [HA.out]; rfl) | (rw [HA.out, ek]; rfl), rfl⟩
      · have HA := hideL (HF.out.2.1 (by omega))
        clear HF
        by_cases hin : i + k < n
        · have hiz : ((i + k : Nat) : Int) < (n : Int) := by omega
          have hiy : (i : Int) + (k : Int) < (n : Int) := by omega
          have hg : ¬ G.length ≤ i + k := by have := HN.out; omega
          obtain ⟨x, hx, hxx⟩ := hno.resolve_left hg
          obtain ⟨x0, x1, -, -⟩ := HG.out (i + k) x hx
          rw [Nat.zero_add] at x0 x1
          have C1 := hideL (fun W => CD.out x.c W)
          obtain ⟨xc, xl, xp, xz⟩ := x
          dsimp only at x0 x1 C1 hxx
          have hxb : xc.toNat < 256 := xc.toNat_lt
          generalize xc.toNat = xm at *
          generalize (cl xc == 102) = tt at *
          clear CD hno hx hg
          cases xl with
          | true =>
            clear C1
            go_wp2
            go_ret2
            exact ⟨by first | (rw [HA.out]; rfl) | (rw [HA.out, ek]; rfl), rfl⟩
          | false =>
            obtain rfl : tt = false := by rcases hxx with h | h; cases h; exact h
            go_wp2_with (go_at_call 87; refine (C1.out _).mono ?_; clear C1; rintro e W3 ⟨rfl, e3⟩; subst e3)
            go_ret2
            exact ⟨by first | (rw [HA.out]; rfl) | (rw [HA.out, ek]; rfl), rfl⟩
        · have hiz : ¬ ((i + k : Nat) : Int) < (n : Int) := by omega
          have hiy : ¬ (i : Int) + (k : Int) < (n : Int) := by omega
          clear CD hno
          go_wp2
          go_ret2
          exact ⟨by first | (rw [HA.out]; rfl) | (rw [HA.out, ek]; rfl), rfl⟩
    · cases hd : l.drop (p + k) with
      | nil => rw [hd] at hdig; exact absurd rfl hdig
      | cons c s =>
        have hc : cl c = 102 := by
          by_cases h : cl c = 102
          · exact h
          · rw [hd, dg_no c s h] at hdig; exact absurd rfl hdig
        obtain ⟨hx, hS1⟩ := sp_dig HS.out c s hd hc
        obtain ⟨hlt, hd1⟩ := drop_next hd
        have hin : i + k < n := by
          have := (List.getElem?_eq_some_iff.1 hx).1
          have := HN.out
          omega
        obtain ⟨x0, x1, -, -⟩ := HG.out (i + k) _ hx
        rw [Nat.zero_add] at x0 x1
        dsimp only at x0 x1
        obtain ⟨r1, r2⟩ := dig_range c hc
        have C1 := hideL (fun W => CD.out c W)
        have hc1 : (cl c == 102) = true := by rw [hc]; rfl
        rw [hc1] at C1
        have HD3 := HD.out
        have HV3 := HV.out
        rw [hd, dg_yes c s hc] at HD3
        rw [hd, nm2_yes _ c s hc] at HV3
        obtain ⟨V2, hV2⟩ : ∃ V2, V2 = min (10 * V + (c.toNat - 48)) 1099511627776 := ⟨_, rfl⟩
        rw [← hV2] at HV3
        have hV2b : V2 ≤ 1099511627776 := by rw [hV2]; exact Nat.min_le_right _ _
        have HD4 : Hid (dgL r = (k + 1) + dgL (l.drop (p + (k + 1)))) := hideL (by rw [HD3, ← hd1]; show k + (dgL (l.drop (p + k + 1)) + 1) = _; rw [Nat.add_assoc p k 1]; omega)
        have HV4 : Hid (nm2 0 r = nm2 V2 (l.drop (p + (k + 1)))) := hideL (by rw [HV3, ← hd1]; rfl)
        have HS4 : Hid (SP l G (i + (k + 1)) (p + (k + 1))) := hideL hS1
        obtain ⟨q, hq⟩ : ∃ q, q = c.toNat := ⟨_, rfl⟩
        rw [← hq] at x0 r1 r2 C1 hV2
        have hmin : (V2 : Int) = if (1099511627776 : Int) < 10 * (V : Int) + ((q : Int) - 48) then 1099511627776 else 10 * (V : Int) + ((q : Int) - 48) := by
          rw [hV2, Nat.min_def]
          split <;> split <;> omega
        have HM := hideL hmin
        have hiz : ((i + k : Nat) : Int) < (n : Int) := by omega
        have hiy : (i : Int) + (k : Int) < (n : Int) := by omega
        have HL1 : Hid (i + (k + 1) ≤ n) := hideL (by omega)
        have hkb : i + k ≤ 400000000000 := by omega
        have HZ2 := HZ.out
        clear HD HV HZ HE hdig HS hd hd1 hc hx hS1 HD3 HV3 hq hmin CD hc1 hV2
        rcases HZ2 with ⟨hk0, hz0, hV0⟩ | ⟨hk0, hz0⟩
        · subst hz0 hV0
          clear hk0
          go_wp2_with (first
            | (go_at_call 87; refine (C1.out _).mono ?_; clear C1; rintro e W3 ⟨rfl, e3⟩; subst e3)
            | (at_builtin; refine wpList_minL rfl _ _ rfl (10 * ((0 : Nat) : Int) + ((q : Int) - 48)) 1099511627776 (V2 : Int) (by first | rfl | simp) rfl HM.out ?_))
          go_roundw
          case rel => exact ⟨k + 1, V2, _, rfl, by go_num, HL1.out, hV2b, hideL (.inr ⟨by omega, by first | rfl | (rw [HM.out, if_neg (by omega)]; omega)⟩), HS4, HD4, HV4, by first | exact hideL rfl | exact hideL trivial⟩
          case measure => simp [intOf] <;> omega
        · subst hz0
          have z0 : ¬ (V : Int) < 0 := by omega
          go_wp2_with (first
            | (go_at_call 87; refine (C1.out _).mono ?_; clear C1; rintro e W3 ⟨rfl, e3⟩; subst e3)
            | (at_builtin; refine wpList_minL rfl _ _ rfl (10 * (V : Int) + ((q : Int) - 48)) 1099511627776 (V2 : Int) (by first | rfl | simp) rfl HM.out ?_))
          go_roundw
          case rel => exact ⟨k + 1, V2, _, rfl, by go_num, HL1.out, hV2b, hideL (.inr ⟨by omega, by first | rfl | exact HM.out.symm⟩), HS4, HD4, HV4, by first | exact hideL rfl | exact hideL trivial⟩
          case measure => simp [intOf] <;> omega
end Go.Proofs.YtiemiphlfbaojaaDoor
namespace Go.Proofs.YtiemiphlfbaojaaDoor
open Go.ChangeShapes Go.WideShapes Go.ChangeAt Go.RowKit

/-- The kind of a token of one byte. -/
def sgK (c : UInt8) : Int := if 8 ≤ cl c ∧ cl c ≤ 17 then (cl c : Nat) else -1
theorem sgK_no (c : UInt8) (h40 : c ≠ 40) (h41 : c ≠ 41) (h91 : c ≠ 91) (h93 : c ≠ 93) (h123 : c ≠ 123) (h125 : c ≠ 125) (h58 : c ≠ 58) (h43 : c ≠ 43) (h45 : c ≠ 45) (h124 : c ≠ 124) : sgK c = -1 := by
  have := u8_all (fun c => c == 40 || c == 41 || c == 91 || c == 93 || c == 123 || c == 125 || c == 58 || c == 43 || c == 45 || c == 124 || sgK c == -1) (by decide +kernel) c
  simp [h40, h41, h91, h93, h123, h125, h58, h43, h45, h124] at this
  exact this
set_option maxRecDepth 20000 in
set_option maxHeartbeats 2000000 in
theorem single13_any (c : UInt8) (w : World) : Calls Tryd.prog 71 #[.int .u8 (c.toNat : Int)] w fun e w' => e = .returned (.int .i64 (sgK c)) ∧ w' = w := by
  by_cases h40 : c = 40
  · subst h40
    show Calls Tryd.prog 71 #[.int .u8 40] w fun e w' => e = .returned (.int .i64 8) ∧ w' = w
    go_enter Tryd.func71, Tryd.ntmps71
    go_wp2
    go_ret
    exact ⟨rfl, rfl⟩
  by_cases h41 : c = 41
  · subst h41
    show Calls Tryd.prog 71 #[.int .u8 41] w fun e w' => e = .returned (.int .i64 9) ∧ w' = w
    go_enter Tryd.func71, Tryd.ntmps71
    go_wp2
    go_ret
    exact ⟨rfl, rfl⟩
  by_cases h91 : c = 91
  · subst h91
    show Calls Tryd.prog 71 #[.int .u8 91] w fun e w' => e = .returned (.int .i64 10) ∧ w' = w
    go_enter Tryd.func71, Tryd.ntmps71
    go_wp2
    go_ret
    exact ⟨rfl, rfl⟩
  by_cases h93 : c = 93
  · subst h93
    show Calls Tryd.prog 71 #[.int .u8 93] w fun e w' => e = .returned (.int .i64 11) ∧ w' = w
    go_enter Tryd.func71, Tryd.ntmps71
    go_wp2
    go_ret
    exact ⟨rfl, rfl⟩
  by_cases h123 : c = 123
  · subst h123
    show Calls Tryd.prog 71 #[.int .u8 123] w fun e w' => e = .returned (.int .i64 12) ∧ w' = w
    go_enter Tryd.func71, Tryd.ntmps71
    go_wp2
    go_ret
    exact ⟨rfl, rfl⟩
  by_cases h125 : c = 125
  · subst h125
    show Calls Tryd.prog 71 #[.int .u8 125] w fun e w' => e = .returned (.int .i64 13) ∧ w' = w
    go_enter Tryd.func71, Tryd.ntmps71
    go_wp2
    go_ret
    exact ⟨rfl, rfl⟩
  by_cases h58 : c = 58
  · subst h58
    show Calls Tryd.prog 71 #[.int .u8 58] w fun e w' => e = .returned (.int .i64 14) ∧ w' = w
    go_enter Tryd.func71, Tryd.ntmps71
    go_wp2
    go_ret
    exact ⟨rfl, rfl⟩
  by_cases h43 : c = 43
  · subst h43
    show Calls Tryd.prog 71 #[.int .u8 43] w fun e w' => e = .returned (.int .i64 15) ∧ w' = w
    go_enter Tryd.func71, Tryd.ntmps71
    go_wp2
    go_ret
    exact ⟨rfl, rfl⟩
  by_cases h45 : c = 45
  · subst h45
    show Calls Tryd.prog 71 #[.int .u8 45] w fun e w' => e = .returned (.int .i64 16) ∧ w' = w
    go_enter Tryd.func71, Tryd.ntmps71
    go_wp2
    go_ret
    exact ⟨rfl, rfl⟩
  by_cases h124 : c = 124
  · subst h124
    show Calls Tryd.prog 71 #[.int .u8 124] w fun e w' => e = .returned (.int .i64 17) ∧ w' = w
    go_enter Tryd.func71, Tryd.ntmps71
    go_wp2
    go_ret
    exact ⟨rfl, rfl⟩
  rw [sgK_no c h40 h41 h91 h93 h123 h125 h58 h43 h45 h124]
  have q40 : ((c.toNat : Int) == 40) = false := u8_intL c 40 h40
  have q41 : ((c.toNat : Int) == 41) = false := u8_intL c 41 h41
  have q91 : ((c.toNat : Int) == 91) = false := u8_intL c 91 h91
  have q93 : ((c.toNat : Int) == 93) = false := u8_intL c 93 h93
  have q123 : ((c.toNat : Int) == 123) = false := u8_intL c 123 h123
  have q125 : ((c.toNat : Int) == 125) = false := u8_intL c 125 h125
  have q58 : ((c.toNat : Int) == 58) = false := u8_intL c 58 h58
  have q43 : ((c.toNat : Int) == 43) = false := u8_intL c 43 h43
  have q45 : ((c.toNat : Int) == 45) = false := u8_intL c 45 h45
  have q124 : ((c.toNat : Int) == 124) = false := u8_intL c 124 h124
  have hcb : c.toNat < 256 := c.toNat_lt
  generalize c.toNat = m at *
  clear h40 h41 h91 h93 h123 h125 h58 h43 h45 h124
  go_enter Tryd.func71, Tryd.ntmps71
  go_wp2
  go_ret
  exact ⟨rfl, rfl⟩
/-- A quoted text, its letters put behind o. -/
def qMo (o : List UInt8) (r : List UInt8) : Option (List UInt8 × Nat) := (qoL r).map (fun m => (o ++ litF (r.take (m - 1)), m))
theorem qM_nil (o : List UInt8) : qMo o [] = none := by unfold qMo; rw [qo_nil]; rfl
theorem qM_end (o r : List UInt8) : qMo o (34 :: r) = some (o, 1) := by
  unfold qMo
  rw [qo_end]
  show some (o ++ litF [], 1) = _
  rw [show litF [] = [] from rfl, List.append_nil]
theorem qM_lone (o : List UInt8) : qMo o [92] = none := by unfold qMo; rw [qo_lone]; rfl
theorem qM_esc (o : List UInt8) (d : UInt8) (r : List UInt8) : qMo o (92 :: d :: r) = (qMo (o ++ [d]) r).map (fun x => (x.1, x.2 + 2)) := by
  unfold qMo
  rw [qo_esc]
  cases e : qoL r with
  | none => rfl
  | some m =>
    have hm := (qo_le _ _ m (Nat.le_refl _) e).1
    show some (o ++ litF ((92 :: d :: r).take (m + 2 - 1)), m + 2) = some (o ++ [d] ++ litF (r.take (m - 1)), m + 2)
    rw [show m + 2 - 1 = (m - 1) + 2 by omega]
    show some (o ++ litF (92 :: d :: r.take (m - 1)), m + 2) = _
    rw [show litF (92 :: d :: r.take (m - 1)) = d :: litF (r.take (m - 1)) by unfold litF; rw [sgn_esc]; rfl, List.append_assoc]
    rfl
theorem qM_oth (o : List UInt8) (c : UInt8) (r : List UInt8) (h : c ≠ 34) (h2 : c ≠ 92) : qMo o (c :: r) = (qMo (o ++ [c]) r).map (fun x => (x.1, x.2 + 1)) := by
  unfold qMo
  rw [qo_oth c r h h2]
  cases e : qoL r with
  | none => rfl
  | some m =>
    have hm := (qo_le _ _ m (Nat.le_refl _) e).1
    show some (o ++ litF ((c :: r).take (m + 1 - 1)), m + 1) = some (o ++ [c] ++ litF (r.take (m - 1)), m + 1)
    rw [show m + 1 - 1 = (m - 1) + 1 by omega]
    show some (o ++ litF (c :: r.take (m - 1)), m + 1) = _
    rw [show litF (c :: r.take (m - 1)) = c :: litF (r.take (m - 1)) by unfold litF; rw [sgn_oth c _ h2]; rfl, List.append_assoc]
    rfl
end Go.Proofs.YtiemiphlfbaojaaDoor
namespace Go.Proofs.YtiemiphlfbaojaaDoor
open Go.ChangeShapes Go.WideShapes Go.ChangeAt Go.RowKit

/-- Signs in a row of their own. -/
structure SgB (w : World) (b : Nat) (G : List Sg) : Prop where
  l : SgL w b 0 G
  h : ∃ cs fz, w.heap[b]? = some (.cells cs 85 fz)
theorem SgB.later {w w' : World} {b : Nat} {G : List Sg} (h : SgB w b G) (k : Kept (fun _ => False) w w') : SgB w' b G := by
  obtain ⟨cs, fz, hb⟩ := h.h
  exact ⟨h.l.later k, cs, fz, k.heap hb (fun f => f)⟩
theorem SgB.other {w w' : World} {b : Nat} {G : List Sg} {e : TypeId} (h : SgB w b G) (k : KT e w w') (he : 85 ≠ e) : SgB w' b G := by
  obtain ⟨cs, fz, hb⟩ := h.h
  have hb' := k.heap hb he
  refine ⟨fun j y ey => ?_, cs, fz, hb'⟩
  have q : ∀ a : Addr, a.block = b → w'.cell? a = w.cell? a := fun a ha => World.cell?_of_block (by rw [ha, hb', hb])
  obtain ⟨h0, h1, h2, h3⟩ := h.l j y ey
  exact ⟨by rw [q _ rfl]; exact h0, by rw [q _ rfl]; exact h1, by rw [q _ rfl]; exact h2, by rw [q _ rfl]; exact h3⟩
/-- What quoted answers. -/
def quPost (w : World) (l : List UInt8) (G : List Sg) (p : Nat) (x : Ending) (w' : World) : Prop :=
  ((qMo [] (l.drop p) = none ∧ x = .returned (.tuple #[.string ⟨#[]⟩, .int .i64 (-1)])) ∨ (∃ (t : List UInt8) (m j : Nat), qMo [] (l.drop p) = some (t, m) ∧ x = .returned (.tuple #[.string (bq t), .int .i64 ((j : Int) + 1)]) ∧ SP l G (j + 1) (p + m))) ∧ Kept (fun _ => False) w w'
theorem map_zero (o : Option (List UInt8 × Nat)) : o.map (fun x => (x.1, x.2 + 0)) = o := by cases o <;> rfl
theorem map_two (o : Option (List UInt8 × Nat)) (i j : Nat) : (o.map (fun x => (x.1, x.2 + i))).map (fun x => (x.1, x.2 + j)) = o.map (fun x => (x.1, x.2 + (i + j))) := by
  cases o with
  | none => rfl
  | some y => show some (y.1, y.2 + i + j) = some (y.1, y.2 + (i + j)); rw [Nat.add_assoc]
theorem spl_at {G : List Sg} {i : Nat} {x : Sg} (h : G[i]? = some x) (c : UInt8) : spl G i c = (!x.l && x.c == c) := by unfold spl; rw [h]
set_option maxRecDepth 20000 in
set_option maxHeartbeats 4000000 in
theorem quoted13_any (l : List UInt8) (G : List Sg) (b n cp i p : Nat) (w : World) (hn : n = G.length) (hnb : n ≤ 400000000000) (hG : SgB w b G) (hS : SP l G i p) (hi : i ≤ n) :
    Calls Tryd.prog 73 #[.slice (some ⟨b, 0, none⟩) n cp, .int .i64 (i : Int)] w (quPost w l G p) := by
  obtain ⟨Z, hZ⟩ : ∃ Z, Z = qMo [] (l.drop p) := ⟨_, rfl⟩
  have HN := hideL hn
  have HB0 := hideL (gb_empty w)
  have CP := hideL (fun (k : Nat) (c : UInt8) (W : World) (h : SgB W b G) => plain13_any G b n cp k c W hn h.l)
  have HG0 := hideL (hG.later (Kept.alloc w (.cells #[] 5)))
  have HS0 := hideL hS
  have HZ0 : Hid (Z = (qMo [] (l.drop p)).map (fun x => (x.1, x.2 + (p - p)))) := hideL (by rw [Nat.sub_self, map_zero]; exact hZ)
  unfold quPost
  rw [← hZ]
  clear hG hn hS hZ
  go_enter Tryd.func73, Tryd.ntmps73
  go_wp2
  go_loopw [1, 6] (fun iv bv wr => ∃ (k m p' : Nat) (a : Option Addr) (c : Nat) (o : List UInt8), iv = .int .i64 k ∧ bv = .slice a m c ∧ k ≤ n ∧ m ≤ k ∧ p ≤ p' ∧ Hid (Gb w wr a c m o) ∧ Hid (SgB wr b G) ∧ Hid (SP l G k p') ∧ Hid (Z = (qMo o (l.drop p')).map (fun x => (x.1, x.2 + (p' - p))))) (fun iv _ _ => n - (intOf iv).toNat)
  case atStart => exact ⟨i, 0, p, _, _, [], rfl, rfl, hi, by omega, Nat.le_refl _, HB0, HG0, HS0, HZ0⟩
  case round =>
    obtain ⟨k, m, p', a, c0, o, rfl, rfl, hk, hm, hpp, HB, HGr, HSp, HZ⟩ := hrel
    clear HB0 HG0 HS0 HZ0
    have HK := hideL HB.out.gro.kept
    rcases sp_cases HSp.out with ⟨h1, h2⟩ | ⟨x, q, hkG, hx, hq, hSn, hh⟩
    · have hkn : k = n := by have := HN.out; omega
      subst hkn
      have hkz : ¬ (k : Int) < (k : Int) := by omega
      obtain rfl : Z = none := by rw [HZ.out, List.drop_of_length_le (by omega), qM_nil]; rfl
      clear CP HZ HSp HB
      go_wp2
      go_ret2
      first | exact ⟨.inl ⟨rfl, rfl⟩, HK.out⟩ | exact ⟨rfl, HK.out⟩ | exact ⟨.inl rfl, HK.out⟩
    · have hkn : k < n := by have := HN.out; omega
      have hkz : (k : Int) < (n : Int) := by omega
      have C34 := hideL (CP.out k 34 wr HGr.out)
      have C92 := hideL (CP.out k 92 wr HGr.out)
      rw [spl_at hx] at C34 C92
      obtain ⟨x0, -, -, -⟩ := HGr.out.l k x hx
      rw [Nat.zero_add] at x0
      have HSn := hideL hSn
      have push : ∀ (ch : UInt8) (st : Nat), True := fun _ _ => trivial
      clear CP push hx
      have HZ2 := HZ.out
      rcases hh with ⟨d, s, hd, rfl, rfl⟩ | ⟨hd, rfl, rfl⟩ | ⟨ch, s, hd, h92, rfl, rfl⟩
      · have HZn : Hid (Z = (qMo (o ++ [d]) (l.drop (p' + 2))).map (fun x => (x.1, x.2 + (p' + 2 - p)))) := hideL (by
          rw [HZ2, hd, qM_esc, map_two, ← (drop_next (drop_next hd).2).2, show 2 + (p' - p) = p' + 2 - p by omega])
        have E34 : (!true && d == 34) = false := rfl
        have E92 : (!true && d == 92) = false := rfl
        dsimp only at C34 C92 x0
        rw [E34] at C34
        rw [E92] at C92
        have HQ0 : Hid ((d.toNat : Int) = (d.toNat : Int)) := hideL rfl
        have hdb : d.toNat < 256 := d.toNat_lt
        generalize hq0 : d.toNat = q at x0 hdb
        rw [hq0] at HQ0
        have HQ1 : Hid ((q : Int) = (d.toNat : Int)) := hideL (by rw [hq0])
        clear HQ0 hq0 HZ HZ2 hd E34 E92 HK
        go_wp2_with (first
          | (go_at_call 81; refine C34.out.mono ?_; clear C34; rintro e w6 ⟨rfl, e6⟩; subst e6)
          | (go_at_call 81; refine C92.out.mono ?_; clear C92; rintro e w7 ⟨rfl, e7⟩; subst e7)
          | (at_builtin; refine wpList_pushC rfl _ _ rfl _ _ m _ d _ rfl HB _ (by first | rfl | simp) rfl HQ1 (by omega) ?_; intro a4 c4 W4 G4 K4; have HG4 := hideL (HGr.out.other K4.out (by decide)); clear HB K4))
        go_roundw
        case rel => exact ⟨k + 1, m + 1, p' + 2, a4, c4, _, by go_num, rfl, by omega, by omega, by omega, G4, HG4, HSn, HZn⟩
        case measure => simp [intOf] <;> omega
      · obtain rfl : Z = none := by rw [HZ2, hd, qM_lone]; rfl
        have E34 : (!false && (92 : UInt8) == 34) = false := by decide
        have E92 : (!false && (92 : UInt8) == 92) = true := by decide
        dsimp only at C34 C92 x0
        rw [E34] at C34
        rw [E92] at C92
        clear HZ HZ2 hd E34 E92 HB HGr HSn HSp x0
        go_wp2_with (first
          | (go_at_call 81; refine C34.out.mono ?_; clear C34; rintro e w6 ⟨rfl, e6⟩; subst e6)
          | (go_at_call 81; refine C92.out.mono ?_; clear C92; rintro e w7 ⟨rfl, e7⟩; subst e7))
        go_ret2
        first | exact ⟨.inl ⟨rfl, rfl⟩, HK.out⟩ | exact ⟨rfl, HK.out⟩ | exact ⟨.inl rfl, HK.out⟩
      · by_cases h34 : ch = 34
        · subst h34
          have HZn : Hid (Z = some (o, p' + 1 - p)) := hideL (by rw [HZ2, hd, qM_end]; show some (o, 1 + (p' - p)) = _; rw [show 1 + (p' - p) = p' + 1 - p by omega])
          have E34 : (!false && (34 : UInt8) == 34) = true := by decide
          dsimp only at C34 C92 x0
          rw [E34] at C34
          have hb2 : (convert 96 9 (.slice a m c0)).run Tryd.prog wr = .ok (.string (bq o)) wr := gro_string HB.out.gro HB.out.len
          have HSn2 : Hid (SP l G (k + 1) (p + (p' + 1 - p))) := hideL (by rw [show p + (p' + 1 - p) = p' + 1 by omega]; exact HSn.out)
          clear HZ HZ2 hd E34 HB HGr HSn HSp x0 C92 h92
          go_wp2_with (go_at_call 81; refine C34.out.mono ?_; clear C34; rintro e w6 ⟨rfl, e6⟩; subst e6)
          go_ret2
          exact ⟨.inr ⟨o, p' + 1 - p, k, HZn.out, by first | rfl | (congr 3), HSn2.out⟩, HK.out⟩
        · have HZn : Hid (Z = (qMo (o ++ [ch]) (l.drop (p' + 1))).map (fun x => (x.1, x.2 + (p' + 1 - p)))) := hideL (by
            rw [HZ2, hd, qM_oth _ _ _ h34 h92, map_two, ← (drop_next hd).2, show 1 + (p' - p) = p' + 1 - p by omega])
          have E34 : (!false && ch == 34) = false := by simp [h34]
          have E92 : (!false && ch == 92) = false := by simp [h92]
          dsimp only at C34 C92 x0
          rw [E34] at C34
          rw [E92] at C92
          have hdb : ch.toNat < 256 := ch.toNat_lt
          generalize hq0 : ch.toNat = q at x0 hdb
          have HQ1 : Hid ((q : Int) = (ch.toNat : Int)) := hideL (by rw [hq0])
          clear hq0 HZ HZ2 hd E34 E92 HK h34 h92
          go_wp2_with (first
            | (go_at_call 81; refine C34.out.mono ?_; clear C34; rintro e w6 ⟨rfl, e6⟩; subst e6)
            | (go_at_call 81; refine C92.out.mono ?_; clear C92; rintro e w7 ⟨rfl, e7⟩; subst e7)
            | (at_builtin; refine wpList_pushC rfl _ _ rfl _ _ m _ ch _ rfl HB _ (by first | rfl | simp) rfl HQ1 (by omega) ?_; intro a4 c4 W4 G4 K4; have HG4 := hideL (HGr.out.other K4.out (by decide)); clear HB K4))
          go_roundw
          case rel => exact ⟨k + 1, m + 1, p' + 1, a4, c4, _, by go_num, rfl, by omega, by omega, by omega, G4, HG4, HSn, HZn⟩
          case measure => simp [intOf] <;> omega
end Go.Proofs.YtiemiphlfbaojaaDoor
namespace Go.Proofs.YtiemiphlfbaojaaDoor
open Go.ChangeShapes Go.WideShapes Go.ChangeAt Go.RowKit

theorem sp_plain {l : List UInt8} {G : List Sg} {i p : Nat} (h : SP l G i p) (c : UInt8) (s : List UInt8) (hd : l.drop p = c :: s) (h92 : c ≠ 92) : G[i]? = some ⟨c, false, p, 1⟩ ∧ SP l G (i + 1) (p + 1) := by
  rcases sp_cases h with ⟨h1, _⟩ | ⟨x, q, _, hx, _, hs, hh⟩
  · rw [List.drop_of_length_le (by omega)] at hd; cases hd
  · rcases hh with ⟨d, t, e, _⟩ | ⟨e, _⟩ | ⟨c', t, e, _, rfl, rfl⟩
    · rw [hd] at e; exact absurd (List.cons.inj e).1 h92
    · rw [hd] at e; exact absurd (List.cons.inj e).1 h92
    · rw [hd] at e
      obtain ⟨rfl, rfl⟩ := List.cons.inj e
      exact ⟨hx, hs⟩
theorem sp_digs (l : List UInt8) (G : List Sg) : ∀ (n i p : Nat), SP l G i p → dgL (l.drop p) = n → SP l G (i + n) (p + n) := by
  intro n
  induction n with
  | zero => intro i p h _; exact h
  | succ n ih =>
    intro i p h e
    cases hd : l.drop p with
    | nil => rw [hd] at e; cases e
    | cons c s =>
      by_cases hc : cl c = 102
      · have h1 := (sp_dig h c s hd hc).2
        rw [hd, dg_yes c s hc, ← (drop_next hd).2] at e
        have h2 := ih (i + 1) (p + 1) h1 (Nat.succ.inj e)
        rw [show i + (n + 1) = i + 1 + n by omega, show p + (n + 1) = p + 1 + n by omega]
        exact h2
      · rw [hd, dg_no c s hc] at e; cases e
/-- A byte here, not as a letter. -/
theorem spl_head {l : List UInt8} {G : List Sg} {i p : Nat} (h : SP l G i p) (c : UInt8) (h92 : c ≠ 92) : spl G i c = decide ((l.drop p).head? = some c) := by
  have h29 : (92 : UInt8) ≠ c := fun e => h92 e.symm
  rcases sp_cases h with ⟨h1, h2⟩ | ⟨x, q, _, hx, _, _, hh⟩
  · unfold spl
    rw [List.getElem?_eq_none h2, List.drop_of_length_le (by omega)]
    rfl
  · rw [spl_at hx]
    rcases hh with ⟨d, t, e, rfl, _⟩ | ⟨e, rfl, _⟩ | ⟨c', t, e, _, rfl, _⟩
    · rw [e]; simp [h29]
    · rw [e]; simp [h29]
    · rw [e]
      by_cases hc : c' = c
      · subst hc; simp
      · simp [hc]
theorem nmA_num (r : List UInt8) : (nmA r = -1 ∧ ∀ k m, numT k m r = none) ∨ (0 ≤ nmA r ∧ 0 < dgL r ∧ ∀ k m, numT k m r = some ⟨k, [], nmA r, m + dgL r⟩) := by
  by_cases h : 0 < dgL r ∧ nmV 0 r ≤ 999999999
  · have e : nmA r = (nmV 0 r : Nat) := by unfold nmA; rw [if_pos h]
    refine .inr ⟨by rw [e]; omega, h.1, fun k m => ?_⟩
    unfold numT
    rw [if_pos h, e]
  · refine .inl ⟨by unfold nmA; rw [if_neg h], fun k m => ?_⟩
    unfold numT
    rw [if_neg h]
theorem tok_64 (r : List UInt8) : tokF (64 :: r) = numT 21 1 r := by
  rw [tokF, if_neg (by decide +kernel), if_neg (by decide +kernel), if_neg (by decide +kernel), if_neg (by decide +kernel), if_pos (by decide +kernel)]
theorem tok_126 (r : List UInt8) : tokF (126 :: r) = if dgL r = 0 then some ⟨20, [], -1, 1⟩ else numT 20 1 r := by
  rw [tokF, if_neg (by decide +kernel), if_neg (by decide +kernel), if_pos (by decide +kernel)]
theorem tok_94 (r : List UInt8) : tokF (94 :: r) = if r.head? = some 61 then numT 19 2 (r.drop 1) else numT 18 1 r := by
  rw [tokF, if_neg (by decide +kernel), if_neg (by decide +kernel), if_neg (by decide +kernel), if_pos (by decide +kernel)]
/-- What numbered answers. -/
def nbPost (w : World) (l : List UInt8) (G : List Sg) (p : Nat) (x : Ending) (w' : World) : Prop :=
  ((tokF (l.drop p) = none ∧ ∃ z : Int, x = .returned (.tuple #[.int .i64 (-1), .int .i64 0, .int .i64 z])) ∨ (∃ (t : Tk) (j : Nat), tokF (l.drop p) = some t ∧ t.t = [] ∧ x = .returned (.tuple #[.int .i64 ((t.k : Nat) : Int), .int .i64 t.n, .int .i64 (j : Int)]) ∧ SP l G j (p + t.z))) ∧ w' = w
theorem nb_no {w : World} {l : List UInt8} {G : List Sg} {p : Nat} (h : tokF (l.drop p) = none) (z : Int) : nbPost w l G p (.returned (.tuple #[.int .i64 (-1), .int .i64 0, .int .i64 z])) w := ⟨.inl ⟨h, z, rfl⟩, rfl⟩
theorem nb_yes {w : World} {l : List UInt8} {G : List Sg} {p : Nat} (k : Nat) (v : Int) (m j : Nat) (h : tokF (l.drop p) = some ⟨k, [], v, m⟩) (hs : SP l G j (p + m)) : nbPost w l G p (.returned (.tuple #[.int .i64 (k : Int), .int .i64 v, .int .i64 (j : Int)])) w := ⟨.inr ⟨_, j, h, rfl, rfl, hs⟩, rfl⟩
end Go.Proofs.YtiemiphlfbaojaaDoor
