import Derived.Test.YtcanbhbhdgogoaaDoorWrG
namespace Go.Proofs.YtcanbhbhdgogoaaDoor
open Go.ChangeShapes Go.WideShapes Go.ChangeAt Go.RowKit

theorem Rd.drewN {w : World} {br : Nat} {v : Value} {l : List Int} {p : Nat} (h : Rd w br v l p) (n : Nat) : Rd (w.drewN n) br v l p := h.kept (Kept.drewN w n) (fun f => f) (fun _ _ f => f)
theorem RKept {br : Nat} {w : World} (n : Nat) (q : Value) : Kept (fun i => i = br) w ((w.drewN n).setCell ⟨br, 1, none⟩ q) :=
  ((Kept.drewN w n).mono (fun _ f => f.elim)).trans (Kept.setCell _ _ _) (fun _ hi => .inl hi)

/-- Which error a uvarint's refusal is. -/
def errOf (a0 a1 : Addr) (e : Nat) : Value := if e = 0 then errV a0 else errV a1
theorem zag0 : zag 0 = 0 := by decide
end Go.Proofs.YtcanbhbhdgogoaaDoor
namespace Go.Proofs.YtcanbhbhdgogoaaDoor
open Go.ChangeShapes Go.WideShapes Go.ChangeAt Go.RowKit

theorem errOf_form (a0 a1 : Addr) (er : Nat) : ∃ ad, errOf a0 a1 er = .iface 121 (.pointer (some ad)) := by
  unfold errOf errV
  split
  · exact ⟨_, rfl⟩
  · exact ⟨_, rfl⟩

set_option maxRecDepth 20000 in
theorem upat_ok (l : List Int) (a : Option Addr) (cp p x k : Nat) (most : Int) (a0 a1 : Addr) (w : World) (h : BytesAt w a l) (hB : IsBytes l) (hp : p ≤ l.length) (hl : l.length ≤ 4611686018427387904)
    (g0 : w.cell? ⟨2, 0, none⟩ = some (errV a0)) (g1 : w.cell? ⟨3, 0, none⟩ = some (errV a1)) (hr : rdu 0 0 (l.drop p) = .ok (x, k)) (hm : (x : Int) ≤ most) (hm2 : most ≤ 9223372036854775807) :
    Calls Tryd.prog 67 #[.slice a l.length cp, .int .i64 p, .int .i64 most] w fun e w' => e = .returned (.tuple #[.int .i64 x, .int .i64 ((p : Int) + k), .nilIface]) ∧ ∃ n, w' = w.drewN n := by
  have c1 : Calls Tryd.prog 71 #[.slice a l.length cp, .int .i64 p] w fun e w' => e = .returned (.tuple #[.int .u64 x, .int .i64 ((p : Int) + k), .nilIface]) ∧ ∃ m, w' = w.drewN m := by
    refine (uvat_any l a cp p (errV a0) (errV a1) w h hB hp hl g0 g1).mono ?_
    rintro e w' ⟨rfl, m, rfl⟩
    refine ⟨?_, m, rfl⟩
    rw [hr]
    simp [uvRes]
  have C1 := hide c1
  clear h hB g0 g1 hr c1
  go_enter Tryd.func67, Tryd.ntmps67
  go_wp2_with (go_at_call 71; refine C1.out.mono ?_; rintro e w1 ⟨rfl, n, rfl⟩)
  go_ret3
  exact ⟨rfl, n, rfl⟩
set_option maxRecDepth 20000 in
theorem upat_lim (l : List Int) (a : Option Addr) (cp p x k : Nat) (most : Int) (a0 a1 a2 : Addr) (w : World) (h : BytesAt w a l) (hB : IsBytes l) (hp : p ≤ l.length) (hl : l.length ≤ 4611686018427387904)
    (g0 : w.cell? ⟨2, 0, none⟩ = some (errV a0)) (g1 : w.cell? ⟨3, 0, none⟩ = some (errV a1)) (g2 : w.cell? ⟨0, 0, none⟩ = some (errV a2)) (hr : rdu 0 0 (l.drop p) = .ok (x, k)) (hm : most < (x : Int)) (hm2 : most ≤ 9223372036854775807) :
    Calls Tryd.prog 67 #[.slice a l.length cp, .int .i64 p, .int .i64 most] w fun e w' => e = .returned (.tuple #[.int .i64 0, .int .i64 0, errV a2]) ∧ ∃ n, w' = w.drewN n := by
  have hx := rdu_lt (l.drop p) 0 0 x k (by omega) (by decide) (fun y hy => hB y (List.mem_of_mem_drop hy)) hr
  have c1 : Calls Tryd.prog 71 #[.slice a l.length cp, .int .i64 p] w fun e w' => e = .returned (.tuple #[.int .u64 x, .int .i64 ((p : Int) + k), .nilIface]) ∧ ∃ m, w' = w.drewN m := by
    refine (uvat_any l a cp p (errV a0) (errV a1) w h hB hp hl g0 g1).mono ?_
    rintro e w' ⟨rfl, m, rfl⟩
    refine ⟨?_, m, rfl⟩
    rw [hr]
    simp [uvRes]
  have C1 := hide c1
  clear h hB g0 g1 hr c1
  by_cases hneg : most < 0
  · go_enter Tryd.func67, Tryd.ntmps67
    go_wp2_with (go_at_call 71; refine C1.out.mono ?_; rintro e w1 ⟨rfl, n, rfl⟩)
    go_quiet (fail)
    go_wp2
    go_ret3
    exact ⟨rfl, n + nq, by first | rfl | rw [World.drewN_drewN]⟩
  · obtain ⟨mo, rfl⟩ : ∃ mo : Nat, most = mo := ⟨most.toNat, by omega⟩
    go_enter Tryd.func67, Tryd.ntmps67
    go_wp2_with (go_at_call 71; refine C1.out.mono ?_; rintro e w1 ⟨rfl, n, rfl⟩)
    go_quiet (fail)
    go_wp2
    go_ret3
    exact ⟨rfl, n + nq, by first | rfl | rw [World.drewN_drewN]⟩
set_option maxRecDepth 20000 in
theorem upat_err (l : List Int) (a : Option Addr) (cp p er : Nat) (most : Int) (a0 a1 : Addr) (w : World) (h : BytesAt w a l) (hB : IsBytes l) (hp : p ≤ l.length) (hl : l.length ≤ 4611686018427387904)
    (g0 : w.cell? ⟨2, 0, none⟩ = some (errV a0)) (g1 : w.cell? ⟨3, 0, none⟩ = some (errV a1)) (hr : rdu 0 0 (l.drop p) = .error er) :
    Calls Tryd.prog 67 #[.slice a l.length cp, .int .i64 p, .int .i64 most] w fun e w' => e = .returned (.tuple #[.int .i64 0, .int .i64 0, errOf a0 a1 er]) ∧ ∃ n, w' = w.drewN n := by
  obtain ⟨ad, had⟩ := errOf_form a0 a1 er
  have c1 : Calls Tryd.prog 71 #[.slice a l.length cp, .int .i64 p] w fun e w' => e = .returned (.tuple #[.int .u64 0, .int .i64 0, .iface 121 (.pointer (some ad))]) ∧ ∃ m, w' = w.drewN m := by
    refine (uvat_any l a cp p (errV a0) (errV a1) w h hB hp hl g0 g1).mono ?_
    rintro e w' ⟨rfl, m, rfl⟩
    refine ⟨?_, m, rfl⟩
    rw [hr, ← had]
    cases er with
    | zero => rfl
    | succ k => rfl
  have C1 := hide c1
  rw [had]
  clear h hB g0 g1 hr c1 had
  go_enter Tryd.func67, Tryd.ntmps67
  go_wp2_with (go_at_call 71; refine C1.out.mono ?_; rintro e w1 ⟨rfl, n, rfl⟩)
  go_ret3
  exact ⟨rfl, n, rfl⟩

/-- What the three ways of uptoAt come to, for its callers: a number and the place behind it, or an error. -/
inductive UpRes (l : List Int) (p : Nat) (most : Int) (a0 a1 a2 : Addr) : Nat → Nat → Value → Prop
  | ok {x k : Nat} (hr : rdu 0 0 (l.drop p) = .ok (x, k)) (hm : (x : Int) ≤ most) : UpRes l p most a0 a1 a2 x (p + k) .nilIface
  | lim {x k : Nat} (hr : rdu 0 0 (l.drop p) = .ok (x, k)) (hm : most < (x : Int)) : UpRes l p most a0 a1 a2 0 0 (errV a2)
  | err {er : Nat} (hr : rdu 0 0 (l.drop p) = .error er) : UpRes l p most a0 a1 a2 0 0 (errOf a0 a1 er)
theorem upat_any (l : List Int) (a : Option Addr) (cp p : Nat) (most : Int) (a0 a1 a2 : Addr) (hB : IsBytes l) (hp : p ≤ l.length) (hl : l.length ≤ 4611686018427387904) (hm2 : most ≤ 9223372036854775807) :
    ∃ x q E, UpRes l p most a0 a1 a2 x q E ∧ ∀ w, BytesAt w a l → w.cell? ⟨2, 0, none⟩ = some (errV a0) → w.cell? ⟨3, 0, none⟩ = some (errV a1) → w.cell? ⟨0, 0, none⟩ = some (errV a2) →
      Calls Tryd.prog 67 #[.slice a l.length cp, .int .i64 p, .int .i64 most] w fun e w' => e = .returned (.tuple #[.int .i64 x, .int .i64 q, E]) ∧ ∃ n, w' = w.drewN n := by
  cases hr : rdu 0 0 (l.drop p) with
  | error er => exact ⟨0, 0, _, .err hr, fun w h g0 g1 _ => upat_err l a cp p er most a0 a1 w h hB hp hl g0 g1 hr⟩
  | ok xk =>
    obtain ⟨x, k⟩ := xk
    by_cases hm : (x : Int) ≤ most
    · exact ⟨x, p + k, _, .ok hr hm, fun w h g0 g1 _ => by
        have q := upat_ok l a cp p x k most a0 a1 w h hB hp hl g0 g1 hr hm hm2
        have e : (p : Int) + k = ((p + k : Nat) : Int) := by omega
        rw [e] at q
        exact q⟩
    · exact ⟨0, 0, _, .lim hr (by omega), fun w h g0 g1 g2 => upat_lim l a cp p x k most a0 a1 a2 w h hB hp hl g0 g1 g2 hr (by omega) hm2⟩
end Go.Proofs.YtcanbhbhdgogoaaDoor
namespace Go.Proofs.YtcanbhbhdgogoaaDoor
open Go.ChangeShapes Go.WideShapes Go.ChangeAt Go.RowKit

set_option maxRecDepth 20000 in
theorem rupto_ok (br : Nat) (v : Value) (l : List Int) (p x k : Nat) (most : Int) (a0 a1 : Addr) (w : World) (h : Rd w br v l p) (hr : rdu 0 0 (l.drop p) = .ok (x, k)) (hm : (x : Int) ≤ most) (hm2 : most ≤ 9223372036854775807)
    (g0 : w.cell? ⟨2, 0, none⟩ = some (errV a0)) (g1 : w.cell? ⟨3, 0, none⟩ = some (errV a1)) :
    Calls Tryd.prog 53 #[.pointer (some ⟨br, 0, none⟩), .int .i64 most] w fun e w' => e = .returned (.tuple #[.int .i64 x, .nilIface]) ∧ Rd w' br v l (p + k) ∧ Kept (fun i => i = br) w w' := by
  have hc := h.cell1
  have hc0 := h.cell0
  have hf := h.free1
  have hp := h.le
  have hs := h.sm
  have HH := hide h
  have hk := rdu_le _ _ _ _ _ hr
  rw [List.length_drop] at hk
  obtain ⟨a, c, rfl, hb, _⟩ := bytes_of_own h.own
  have c1 : ∀ n, Calls Tryd.prog 67 #[.slice a l.length c, .int .i64 p, .int .i64 most] (w.drewN n) fun e w' => e = .returned (.tuple #[.int .i64 x, .int .i64 ((p : Int) + k), .nilIface]) ∧ ∃ m, w' = w.drewN m := by
    intro n
    refine (upat_ok l a c p x k most a0 a1 (w.drewN n) hb h.isb h.le (by omega) g0 g1 hr hm hm2).mono ?_
    rintro e w' ⟨rfl, m, rfl⟩
    exact ⟨rfl, n + m, by rw [World.drewN_drewN]⟩
  have C1 := hide c1
  clear h hb g0 g1 hr c1
  go_enter Tryd.func53, Tryd.ntmps53
  go_wp2_with fail
  go_quiet ((exact C1.out _))
  go_wp2
  go_ret2
  have e : (p : Int) + k = ((p + k : Nat) : Int) := by omega
  have q := (HH.out.drewN nq).move (q := p + k) (by omega)
  rw [e]
  exact ⟨rfl, q, RKept nq _⟩
set_option maxRecDepth 20000 in
theorem rupto_bad (br : Nat) (v : Value) (l : List Int) (p : Nat) (most : Int) (ad : Addr) (w : World) (h : Rd w br v l p)
    (hc : ∀ a c, BytesAt w a l → ∀ n, Calls Tryd.prog 67 #[.slice a l.length c, .int .i64 p, .int .i64 most] (w.drewN n) fun e w' => e = .returned (.tuple #[.int .i64 0, .int .i64 0, errV ad]) ∧ ∃ m, w' = (w.drewN n).drewN m) :
    Calls Tryd.prog 53 #[.pointer (some ⟨br, 0, none⟩), .int .i64 most] w fun e w' => e = .returned (.tuple #[.int .i64 0, errV ad]) ∧ ∃ n, w' = w.drewN n := by
  have hc1 := h.cell1
  have hc0 := h.cell0
  have hs := h.sm
  obtain ⟨a, c, rfl, hb, _⟩ := bytes_of_own h.own
  have c1 : ∀ n, Calls Tryd.prog 67 #[.slice a l.length c, .int .i64 p, .int .i64 most] (w.drewN n) fun e w' => e = .returned (.tuple #[.int .i64 0, .int .i64 0, .iface 121 (.pointer (some ad))]) ∧ ∃ m, w' = w.drewN m := by
    intro n
    refine (hc a c hb n).mono ?_
    rintro e w' ⟨rfl, m, rfl⟩
    exact ⟨rfl, n + m, by rw [World.drewN_drewN]⟩
  have C1 := hide c1
  clear h hb c1 hc
  go_enter Tryd.func53, Tryd.ntmps53
  go_wp2_with fail
  go_quiet ((exact C1.out _))
  go_wp2
  go_ret2
  exact ⟨rfl, _, rfl⟩

/-- The number of bytes, the lowest first. -/
def vle : List Int → Nat
  | [] => 0
  | c :: r => c.toNat + 256 * vle r
theorem vle_snoc (c : Int) : ∀ l, vle (l ++ [c]) = vle l + 256 ^ l.length * c.toNat := by
  intro l
  induction l with
  | nil => simp [vle]
  | cons y r ih =>
    rw [List.cons_append, vle, vle, ih, List.length_cons, Nat.pow_succ, Nat.mul_add]
    have : 256 ^ r.length * 256 * c.toNat = 256 * (256 ^ r.length * c.toNat) := by rw [Nat.mul_comm (256 ^ r.length), Nat.mul_assoc]
    omega
theorem vle_lt : ∀ l : List Int, IsBytes l → vle l < 256 ^ l.length := by
  intro l
  induction l with
  | nil => intro _; simp [vle]
  | cons y r ih =>
    intro h
    have h1 := h y (List.mem_cons_self ..)
    have h2 := ih (fun x hx => h x (List.mem_cons_of_mem _ hx))
    rw [vle, List.length_cons, Nat.pow_succ]
    have : 256 * (vle r + 1) ≤ 256 * 256 ^ r.length := Nat.mul_le_mul_left _ h2
    omega
theorem le_vle : ∀ l : List Int, IsBytes l → le l.length (vle l) = l := by
  intro l
  induction l with
  | nil => intro _; rfl
  | cons y r ih =>
    intro h
    have h1 := h y (List.mem_cons_self ..)
    have h2 := ih (fun x hx => h x (List.mem_cons_of_mem _ hx))
    rw [List.length_cons, vle, le]
    have e1 : (y.toNat + 256 * vle r) % 256 = y.toNat := by omega
    have e2 : (y.toNat + 256 * vle r) / 256 = vle r := by omega
    rw [e1, e2, h2]
    congr 1
    omega
theorem vle_le : ∀ m n, vle (le m n) = n % 256 ^ m := by
  intro m
  induction m with
  | zero => intro n; simp [le, vle, Nat.mod_one]
  | succ m ih =>
    intro n
    rw [le, vle, ih, Nat.pow_succ, Nat.mul_comm (256 ^ m), Nat.mod_mul, Int.toNat_natCast]
theorem le_bytes : ∀ m n, IsBytes (le m n) := by
  intro m
  induction m with
  | zero => intro n x hx; cases hx
  | succ m ih =>
    intro n x hx
    rw [le] at hx
    rcases List.mem_cons.1 hx with rfl | hx
    · omega
    · exact ih _ x hx
theorem word_or (acc c k : Nat) (hacc : acc < 256 ^ k) (hc : c < 256) (hk : k < 8) :
    bits .or .u64 (acc : Int) (IntKind.u64.wrap ((c : Int) * 2 ^ (8 * k))) = ((acc + 256 ^ k * c : Nat) : Int) := by
  have hb : (c + 1) * 2 ^ (8 * k) ≤ 256 * 2 ^ (8 * k) := Nat.mul_le_mul_right _ hc
  rw [Nat.add_mul, Nat.one_mul, show (256 : Nat) = 2 ^ 8 by decide, ← Nat.pow_add] at hb
  have hp : 2 ^ (8 + 8 * k) ≤ 2 ^ 64 := Nat.pow_le_pow_right (by decide) (by omega)
  rw [pow8] at hacc ⊢
  have e : IntKind.u64.wrap ((c : Int) * 2 ^ (8 * k)) = ((c * 2 ^ (8 * k) : Nat) : Int) := by
    rw [IntKind.wrap_u64]
    have e1 : ((c : Int) * 2 ^ (8 * k)) = ((c * 2 ^ (8 * k) : Nat) : Int) := by push_cast; rfl
    rw [e1]
    omega
  rw [e, or_u64 _ _ (by omega) (by omega), or_above _ _ _ hacc, Nat.mul_comm c]
theorem vle_take_succ {l : List Int} {p k : Nat} (h : p + k < l.length) (c : Nat) (hc : l[p + k] = c) : vle ((l.drop p).take (k + 1)) = vle ((l.drop p).take k) + 256 ^ k * c := by
  have hk : k < (l.drop p).length := by rw [List.length_drop]; omega
  rw [List.take_succ_eq_append_getElem hk, vle_snoc, List.length_take, Nat.min_eq_left (by omega), List.getElem_drop, hc]
  rfl

end Go.Proofs.YtcanbhbhdgogoaaDoor
namespace Go.Proofs.YtcanbhbhdgogoaaDoor
open Go.ChangeShapes Go.WideShapes Go.ChangeAt Go.RowKit

/-- The run of bytes from a place on. -/
theorem BytesAt.cut {w : World} {b off : Nat} {l : List Int} {p n : Nat} (h : ∀ k, k < l.length → w.cell? ⟨b, off + k, none⟩ = some (.int .u8 (l[k]?.getD 0))) (hn : p + n ≤ l.length) : BytesAt w (some ⟨b, off + p, none⟩) ((l.drop p).take n) := by
  intro _
  refine ⟨b, off + p, rfl, fun k hk => ?_⟩
  rw [List.length_take, List.length_drop] at hk
  rw [List.getElem?_take, if_pos (by omega), List.getElem?_drop, Nat.add_assoc]
  exact h (p + k) (by omega)

end Go.Proofs.YtcanbhbhdgogoaaDoor
namespace Go.Proofs.YtcanbhbhdgogoaaDoor
open Go.ChangeShapes Go.WideShapes Go.ChangeAt Go.RowKit

end Go.Proofs.YtcanbhbhdgogoaaDoor
namespace Go.Proofs.YtcanbhbhdgogoaaDoor
open Go.ChangeShapes Go.WideShapes Go.ChangeAt Go.RowKit

set_option maxRecDepth 20000 in
set_option maxHeartbeats 1000000 in
theorem rtext_ok (br : Nat) (v : Value) (l : List Int) (p n k : Nat) (most : Int) (a0 a1 : Addr) (w : World) (h : Rd w br v l p) (hr : rdu 0 0 (l.drop p) = .ok (n, k)) (hm : (n : Int) ≤ most) (hm2 : most ≤ 9223372036854775807) (hn : p + k + n ≤ l.length)
    (g0 : w.cell? ⟨2, 0, none⟩ = some (errV a0)) (g1 : w.cell? ⟨3, 0, none⟩ = some (errV a1)) :
    Calls Tryd.prog 73 #[.pointer (some ⟨br, 0, none⟩), .int .i64 most] w fun e w' => e = .returned (.tuple #[.string (strOfNums ((l.drop (p + k)).take n)), .nilIface]) ∧ Rd w' br v l (p + k + n) ∧ Kept (fun i => i = br) w w' := by
  have hc := h.cell1
  have hc0 := h.cell0
  have hf := h.free1
  have hs := h.sm
  have HH := hide h
  obtain ⟨a, c, hv, hb, _⟩ := bytes_of_own h.own
  have hne := h.ne
  obtain ⟨g, rfl⟩ := h.frm
  simp only [Value.slice.injEq, true_and] at hv
  obtain ⟨rfl, rfl⟩ := hv
  have hgb : g ≠ br := by intro e; exact hne (by rw [e]; rfl)
  have c1 : ∀ n', Calls Tryd.prog 67 #[.slice (some ⟨g, 0, none⟩) l.length l.length, .int .i64 p, .int .i64 most] (w.drewN n') fun e w' => e = .returned (.tuple #[.int .i64 n, .int .i64 ((p + k : Nat) : Int), .nilIface]) ∧ ∃ m, w' = w.drewN m := by
    intro n'
    refine (upat_ok l _ l.length p n k most a0 a1 (w.drewN n') hb h.isb h.le (by omega) g0 g1 hr hm hm2).mono ?_
    rintro e w' ⟨rfl, m, rfl⟩
    exact ⟨by simp, n' + m, by rw [World.drewN_drewN]⟩
  obtain ⟨q, hq⟩ : ∃ q, q = p + k := ⟨_, rfl⟩
  rw [← hq] at c1 hn ⊢
  have hcl : ∀ i, i < l.length → w.cell? ⟨g, i, none⟩ = some (.int .u8 (l[i]?.getD 0)) := by
    intro i hi
    obtain ⟨b, off, e, hcc⟩ := hb (by intro e; rw [e] at hi; simp at hi)
    cases e
    have := hcc i hi
    rwa [Nat.zero_add] at this
  have cv : ∀ (c : Nat) (off : Nat) (W : World), (∀ i, W.cell? ⟨g, i, none⟩ = w.cell? ⟨g, i, none⟩) → (off = q ∨ n = 0) → (convert 25 9 (.slice (some ⟨g, off, none⟩) n c)).run Tryd.prog W = .ok (.string (strOfNums ((l.drop q).take n))) W := by
    intro c off W hW ho
    refine run_convert_bytes_arg W 25 5 Tryd.underlying25 Tryd.underlying5 g off n c _ (by rw [List.length_take, List.length_drop]; omega) (fun i hi => ?_) 9 Tryd.underlying9
    rcases ho with rfl | rfl
    · rw [hW, hcl (off + i) (by omega)]
      simp [List.getD, hi, List.getElem?_drop]
    · omega
  have hsame : ∀ (m : Nat) (x : Value) i, ((w.drewN m).setCell ⟨br, 1, none⟩ x).cell? ⟨g, i, none⟩ = w.cell? ⟨g, i, none⟩ := by
    intro m x i
    exact World.cell?_of_block (w := w) (Below.heap_setCell (w.drewN m) ⟨br, 1, none⟩ x g hgb)
  obtain ⟨st, hst⟩ : ∃ st, st = strOfNums ((l.drop q).take n) := ⟨_, rfl⟩
  rw [← hst] at cv ⊢
  have C1 := hide c1
  clear h hb g0 g1 hr c1 hcl hst hgb hne
  have fin : ∀ m, Rd ((w.drewN m).setCell ⟨br, 1, none⟩ (.int .i64 ((q : Int) + n))) br (.slice (some ⟨g, 0, none⟩) l.length l.length) l (q + n) ∧ Kept (fun i => i = br) w ((w.drewN m).setCell ⟨br, 1, none⟩ (.int .i64 ((q : Int) + n))) := by
    intro m
    rw [show (q : Int) + n = ((q + n : Nat) : Int) by omega]
    exact ⟨(HH.out.drewN m).move hn, RKept m _⟩
  have FIN := hide fin
  clear fin
  by_cases hlq : l.length = q
  · have hn0 : n = 0 := by omega
    subst hn0
    have hcv : ∀ (m : Nat) (x : Value), (convert 25 9 (.slice (some ⟨g, 0, none⟩) 0 0)).run Tryd.prog ((w.drewN m).setCell ⟨br, 1, none⟩ x) = .ok (.string st) ((w.drewN m).setCell ⟨br, 1, none⟩ x) := fun m x => cv 0 0 _ (hsame m x) (.inr rfl)
    clear cv hsame
    have hq2 : q = l.length := hlq.symm
    subst hq2
    clear hlq hq
    go_enter Tryd.func73, Tryd.ntmps73
    go_wp2_with fail
    go_quiet ((exact C1.out _))
    go_wp2
    go_ret2
    have z := FIN.out nq
    simp only [Int.natCast_zero, Int.add_zero, Nat.add_zero] at z ⊢
    exact ⟨rfl, z.1, z.2⟩
  · have hcv : ∀ (m : Nat) (x : Value), (convert 25 9 (.slice (some ⟨g, q, none⟩) n (l.length - q))).run Tryd.prog ((w.drewN m).setCell ⟨br, 1, none⟩ x) = .ok (.string st) ((w.drewN m).setCell ⟨br, 1, none⟩ x) := fun m x => cv _ q _ (hsame m x) (.inl rfl)
    clear cv hsame hq
    go_enter Tryd.func73, Tryd.ntmps73
    go_wp2_with fail
    go_quiet ((exact C1.out _))
    go_wp2
    go_ret2
    exact ⟨rfl, (FIN.out nq).1, (FIN.out nq).2⟩
end Go.Proofs.YtcanbhbhdgogoaaDoor
namespace Go.Proofs.YtcanbhbhdgogoaaDoor
open Go.ChangeShapes Go.WideShapes Go.ChangeAt Go.RowKit

set_option maxRecDepth 20000 in
set_option maxHeartbeats 1000000 in
theorem rtext_bad (br : Nat) (v : Value) (l : List Int) (p : Nat) (most : Int) (ad : Addr) (w : World) (h : Rd w br v l p)
    (hc : ∀ a c, BytesAt w a l → ∀ n, Calls Tryd.prog 67 #[.slice a l.length c, .int .i64 p, .int .i64 most] (w.drewN n) fun e w' => e = .returned (.tuple #[.int .i64 0, .int .i64 0, errV ad]) ∧ ∃ m, w' = (w.drewN n).drewN m) :
    Calls Tryd.prog 73 #[.pointer (some ⟨br, 0, none⟩), .int .i64 most] w fun e w' => e = .returned (.tuple #[.string ByteArray.empty, errV ad]) ∧ ∃ n, w' = w.drewN n := by
  have hc1 := h.cell1
  have hc0 := h.cell0
  have hs := h.sm
  obtain ⟨a, c, rfl, hb, _⟩ := bytes_of_own h.own
  have c1 : ∀ n, Calls Tryd.prog 67 #[.slice a l.length c, .int .i64 p, .int .i64 most] (w.drewN n) fun e w' => e = .returned (.tuple #[.int .i64 0, .int .i64 0, .iface 121 (.pointer (some ad))]) ∧ ∃ m, w' = w.drewN m := by
    intro n
    refine (hc a c hb n).mono ?_
    rintro e w' ⟨rfl, m, rfl⟩
    exact ⟨rfl, n + m, by rw [World.drewN_drewN]⟩
  have C1 := hide c1
  clear h hb c1 hc
  go_enter Tryd.func73, Tryd.ntmps73
  go_wp2_with fail
  go_quiet ((exact C1.out _))
  go_wp2
  go_ret2
  exact ⟨rfl, _, rfl⟩
set_option maxRecDepth 20000 in
set_option maxHeartbeats 1000000 in
theorem rtext_short (br : Nat) (v : Value) (l : List Int) (p n k : Nat) (most : Int) (a0 a1 : Addr) (w : World) (h : Rd w br v l p) (hr : rdu 0 0 (l.drop p) = .ok (n, k)) (hm : (n : Int) ≤ most) (hm2 : most ≤ 9223372036854775807) (hn : l.length < p + k + n)
    (g0 : w.cell? ⟨2, 0, none⟩ = some (errV a0)) (g1 : w.cell? ⟨3, 0, none⟩ = some (errV a1)) :
    Calls Tryd.prog 73 #[.pointer (some ⟨br, 0, none⟩), .int .i64 most] w fun e w' => e = .returned (.tuple #[.string ByteArray.empty, errV a0]) ∧ ∃ n, w' = w.drewN n := by
  have hc := h.cell1
  have hc0 := h.cell0
  have hs := h.sm
  have hk := rdu_le _ _ _ _ _ hr
  rw [List.length_drop] at hk
  have hp := h.le
  obtain ⟨a, c, rfl, hb, _⟩ := bytes_of_own h.own
  have c1 : ∀ n', Calls Tryd.prog 67 #[.slice a l.length c, .int .i64 p, .int .i64 most] (w.drewN n') fun e w' => e = .returned (.tuple #[.int .i64 n, .int .i64 ((p + k : Nat) : Int), .nilIface]) ∧ ∃ m, w' = w.drewN m := by
    intro n'
    refine (upat_ok l _ c p n k most a0 a1 (w.drewN n') hb h.isb h.le (by omega) g0 g1 hr hm hm2).mono ?_
    rintro e w' ⟨rfl, m, rfl⟩
    exact ⟨by simp, n' + m, by rw [World.drewN_drewN]⟩
  obtain ⟨q, hq⟩ : ∃ q, q = p + k := ⟨_, rfl⟩
  rw [← hq] at c1 hn
  have hq1 : q ≤ l.length := by omega
  have hnI : (l.length : Int) - q < n := by omega
  have C1 := hide c1
  clear h hb g1 hr c1 hk hq hp
  go_enter Tryd.func73, Tryd.ntmps73
  go_wp2_with fail
  go_quiet ((exact C1.out _))
  go_wp2
  go_quiet (fail)
  go_wp2
  go_ret2
  first
    | exact ⟨rfl, _, rfl⟩
    | exact ⟨rfl, _, by rw [World.drewN_drewN]⟩
end Go.Proofs.YtcanbhbhdgogoaaDoor
