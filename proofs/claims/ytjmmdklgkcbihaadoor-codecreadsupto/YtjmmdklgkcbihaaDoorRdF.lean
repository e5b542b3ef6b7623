import Derived.Test.YtjmmdklgkcbihaaDoorRdE
namespace Go.Proofs.YtjmmdklgkcbihaaDoor
open Go.ChangeShapes Go.WideShapes Go.ChangeAt Go.RowKit

set_option maxRecDepth 20000 in
theorem rupto_ok (br : Nat) (v : Value) (l : List Int) (p x k : Nat) (most : Int) (a0 a1 : Addr) (w : World) (h : Rd w br v l p) (hr : rdu 0 0 (l.drop p) = .ok (x, k)) (hm : (x : Int) ≤ most) (hm2 : most ≤ 9223372036854775807)
    (g0 : w.cell? ⟨1, 0, none⟩ = some (errV a0)) (g1 : w.cell? ⟨3, 0, none⟩ = some (errV a1)) :
    Calls Tryd.prog 47 #[.pointer (some ⟨br, 0, none⟩), .int .i64 most] w fun e w' => e = .returned (.tuple #[.int .i64 x, .nilIface]) ∧ Rd w' br v l (p + k) ∧ Kept (fun i => i = br) w w' := by
  have hc := h.cell1
  have hc0 := h.cell0
  have hf := h.free1
  have hp := h.le
  have hs := h.sm
  have HH := hide h
  have hk := rdu_le _ _ _ _ _ hr
  rw [List.length_drop] at hk
  obtain ⟨a, c, rfl, hb, _⟩ := bytes_of_own h.own
  have c1 : ∀ n, Calls Tryd.prog 80 #[.slice a l.length c, .int .i64 p, .int .i64 most] (w.drewN n) fun e w' => e = .returned (.tuple #[.int .i64 x, .int .i64 ((p : Int) + k), .nilIface]) ∧ ∃ m, w' = w.drewN m := by
    intro n
    refine (upat_ok l a c p x k most a0 a1 (w.drewN n) hb h.isb h.le (by omega) g0 g1 hr hm hm2).mono ?_
    rintro e w' ⟨rfl, m, rfl⟩
    exact ⟨rfl, n + m, by rw [World.drewN_drewN]⟩
  have C1 := hide c1
  clear h hb g0 g1 hr c1
  go_enter Tryd.func47, Tryd.ntmps47
  go_wp2_with fail
  go_quiet ((exact C1.out _))
  go_wp2
  go_ret2
  have e : (p : Int) + k = ((p + k : Nat) : Int) := by omega
  have q := (HH.out.drewN nq).move (q := p + k) (by omega)
  rw [e]
  exact ⟨rfl, q, RKept nq _⟩
set_option maxRecDepth 20000 in
theorem rupto_bad (br : Nat) (v : Value) (l : List Int) (p : Nat) (most : Int) (ad : Addr) (w : World) (h : Rd w br v l p)
    (hc : ∀ a c, BytesAt w a l → ∀ n, Calls Tryd.prog 80 #[.slice a l.length c, .int .i64 p, .int .i64 most] (w.drewN n) fun e w' => e = .returned (.tuple #[.int .i64 0, .int .i64 0, errV ad]) ∧ ∃ m, w' = (w.drewN n).drewN m) :
    Calls Tryd.prog 47 #[.pointer (some ⟨br, 0, none⟩), .int .i64 most] w fun e w' => e = .returned (.tuple #[.int .i64 0, errV ad]) ∧ ∃ n, w' = w.drewN n := by
  have hc1 := h.cell1
  have hc0 := h.cell0
  have hs := h.sm
  obtain ⟨a, c, rfl, hb, _⟩ := bytes_of_own h.own
  have c1 : ∀ n, Calls Tryd.prog 80 #[.slice a l.length c, .int .i64 p, .int .i64 most] (w.drewN n) fun e w' => e = .returned (.tuple #[.int .i64 0, .int .i64 0, .iface 139 (.pointer (some ad))]) ∧ ∃ m, w' = w.drewN m := by
    intro n
    refine (hc a c hb n).mono ?_
    rintro e w' ⟨rfl, m, rfl⟩
    exact ⟨rfl, n + m, by rw [World.drewN_drewN]⟩
  have C1 := hide c1
  clear h hb c1 hc
  go_enter Tryd.func47, Tryd.ntmps47
  go_wp2_with fail
  go_quiet ((exact C1.out _))
  go_wp2
  go_ret2
  exact ⟨rfl, _, rfl⟩

/-- The number of bytes, the lowest first. -/
def vle : List Int → Nat
  | [] => 0
  | c :: r => c.toNat + 256 * vle r
theorem vle_snoc (c : Int) : ∀ l, vle (l ++ [c]) = vle l + 256 ^ l.length * c.toNat := by
  intro l
  induction l with
  | nil => simp [vle]
  | cons y r ih =>
    rw [List.cons_append, vle, vle, ih, List.length_cons, Nat.pow_succ, Nat.mul_add]
    have : 256 ^ r.length * 256 * c.toNat = 256 * (256 ^ r.length * c.toNat) := by rw [Nat.mul_comm (256 ^ r.length), Nat.mul_assoc]
    omega
theorem vle_lt : ∀ l : List Int, IsBytes l → vle l < 256 ^ l.length := by
  intro l
  induction l with
  | nil => intro _; simp [vle]
  | cons y r ih =>
    intro h
    have h1 := h y (List.mem_cons_self ..)
    have h2 := ih (fun x hx => h x (List.mem_cons_of_mem _ hx))
    rw [vle, List.length_cons, Nat.pow_succ]
    have : 256 * (vle r + 1) ≤ 256 * 256 ^ r.length := Nat.mul_le_mul_left _ h2
    omega
theorem le_vle : ∀ l : List Int, IsBytes l → le l.length (vle l) = l := by
  intro l
  induction l with
  | nil => intro _; rfl
  | cons y r ih =>
    intro h
    have h1 := h y (List.mem_cons_self ..)
    have h2 := ih (fun x hx => h x (List.mem_cons_of_mem _ hx))
    rw [List.length_cons, vle, le]
    have e1 : (y.toNat + 256 * vle r) % 256 = y.toNat := by omega
    have e2 : (y.toNat + 256 * vle r) / 256 = vle r := by omega
    rw [e1, e2, h2]
    congr 1
    omega
theorem vle_le : ∀ m n, vle (le m n) = n % 256 ^ m := by
  intro m
  induction m with
  | zero => intro n; simp [le, vle, Nat.mod_one]
  | succ m ih =>
    intro n
    rw [le, vle, ih, Nat.pow_succ, Nat.mul_comm (256 ^ m), Nat.mod_mul, Int.toNat_natCast]
theorem le_bytes : ∀ m n, IsBytes (le m n) := by
  intro m
  induction m with
  | zero => intro n x hx; cases hx
  | succ m ih =>
    intro n x hx
    rw [le] at hx
    rcases List.mem_cons.1 hx with rfl | hx
    · omega
    · exact ih _ x hx
theorem word_or (acc c k : Nat) (hacc : acc < 256 ^ k) (hc : c < 256) (hk : k < 8) :
    bits .or .u64 (acc : Int) (IntKind.u64.wrap ((c : Int) * 2 ^ (8 * k))) = ((acc + 256 ^ k * c : Nat) : Int) := by
  have hb : (c + 1) * 2 ^ (8 * k) ≤ 256 * 2 ^ (8 * k) := Nat.mul_le_mul_right _ hc
  rw [Nat.add_mul, Nat.one_mul, show (256 : Nat) = 2 ^ 8 by decide, ← Nat.pow_add] at hb
  have hp : 2 ^ (8 + 8 * k) ≤ 2 ^ 64 := Nat.pow_le_pow_right (by decide) (by omega)
  rw [pow8] at hacc ⊢
  have e : IntKind.u64.wrap ((c : Int) * 2 ^ (8 * k)) = ((c * 2 ^ (8 * k) : Nat) : Int) := by
    rw [IntKind.wrap_u64]
    have e1 : ((c : Int) * 2 ^ (8 * k)) = ((c * 2 ^ (8 * k) : Nat) : Int) := by push_cast; rfl
    rw [e1]
    omega
  rw [e, or_u64 _ _ (by omega) (by omega), or_above _ _ _ hacc, Nat.mul_comm c]
theorem vle_take_succ {l : List Int} {p k : Nat} (h : p + k < l.length) (c : Nat) (hc : l[p + k] = c) : vle ((l.drop p).take (k + 1)) = vle ((l.drop p).take k) + 256 ^ k * c := by
  have hk : k < (l.drop p).length := by rw [List.length_drop]; omega
  rw [List.take_succ_eq_append_getElem hk, vle_snoc, List.length_take, Nat.min_eq_left (by omega), List.getElem_drop, hc]
  rfl

set_option maxRecDepth 20000 in
set_option maxHeartbeats 1000000 in
theorem rword_ok (br : Nat) (v : Value) (l : List Int) (p sz : Nat) (w : World) (h : Rd w br v l p) (hs8 : sz ≤ 8) (hps : p + sz ≤ l.length) :
    Calls Tryd.prog 81 #[.pointer (some ⟨br, 0, none⟩), .int .i64 sz] w fun e w' => e = .returned (.tuple #[.int .u64 (vle ((l.drop p).take sz)), .nilIface]) ∧ Rd w' br v l (p + sz) ∧ Kept (fun i => i = br) w w' := by
  have hc := h.cell1
  have hc0 := h.cell0
  have hf := h.free1
  have hs := h.sm
  have HH := hide h
  have HB := hide h.isb
  have c1 := left_any br v l p w h
  obtain ⟨a, c, rfl, hb, _⟩ := bytes_of_own h.own
  have HA := hide hb
  have h1 : (sz : Int) ≤ ((l.length - p : Nat) : Int) := by omega
  obtain ⟨lf, hlf⟩ : ∃ lf, lf = l.length - p := ⟨_, rfl⟩
  rw [← hlf] at c1 h1
  clear h hb hlf
  go_enter Tryd.func81, Tryd.ntmps81
  go_wp2_with (go_at_call 19; refine c1.mono ?_; rintro e w' ⟨rfl, n, rfl⟩)
  go_loopw [6, 16] (fun u i wr => ∃ k m : Nat, k ≤ sz ∧ i = .int .i64 k ∧ u = .int .u64 (vle ((l.drop p).take k)) ∧ wr = w.drewN m) (fun _ i _ => sz - (intOf i).toNat)
  case atStart => exact ⟨0, n, Nat.zero_le _, rfl, rfl, rfl⟩
  case round =>
    obtain ⟨k, m, hk, rfl, rfl, rfl⟩ := hrel
    by_cases hlt : k < sz
    · obtain ⟨b, off, rfl, hcl⟩ := HA.out.get (k := p + k) (by omega)
      obtain ⟨cc, e1, e2, e3⟩ := HB.out.at (k := p + k) (by omega)
      rw [e1] at hcl
      have hv := vle_take_succ (p := p) (k := k) (by omega) cc e3
      have hlt2 : vle ((l.drop p).take k) < 256 ^ k := by
        have q := vle_lt ((l.drop p).take k) (fun x hx => HB.out x (List.mem_of_mem_drop (List.mem_of_mem_take hx)))
        rw [List.length_take, List.length_drop, Nat.min_eq_left (by omega)] at q
        exact q
      have ho := word_or _ cc k hlt2 e2 (by omega)
      rw [← hv] at ho
      obtain ⟨ac, hac⟩ : ∃ ac, ac = vle ((l.drop p).take k) := ⟨_, rfl⟩
      obtain ⟨na, hna⟩ : ∃ na, na = vle ((l.drop p).take (k + 1)) := ⟨_, rfl⟩
      rw [← hac, ← hna] at ho
      rw [← hac]
      have HN := hide hna
      clear hac hna hv hlt2 e1 e3
      go_wp2_with fail
      go_quiet (fail)
      go_wp2
      go_roundw
      case rel => exact ⟨k + 1, _, by omega, by go_num, by rw [← HN.out], rfl⟩
      case measure => simp [intOf]; omega
    · obtain rfl : k = sz := by omega
      clear hlt hk
      obtain ⟨ac, hac⟩ : ∃ ac, ac = vle ((l.drop p).take k) := ⟨_, rfl⟩
      rw [← hac]
      have HC := hide hac
      clear hac
      go_wp2
      go_ret2
      have e : (p : Int) + k = ((p + k : Nat) : Int) := by omega
      have q := (HH.out.drewN m).move (q := p + k) hps
      rw [e, ← HC.out]
      exact ⟨rfl, q, RKept m _⟩
end Go.Proofs.YtjmmdklgkcbihaaDoor
