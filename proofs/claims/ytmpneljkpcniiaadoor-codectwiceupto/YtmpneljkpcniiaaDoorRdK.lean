import Derived.Test.YtmpneljkpcniiaaDoorUnp
namespace Go.Proofs.YtmpneljkpcniiaaDoor
open Go.ChangeShapes Go.WideShapes Go.ChangeAt Go.RowKit

/-- Is the run of bits one that a Writer puts for the list? -/
def tightB (R xs : List Int) (wd : Nat) : Bool := decide (vle R < 2 ^ (xs.length * wd)) && decide (bitLen (orl xs) = wd)
theorem last_byte {R : List Int} {c : Nat} (hB : IsBytes R) (h : 0 < R.length) (hc : R[R.length - 1] = c) : vle R / 2 ^ (8 * (R.length - 1)) = c := by
  have e := vle_digit R (R.length - 1) hB (by omega)
  rw [hc, pow8] at e
  have h1 := vle_lt R hB
  have h2 : vle R / 2 ^ (8 * (R.length - 1)) < 256 := by
    apply Nat.div_lt_of_lt_mul
    rw [show (256 : Nat) = 2 ^ 8 by decide, ← Nat.pow_add, show 8 * (R.length - 1) + 8 = 8 * R.length by omega, ← pow8]
    exact h1
  rw [Nat.mod_eq_of_lt h2] at e
  omega
theorem over_iff {R : List Int} {c P : Nat} (hB : IsBytes R) (h : 0 < P % 8) (hl : R.length = (P + 7) / 8) (hR : 0 < R.length) (hc : R[R.length - 1] = c) : vle R < 2 ^ P ↔ c / 2 ^ (P % 8) = 0 := by
  have e := last_byte hB hR hc
  have hP : P = 8 * (R.length - 1) + P % 8 := by omega
  rw [← e, Nat.div_div_eq_div_mul, ← Nat.pow_add, ← hP, Nat.div_eq_zero_iff]
  have := Nat.two_pow_pos P
  omega
theorem no_over {R : List Int} {P : Nat} (hB : IsBytes R) (h : P % 8 = 0) (hl : R.length = (P + 7) / 8) : vle R < 2 ^ P := by
  have := vle_lt R hB
  rw [pow8, show 8 * R.length = P by omega] at this
  exact this

set_option maxRecDepth 20000 in
set_option maxHeartbeats 1000000 in
theorem tight_any (R xs : List Int) (a u : Option Addr) (c c2 wd : Nat) (w : World) (h : BytesAt w a R) (hB : IsBytes R) (hx : IntsAt w u xs) (hI : IsInts xs) (h0 : ∀ x ∈ xs, 0 ≤ x) (hw : wd ≤ 63) (hxl : xs.length ≤ 17592186044416) (hl : R.length = (xs.length * wd + 7) / 8) :
    Calls Tryd.prog 33 #[.slice a R.length c, .slice u xs.length c2, .int .i64 wd] w fun e w' => e = .returned (.bool (tightB R xs wd)) ∧ w' = w := by
  have cw := width_any xs u c2 w hx (by omega) hI h0
  have hbl := orl_bits xs h0 hI
  obtain ⟨P, hP⟩ : ∃ P, P = xs.length * wd := ⟨_, rfl⟩
  have hPm : P ≤ xs.length * 63 := by rw [hP]; exact Nat.mul_le_mul_left _ hw
  have hPI : (xs.length : Int) * wd = (P : Int) := by rw [hP]; push_cast; rfl
  have hPb : P ≤ 1108307720798208 := by omega
  have ht : Hid (tightB R xs wd = (decide (vle R < 2 ^ P) && decide (bitLen (orl xs) = wd))) := by
    show tightB R xs wd = _
    rw [tightB, ← hP]
  rw [← hP] at hl
  obtain ⟨bl, hbl2⟩ : ∃ bl, bl = bitLen (orl xs) := ⟨_, rfl⟩
  rw [← hbl2] at cw hbl ht
  have CW := hide cw
  have HA := hide h
  have HB := hide hB
  clear hx hI h0 h hB cw hP hPm hbl2
  by_cases ho : 0 < P % 8
  · have hR : 0 < R.length := by omega
    obtain ⟨b, off, rfl, hcl⟩ := HA.out.get (k := R.length - 1) (by omega)
    obtain ⟨cc, e1, e2, e3⟩ := HB.out.at (k := R.length - 1) (by omega)
    rw [e1] at hcl
    have hiff := over_iff HB.out ho hl hR e3
    clear e1 e3
    have hoI : (0 : Int) < (P : Int) % 8 := by omega
    have hRb : R.length ≤ 138538465099777 := by omega
    have HL := hide hl
    clear hl
    by_cases hz : cc / 2 ^ (P % 8) = 0
    · have hzI : (cc : Int) / 2 ^ (P % 8) = 0 := by
        have : ((cc / 2 ^ (P % 8) : Nat) : Int) = (cc : Int) / 2 ^ (P % 8) := by push_cast; rfl
        rw [← this, hz]; rfl
      have hd : Hid (decide (vle R < 2 ^ P) = true) := by show _ = _; simp [hiff.2 hz]
      clear hiff hz
      go_enter Tryd.func33, Tryd.ntmps33
      go_wp2_with (go_at_call 26; refine CW.out.mono ?_; rintro e w' ⟨rfl, rfl⟩)
      go_ret
      refine ⟨ret_bool ?_, rfl⟩
      rw [ht.out, hd.out, Bool.true_and, Bool.eq_iff_iff]
      simp
      omega
    · have hzI : ((cc : Int) / 2 ^ (P % 8) != 0) = true := by
        have : ((cc / 2 ^ (P % 8) : Nat) : Int) = (cc : Int) / 2 ^ (P % 8) := by push_cast; rfl
        rw [← this]
        simp
        omega
      have hd : Hid (decide (vle R < 2 ^ P) = false) := by show _ = _; simp; have := mt hiff.1 hz; omega
      clear hiff hz
      go_enter Tryd.func33, Tryd.ntmps33
      go_wp2_with (go_at_call 26; refine CW.out.mono ?_; rintro e w' ⟨rfl, rfl⟩)
      go_ret
      exact ⟨ret_bool (by rw [ht.out, hd.out]; rfl), rfl⟩
  · have hd : Hid (decide (vle R < 2 ^ P) = true) := by show _ = _; simp [no_over HB.out (by omega) hl]
    have hoI : (P : Int) % 8 ≤ 0 := by omega
    go_enter Tryd.func33, Tryd.ntmps33
    go_wp2_with (go_at_call 26; refine CW.out.mono ?_; rintro e w' ⟨rfl, rfl⟩)
    go_ret
    refine ⟨ret_bool ?_, rfl⟩
    rw [ht.out, hd.out, Bool.true_and, Bool.eq_iff_iff]
    simp
    omega

/-- A packed list behind its count: the elements and how many bytes they have, or an error (0: too short, 2: too great, 3: not the one form). -/
def rdp (n : Nat) (l : List Int) : Except Nat (List Int × Nat) :=
  if n = 0 then .ok ([], 0)
  else match l with
    | [] => .error 0
    | c :: r =>
      if 63 < c.toNat ∨ c.toNat = 0 ∧ 65536 < n then .error 2
      else if r.length < (n * c.toNat + 7) / 8 then .error 0
      else if tightB (r.take ((n * c.toNat + 7) / 8)) (unp (vle (r.take ((n * c.toNat + 7) / 8))) c.toNat n) c.toNat = true then .ok (unp (vle (r.take ((n * c.toNat + 7) / 8))) c.toNat n, 1 + (n * c.toNat + 7) / 8)
      else .error 3
def errOf3 (a0 a2 a3 : Addr) (e : Nat) : Value := if e = 0 then errV a0 else if e = 2 then errV a2 else errV a3
/-- What Reader.Packed leaves. -/
def PakPost (br : Nat) (v : Value) (l : List Int) (p q : Nat) (a0 a2 a3 : Addr) (w : World) (e : Ending) (w' : World) : Except Nat (List Int × Nat) → Prop
  | .error er => e = .returned (.tuple #[.slice none 0 0, errOf3 a0 a2 a3 er]) ∧ Rd w' br v l p ∧ Kept (fun _ => False) w w'
  | .ok (xs, m) => ∃ u, e = .returned (.tuple #[u, .nilIface]) ∧ w'.ownsRow w.heap.size 3 1 u xs.length (is xs) ∧ Rd w' br v l (q + m) ∧ Kept (fun i => i = br) w w'
theorem unp_mem {V w n : Nat} {x : Int} (h : x ∈ unp V w n) : 0 ≤ x ∧ x < 2 ^ w := by
  simp only [unp, List.mem_map] at h
  obtain ⟨i, _, rfl⟩ := h
  have h1 := Nat.mod_lt (V / 2 ^ (i * w)) (Nat.two_pow_pos w)
  have e0 : ((2 ^ w : Nat) : Int) = (2 : Int) ^ w := by push_cast; rfl
  omega
theorem unp_ints {V w n : Nat} (hw : w ≤ 63) : IsInts (unp V w n) := by
  intro x hx
  have h1 := unp_mem hx
  have h2 : 2 ^ w ≤ 2 ^ 63 := Nat.pow_le_pow_right (by decide) hw
  have e0 : ((2 ^ w : Nat) : Int) = (2 : Int) ^ w := by push_cast; rfl
  omega
end Go.Proofs.YtmpneljkpcniiaaDoor
