import Derived.Test.YtcbhgpdookappaaDoorBase
namespace Go.Proofs.YtcbhgpdookappaaDoor.Ds
open Go.RowKit

theorem hideD {p : Prop} (h : p) : Hid p := h
/-- how many of the lowest n bits are set -/
def pcn : Nat → Nat → Nat
  | 0, _ => 0
  | n + 1, x => x % 2 + pcn n (x / 2)
theorem and_split (a c d e : Nat) (ha : a < 256) (hd : d < 256) : (a + 256 * c) &&& (d + 256 * e) = (a &&& d) + 256 * (c &&& e) := by
  have hA : a &&& d < 2 ^ 8 := Nat.lt_of_le_of_lt Nat.and_le_left ha
  apply Nat.eq_of_testBit_eq
  intro i
  have h1 : ∀ u v : Nat, u < 2 ^ 8 → (u + 256 * v).testBit i = if i < 8 then u.testBit i else v.testBit (i - 8) := by
    intro u v hu
    rw [show u + 256 * v = 2 ^ 8 * v + u by omega, Nat.testBit_two_pow_mul_add _ hu]
  rw [Nat.testBit_and, h1 a c ha, h1 d e hd, h1 _ _ hA]
  by_cases h : i < 8 <;> simp [h]
theorem pcn_add (n m : Nat) : ∀ x, pcn (n + m) x = pcn n x + pcn m (x / 2 ^ n) := by
  induction n with
  | zero => intro x; simp [pcn]
  | succ n ih =>
    intro x
    rw [show n + 1 + m = (n + m) + 1 by omega, pcn, pcn, ih, Nat.pow_succ, Nat.mul_comm (2 ^ n) 2, Nat.div_div_eq_div_mul]
    omega
/-- what three rounds make of a byte -/
def b1 (b : Nat) : Nat := (b / 2 &&& 0x55) + (b &&& 0x55)
def b2 (b : Nat) : Nat := (b / 4 &&& 0x33) + (b &&& 0x33)
theorem byte_facts : ∀ b, b < 256 → b1 b < 256 ∧ b2 (b1 b) < 256 ∧ b2 (b1 b) / 16 ≤ 4 ∧ b2 (b1 b) % 16 ≤ 4 ∧ b2 (b1 b) / 16 + b2 (b1 b) % 16 = pcn 8 b := by decide +kernel
theorem byte_and : ∀ b, b < 256 → (b &&& 0x0f) = b % 16 := by decide +kernel
def pm : Nat → Nat → Nat
  | 0, _ => 0
  | n + 1, m => m + 256 * pm n m
def r1 (n x : Nat) : Nat := (x / 2 &&& pm n 0x55) + (x &&& pm n 0x55)
def r2 (n x : Nat) : Nat := (x / 4 &&& pm n 0x33) + (x &&& pm n 0x33)
def r3 (n x : Nat) : Nat := (x / 16 + x) &&& pm n 0x0f
theorem kill1 : ∀ b, b < 256 → ∀ h, h < 2 → ((b / 2 + 128 * h) &&& 0x55) = (b / 2 &&& 0x55) := by decide +kernel
theorem kill2 : ∀ b, b < 256 → ∀ h, h < 4 → ((b / 4 + 64 * h) &&& 0x33) = (b / 4 &&& 0x33) := by decide +kernel
theorem r1_step (n b y : Nat) (hb : b < 256) : r1 (n + 1) (b + 256 * y) = b1 b + 256 * r1 n y := by
  unfold r1
  rw [show (b + 256 * y) / 2 = (b / 2 + 128 * (y % 2)) + 256 * (y / 2) by omega]
  rw [pm, and_split _ _ _ _ (by omega) (by omega), and_split _ _ _ _ hb (by omega), kill1 b hb _ (by omega)]
  unfold b1
  omega
theorem r2_step (n b y : Nat) (hb : b < 256) : r2 (n + 1) (b + 256 * y) = b2 b + 256 * r2 n y := by
  unfold r2
  rw [show (b + 256 * y) / 4 = (b / 4 + 64 * (y % 4)) + 256 * (y / 4) by omega]
  rw [pm, and_split _ _ _ _ (by omega) (by omega), and_split _ _ _ _ hb (by omega), kill2 b hb _ (by omega)]
  unfold b2
  omega
theorem r3_step (n d y : Nat) (h1 : d / 16 ≤ 4) (h2 : d % 16 ≤ 4) (h3 : y % 16 ≤ 4) : r3 (n + 1) (d + 256 * y) = (d / 16 + d % 16) + 256 * r3 n y := by
  unfold r3
  rw [show (d + 256 * y) / 16 + (d + 256 * y) = (d / 16 + d + 16 * (y % 16)) + 256 * (y / 16 + y) by omega]
  rw [pm, and_split _ _ _ _ (by omega) (by omega), byte_and _ (by omega)]
  omega
/-- the fields of a number of n bytes, each the count of a byte's bits -/
def pf : Nat → Nat → Nat
  | 0, _ => 0
  | n + 1, x => pcn 8 (x % 256) + 256 * pf n (x / 256)
theorem r2_low (n x : Nat) : r2 n (r1 n x) % 16 ≤ 4 := by
  cases n with
  | zero => simp [r2, pm]
  | succ n =>
    have hb : x % 256 < 256 := by omega
    have hf := byte_facts _ hb
    rw [show x = x % 256 + 256 * (x / 256) by omega, r1_step _ _ _ hb, r2_step _ _ _ hf.1]
    omega
theorem r_all : ∀ n x, r3 n (r2 n (r1 n x)) = pf n x
  | 0, x => by simp [r3, pm, pf]
  | n + 1, x => by
    have hb : x % 256 < 256 := by omega
    have hf := byte_facts _ hb
    have e : r1 (n + 1) x = b1 (x % 256) + 256 * r1 n (x / 256) := by
      rw [← r1_step _ _ _ hb]; congr 1; omega
    rw [e, r2_step _ _ _ hf.1, r3_step _ _ _ hf.2.2.1 hf.2.2.2.1 (r2_low _ _), r_all n, pf, hf.2.2.2.2]
theorem pcn8_le : ∀ b, b < 256 → pcn 8 b ≤ 8 := by decide +kernel
theorem pcn64 (x : Nat) : pcn 64 x = pcn 8 (x % 256) + (pcn 8 (x / 256 % 256) + (pcn 8 (x / 65536 % 256) + (pcn 8 (x / 16777216 % 256) + (pcn 8 (x / 4294967296 % 256) + (pcn 8 (x / 1099511627776 % 256) + (pcn 8 (x / 281474976710656 % 256) + pcn 8 (x / 72057594037927936 % 256))))))) := by
  have h8 : ∀ x, pcn 8 x = pcn 8 (x % 256) := by
    intro x
    simp only [pcn]
    omega
  rw [show (64:Nat) = 8 + 56 from rfl, pcn_add, show (56:Nat) = 8 + 48 from rfl, pcn_add, show (48:Nat) = 8 + 40 from rfl, pcn_add, show (40:Nat) = 8 + 32 from rfl, pcn_add, show (32:Nat) = 8 + 24 from rfl, pcn_add, show (24:Nat) = 8 + 16 from rfl, pcn_add, show (16:Nat) = 8 + 8 from rfl, pcn_add]
  simp only [Nat.div_div_eq_div_mul]
  rw [h8 x, h8 (x / 2 ^ 8), h8 (x / (2 ^ 8 * 2 ^ 8)), h8 (x / (2 ^ 8 * 2 ^ 8 * 2 ^ 8)), h8 (x / (2 ^ 8 * 2 ^ 8 * 2 ^ 8 * 2 ^ 8)), h8 (x / (2 ^ 8 * 2 ^ 8 * 2 ^ 8 * 2 ^ 8 * 2 ^ 8)), h8 (x / (2 ^ 8 * 2 ^ 8 * 2 ^ 8 * 2 ^ 8 * 2 ^ 8 * 2 ^ 8)), h8 (x / (2 ^ 8 * 2 ^ 8 * 2 ^ 8 * 2 ^ 8 * 2 ^ 8 * 2 ^ 8 * 2 ^ 8))]
/-- the last four rows of OnesCount64 -/
theorem swar_end (p0 p1 p2 p3 p4 p5 p6 p7 : Nat) (h0 : p0 ≤ 8) (h1 : p1 ≤ 8) (h2 : p2 ≤ 8) (h3 : p3 ≤ 8) (h4 : p4 ≤ 8) (h5 : p5 ≤ 8) (h6 : p6 ≤ 8) (h7 : p7 ≤ 8) (x : Nat)
    (hx : x = p0 + 256 * (p1 + 256 * (p2 + 256 * (p3 + 256 * (p4 + 256 * (p5 + 256 * (p6 + 256 * p7))))))) :
    ∃ y z u : Nat, y = x + x / 256 ∧ z = y + y / 65536 ∧ u = z + z / 4294967296 ∧ u < 18446744073709551616 ∧ u % 128 = p0 + (p1 + (p2 + (p3 + (p4 + (p5 + (p6 + p7)))))) := by
  have e1 : x / 256 = p1 + 256 * (p2 + 256 * (p3 + 256 * (p4 + 256 * (p5 + 256 * (p6 + 256 * p7))))) := by omega
  have e2 : x + x / 256 = (p0 + p1) + 65536 * ((p2 + p3) + 256 * (p3 + p4) + 65536 * ((p4 + p5) + 256 * (p5 + p6) + 65536 * ((p6 + p7) + 256 * p7))) + 256 * (p1 + p2) := by rw [e1, hx]; omega
  clear e1 hx
  generalize x + x / 256 = y at e2
  have e3 : y / 65536 = (p2 + p3) + 256 * (p3 + p4) + 65536 * ((p4 + p5) + 256 * (p5 + p6) + 65536 * ((p6 + p7) + 256 * p7)) := by omega
  have e4 : y + y / 65536 = (p0 + p1 + p2 + p3) + 256 * (p1 + p2 + p3 + p4) + 65536 * (p2 + p3 + p4 + p5) + 16777216 * (p3 + p4 + p5 + p6) + 4294967296 * ((p4 + p5 + p6 + p7) + 256 * (p5 + p6 + p7) + 65536 * ((p6 + p7) + 256 * p7)) := by rw [e3, e2]; omega
  clear e2 e3
  refine ⟨y, _, _, rfl, rfl, rfl, ?_, ?_⟩
  all_goals
    generalize y + y / 65536 = z at e4 ⊢
    have e5 : z / 4294967296 = (p4 + p5 + p6 + p7) + 256 * (p5 + p6 + p7) + 65536 * ((p6 + p7) + 256 * p7) := by omega
    have e6 : z + z / 4294967296 = (p0 + p1 + p2 + p3 + p4 + p5 + p6 + p7) + 256 * ((p1 + p2 + p3 + p4 + p5 + p6 + p7) + 256 * (p2 + p3 + p4 + p5 + p6 + p7) + 65536 * (p3 + p4 + p5 + p6 + p7) + 16777216 * ((p4 + p5 + p6 + p7) + 256 * (p5 + p6 + p7) + 65536 * ((p6 + p7) + 256 * p7))) := by rw [e5, e4]; omega
    rw [e6]
    clear e4 e5 e6
    omega
/-- **OnesCount64's own reckoning.** -/
theorem ones64 (x : Nat) : ∃ a b c y z u : Nat, a = (x / 2 &&& 6148914691236517205) + (x &&& 6148914691236517205) ∧ b = (a / 4 &&& 3689348814741910323) + (a &&& 3689348814741910323) ∧ c = (b / 16 + b) &&& 1085102592571150095 ∧ y = c + c / 256 ∧ z = y + y / 65536 ∧ u = z + z / 4294967296 ∧ u < 18446744073709551616 ∧ u % 128 = pcn 64 x := by
  have h := r_all 8 x
  simp only [r3, r2, r1, pm, pf] at h
  obtain ⟨y, z, u, hy, hz, hu, hl, hm⟩ := swar_end _ _ _ _ _ _ _ _ (pcn8_le _ (Nat.mod_lt x (by decide))) (pcn8_le _ (Nat.mod_lt (x / 256) (by decide))) (pcn8_le _ (Nat.mod_lt (x / 256 / 256) (by decide))) (pcn8_le _ (Nat.mod_lt (x / 256 / 256 / 256) (by decide))) (pcn8_le _ (Nat.mod_lt (x / 256 / 256 / 256 / 256) (by decide))) (pcn8_le _ (Nat.mod_lt (x / 256 / 256 / 256 / 256 / 256) (by decide))) (pcn8_le _ (Nat.mod_lt (x / 256 / 256 / 256 / 256 / 256 / 256) (by decide))) (pcn8_le _ (Nat.mod_lt (x / 256 / 256 / 256 / 256 / 256 / 256 / 256) (by decide))) _ h
  refine ⟨_, _, _, y, z, u, rfl, rfl, rfl, hy, hz, hu, hl, ?_⟩
  rw [hm, pcn64]
  simp only [Nat.div_div_eq_div_mul]

/-- the numbers of the bits of a word, rising -/
def bl (x : Nat) : List Nat := (List.range 64).filter (fun i => x.testBit i)
theorem low_form (x : Nat) (h : x ≠ 0) : ∃ k q, x = 2 ^ k * (2 * q + 1) := by
  induction x using Nat.strongRecOn with
  | _ x ih =>
    by_cases h2 : x % 2 = 1
    · exact ⟨0, x / 2, by simp; omega⟩
    · obtain ⟨k, q, e⟩ := ih (x / 2) (by omega) (by omega)
      refine ⟨k + 1, q, ?_⟩
      rw [Nat.pow_succ, Nat.mul_comm (2 ^ k) 2, Nat.mul_assoc, ← e]
      omega
theorem low_lt {x k q : Nat} (e : x = 2 ^ k * (2 * q + 1)) (hx : x < 18446744073709551616) : k < 64 := by
  have h1 : 2 ^ k ≤ x := by rw [e]; exact Nat.le_mul_of_pos_right _ (by omega)
  exact (Nat.pow_lt_pow_iff_right (by decide)).1 (Nat.lt_of_le_of_lt h1 hx)
theorem bit_form (k q i : Nat) : (2 ^ k * (2 * q + 1)).testBit i = (decide (i = k) || (decide (k < i) && q.testBit (i - k - 1))) := by
  rw [Nat.mul_comm, Nat.testBit_mul_two_pow]
  by_cases h : k ≤ i
  · by_cases h1 : i = k
    · subst h1; simp
    · rw [show i - k = (i - k - 1) + 1 by omega, Nat.testBit_succ, show (2 * q + 1) / 2 = q by omega]
      simp [h, h1, show k < i by omega]
  · simp [h, show i ≠ k by omega, show ¬ k < i by omega]
/-- x & -x -/
theorem low_neg {x k q : Nat} (e : x = 2 ^ k * (2 * q + 1)) (hx : x < 18446744073709551616) : x &&& (18446744073709551616 - x) = 2 ^ k := by
  have hk := low_lt e hx
  have hpos : 0 < 2 ^ k := Nat.two_pow_pos k
  have hp : (18446744073709551616 : Nat) = 2 ^ k * (2 * 2 ^ (63 - k)) := by
    rw [show 2 * 2 ^ (63 - k) = 2 ^ (64 - k) by rw [show 64 - k = (63 - k) + 1 by omega, Nat.pow_succ]; omega, ← Nat.pow_add, show k + (64 - k) = 64 by omega]
  have hq : q < 2 ^ (63 - k) := by
    rw [e, hp] at hx
    have := Nat.lt_of_mul_lt_mul_left hx
    omega
  have e2 : 18446744073709551616 - x = 2 ^ k * (2 * (2 ^ (63 - k) - (q + 1)) + 1) := by
    rw [e, hp, ← Nat.mul_sub]
    congr 1
    omega
  rw [e2]
  apply Nat.eq_of_testBit_eq
  intro i
  rw [Nat.testBit_and, e, bit_form, bit_form, Nat.testBit_two_pow_sub_succ hq, Nat.testBit_two_pow]
  by_cases h1 : i = k
  · subst h1; simp
  · by_cases h2 : k < i
    · have : k ≠ i := by omega
      cases q.testBit (i - k - 1) <;> simp [h1, h2, this]
    · have : k ≠ i := by omega
      simp [h1, h2, this]
/-- x & (x - 1) -/
theorem low_off {x k q : Nat} (e : x = 2 ^ k * (2 * q + 1)) : x &&& (x - 1) = 2 ^ k * (2 * q) := by
  have hpos : 0 < 2 ^ k := Nat.two_pow_pos k
  have e2 : x - 1 = 2 ^ k * (2 * q) + (2 ^ k - 1) := by
    rw [e, Nat.mul_add]; omega
  have hb : ∀ i, (2 ^ k * (2 * q)).testBit i = (decide (k < i) && q.testBit (i - k - 1)) := by
    intro i
    rw [Nat.mul_comm, Nat.testBit_mul_two_pow]
    by_cases h : k < i
    · rw [show i - k = (i - k - 1) + 1 by omega, Nat.testBit_succ, show (2 * q) / 2 = q by omega]
      simp [h, show k ≤ i by omega]
    · by_cases h1 : i = k
      · subst h1; simp
      · simp [h, show ¬ k ≤ i by omega]
  apply Nat.eq_of_testBit_eq
  intro i
  rw [Nat.testBit_and, e2, Nat.testBit_two_pow_mul_add _ (by omega : 2 ^ k - 1 < 2 ^ k), hb, e, bit_form]
  by_cases h1 : i < k
  · simp [h1, show i ≠ k by omega, show ¬ k < i by omega]
  · by_cases h2 : i = k
    · subst h2; simp
    · rw [if_neg h1, show i - k = (i - k - 1) + 1 by omega, Nat.testBit_succ, show (2 * q) / 2 = q by omega]
      simp [h2, show k < i by omega]
theorem bl_zero : bl 0 = [] := by
  unfold bl
  rw [List.filter_eq_nil_iff]
  intro a _
  simp
/-- A word's numbers are its lowest one, then those of the word without it. -/
theorem bl_cons {x k q : Nat} (e : x = 2 ^ k * (2 * q + 1)) (hx : x < 18446744073709551616) : bl x = k :: bl (x &&& (x - 1)) := by
  have hk := low_lt e hx
  have hr : List.range 64 = List.range k ++ (k :: (List.range (63 - k)).map (fun i => i + (k + 1))) := by
    rw [show (64 : Nat) = k + ((63 - k) + 1) by omega, List.range_add, List.range_succ_eq_map, List.map_cons, List.map_map]
    congr 2
    apply List.map_congr_left
    intro a _
    show k + (a + 1) = a + (k + 1)
    omega
  have ho := low_off e
  have hb0 : ∀ i, (x &&& (x - 1)).testBit i = (decide (k < i) && x.testBit i) := by
    intro i
    rw [ho, e, bit_form, Nat.mul_comm, Nat.testBit_mul_two_pow]
    by_cases h : k < i
    · rw [show i - k = (i - k - 1) + 1 by omega, Nat.testBit_succ, show (2 * q) / 2 = q by omega]
      simp [h, show k ≤ i by omega, show i ≠ k by omega]
    · by_cases h1 : i = k
      · subst h1; simp
      · simp [h, show ¬ k ≤ i by omega]
  have hlow : ∀ i, i < k → x.testBit i = false := by
    intro i hi
    rw [e, bit_form]
    simp [show i ≠ k by omega, show ¬ k < i by omega]
  have hkk : x.testBit k = true := by rw [e, bit_form]; simp
  have hnil : ∀ p : Nat → Bool, (∀ i, i < k → p i = false) → (List.range k).filter p = [] := by
    intro p hp
    rw [List.filter_eq_nil_iff]
    intro a ha
    simp [hp a (List.mem_range.1 ha)]
  unfold bl
  rw [hr, List.filter_append, List.filter_append, hnil _ hlow, hnil _ (fun i hi => by rw [hb0]; simp [show ¬ k < i by omega]), List.nil_append, List.nil_append, List.filter_cons, List.filter_cons, if_pos hkk, if_neg (by rw [hb0]; simp)]
  congr 1
  apply List.filter_congr
  intro a ha
  rw [List.mem_map] at ha
  obtain ⟨b, _, rfl⟩ := ha
  rw [hb0]
  simp [show k < b + (k + 1) by omega]
theorem bl_lt {x i : Nat} (h : i ∈ bl x) : i < 64 := by
  unfold bl at h
  rw [List.mem_filter] at h
  exact List.mem_range.1 h.1
theorem bl_len (x : Nat) : (bl x).length ≤ 64 := by
  unfold bl
  exact Nat.le_trans (List.length_filter_le _ _) (by simp)
theorem off_lt {x : Nat} (hx : x < 18446744073709551616) : x &&& (x - 1) < 18446744073709551616 := Nat.lt_of_le_of_lt Nat.and_le_left hx
/-- as many as the word has bits -/
theorem bl_count_aux : ∀ (n x : Nat), ((List.range n).filter (fun i => x.testBit i)).length = pcn n x
  | 0, x => by simp [pcn]
  | n + 1, x => by
    rw [List.range_succ_eq_map, List.filter_cons, List.filter_map, pcn, ← bl_count_aux n (x / 2)]
    have : ((fun i => x.testBit i) ∘ Nat.succ) = (fun i => (x / 2).testBit i) := by
      funext i
      simp [Nat.testBit_succ]
    rw [this]
    have h0 : x.testBit 0 = decide (x % 2 = 1) := Nat.testBit_zero x
    rw [h0]
    by_cases h : x % 2 = 1
    · simp [h]; omega
    · simp [show x % 2 = 0 by omega]
theorem bl_count (x : Nat) : (bl x).length = pcn 64 x := bl_count_aux 64 x
theorem db_tab : ∀ k, k < 64 → ([0, 1, 56, 2, 57, 49, 28, 3, 61, 58, 42, 50, 38, 29, 17, 4, 62, 47, 59, 36, 45, 43, 51, 22, 53, 39, 33, 30, 24, 18, 12, 5, 63, 55, 48, 27, 60, 41, 37, 16, 46, 35, 44, 21, 52, 32, 23, 11, 54, 26, 40, 15, 34, 20, 31, 10, 25, 14, 19, 9, 13, 8, 7, 6] : List Nat)[2 ^ k * 285870213051353865 % 18446744073709551616 / 288230376151711744]? = some k := by decide +kernel
end Go.Proofs.YtcbhgpdookappaaDoor.Ds
