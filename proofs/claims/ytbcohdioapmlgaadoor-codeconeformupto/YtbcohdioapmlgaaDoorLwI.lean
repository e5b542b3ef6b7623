import Derived.Test.YtbcohdioapmlgaaDoorCct
namespace Go.Proofs.YtbcohdioapmlgaaDoor
open Go.ChangeShapes Go.WideShapes Go.ChangeAt Go.RowKit

/-- What an Op's parts are and where they lie. -/
structure OpAt (w : World) (ii : Int) (U : Nat) (ba : Option Addr) (bc : Nat) (B : List Int) (s : ByteArray) (la : Option Addr) (L : List Int) : Prop where
  u : U < 18446744073709551616
  i0 : -9223372036854775808 ≤ ii
  i1 : ii ≤ 9223372036854775807
  b : BytesAt w ba B
  bn : ba = none → bc = 0
  bb : IsBytes B
  l : IntsAt w la L
  li : IsInts L
  nb : B.length ≤ 1073741824
  ns : s.size ≤ 1073741824
  nl : L.length ≤ 1073741824
theorem OpAt.kept {F : Nat → Prop} {w w' : World} {ii : Int} {U : Nat} {ba : Option Addr} {bc : Nat} {B : List Int} {s : ByteArray} {la : Option Addr} {L : List Int} (h : OpAt w ii U ba bc B s la L) (k : Kept F w w') (h1 : B ≠ [] → ∀ ad, ba = some ad → ¬ F ad.block) (h2 : L ≠ [] → ∀ ad, la = some ad → ¬ F ad.block) : OpAt w' ii U ba bc B s la L :=
  ⟨h.u, h.i0, h.i1, bytes_kept h.b k h1, h.bn, h.bb, ints_kept h.l k h2, h.li, h.nb, h.ns, h.nl⟩
/-- Is it taken, and which bytes are put? -/
def opOut (kd nn ii : Int) (U : Nat) (B : List Int) (s : ByteArray) (L : List Int) : Bool × List Int :=
  if kd = 1 then (true, [nn % 256]) else if kd = 2 then (true, uvb U) else if kd = 3 then (true, uvb (zig ii).toNat) else if kd = 4 then (true, le 4 (U % 4294967296)) else if kd = 5 then (true, le 8 U)
  else if kd = 6 then (true, B) else if kd = 7 then (true, uvb s.size ++ sb s) else if kd = 8 then (mayB 8 L, if mayB 8 L = true then rising L else []) else if kd = 9 then (mayB 9 L, if mayB 9 L = true then packed L else []) else if kd = 10 then (true, uvb U) else (false, [])
theorem uvb_bytes : ∀ n, IsBytes (uvb n) := by
  intro n
  induction n using Nat.strongRecOn with
  | ind n ih =>
    intro x hx
    by_cases h : n < 128
    · rw [uvb_small h] at hx
      simp at hx
      omega
    · rw [uvb_big h] at hx
      rcases List.mem_cons.1 hx with rfl | hx
      · omega
      · exact ih (n / 128) (by omega) x hx
theorem app_bytes {a b : List Int} (ha : IsBytes a) (hb : IsBytes b) : IsBytes (a ++ b) := by
  intro x hx
  rcases List.mem_append.1 hx with h | h
  · exact ha x h
  · exact hb x h
theorem risb_bytes : ∀ (l : List Int) (s : Nat), IsBytes (risb l s) := by
  intro l
  induction l with
  | nil => intro s x hx; cases hx
  | cons y r ih => intro s; rw [risb]; exact app_bytes (uvb_bytes _) (ih _)
theorem packed_bytes {l : List Int} (h0 : ∀ x ∈ l, 0 ≤ x) (hI : IsInts l) : IsBytes (packed l) := by
  rw [packed_eq]
  refine app_bytes (uvb_bytes _) ?_
  unfold pbody
  split
  · intro x hx; cases hx
  · intro x hx
    have := orl_bits l h0 hI
    rcases List.mem_cons.1 hx with rfl | hx
    · omega
    · exact le_bytes _ _ x hx
theorem uvb_len (n : Nat) (h : n < 18446744073709551616) : 1 ≤ (uvb n).length ∧ (uvb n).length ≤ 10 := by
  rw [uvb_length]
  exact ulen_le n (by simpa using h)
theorem out_bytes {w : World} {kd nn ii : Int} {U : Nat} {ba : Option Addr} {bc : Nat} {B : List Int} {s : ByteArray} {la : Option Addr} {L : List Int} (h : OpAt w ii U ba bc B s la L) : IsBytes (opOut kd nn ii U B s L).2 := by
  unfold opOut
  split
  · intro x hx; simp at hx; omega
  split
  · exact uvb_bytes _
  split
  · exact uvb_bytes _
  split
  · exact le_bytes _ _
  split
  · exact le_bytes _ _
  split
  · exact h.bb
  split
  · exact app_bytes (uvb_bytes _) (sb_bytes _)
  split
  · simp only
    split
    · exact app_bytes (uvb_bytes _) (risb_bytes _ _)
    · intro x hx; cases hx
  split
  · simp only
    split
    · rename_i hm
      exact packed_bytes (mayB_nonneg hm) h.li
    · intro x hx; cases hx
  split
  · exact uvb_bytes _
  · intro x hx; cases hx
theorem out_len {w : World} {kd nn ii : Int} {U : Nat} {ba : Option Addr} {bc : Nat} {B : List Int} {s : ByteArray} {la : Option Addr} {L : List Int} (h : OpAt w ii U ba bc B s la L) : (opOut kd nn ii U B s L).2.length ≤ 17179869184 := by
  have hz := zig_bd ii h.i0 h.i1
  have h1 := uvb_len U h.u
  have h2 := uvb_len (zig ii).toNat (by omega)
  have h3 := uvb_len s.size (by have := h.ns; omega)
  have h4 := uvb_len L.length (by have := h.nl; omega)
  have hb := h.nb
  have hs := h.ns
  have hl := h.nl
  have hA : (rising L).length ≤ 17179869184 := by
    have := risb_length L 0 (fun x hx => (h.li x hx).2)
    rw [rising, List.length_append]
    omega
  have hP : mayB 9 L = true → (packed L).length ≤ 17179869184 := by
    intro hm
    have hw := orl_bits L (mayB_nonneg hm) h.li
    have hmul : L.length * bitLen (orl L) ≤ L.length * 63 := Nat.mul_le_mul_left _ hw
    have hd : (L.length * bitLen (orl L) + 7) / 8 ≤ 8589934592 := by omega
    rw [uvb_length] at h4
    have e := packed_length L
    split at e <;> omega
  have z0 : ([] : List Int).length = 0 := rfl
  have z1 : [nn % 256].length = 1 := rfl
  have z4 := le_length 4 (U % 4294967296)
  have z8 := le_length 8 U
  have zs : (uvb s.size ++ sb s).length = (uvb s.size).length + s.size := by rw [List.length_append, sb_length]
  have ha : (if mayB 8 L = true then rising L else []).length ≤ 17179869184 := by
    by_cases hm : mayB 8 L = true
    · rw [if_pos hm]; exact hA
    · rw [if_neg hm]; omega
  have hp : (if mayB 9 L = true then packed L else []).length ≤ 17179869184 := by
    by_cases hm : mayB 9 L = true
    · rw [if_pos hm]; exact hP hm
    · rw [if_neg hm]; omega
  have key : ∀ (c : Prop) [Decidable c] (p q : Bool × List Int), p.2.length ≤ 17179869184 → q.2.length ≤ 17179869184 → (if c then p else q).2.length ≤ 17179869184 := by
    intro c _ p q hp hq
    by_cases hc : c
    · rw [if_pos hc]; exact hp
    · rw [if_neg hc]; exact hq
  unfold opOut
  refine key _ _ _ (by rw [z1]; omega) (key _ _ _ (by show (uvb U).length ≤ _; omega) (key _ _ _ (by show (uvb (zig ii).toNat).length ≤ _; omega) (key _ _ _ (by show (le 4 _).length ≤ _; omega) (key _ _ _ (by show (le 8 _).length ≤ _; omega) (key _ _ _ (by show B.length ≤ _; omega) (key _ _ _ (by show (uvb s.size ++ sb s).length ≤ _; omega) (key _ _ _ ha (key _ _ _ hp (key _ _ _ (by show (uvb U).length ≤ _; omega) (by rw [z0]; omega))))))))))

end Go.Proofs.YtbcohdioapmlgaaDoor
