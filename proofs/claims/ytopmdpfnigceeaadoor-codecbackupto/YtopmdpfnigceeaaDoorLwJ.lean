import Derived.Test.YtopmdpfnigceeaaDoorLwI
namespace Go.Proofs.YtopmdpfnigceeaaDoor
open Go.ChangeShapes Go.WideShapes Go.ChangeAt Go.RowKit

theorem back_all (kd : Int) (br : Nat) (v : Value) (l : List Int) (p : Nat) (sec : Bool) (nn ii : Int) (U : Nat) (ba : Option Addr) (bc : Nat) (B : List Int) (s : ByteArray) (la : Option Addr) (lc : Nat) (L rest : List Int) (a0 a1 a2 a3 : Addr) (w : World) (h : Rd w br v l p) (ho : OpAt w ii U ba bc B s la L) (h1 : B ≠ [] → ∀ ad, ba = some ad → ad.block ≠ br) (h2 : L ≠ [] → ∀ ad, la = some ad → ad.block ≠ br) (hbr : 0 ≠ br) (hsm : l.length ≤ 1099511627776)
    (g0 : w.cell? ⟨2, 0, none⟩ = some (errV a0)) (g1 : w.cell? ⟨5, 0, none⟩ = some (errV a1)) (g2 : w.cell? ⟨0, 0, none⟩ = some (errV a2)) (g3 : w.cell? ⟨4, 0, none⟩ = some (errV a3))
    (ht : (opOut kd nn ii U B s L).1 = true) (hd : l.drop p = (opOut kd nn ii U B s L).2 ++ rest) :
    Calls Tryd.prog 12 #[.pointer (some ⟨br, 0, none⟩), .agg #[.int .i64 kd, .bool sec, .int .i64 nn, .int .u64 U, .int .i64 ii, .slice ba B.length bc, .string s, .slice la L.length lc]] w fun e w' => RGot br v l (p + (opOut kd nn ii U B s L).2.length) w e w' := by
  have hl := ho.nl
  by_cases k1 : kd = 1
  · subst k1; exact back_1 br v l p sec nn U ii _ s _ rest w h hd
  by_cases k2 : kd = 2
  · subst k2; exact back_2 br v l p sec nn U ii _ s _ rest w h a0 a1 g0 g1 ho.u hd
  by_cases k3 : kd = 3
  · subst k3; exact back_3 br v l p sec nn U ii _ s _ rest w h a0 a1 g0 g1 ho.i0 ho.i1 hd
  by_cases k4 : kd = 4
  · subst k4; exact back_4 br v l p sec nn U ii _ s _ rest w h hd
  by_cases k5 : kd = 5
  · subst k5; exact back_5 br v l p sec nn U ii _ s _ rest w h ho.u hd
  by_cases k6 : kd = 6
  · subst k6; exact back_6 br v l p sec nn U ii B ba bc s _ rest w h ho.b h1 hd
  by_cases k7 : kd = 7
  · subst k7; exact back_7 br v l p sec nn U ii _ s _ rest w h a0 a1 g0 g1 hd
  by_cases k8 : kd = 8
  · subst k8
    have hm : mayB 8 L = true := ht
    have e : (opOut 8 nn ii U B s L).2 = rising L := by show (if mayB 8 L = true then rising L else []) = _; rw [if_pos hm]
    rw [e] at hd ⊢
    exact back_8 br v l p sec nn U ii _ s L la lc rest w h ho.l h2 (by omega) hsm a0 a1 a2 g0 g1 g2 ho.li hm hd
  by_cases k9 : kd = 9
  · subst k9
    have hm : mayB 9 L = true := ht
    have e : (opOut 9 nn ii U B s L).2 = packed L := by show (if mayB 9 L = true then packed L else []) = _; rw [if_pos hm]
    rw [e] at hd ⊢
    exact back_9 br v l p sec nn U ii _ s L la lc rest w h ho.l h2 (by omega) hsm a0 a1 a2 a3 g0 g1 g2 g3 ho.li hm hd
  by_cases k10 : kd = 10
  · subst k10; exact back_10 br v l p sec nn U ii _ s _ rest w h a0 a1 a2 g0 g1 g2 hbr ho.u hd
  have e : opOut kd nn ii U B s L = (false, []) := by simp [opOut, k1, k2, k3, k4, k5, k6, k7, k8, k9, k10]
  rw [e] at ht
  cases ht

/-- A count and what is behind it, cut: the count is too short, or it is whole. -/
theorem cut_two (n k : Nat) (b : List Int) (hn : n < 18446744073709551616) (hk : k < (uvb n ++ b).length) : rdu 0 0 ((uvb n ++ b).take k) = .error 0 ∨ ∃ j, rdu 0 0 ((uvb n ++ b).take k) = .ok (n, (uvb n).length) ∧ ((uvb n ++ b).take k).drop (uvb n).length = b.take j ∧ j < b.length ∧ k = (uvb n).length + j := by
  rw [List.length_append] at hk
  rw [List.take_append]
  by_cases hlt : k < (uvb n).length
  · rw [show k - (uvb n).length = 0 by omega, List.take_zero, List.append_nil]
    exact .inl (rdu_cut n k hn hlt)
  · rw [List.take_of_length_le (Nat.not_lt.1 hlt)]
    exact .inr ⟨k - (uvb n).length, rdu_uvb n _ hn, List.drop_left, by omega, by omega⟩
theorem short_all (kd : Int) (br : Nat) (v : Value) (k : Nat) (sec : Bool) (nn ii : Int) (U : Nat) (ba : Option Addr) (bc : Nat) (B : List Int) (s : ByteArray) (la : Option Addr) (lc : Nat) (L : List Int) (a0 a1 a2 a3 : Addr) (w : World) (ho : OpAt w ii U ba bc B s la L)
    (h : Rd w br v ((opOut kd nn ii U B s L).2.take k) 0) (hk : k < (opOut kd nn ii U B s L).2.length)
    (g0 : w.cell? ⟨2, 0, none⟩ = some (errV a0)) (g1 : w.cell? ⟨5, 0, none⟩ = some (errV a1)) (g2 : w.cell? ⟨0, 0, none⟩ = some (errV a2)) (g3 : w.cell? ⟨4, 0, none⟩ = some (errV a3))
    (ht : (opOut kd nn ii U B s L).1 = true) :
    Calls Tryd.prog 18 #[.pointer (some ⟨br, 0, none⟩), .agg #[.int .i64 kd, .bool sec, .int .i64 nn, .int .u64 U, .int .i64 ii, .slice ba B.length bc, .string s, .slice la L.length lc]] w fun e w' => SGot w e w' := by
  have hl := ho.nl
  have hs := ho.ns
  have hol := out_len ho (kd := kd) (nn := nn)
  have htl : ((opOut kd nn ii U B s L).2.take k).length = k := by rw [List.length_take]; omega
  by_cases k1 : kd = 1
  · subst k1
    have hk' : k < 1 := hk
    obtain rfl : k = 0 := by omega
    exact short_1 br v _ sec nn U ii _ s _ a0 a1 a2 a3 w h g0 g1 g2 g3 rfl
  by_cases k2 : kd = 2
  · subst k2; exact short_2 br v _ sec nn U ii _ s _ a0 a1 a2 a3 w h g0 g1 g2 g3 (rdu_cut U k ho.u hk)
  by_cases k3 : kd = 3
  · subst k3
    have hz := zig_bd ii ho.i0 ho.i1
    exact short_3 br v _ sec nn U ii _ s _ a0 a1 a2 a3 w h g0 g1 g2 g3 (rdu_cut _ k (by omega) hk)
  by_cases k4 : kd = 4
  · subst k4
    have : (le 4 (U % 4294967296)).length = 4 := le_length _ _
    have hk' : k < (le 4 (U % 4294967296)).length := hk
    exact short_4 br v _ sec nn U ii _ s _ a0 a1 a2 a3 w h g0 g1 g2 g3 (by omega)
  by_cases k5 : kd = 5
  · subst k5
    have : (le 8 U).length = 8 := le_length _ _
    have hk' : k < (le 8 U).length := hk
    exact short_5 br v _ sec nn U ii _ s _ a0 a1 a2 a3 w h g0 g1 g2 g3 (by omega)
  by_cases k6 : kd = 6
  · subst k6
    have hk' : k < B.length := hk
    exact short_6 br v _ sec nn U ii B ba bc s _ a0 a1 a2 a3 w h g0 g1 g2 g3 (by omega)
  by_cases k7 : kd = 7
  · subst k7
    refine short_7 br v _ sec nn U ii _ s _ a0 a1 a2 a3 w h g0 g1 g2 g3 ?_ (by omega)
    rcases cut_two s.size k (sb s) (by omega) hk with e | ⟨j, e1, _, e3, e4⟩
    · exact .inl e
    · rw [sb_length] at e3
      exact .inr ⟨_, e1, by omega⟩
  by_cases k8 : kd = 8
  · subst k8
    have hm : mayB 8 L = true := ht
    have e : (opOut 8 nn ii U B s L).2 = uvb L.length ++ risb L 0 := by show (if mayB 8 L = true then rising L else []) = _; rw [if_pos hm]; rfl
    rw [e] at h hk htl
    refine short_8 br v _ sec nn U ii _ s L la lc a0 a1 a2 a3 w h g0 g1 g2 g3 ?_ (by omega) (by rw [e] at hol; omega)
    rcases cut_two L.length k (risb L 0) (by omega) hk with e | ⟨j, e1, e2, e3, e4⟩
    · exact .inl e
    · exact .inr ⟨_, e1, by rw [e2]; exact rdr_cut L 0 j (ris_of ho.li (mayB_nonneg hm) (mayB_rise hm)) e3⟩
  by_cases k9 : kd = 9
  · subst k9
    have hm : mayB 9 L = true := ht
    have e : (opOut 9 nn ii U B s L).2 = uvb L.length ++ pbody L := by show (if mayB 9 L = true then packed L else []) = _; rw [if_pos hm]; rfl
    rw [e] at h hk htl
    refine short_9 br v _ sec nn U ii _ s L la lc a0 a1 a2 a3 w h g0 g1 g2 g3 ?_ (by omega) (by rw [e] at hol; omega)
    rcases cut_two L.length k (pbody L) (by omega) hk with e | ⟨j, e1, e2, e3, e4⟩
    · exact .inl e
    · exact .inr ⟨_, e1, by rw [e2]; exact rdp_cut L j ho.li (mayB_nonneg hm) (may9_zero hm) e3⟩
  by_cases k10 : kd = 10
  · subst k10; exact short_10 br v _ sec nn U ii _ s _ a0 a1 a2 a3 w h g0 g1 g2 g3 (rdu_cut U k ho.u hk)
  have e : opOut kd nn ii U B s L = (false, []) := by simp [opOut, k1, k2, k3, k4, k5, k6, k7, k8, k9, k10]
  rw [e] at ht
  cases ht
end Go.Proofs.YtopmdpfnigceeaaDoor
