import Derived.Test.YteeimpjjmdpbgaaDoorMrg5
import Derived.Test.YteeimpjjmdpbgaaDoorEqd
import Derived.Test.YteeimpjjmdpbgaaDoorDrf
namespace Go.Proofs.YteeimpjjmdpbgaaDoor
open Go.ChangeShapes Go.WideShapes Go.ChangeAt Go.RowKit

theorem bytes_cutN {W : World} {b off : Nat} {l : List Int} (h : BytesAt W (some ⟨b, off, none⟩) l) (p m : Nat) : BytesAt W (some ⟨b, off + p, none⟩) ((l.drop p).take m) := by
  intro hne
  have hl : l ≠ [] := by rintro rfl; simp at hne
  obtain ⟨b', off', e, hc⟩ := h hl
  injection e with e
  injection e with e1 e2
  subst e1 e2
  refine ⟨b, off + p, rfl, fun k hk => ?_⟩
  rw [List.length_take, List.length_drop] at hk
  have := hc (p + k) (by omega)
  rw [List.getElem?_take, if_pos (by omega), List.getElem?_drop, ← Nat.add_assoc] at *
  exact this
theorem key_any {bf c0 k : ByteArray} (hk : klt c0 k = true) (hc : c0 = bf ∨ c0 = ByteArray.empty) : shr c0.data.toList k.data.toList ≤ bf.size ∧ shr c0.data.toList k.data.toList ≤ k.size ∧ keyOf bf (shr c0.data.toList k.data.toList) ((sb k).drop (shr c0.data.toList k.data.toList)) = k := by
  rcases hc with rfl | rfl
  · obtain ⟨h1, h2, h3, h4⟩ := key_shared hk
    exact ⟨h2, by omega, h4⟩
  · have e : shr (ByteArray.empty).data.toList k.data.toList = 0 := shr_nil _
    rw [e]
    refine ⟨Nat.zero_le _, Nat.zero_le _, ?_⟩
    rw [List.drop_zero]
    have h : (keyOf bf 0 (sb k)).data.toList = k.data.toList := by rw [keyOf_list, List.take_zero, List.nil_append, str_of_sbE]
    exact ByteArray.ext (Array.toList_inj.1 h)
/-- An entry where there is one. -/
theorem ent_put {l R : List Int} {P : Nat} {c0 bf : ByteArray} {e0 : En} (h : l.drop P = een c0 e0 ++ R) (hP : P ≤ l.length) (hg : Gen e0) (hk : klt c0 e0.k = true) (hc : c0 = bf ∨ c0 = ByteArray.empty) :
    ∃ P2 : Nat, tkp l (tkp l (P : Int)) = (P2 : Int) ∧ tkv l (P : Int) ≤ bf.size ∧ P2 + tkv l (tkp l (P : Int)) ≤ l.length ∧ keyOf bf (tkv l (P : Int)) ((l.drop P2).take (tkv l (tkp l (P : Int)))) = e0.k ∧
      ∃ P4 P5 P6 : Nat, tkv l ((P2 + tkv l (tkp l (P : Int)) : Nat) : Int) = e0.d.toNat ∧ tkp l ((P2 + tkv l (tkp l (P : Int)) : Nat) : Int) = (P4 : Int) ∧ tkv l (P4 : Int) = e0.t.toNat ∧ tkp l (P4 : Int) = (P5 : Int) ∧ tkv l (P5 : Int) = e0.p.toNat ∧ tkp l (P5 : Int) = (P6 : Int) ∧ tkv l (P6 : Int) = e0.s.toNat ∧ tkp l (P6 : Int) = ((P + (een c0 e0).length : Nat) : Int) := by
  obtain ⟨k1, k2, k3⟩ := key_any hk hc
  obtain ⟨s, hs⟩ : ∃ s, s = shr c0.data.toList e0.k.data.toList := ⟨_, rfl⟩
  have hel : een c0 e0 = uvb s ++ ((uvb (e0.k.size - s) ++ (sb e0.k).drop s) ++ (uvb e0.d.toNat ++ (uvb e0.t.toNat ++ (uvb e0.p.toNat ++ uvb e0.s.toNat)))) := by rw [een, ← hs]
  rw [← hs] at k1 k2 k3
  obtain ⟨K, hK⟩ : ∃ K, K = (sb e0.k).drop s := ⟨_, rfl⟩
  have hKl : K.length = e0.k.size - s := by rw [hK, List.length_drop, sb_length]
  obtain ⟨m, hm⟩ : ∃ m, m = e0.k.size - s := ⟨_, rfl⟩
  rw [← hK, ← hm] at hel
  rw [← hm] at hKl
  rw [← hK] at k3
  have g2 := hg.k2
  have g3 := hg.d
  have g4 := hg.t
  have g5 := hg.p
  have g6 := hg.s
  have h0 : l.drop P = uvb s ++ (uvb m ++ (K ++ (uvb e0.d.toNat ++ (uvb e0.t.toNat ++ (uvb e0.p.toNat ++ (uvb e0.s.toNat ++ R)))))) := by rw [h, hel]; simp only [List.append_assoc]
  have h1 := drop_next h0
  have h2 := drop_next h1
  have h3 := drop_next h2
  have h4 := drop_next h3
  have h5 := drop_next h4
  have h6 := drop_next h5
  obtain ⟨a1, a2⟩ := tk_uvb h0 (by omega)
  obtain ⟨b1, b2⟩ := tk_uvb h1 (by omega)
  obtain ⟨c1, c2⟩ := tk_uvb h3 (by omega)
  obtain ⟨d1, d2⟩ := tk_uvb h4 (by omega)
  obtain ⟨e1, e2⟩ := tk_uvb h5 (by omega)
  obtain ⟨f1, f2⟩ := tk_uvb h6 (by omega)
  rw [a1, a2, b1, b2]
  refine ⟨_, rfl, k1, ?_, ?_, ?_⟩
  · have := congrArg List.length h2
    rw [List.length_drop, List.length_append] at this
    have hp2 := congrArg List.length h0
    rw [List.length_drop] at hp2
    simp only [List.length_append] at hp2 this
    omega
  · rw [h2, List.take_left' hKl]
    exact k3
  · rw [hKl] at c1 c2 d1 d2 e1 e2 f1 f2
    refine ⟨_, _, _, c1, c2, d1, d2, e1, e2, f1, ?_⟩
    rw [f2, hel]
    simp only [List.length_append, hKl]
    congr 1
    omega
end Go.Proofs.YteeimpjjmdpbgaaDoor
