import Derived.Test.YtpopfgablgnalaaHnh
import Derived.Test.YtpopfgablgnalaaOpb
namespace Go.Proofs.Ytpopfgablgnalaa
open Go.ChangeShapes Go.WideShapes Go.ChangeAt Go.RowKit

theorem Try.cSl8 : Try.prog.cellsOf 23 = 1 := by kernel_rfl
theorem choose_listH {α : Type} {P : Nat → α → Prop} : ∀ n, (∀ i, i < n → ∃ a, P i a) → ∃ l : List α, l.length = n ∧ ∀ i (h : i < l.length), P i l[i]
  | 0, _ => ⟨[], rfl, fun i h => by simp at h⟩
  | n + 1, h => by
    obtain ⟨l, hl, hp⟩ := choose_listH n (fun i hi => h i (by omega))
    obtain ⟨a, ha⟩ := h n (by omega)
    refine ⟨l ++ [a], by simp [hl], fun i hi => ?_⟩
    by_cases hn : i < l.length
    · rw [List.getElem_append_left hn]
      exact hp i hn
    · have : i = l.length := by simp at hi; omega
      subst this
      rw [List.getElem_append_right (by omega)]
      simp only [Nat.sub_self, List.getElem_cons_zero, hl]
      exact ha
theorem flat_leB {H : Type} : ∀ (S : List PartH) (ds : List (DataW H)), S.length = ds.length → (∀ i (h : i < S.length) (h' : i < ds.length), (S[i]).2.2.length + 1 ≤ Rows.uptoBulk ds[i]) → (flatH S).length + S.length ≤ Rows.uptoBulkAll ds
  | [], ds, _, _ => Nat.zero_le _
  | o :: r, [], h, _ => by simp at h
  | o :: r, d :: ds, h, hp => by
    have h0 : o.2.2.length + 1 ≤ Rows.uptoBulk d := hp 0 (by simp) (by simp)
    have h1 := flat_leB r ds (by simpa using h) (fun i hi hi' => hp (i + 1) (by simp; omega) (by simp; omega))
    have e : flatH (o :: r) = o.2.2 ++ flatH r := by simp [flatH]
    rw [e, List.length_append]
    simp only [Rows.uptoBulkAll, List.length_cons]
    omega
/-- Lists of bytes that came in. -/
theorem parts_of {H : Type} {enc : TypeId × Value → H} {W : World} {fuel : Nat} {cs : List Value} {x : DataW H × List MemPlace} (hf : DataW.trod enc Try.prog W 0 (fun _ => true) true fuel 22 cs = some x) :
    ∃ (a : Option Addr) (c : Nat) (S : List PartH), cs = [.slice a S.length c] ∧ PartsAtH W a S ∧ (∀ p ∈ S, BytesAt W p.1 p.2.2) ∧ (∀ p ∈ S, p.1 = none → p.2.1 = 0) ∧ (flatH S).length + S.length < Rows.uptoBulk x.1 := by
  rcases DataW.trod_slice Try.underlying22 hf with ⟨rfl, rfl⟩ | ⟨a, len, cap, elems, rest, n, _, rfl, rfl, _, hl, hm, hlen, hel, _, _⟩
  · exact ⟨none, 0, [], rfl, fun e => (e rfl).elim, fun y hy => (by cases hy), fun y hy => (by cases hy), bulk_pos _⟩
  rw [Try.cSl8] at hel
  have hbk : Rows.uptoBulk (DataW.slice (H := H) (elems.map (·.1)) (rest.map (·.1))) = Rows.uptoBulkAll (elems.map (·.1)) + Rows.uptoBulkAll (rest.map (·.1)) + 1 := by simp only [Rows.uptoBulk]
  have each : ∀ i, i < len → ∃ o : PartH, (∀ j, j < 1 → W.cell? ((a.add (i * 1)).add j) = [Value.slice o.1 o.2.2.length o.2.1][j]?) ∧ (BytesAt W o.1 o.2.2 ∧ (o.1 = none → o.2.1 = 0)) ∧ ∀ (h : i < elems.length), o.2.2.length + 1 ≤ Rows.uptoBulk (elems[i]).1 := by
    intro i hi
    have h := hel i hi
    rw [List.getElem?_eq_getElem (by omega), Option.bind_eq_some_iff] at h
    obtain ⟨cs8, h1, h2⟩ := h
    obtain ⟨_, h3⟩ := (World.cells?_some h1).2
    obtain ⟨la, lc, B, rfl, k1, _, k3, k4⟩ := bytes_of h2
    exact ⟨(la, lc, B), h3, ⟨k1, k3⟩, fun _ => k4⟩
  obtain ⟨S, hS, hp⟩ := choose_listH len each
  refine ⟨some a, cap, S, by rw [hS], fun hne => ?_, fun o ho => ?_, fun o ho => ?_, ?_⟩
  · have hp0 : 0 < S.length := List.length_pos_iff.2 hne
    obtain ⟨b, off, spot⟩ := a
    have h00 := (hp 0 hp0).1 0 (by omega)
    have hspot : spot = none := by
      have e : [Value.slice (S[0]).1 (S[0]).2.2.length (S[0]).2.1][0]? = some (.slice (S[0]).1 (S[0]).2.2.length (S[0]).2.1) := rfl
      rw [e] at h00
      simpa [Addr.add] using World.cell?_spot h00
    subst hspot
    refine ⟨b, off, rfl, fun k hk => ?_⟩
    have t0 := (hp k hk).1 0 (by omega)
    rw [Go.WideShapes.add_plain, Go.WideShapes.add_plain, Nat.mul_one] at t0
    exact t0
  · obtain ⟨i, hi, rfl⟩ := List.mem_iff_getElem.1 ho
    exact (hp i hi).2.1.1
  · obtain ⟨i, hi, rfl⟩ := List.mem_iff_getElem.1 ho
    exact (hp i hi).2.1.2
  · have h1 := flat_leB S (elems.map (·.1)) (by rw [List.length_map]; omega) (fun i hi hi' => by
      rw [List.getElem_map]
      exact (hp i hi).2.2 (by omega))
    show (flatH S).length + S.length < Rows.uptoBulk (DataW.slice (H := H) (elems.map (·.1)) (rest.map (·.1)))
    omega
theorem concat_all (P : List PartH) (pa : Option Addr) (pc : Nat) (w : World) (hP : PartsAtH w pa P) (hB : ∀ p ∈ P, BytesAt w p.1 p.2.2) (hz : ∀ p ∈ P, p.1 = none → p.2.1 = 0) (hl : P.length ≤ 1048576) (hn : (flatH P).length ≤ 1048576) :
    Calls Try.prog 3 #[.slice pa P.length pc] w fun e w' => e = .returned (.bool true) ∧ Kept (fun _ => False) w w' := by
  obtain ⟨bm, hbm⟩ := bm_fun
  exact concat_walk bm hbm P pa pc w hP hB hz hl hn
end Go.Proofs.Ytpopfgablgnalaa
