import Derived.Test.YteeimpjjmdpbgaaDoorMrg5
import Derived.Test.YteeimpjjmdpbgaaDoorNrd
import Derived.Test.YteeimpjjmdpbgaaDoorDbf
namespace Go.Proofs.YteeimpjjmdpbgaaDoor
open Go.ChangeShapes Go.WideShapes Go.ChangeAt Go.RowKit

theorem isb_appN {a b : List Int} (ha : IsBytes a) (hb : IsBytes b) : IsBytes (a ++ b) := fun x hx => by
  rcases List.mem_append.1 hx with h | h
  · exact ha x h
  · exact hb x h
theorem uvb_bytesN : ∀ n, IsBytes (uvb n) := by
  intro n
  induction n using Nat.strongRecOn with
  | _ n ih =>
    by_cases h : n < 128
    · rw [uvb_small h]
      intro x hx
      simp only [List.mem_cons, List.not_mem_nil, or_false] at hx
      omega
    · rw [uvb_big h]
      intro x hx
      rcases List.mem_cons.1 hx with rfl | hx
      · omega
      · exact ih (n / 128) (by omega) x hx
theorem een_bytesN (b : ByteArray) (e : En) : IsBytes (een b e) := by
  unfold een
  repeat (first | exact uvb_bytesN _ | exact (fun x hx => sb_bytes _ x (List.mem_of_mem_drop hx)) | refine isb_appN ?_ ?_)
theorem ebl_bytesN : ∀ (b : ByteArray) (l : List En), IsBytes (ebl b l)
  | _, [] => fun x hx => by cases hx
  | b, e :: r => isb_appN (een_bytesN b e) (ebl_bytesN e.k r)
theorem img_bytesN (l : List En) : IsBytes (img l) := by
  unfold img hdL bdL
  refine isb_appN (isb_appN (uvb_bytesN _) ?_) ?_
  · intro x hx
    obtain ⟨y, hy, hx⟩ := List.mem_flatten.1 hx
    obtain ⟨F, _, rfl⟩ := List.mem_map.1 hy
    exact uvb_bytesN _ x hx
  · intro x hx
    obtain ⟨y, hy, hx⟩ := List.mem_flatten.1 hx
    obtain ⟨F, _, rfl⟩ := List.mem_map.1 hy
    exact ebl_bytesN _ _ x hx
theorem hdL_pre (E : List En) : ∀ (m k : Nat), ∃ R, hdL (chs (k + m) E) = hdL (chs k E) ++ R
  | 0, k => ⟨[], by simp⟩
  | m + 1, k => by
    obtain ⟨R, h⟩ := hdL_pre E m k
    exact ⟨R ++ uvb (ebl ByteArray.empty ((E.drop (16 * (k + m))).take 16)).length, by rw [← Nat.add_assoc, chs_snoc, hdL_snoc, h, List.append_assoc]⟩
theorem hdL_next (E : List En) {k N : Nat} (h : k < N) : ∃ x R, hdL (chs N E) = (hdL (chs k E) ++ uvb x) ++ R ∧ hdL (chs (k + 1) E) = hdL (chs k E) ++ uvb x ∧ x = (ebl ByteArray.empty ((E.drop (16 * k)).take 16)).length := by
  obtain ⟨R, hR⟩ := hdL_pre E (N - (k + 1)) (k + 1)
  rw [show k + 1 + (N - (k + 1)) = N by omega] at hR
  have e : hdL (chs (k + 1) E) = hdL (chs k E) ++ uvb (ebl ByteArray.empty ((E.drop (16 * k)).take 16)).length := by rw [chs_snoc, hdL_snoc]
  exact ⟨_, R, by rw [hR, e], e, rfl⟩
theorem drop_len {l A B : List Int} (h : l = A ++ B) : l.drop A.length = B := by rw [h, List.drop_left' rfl]
/-- One more length is read. -/
theorem len_put {l : List Int} {E : List En} {k : Nat} (hl : l = img E) (hk : k < nbk E.length) (hg : ∀ e ∈ E, Gen e) : tkp l (((uvb E.length ++ hdL (chs k E)).length : Nat) : Int) = (((uvb E.length ++ hdL (chs (k + 1) E)).length : Nat) : Int) := by
  obtain ⟨x, R, h1, h2, h3⟩ := hdL_next E hk
  have hd : l.drop (uvb E.length ++ hdL (chs k E)).length = uvb x ++ (R ++ bdL (chs (nbk E.length) E)) := by
    refine drop_len ?_
    rw [hl, img, h1]
    simp only [List.append_assoc]
  have hx : x < 34359738368 := by
    have h4 := ebl_le (F := (E.drop (16 * k)).take 16) (b := ByteArray.empty) (fun e he => hg e (List.mem_of_mem_drop (List.mem_of_mem_take he)))
    have h5 : ((E.drop (16 * k)).take 16).length ≤ 16 := by rw [List.length_take]; omega
    omega
  rw [(tk_uvb hd hx).2, h2]
  simp only [List.length_append]
  congr 1
  omega
/-- The entries from the place i on. -/
structure AtE (l : List Int) (E : List En) (i : Nat) (p : Int) (bf : ByteArray) (F : List En) : Prop where
  f : F = E.take i
  b : bf = lastk ByteArray.empty (E.take i)
  p : ∃ P : Nat, p = (P : Int) ∧ P ≤ l.length ∧ l.drop P = ebs (i % 16) bf (E.drop i)
theorem AtE.start {l : List Int} {E : List En} (hl : l = img E) : AtE l E 0 (((uvb E.length ++ hdL (chs (nbk E.length) E)).length : Nat) : Int) ByteArray.empty [] := by
  refine ⟨by simp, by simp [lastk], _, rfl, ?_, ?_⟩
  · rw [hl, img]
    simp only [List.length_append]
    omega
  · have h : l.drop (uvb E.length ++ hdL (chs (nbk E.length) E)).length = bdL (chs (nbk E.length) E) := drop_len (by rw [hl, img])
    rw [h, List.drop_zero]
    exact bdL_ebs _ E _ rfl
theorem AtE.next {l : List Int} {E F : List En} {i : Nat} {p : Int} {bf : ByteArray} (h : AtE l E i p bf F) (hg : Good E) (hi : i < E.length) : ∃ (P : Nat) (c0 : ByteArray) (R : List Int), p = (P : Int) ∧ l.drop P = een c0 E[i] ++ R ∧ Gen E[i] ∧ klt c0 E[i].k = true ∧ (c0 = bf ∨ c0 = ByteArray.empty) ∧ AtE l E (i + 1) ((P + (een c0 E[i]).length : Nat) : Int) E[i].k (F ++ [E[i]]) := by
  obtain ⟨P, rfl, hP, hd⟩ := h.p
  have hge := hg.gen _ (List.getElem_mem hi)
  rw [List.drop_eq_getElem_cons hi, ebs] at hd
  obtain ⟨c0, hc0⟩ : ∃ c0, c0 = (if i % 16 = 0 then ByteArray.empty else bf) := ⟨_, rfl⟩
  rw [← hc0] at hd
  have hk : klt c0 E[i].k = true := by
    rw [hc0]
    split
    · exact klt_empty hge.k1
    · have hE : E = E.take i ++ (E[i] :: E.drop (i + 1)) := by rw [← List.drop_eq_getElem_cons hi, List.take_append_drop]
      have hch := hg.chn
      rw [hE, chn_append] at hch
      rw [h.b]
      exact hch.2.1
  have hd2 := drop_next hd
  refine ⟨P, c0, _, rfl, hd, hge, hk, ?_, ⟨?_, ?_, _, rfl, ?_, ?_⟩⟩
  · rw [hc0]
    split
    · exact .inr rfl
    · exact .inl rfl
  · rw [h.f, List.take_succ_eq_append_getElem hi]
  · rw [List.take_succ_eq_append_getElem hi, lastk_snoc]
  · have := congrArg List.length hd
    rw [List.length_drop, List.length_append] at this
    omega
  · rw [hd2]
    congr 1
    omega
/-- What the document's Open leaves. -/
def roPost (O : Option (List En)) (w : World) (e : Ending) (w' : World) : Prop :=
  ((O = none ∧ e = .returned (.tuple #[.slice none 0 0, .int .i64 10])) ∨ (∃ E va vc, O = some E ∧ e = .returned (.tuple #[.slice va E.length vc, .int .i64 0]) ∧ EsAt w' va E)) ∧ Kept (fun _ => False) w w'
end Go.Proofs.YteeimpjjmdpbgaaDoor
