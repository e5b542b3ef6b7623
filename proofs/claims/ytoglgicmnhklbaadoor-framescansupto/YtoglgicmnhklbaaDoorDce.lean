import Derived.Test.YtoglgicmnhklbaaDoorDcd
import Derived.Test.YtoglgicmnhklbaaDoorBkf
namespace Go.Proofs.YtoglgicmnhklbaaDoor
open Go.ChangeShapes Go.WideShapes Go.ChangeAt Go.RowKit

theorem bodyR_codes {l : List Int} {e : Nat} (h : bodyR l = .error e) : e ≠ 6 := by
  unfold bodyR at h
  split at h
  · cases h; decide
  split at h
  · cases h; decide
  split at h
  · rename_i hr
    cases h
    have := rdu_codes _ _ _ _ hr
    omega
  · split at h
    · cases h; decide
    · cases h
theorem decode_any4 (l : List Int) (a : Option Addr) (n c : Nat) (w : World) {a0 a1 a5 a6 : Addr} (hn : n = l.length) (hB : BytesAt w a l) (hb : IsBytes l) (hc : l.length ≤ c) (hl : l.length ≤ 140737488355000) (hT : TabAt w) (hE : Errs4 w a0 a1 a5 a6) :
    Calls Tryd.prog 22 #[.slice a n c] w fun e w' => DecPost w a0 a1 a5 a6 e w' (decR l) := by
  cases hr : bodyR l with
  | error er =>
    have e : decR l = .error er := by unfold decR; rw [hr]
    rw [e]
    exact dec_err4 l a n c er w hn hB hb hc (by omega) hE hr (bodyR_codes hr)
  | ok pq =>
    obtain ⟨p, q⟩ := pq
    exact dec_ok4 l a n c p q w hn hB hb hc hl hT hE hr
/-- A block's bytes, with anything behind them, are the block. -/
theorem dec_enc (tag : Nat) (l rest : List Int) (ht : 0 < tag) (hl : l.length < 18446744073709551616) : decR (benc tag l ++ rest) = .ok ((tag : Int), l, (benc tag l).length) := by
  have hul := ulen_le l.length (by omega)
  obtain ⟨L, hL⟩ : ∃ L, L = benc tag l ++ rest := ⟨_, rfl⟩
  obtain ⟨s, hs⟩ : ∃ s, s = ext 0 (bhead tag l) := ⟨_, rfl⟩
  have eL : L = (tag : Int) :: (uvb l.length ++ (l ++ (le 4 s ++ rest))) := by
    rw [hL, benc, ← hs, bhead]
    simp only [List.append_assoc, List.cons_append, List.nil_append]
  have h0 : L[0]?.getD 0 = (tag : Int) := by rw [eL]; rfl
  have hne : L ≠ [] := by rw [eL]; simp
  have hd1 : L.drop 1 = uvb l.length ++ (l ++ (le 4 s ++ rest)) := by rw [eL]; rfl
  have hku : (uvb l.length).length = ulen l.length := uvb_length _
  have ht10 : (L.drop 1).take 10 = uvb l.length ++ (l ++ (le 4 s ++ rest)).take (10 - ulen l.length) := by
    rw [hd1, List.take_append, hku, List.take_of_length_le (by omega)]
  have hr : rdu 0 0 ((L.drop 1).take 10) = .ok (l.length, ulen l.length) := by
    rw [ht10, rdu_uvb _ _ hl, hku]
  have hlen : L.length = 1 + ulen l.length + l.length + 4 + rest.length := by
    rw [hL, List.length_append, benc_length]; omega
  have hbody : bodyR L = .ok (1 + ulen l.length, 1 + ulen l.length + l.length) := by
    rw [bodyR, if_neg hne, if_neg (by rw [h0]; omega), hr]
    show (if L.length < 1 + ulen l.length + 4 + l.length then _ else _) = _
    rw [if_neg (by omega)]
  have hhl := bhead_length tag l
  have hq : L.take (1 + ulen l.length + l.length) = bhead tag l := by
    rw [hL, benc, List.append_assoc, List.take_append_of_le_length (by omega), List.take_of_length_le (by omega)]
  have hqd : L.drop (1 + ulen l.length + l.length) = le 4 s ++ rest := by
    rw [hL, benc, List.append_assoc, ← hhl, List.drop_left, ← hs]
  have hpd : L.drop (1 + ulen l.length) = l ++ (le 4 s ++ rest) := by
    rw [← List.drop_drop, hd1, ← hku, List.drop_left]
  rw [← hL]
  unfold decR
  rw [hbody]
  simp only
  have h4 : (L.drop (1 + ulen l.length + l.length)).take 4 = le 4 s := by
    rw [hqd, List.take_append_of_le_length (by rw [le_length]; omega), List.take_of_length_le (by rw [le_length]; omega)]
  rw [if_pos (by rw [h4, hq, hs]), h0, hpd, show 1 + ulen l.length + l.length - (1 + ulen l.length) = l.length by omega, List.take_append_of_le_length (Nat.le_refl _), List.take_length, benc_length, show 5 + ulen l.length + l.length = 1 + ulen l.length + l.length + 4 by omega]
/-- What is taken as a block is what is made of it. -/
theorem enc_dec {l : List Int} {t : Int} {body : List Int} {m : Nat} (hb : IsBytes l) (h : decR l = .ok (t, body, m)) : (∃ tag : Nat, t = tag ∧ 0 < tag ∧ tag < 256 ∧ benc tag body = l.take m) ∧ IsBytes body ∧ m ≤ l.length ∧ body.length ≤ l.length := by
  unfold decR at h
  split at h
  · cases h
  rename_i p q hr
  split at h
  case isFalse => cases h
  rename_i hsum
  simp only [Except.ok.injEq, Prod.mk.injEq] at h
  obtain ⟨rfl, rfl, rfl⟩ := h
  obtain ⟨hne, h0, hp1, hpq, hq4, x, k, hx, rfl, rfl⟩ := bodyR_ok hr
  have hpos : 0 < l.length := List.length_pos_iff.2 hne
  obtain ⟨tag, ht, ht2, _⟩ := hb.at hpos
  have hB1 : IsBytes ((l.drop 1).take 10) := fun y hy => hb y (List.mem_of_mem_drop (List.mem_of_mem_take hy))
  have hf := rdu_form hB1 hx
  have hk := (rdu_le _ _ _ _ _ hx).2
  rw [List.length_take, List.length_drop] at hk
  rw [List.take_take, Nat.min_eq_left (by omega)] at hf
  have hbl : ((l.drop (1 + k)).take (1 + k + x - (1 + k))).length = x := by rw [List.length_take, List.length_drop]; omega
  have e1 : l.take (1 + k + x) = bhead tag ((l.drop (1 + k)).take (1 + k + x - (1 + k))) := by
    rw [bhead, hbl, ← hf]
    have ec : l = (tag : Int) :: l.drop 1 := by
      cases l with
      | nil => simp at hpos
      | cons y r => simp at ht ⊢; exact ht
    conv => lhs; rw [ec]
    rw [show 1 + k + x = (k + x) + 1 by omega, List.take_succ_cons, show k + x + 1 - (1 + k) = x by omega, ← List.drop_drop (i := k) (j := 1)]
    rw [show (l.drop 1).take (k + x) = (l.drop 1).take k ++ ((l.drop 1).drop k).take x from by
      rw [← List.take_append_drop k ((l.drop 1).take (k + x)), List.take_take, Nat.min_eq_left (by omega), List.drop_take, Nat.add_sub_cancel_left]]
    simp only [List.cons_append, List.nil_append]
  refine ⟨⟨tag, ht, ?_, ht2, ?_⟩, fun y hy => hb y (List.mem_of_mem_drop (List.mem_of_mem_take hy)), hq4, by rw [hbl]; omega⟩
  · rcases Nat.eq_zero_or_pos tag with e | e
    · rw [e] at ht; exact absurd ht h0
    · exact e
  · rw [benc, ← e1, ← hsum]
    rw [show l.take (1 + k + x + 4) = l.take (1 + k + x) ++ (l.drop (1 + k + x)).take 4 from by
      rw [← List.take_append_drop (1 + k + x) (l.take (1 + k + x + 4)), List.take_take, Nat.min_eq_left (by omega), List.drop_take, Nat.add_sub_cancel_left]]
end Go.Proofs.YtoglgicmnhklbaaDoor
