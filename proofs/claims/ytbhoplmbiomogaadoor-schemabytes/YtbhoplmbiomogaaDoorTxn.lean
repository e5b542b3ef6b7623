import Derived.Test.YtbhoplmbiomogaaDoorTxm
namespace Go.Proofs.YtbhoplmbiomogaaDoor
open Go.RowKit

theorem rm_fold (r : List UInt8) {b : Nat} (h : b < 4) : rmN (mFold ++ r) b = 4 := by rw [rmN, if_pos ⟨pre_yes _ _, h⟩]
theorem rm_stop (r : List UInt8) {b : Nat} (h : b < 8) : rmN (mStop ++ r) b = 8 := by
  have e : Lib.hasPrefix (mStop ++ r) mFold = false := rfl
  rw [rmN, e, if_neg (by simp), if_pos ⟨pre_yes _ _, h⟩]
theorem rm_stem (r : List UInt8) {b : Nat} (h : b < 16) : rmN (mStem ++ r) b = 16 := by
  have e : Lib.hasPrefix (mStem ++ r) mFold = false := rfl
  have e2 : Lib.hasPrefix (mStem ++ r) mStop = false := rfl
  rw [rmN, e, e2, if_neg (by simp), if_neg (by simp), if_pos ⟨pre_yes _ _, h⟩]
theorem rin_fold (r : List UInt8) {b : Nat} (h : b < 4) : rin b (mFold ++ r) = rin (b + 4) r := by
  have e := rm_fold r h
  have q := rin_go (b := b) (c := 44) (r := [102, 111, 108, 100] ++ r) (by decide) (by rw [show (44 : UInt8) :: ([102, 111, 108, 100] ++ r) = mFold ++ r from rfl, e]; decide)
  rw [show (44 : UInt8) :: ([102, 111, 108, 100] ++ r) = mFold ++ r from rfl, e] at q
  rw [q]; rfl
theorem rin_stop (r : List UInt8) {b : Nat} (h : b < 8) : rin b (mStop ++ r) = rin (b + 8) r := by
  have e := rm_stop r h
  have q := rin_go (b := b) (c := 44) (r := [115, 116, 111, 112] ++ r) (by decide) (by rw [show (44 : UInt8) :: ([115, 116, 111, 112] ++ r) = mStop ++ r from rfl, e]; decide)
  rw [show (44 : UInt8) :: ([115, 116, 111, 112] ++ r) = mStop ++ r from rfl, e] at q
  rw [q]; rfl
theorem rin_stem (r : List UInt8) {b : Nat} (h : b < 16) : rin b (mStem ++ r) = rin (b + 16) r := by
  have e := rm_stem r h
  have q := rin_go (b := b) (c := 44) (r := [115, 116, 101, 109] ++ r) (by decide) (by rw [show (44 : UInt8) :: ([115, 116, 101, 109] ++ r) = mStem ++ r from rfl, e]; decide)
  rw [show (44 : UInt8) :: ([115, 116, 101, 109] ++ r) = mStem ++ r from rfl, e] at q
  rw [q]; rfl
def bt (b : Bool) (n : Nat) : Nat := if b then n else 0
theorem rin_oF (r : List UInt8) (x : Bool) {b : Nat} (h : b < 4) : rin b ((if x then mFold else []) ++ r) = rin (b + bt x 4) r := by
  cases x
  · rfl
  · exact rin_fold r h
theorem rin_oS (r : List UInt8) (x : Bool) {b : Nat} (h : b < 8) : rin b ((if x then mStop else []) ++ r) = rin (b + bt x 8) r := by
  cases x
  · rfl
  · exact rin_stop r h
theorem rin_oE (r : List UInt8) (x : Bool) {b : Nat} (h : b < 16) : rin b ((if x then mStem else []) ++ r) = rin (b + bt x 16) r := by
  cases x
  · rfl
  · exact rin_stem r h
theorem rin_tl (b : Nat) (o : Option (List UInt8)) : rin b (tlO o) = some (b, o) := by
  cases o with
  | none => exact rin_nil b
  | some r => exact rin_end (by decide)
theorem bt_le (x : Bool) (n : Nat) : bt x n ≤ n := by cases x <;> simp [bt]
theorem rin_chain (k : Nat) (h : k < 4) (fo st se : Bool) (o : Option (List UInt8)) : rin k (mks fo st se ++ tlO o) = some (k + bt fo 4 + bt st 8 + bt se 16, o) := by
  have h1 := bt_le fo 4
  have h2 := bt_le st 8
  rw [mks, List.append_assoc, rin_oF _ _ h, List.append_assoc, rin_oS _ _ (by omega), rin_oE _ _ (by omega), rin_tl]
/-- The byte of a field. -/
def fby (f : Fd) : Nat := f.k.toNat + bt f.fo 4 + bt f.st 8 + bt f.se 16
theorem fdOf_fby (f : Fd) (h : f.k = 1 ∨ f.k = 2 ∨ f.k = 3) : fdOf f.n (fby f) = f := by
  obtain ⟨n, k, fo, st, se⟩ := f
  simp only at h
  rcases h with rfl | rfl | rfl <;> cases fo <;> cases st <;> cases se <;> simp [fdOf, fby, bt]
theorem ci_of (n r : List UInt8) (h : ∀ c ∈ n, (c == 58) = false) : ci (n ++ 58 :: r) = some n.length := by
  unfold ci
  rw [List.findIdx?_append, List.findIdx?_eq_none_iff.2 h, List.findIdx?_cons]
  simp
theorem rk_of (k : Int) (r : List UInt8) (h : k = 1 ∨ k = 2 ∨ k = 3) : rkN (kW k ++ r) = k.toNat ∧ rkR (kW k ++ r) = r := by
  rcases h with rfl | rfl | rfl
  · exact ⟨rfl, rfl⟩
  · exact ⟨rfl, rfl⟩
  · exact ⟨rfl, rfl⟩
theorem gk_range {f : Fd} (h : gfield f = true) : f.k = 1 ∨ f.k = 2 ∨ f.k = 3 := by
  rw [gfield, Bool.and_eq_true] at h
  have h2 := h.2
  unfold gkind at h2
  rw [Bool.or_eq_true] at h2
  rcases h2 with q | q
  · exact Or.inl (of_decide_eq_true q)
  · rw [Bool.and_eq_true, Bool.and_eq_true, Bool.and_eq_true] at q
    exact Or.inr (of_decide_eq_true q.1.1.1)
theorem gn_chars {f : Fd} (h : gfield f = true) : f.n.data.toList.length ≤ 32 ∧ f.n.data.toList ≠ [] ∧ ∀ c ∈ f.n.data.toList, isW c = true := by
  rw [gfield, Bool.and_eq_true] at h
  have h1 := h.1
  cases hl : f.n.data.toList with
  | nil => rw [hl] at h1; cases h1
  | cons c r =>
    rw [hl, gname, Bool.and_eq_true, Bool.and_eq_true] at h1
    have q := of_decide_eq_true h1.1.1
    exact ⟨by simp; omega, by simp, List.all_eq_true.1 h1.2⟩
theorem isW_sep {c d : UInt8} (h : isW c = true) (hd : isW d = false) : (c == d) = false := by
  cases e : c == d with
  | false => rfl
  | true => rw [beq_iff_eq] at e; subst e; rw [h] at hd; cases hd
/-- A good schema's text is read as that schema. -/
theorem text_rout : ∀ (F : List Fd) (n : Nat), F ≠ [] → F.length ≤ n → (∀ f ∈ F, gfield f = true) → rout n (stx F) = some F
  | [], _, h, _, _ => absurd rfl h
  | f :: r, 0, _, h, _ => absurd h (by simp)
  | f :: r, n + 1, _, hn, hg => by
    have hf := hg f (by simp)
    have hk := gk_range hf
    have hc := gn_chars hf
    have hk4 : f.k.toNat < 4 := by omega
    have key : ∀ o : Option (List UInt8), ci (ftx f ++ tlO o) = some f.n.data.toList.length ∧ rkN ((ftx f ++ tlO o).drop (f.n.data.toList.length + 1)) ≠ 0 ∧ rin (rkN ((ftx f ++ tlO o).drop (f.n.data.toList.length + 1))) (rkR ((ftx f ++ tlO o).drop (f.n.data.toList.length + 1))) = some (fby f, o) ∧ (ftx f ++ tlO o).take f.n.data.toList.length = f.n.data.toList := by
      intro o
      have e : ftx f ++ tlO o = f.n.data.toList ++ 58 :: (kW f.k ++ (mks f.fo f.st f.se ++ tlO o)) := by rw [ftx]; simp [List.append_assoc]
      have ed : (ftx f ++ tlO o).drop (f.n.data.toList.length + 1) = kW f.k ++ (mks f.fo f.st f.se ++ tlO o) := by
        rw [e, show f.n.data.toList ++ 58 :: (kW f.k ++ (mks f.fo f.st f.se ++ tlO o)) = (f.n.data.toList ++ [58]) ++ (kW f.k ++ (mks f.fo f.st f.se ++ tlO o)) by simp]
        exact List.drop_left' (by simp)
      obtain ⟨q1, q2⟩ := rk_of f.k (mks f.fo f.st f.se ++ tlO o) hk
      refine ⟨?_, ?_, ?_, ?_⟩
      · rw [e]
        exact ci_of _ _ (fun c h => isW_sep (hc.2.2 c h) (by decide))
      · rw [ed, q1]; omega
      · rw [ed, q1, q2, rin_chain _ hk4]; rfl
      · rw [e]
        exact List.take_left' rfl
    have hfd : fdOf (bstr f.n.data.toList) (fby f) = f := by rw [bstr_of]; exact fdOf_fby f hk
    cases r with
    | nil =>
      obtain ⟨k1, k2, k3, k4⟩ := key none
      simp only [tlO, List.append_nil] at k1 k2 k3 k4
      rw [stx_one, rout_last k1 k2 k3, k4, hfd]
    | cons g t =>
      obtain ⟨k1, k2, k3, k4⟩ := key (some (stx (g :: t)))
      rw [stx_more f (by simp), show ftx f ++ 59 :: stx (g :: t) = ftx f ++ tlO (some (stx (g :: t))) from rfl, rout_more k1 k2 k3, k4, hfd, text_rout (g :: t) n (by simp) (by simp at hn ⊢; omega) (fun x hx => hg x (List.mem_cons_of_mem _ hx))]
      rfl
theorem ftx_len {f : Fd} (h : gfield f = true) : (ftx f).length ≤ 55 := by
  have h1 := (gn_chars h).1
  have h2 := gk_range h
  have h3 : (kW f.k).length ≤ 7 := by rcases h2 with e | e | e <;> rw [e] <;> decide
  have h4 : (mks f.fo f.st f.se).length ≤ 15 := by cases f.fo <;> cases f.st <;> cases f.se <;> decide
  rw [ftx, List.length_append, List.length_cons, List.length_append]
  omega
theorem stx_len : ∀ (F : List Fd), (∀ f ∈ F, gfield f = true) → (stx F).length ≤ 56 * F.length
  | [], _ => by simp [stx]
  | [f], h => by have := ftx_len (h f (by simp)); simp [stx]; omega
  | f :: g :: r, h => by
    have h1 := ftx_len (h f (by simp))
    have h2 := stx_len (g :: r) (fun x hx => h x (List.mem_cons_of_mem _ hx))
    rw [stx, List.length_append, List.length_cons]
    simp at h2 ⊢
    omega
/-- Parse and Text, as one. -/
theorem parse_iff (t : List UInt8) (F : List Fd) : (rout 16 t = some F ∧ gschema F = true) ↔ (gschema F = true ∧ stx F = t) := by
  constructor
  · rintro ⟨h, hg⟩
    exact ⟨hg, (rout_text 16 t F h).2.2⟩
  · rintro ⟨hg, rfl⟩
    have q := hg
    rw [gschema, Bool.and_eq_true, Bool.and_eq_true] at q
    have hl := of_decide_eq_true q.1.1
    exact ⟨text_rout F 16 (by intro e; rw [e] at hl; simp at hl) hl.2 (List.all_eq_true.1 q.1.2), hg⟩
end Go.Proofs.YtbhoplmbiomogaaDoor
