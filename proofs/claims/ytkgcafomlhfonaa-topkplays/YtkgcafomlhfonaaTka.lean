import Derived.Test.YtkgcafomlhfonaaBase
namespace Go.Proofs.Ytkgcafomlhfonaa.Tk
/-- A hit: its id and its score. -/
abbrev Ht := Int × Int
/-- a stands ahead of b. -/
def Bt (a b : Ht) : Prop := b.2 < a.2 ∨ (a.2 = b.2 ∧ a.1 < b.1)
instance (a b : Ht) : Decidable (Bt a b) := by unfold Bt; infer_instance
theorem bt_irr (a : Ht) : ¬ Bt a a := by unfold Bt; omega
theorem bt_asym {a b : Ht} (h : Bt a b) : ¬ Bt b a := by unfold Bt at *; omega
theorem bt_trans {a b c : Ht} (h : Bt a b) (k : Bt b c) : Bt a c := by unfold Bt at *; omega
theorem nbt_trans {a b c : Ht} (h : ¬ Bt a b) (k : ¬ Bt b c) : ¬ Bt a c := by unfold Bt at *; omega
theorem bt_nbt {a b c : Ht} (h : Bt a b) (k : ¬ Bt c b) : Bt a c := by unfold Bt at *; omega
theorem nbt_bt {a b c : Ht} (h : ¬ Bt b a) (k : Bt b c) : Bt a c := by unfold Bt at *; omega
theorem bt_eq {a b : Ht} (h : ¬ Bt a b) (k : ¬ Bt b a) : a = b := by
  unfold Bt at *
  obtain ⟨a1, a2⟩ := a
  obtain ⟨b1, b2⟩ := b
  simp only at h k
  simp only [Prod.mk.injEq]
  omega
/-- The best first. -/
def Srt (l : List Ht) : Prop := l.Pairwise (fun a b => ¬ Bt b a)
theorem srt_uniq {l m : List Ht} (h : Srt l) (k : Srt m) (p : l.Perm m) : l = m :=
  p.eq_of_pairwise (fun _ _ _ _ h1 h2 => bt_eq h2 h1) h k
/-- h put ahead of the first that it stands ahead of. -/
def ins (h : Ht) : List Ht → List Ht
  | [] => [h]
  | y :: l => if Bt h y then h :: y :: l else y :: ins h l
theorem ins_len (h : Ht) : ∀ l, (ins h l).length = l.length + 1
  | [] => rfl
  | y :: l => by
    unfold ins
    split
    · rfl
    · rw [List.length_cons, ins_len h l, List.length_cons]
theorem ins_perm (h : Ht) : ∀ l, (ins h l).Perm (h :: l)
  | [] => .refl _
  | y :: l => by
    unfold ins
    split
    · exact .refl _
    · exact ((ins_perm h l).cons y).trans (.swap h y l)
theorem ins_srt (h : Ht) : ∀ l, Srt l → Srt (ins h l)
  | [], _ => by simp [ins, Srt]
  | y :: l, hs => by
    have hs' := hs
    obtain ⟨h1, h2⟩ := List.pairwise_cons.1 hs
    unfold ins
    split
    · rename_i hb
      refine List.pairwise_cons.2 ⟨fun z hz => ?_, hs'⟩
      rcases List.mem_cons.1 hz with rfl | hz
      · exact bt_asym hb
      · exact fun e => h1 z hz (bt_trans e hb)
    · rename_i hb
      refine List.pairwise_cons.2 ⟨fun z hz => ?_, ins_srt h l h2⟩
      rcases List.mem_cons.1 ((ins_perm h l).mem_iff.1 hz) with rfl | hz
      · exact hb
      · exact h1 z hz
theorem ins_take (h : Ht) : ∀ (k : Nat) l, (ins h l).take k = (ins h (l.take k)).take k
  | 0, l => by simp
  | k + 1, [] => by simp
  | k + 1, y :: l => by
    rw [List.take_succ_cons]
    unfold ins
    split
    · rw [List.take_succ_cons, List.take_succ_cons]
      cases k with
      | zero => simp
      | succ k => rw [List.take_succ_cons, List.take_succ_cons, List.take_take]; simp [Nat.min_eq_left]
    · rw [List.take_succ_cons, List.take_succ_cons, ins_take h k l]
theorem ins_end (h : Ht) : ∀ (l : List Ht), (∀ x ∈ l, ¬ Bt h x) → ins h l = l ++ [h]
  | [], _ => rfl
  | y :: l, hl => by
    unfold ins
    rw [if_neg (hl y (List.mem_cons_self ..)), ins_end h l (fun x hx => hl x (List.mem_cons_of_mem _ hx))]
    rfl
theorem ins_last (h w : Ht) (hw : Bt h w) : ∀ (l : List Ht), ins h (l ++ [w]) = ins h l ++ [w]
  | [] => by simp [ins, hw]
  | y :: l => by
    rw [List.cons_append]
    unfold ins
    split
    · rfl
    · rw [ins_last h w hw l]; rfl
/-- All, the best first. -/
def srt (l : List Ht) : List Ht := l.foldl (fun s h => ins h s) []
theorem fold_perm : ∀ (l s : List Ht), (l.foldl (fun s h => ins h s) s).Perm (s ++ l)
  | [], s => by simp
  | h :: l, s => by
    rw [List.foldl_cons]
    refine (fold_perm l (ins h s)).trans ?_
    refine ((ins_perm h s).append_right l).trans ?_
    exact List.perm_middle.symm
theorem fold_srt : ∀ (l s : List Ht), Srt s → Srt (l.foldl (fun s h => ins h s) s)
  | [], _, hs => hs
  | h :: l, s, hs => fold_srt l _ (ins_srt h s hs)
theorem srt_perm (l : List Ht) : (srt l).Perm l := fold_perm l []
theorem srt_srt (l : List Ht) : Srt (srt l) := fold_srt l [] List.Pairwise.nil
theorem srt_len (l : List Ht) : (srt l).length = l.length := (srt_perm l).length_eq
theorem srt_of {l m : List Ht} (h : Srt l) (p : l.Perm m) : l = srt m := srt_uniq h (srt_srt m) (p.trans (srt_perm m).symm)
theorem srt_congr {l m : List Ht} (p : l.Perm m) : srt l = srt m := srt_of (srt_srt l) ((srt_perm l).trans p)
/-- What a keeper of k keeps behind h. -/
def off (k : Nat) (s : List Ht) (h : Ht) : List Ht := (ins h s).take k
/-- The best k. -/
def best (k : Nat) (l : List Ht) : List Ht := (srt l).take k
theorem fold_off (k : Nat) : ∀ (l s : List Ht), (l.foldl (off k) (s.take k)) = (l.foldl (fun s h => ins h s) s).take k
  | [], _ => rfl
  | h :: l, s => by
    rw [List.foldl_cons, List.foldl_cons, ← fold_off k l (ins h s)]
    congr 1
    unfold off
    rw [← ins_take]
theorem best_fold (k : Nat) (l : List Ht) : l.foldl (off k) [] = best k l := by
  have := fold_off k l []
  rw [List.take_nil] at this
  exact this
theorem best_snoc (k : Nat) (l : List Ht) (h : Ht) : best k (l ++ [h]) = off k (best k l) h := by
  rw [← best_fold, List.foldl_append, best_fold]; rfl
theorem best_app (k : Nat) (l m : List Ht) : best k (l ++ m) = m.foldl (off k) (best k l) := by
  rw [← best_fold, List.foldl_append, best_fold]
theorem best_congr (k : Nat) {l m : List Ht} (p : l.Perm m) : best k l = best k m := by unfold best; rw [srt_congr p]
theorem best_srt (k : Nat) (l : List Ht) : Srt (best k l) := List.Pairwise.sublist (List.take_sublist _ _) (srt_srt l)
theorem best_len (k : Nat) (l : List Ht) : (best k l).length = min k l.length := by unfold best; rw [List.length_take, srt_len]
theorem best_nil (k : Nat) : best k [] = [] := by simp [best, srt]
theorem best_zero (l : List Ht) : best 0 l = [] := by simp [best]
theorem best_best (k : Nat) (l : List Ht) : best k (best k l) = best k l := by
  have h : srt (best k l) = best k l := (srt_of (best_srt k l) (.refl _)).symm
  show (srt (best k l)).take k = _
  rw [h]
  unfold best
  rw [List.take_take, Nat.min_self]
theorem best_left (k : Nat) (l m : List Ht) : best k (best k l ++ m) = best k (l ++ m) := by rw [best_app, best_best, ← best_app]
theorem best_both (k : Nat) (l m : List Ht) : best k (best k l ++ best k m) = best k (l ++ m) := by
  rw [best_left, best_congr k (List.perm_append_comm (l₁ := l)), best_left, best_congr k List.perm_append_comm]
/-- The kept hits, in the midst: a sorted list of at most k. -/
theorem off_less {k : Nat} {s : List Ht} (h : Ht) (hk : s.length < k) : off k s h = ins h s := by
  unfold off
  rw [List.take_of_length_le]
  rw [ins_len]; omega
theorem off_not {k : Nat} {s : List Ht} {h w : Ht} (hs : Srt s) (hk : s.length = k) (hw : s.getLast? = some w) (hb : ¬ Bt h w) : off k s h = s := by
  obtain ⟨d, rfl⟩ := List.getLast?_eq_some_iff.1 hw
  have h1 := (List.pairwise_append.1 hs).2.2
  have h2 : ∀ x ∈ d ++ [w], ¬ Bt h x := by
    intro x hx
    rcases List.mem_append.1 hx with hx | hx
    · intro e
      have := h1 x hx w (by simp)
      exact hb (bt_nbt e this)
    · rw [List.mem_singleton] at hx; subst hx; exact hb
  unfold off
  rw [ins_end h _ h2, List.take_append_of_le_length (by omega), List.take_of_length_le (by omega)]
theorem off_in {k : Nat} {d : List Ht} {h w : Ht} (hk : d.length + 1 = k) (hb : Bt h w) : off k (d ++ [w]) h = ins h d := by
  unfold off
  rw [ins_last h w hb, List.take_append_of_le_length (by rw [ins_len]; omega), List.take_of_length_le (by rw [ins_len]; omega)]
theorem off_zero (s : List Ht) (h : Ht) : off 0 s h = [] := by simp [off]
end Go.Proofs.Ytkgcafomlhfonaa.Tk
