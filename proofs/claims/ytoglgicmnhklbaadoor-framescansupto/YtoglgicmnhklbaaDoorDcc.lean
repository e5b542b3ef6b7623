import Derived.Test.YtoglgicmnhklbaaDoorDcb
import Derived.Lib.SliceRun
namespace Go.Proofs.YtoglgicmnhklbaaDoor
open Go.ChangeShapes Go.WideShapes Go.ChangeAt Go.RowKit

theorem toList_inj {s t : ByteArray} (h : s.toList = t.toList) : s = t := by
  rw [ByteArray.toList_eq, ByteArray.toList_eq] at h
  exact WideShapes.bytes_inj h
theorem str_inj {A B : List Int} (hA : IsBytes A) (hB : IsBytes B) (h : strOfNums A = strOfNums B) : A = B := by
  have key : ∀ l : List Int, IsBytes l → (strOfNums l).data.toList.map (fun b => ((b.toNat : Nat) : Int)) = l := by
    intro l hl
    rw [strOfNums_data, List.map_map]
    conv => rhs; rw [← List.map_id l]
    apply List.map_congr_left
    intro x hx
    have := hl x hx
    show (((UInt8.ofNat x.toNat).toNat : Nat) : Int) = x
    rw [UInt8.toNat_ofNat']
    omega
  rw [← key A hA, ← key B hB, h]
/-- Are these bytes alike, as the program asks it? -/
def eqB (A B : List Int) : Bool := (strOfNums A).toList == (strOfNums B).toList
theorem str_beq {A B : List Int} (hA : IsBytes A) (hB : IsBytes B) : eqB A B = decide (A = B) := by
  unfold eqB
  by_cases h : A = B
  · subst h; simp
  · have h2 : ¬ (strOfNums A).toList = (strOfNums B).toList := fun e => h (str_inj hA hB (toList_inj e))
    rw [decide_eq_false h]
    exact beq_eq_false_iff_ne.2 h2
theorem equal_any (A B : List Int) (a b : Option Addr) (c d : Nat) (w : World) (hA : BytesAt w a A) (hB : BytesAt w b B) :
    Calls Tryd.prog 47 #[.slice a A.length c, .slice b B.length d] w fun e w' => e = .returned (.bool (eqB A B)) ∧ w' = w := by
  have c1 := conv_atF (c := c) hA
  have c2 := conv_atF (c := d) hB
  obtain ⟨n, hn⟩ : ∃ n, n = A.length := ⟨_, rfl⟩
  obtain ⟨m, hm⟩ : ∃ m, m = B.length := ⟨_, rfl⟩
  obtain ⟨s, hs⟩ : ∃ s, s = strOfNums A := ⟨_, rfl⟩
  obtain ⟨t, ht⟩ : ∃ t, t = strOfNums B := ⟨_, rfl⟩
  rw [← hn, ← hs] at c1
  rw [← hm, ← ht] at c2
  have he : eqB A B = (s.toList == t.toList) := by rw [hs, ht]; rfl
  rw [← hn, ← hm, he]
  clear hn hm hs ht hA hB he
  go_enter Tryd.func47, Tryd.ntmps47
  go_wp2
  go_ret
  exact ⟨rfl, rfl⟩
theorem bytes_dropF {w : World} {b off : Nat} {l : List Int} (h : BytesAt w (some ⟨b, off, none⟩) l) (m : Nat) : BytesAt w (some ⟨b, off + m, none⟩) (l.drop m) := by
  intro hne
  obtain ⟨b', off', e, hc⟩ := h (by intro e; rw [e] at hne; simp at hne)
  simp only [Option.some.injEq, Addr.mk.injEq, and_true] at e
  obtain ⟨rfl, rfl⟩ := e
  refine ⟨b, off + m, rfl, fun k hk => ?_⟩
  rw [List.length_drop] at hk
  have := hc (m + k) (by omega)
  rw [List.getElem?_drop, Nat.add_assoc]
  exact this
set_option maxRecDepth 20000 in
theorem suffix_any (l f : List Int) (a b : Option Addr) (c d : Nat) (w : World) (hl : BytesAt w a l) (hf : BytesAt w b f) (h4 : f.length = 4) (hn : 4 ≤ l.length) (hc : l.length ≤ c) (hsm : l.length ≤ 281474976710656) :
    Calls Tryd.prog 42 #[.slice a l.length c, .slice b 4 d] w fun e w' => e = .returned (.bool (eqB (l.drop (l.length - 4)) f)) ∧ w' = w := by
  obtain ⟨b0, off, rfl, _⟩ := hl (by intro e; rw [e] at hn; simp at hn)
  have q := fun d' => equal_any (l.drop (l.length - 4)) f (some ⟨b0, off + (l.length - 4), none⟩) b d' d w (bytes_dropF hl _) hf
  rw [List.length_drop, h4, show l.length - (l.length - 4) = 4 by omega] at q
  obtain ⟨r, hr⟩ : ∃ r, r = eqB (l.drop (l.length - 4)) f := ⟨_, rfl⟩
  rw [← hr] at q ⊢
  obtain ⟨m, hm⟩ : ∃ m, l.length = m + 4 := ⟨l.length - 4, by omega⟩
  rw [hm] at q hn hc hsm ⊢
  rw [show m + 4 - 4 = m by omega] at q
  have Q := hideC q
  clear q hr hl hf h4 hm
  have f1 : ((m : Int) + 4 - 4) = m := by omega
  have f2 : ¬ c = m := by omega
  go_enter Tryd.func42, Tryd.ntmps42
  go_wp2_with (go_at_call 47; refine (Q.out _).mono ?_; rintro e w2 ⟨rfl, e2⟩; subst e2)
  go_ret
  exact ⟨rfl, rfl⟩
set_option maxRecDepth 20000 in
theorem clone_any (l : List Int) (a : Option Addr) (n c : Nat) (w : World) (hn : n = l.length) (hB : BytesAt w a l) (ha : a = none → c = 0) (hl : l.length ≤ 140737488355328) :
    Calls Tryd.prog 20 #[.slice a n c] w fun e w' => ∃ a' c', e = .returned (.slice a' n c') ∧ OwnB w w' (.slice a' n c') l := by
  have q22 : ∀ (w : World) (a : Option Addr) (n c n' c' : Nat), (binOp .eql 22 (.slice a n c) (.slice none n' c')).run Tryd.prog w = .ok (.bool a.isNone) w := fun w a n c n' c' => Lib.run_eql_slice_nil w _ _ a n c n' c' Tryd.underlying22
  cases a with
  | none =>
    obtain rfl : l = [] := by
      cases l with
      | nil => rfl
      | cons x r => obtain ⟨b, off, e, _⟩ := hB (by simp); cases e
    obtain rfl := ha rfl
    subst hn
    clear hB ha hl
    go_enter Tryd.func20, Tryd.ntmps20
    go_wp2
    go_ret
    exact ⟨none, 0, rfl, ownB_nil w⟩
  | some ad =>
    have P1 := hideC (ownB_empty w)
    have Q1 := hideC (bytes_keptF hB (Kept.alloc w (.cells #[] 5)))
    have Z1 := hideC ha
    have N1 := hideC hn
    have Y1 : Hid (l = [] ++ l) := rfl
    have R1 := hideC hl
    clear hB ha hl hn
    go_enter Tryd.func20, Tryd.ntmps20
    go_wp2_with (at_builtin; refine wpList_apn rfl _ _ rfl _ [] l l n n rfl (some ad) c rfl N1 Y1 N1 P1 Q1 Z1 R1 ?_; intro a3 c3 W3 P2)
    go_ret
    exact ⟨a3, c3, rfl, P2.out⟩
set_option maxRecDepth 20000 in
set_option maxHeartbeats 1000000 in
theorem ends_any (l : List Int) (a : Option Addr) (n c s : Nat) (w : World) (hn : n = l.length) (hl : BytesAt w a l) (hs : s < 4294967296) (h4 : 4 ≤ l.length) (hc : l.length ≤ c) (hsm : l.length ≤ 281474976710656) :
    Calls Tryd.prog 36 #[.slice a n c, .int .u32 s] w fun e w' => e = .returned (.bool (eqB (l.drop (l.length - 4)) (le 4 s))) ∧ Kept (fun _ => False) w w' := by
  obtain ⟨bw, hbw⟩ : ∃ bw, bw = w.heap.size := ⟨_, rfl⟩
  have NW : Hid (Calls Tryd.prog 23 #[] w fun e W => e = .returned (.pointer (some ⟨bw, 0, none⟩)) ∧ Hid (Wq w W bw (.slice none 0 0) [])) := by
    refine (new_any w).mono ?_
    rintro e W ⟨rfl, h1, h2⟩
    rw [hbw]
    exact ⟨rfl, h1, Nat.le_refl _, fun k hk => (by simp [Value.ownBlock] at hk), h2⟩
  have WD : Hid (∀ W v, Hid (Wq w W bw v []) → Calls Tryd.prog 27 #[.pointer (some ⟨bw, 0, none⟩), .int .u32 s] W fun e W' => ∃ v', e = .returned (.tuple #[]) ∧ Hid (Wq w W' bw v' (le 4 s))) := by
    intro W v q
    refine (w32_any bw v [] s W q.out.wr hs (by simp)).mono ?_
    rintro e W' ⟨rfl, v', h1, h2⟩
    rw [List.nil_append] at h1
    exact ⟨v', rfl, q.out.step h1 h2⟩
  have BY : Hid (∀ W v, Hid (Wq w W bw v (le 4 s)) → Calls Tryd.prog 28 #[.pointer (some ⟨bw, 0, none⟩)] W fun e W' => ∃ g, e = .returned (.slice (some ⟨g, 0, none⟩) 4 4) ∧ Hid (BytesAt W' (some ⟨g, 0, none⟩) (le 4 s) ∧ Kept (fun _ => False) w W')) := by
    intro W v q
    obtain ⟨f, hf⟩ : ∃ f, f = le 4 s := ⟨_, rfl⟩
    have h4' : f.length = 4 := by rw [hf, le_length]
    rw [← hf] at q ⊢
    have r := bytes_any bw v f W q.out.wr (by omega)
    refine r.mono ?_
    rintro e W' ⟨rfl, h1, h2⟩
    have hb := (own_bytesF h1).1
    rw [h4']
    exact ⟨_, rfl, hb, q.out.kept.trans h2 (fun _ f => f.elim)⟩
  have HS : Hid (∀ W g, Hid (BytesAt W (some ⟨g, 0, none⟩) (le 4 s) ∧ Kept (fun _ => False) w W) → Calls Tryd.prog 42 #[.slice a n c, .slice (some ⟨g, 0, none⟩) 4 4] W fun e W' => e = .returned (.bool (eqB (l.drop (l.length - 4)) (le 4 s))) ∧ W' = W) := by
    intro W g q
    rw [hn]
    have hl4 := le_length 4 s
    obtain ⟨f, hf⟩ : ∃ f, f = le 4 s := ⟨_, rfl⟩
    rw [← hf] at q hl4 ⊢
    exact suffix_any l f a _ c 4 W (bytes_keptF hl q.out.2) q.out.1 hl4 h4 hc hsm
  obtain ⟨r, hr⟩ : ∃ r, r = eqB (l.drop (l.length - 4)) (le 4 s) := ⟨_, rfl⟩
  rw [← hr] at HS ⊢
  clear hr hl hbw hn h4 hc hsm
  go_enter Tryd.func36, Tryd.ntmps36
  go_wp2_with (first | (go_at_call 23; refine NW.out.mono ?_; rintro e W1 ⟨rfl, K1⟩) | (go_at_call 27; refine (WD.out W1 _ K1).mono ?_; rintro e W2 ⟨v2, rfl, K2⟩) | (go_at_call 28; refine (BY.out W2 _ K2).mono ?_; rintro e W3 ⟨g, rfl, K3⟩) | (go_at_call 42; refine (HS.out W3 g K3).mono ?_; rintro e W3 ⟨rfl, e2⟩; subst e2))
  go_ret
  exact ⟨rfl, K3.out.2⟩
end Go.Proofs.YtoglgicmnhklbaaDoor
