import Derived.Test.YtiemiphlfbaojaaDoorSyk
import Derived.Test.YtiemiphlfbaojaaDoorAua
namespace Go.Proofs.YtiemiphlfbaojaaDoor
open Go.ChangeShapes Go.WideShapes Go.ChangeAt Go.RowKit
variable {w0 w w' : World} {b rc : Nat} {a0 : Option Addr} {R : List Tn} {v : Value} {s : MS} {Z : Bool × MS}

/-! What the machine lacks; Follow. -/
def lackL (m k : Nat) : List Int := ((List.range k).filter (fun i => m.testBit i)).map (fun (i : Nat) => (i : Int))
theorem lack_next (m k : Nat) : lackL m (k + 1) = lackL m k ++ (if m.testBit k then [(k : Int)] else []) := by
  unfold lackL
  rw [List.range_succ, List.filter_append, List.map_append]
  congr 1
  cases h : m.testBit k <;> simp [List.filter, h]
theorem lack_len (m k : Nat) : (lackL m k).length ≤ k := by
  unfold lackL
  rw [List.length_map]
  have := List.length_filter_le (fun i => m.testBit i) (List.range k)
  rw [List.length_range] at this
  exact this
theorem and_u32 (a b : Nat) (ha : a < 4294967296) (hb : b < 4294967296) : bits .and .u32 (a : Int) (b : Int) = ((a &&& b : Nat) : Int) := by
  show IntKind.u32.wrap ((BitVec.ofInt 32 (a : Int) &&& BitVec.ofInt 32 (b : Int)).toNat : Int) = _
  have e : ∀ x : Nat, x < 4294967296 → (BitVec.ofInt 32 (x : Int)).toNat = x := fun x hx => by
    rw [BitVec.ofInt_natCast, BitVec.toNat_ofNat]; exact Nat.mod_eq_of_lt hx
  rw [BitVec.toNat_and, e a ha, e b hb, IntKind.wrap_u32]
  have : a &&& b ≤ a := Nat.and_le_left
  omega
theorem bit_u32 (m k : Nat) (hm : m < 4294967296) (hk : k ≤ 21) : (bits BinOp.and IntKind.u32 (m : Int) (((2 : Int) ^ k) % (4294967296 : Int)) != 0) = m.testBit k := by
  obtain ⟨h1, h2⟩ := pow_u32 k hk
  rw [h1, and_u32 m _ hm h2, Nat.one_shiftLeft]
  cases ht : m.testBit k with
  | true =>
    rw [bne_iff_ne]
    intro e
    have e2 : m &&& 2 ^ k = 0 := by omega
    have e3 := congrArg (fun x => Nat.testBit x k) e2
    simp [Nat.testBit_and, ht] at e3
  | false =>
    have e2 : m &&& 2 ^ k = 0 := by
      apply Nat.eq_of_testBit_eq
      intro i
      rw [Nat.testBit_and, Nat.testBit_two_pow, Nat.zero_testBit]
      by_cases hi : k = i
      · subst hi; rw [ht]; rfl
      · simp [hi]
    rw [e2]
    rfl
def lkPost (w : World) (L : List Int) (n : Nat) (x : Ending) (w' : World) : Prop := ∃ a c, x = .returned (.slice a n c) ∧ Gro w w' 3 1 (.slice a n c) n (iv L)
set_option maxRecDepth 20000 in
set_option maxHeartbeats 4000000 in
theorem lacking_any (h : Mc w0 w b rc a0 R v s) : Calls Tryd.prog 18 #[.pointer (some ⟨b, 0, none⟩)] w (lkPost w (lackL s.mi 22) (lackL s.mi 22).length) := by
  have hm := h.hm
  have HM := hideL (fun W (k : Kept (fun _ => False) w W) => (h.later k).cells.2.2.1)
  have HG0 : Hid (Gro w w 3 1 (.slice none 0 0) 0 (iv (lackL s.mi 0))) := hideL (gro_nil w _ _)
  generalize s.mi = m at *
  have HP : Hid (∀ a c n w', n = (lackL m 22).length → Gro w w' 3 1 (.slice a n c) n (iv (lackL m 22)) → lkPost w (lackL m 22) (lackL m 22).length (.returned (.slice a n c)) w') := hideL (fun a c n w' e g => by subst e; exact ⟨a, c, rfl, g⟩)
  generalize lkPost w (lackL m 22) (lackL m 22).length = Q at *
  clear h
  go_enter Tryd.func18, Tryd.ntmps18
  go_wp2_with fail
  go_loopw [3, 4] (fun lv kv wr => ∃ (k n : Nat) (a : Option Addr) (c : Nat), k ≤ 22 ∧ n ≤ k ∧ kv = .int .i64 k ∧ lv = .slice a n c ∧ Hid (n = (lackL m k).length) ∧ Hid (Gro w wr 3 1 (.slice a n c) n (iv (lackL m k)))) (fun _ kv _ => 22 - (intOf kv).toNat)
  case atStart => exact ⟨0, 0, _, _, by omega, by omega, rfl, rfl, hideL rfl, HG0⟩
  case round =>
    obtain ⟨k, n, a, c, hk, hnk, rfl, rfl, HN, HG⟩ := hrel
    clear HG0
    by_cases hlt : k ≤ 21
    · have hkz : (k : Int) ≤ 21 := by omega
      have x2 := HM.out wr HG.out.kept
      have hb := bit_u32 m k hm hlt
      have hx := lack_next m k
      cases htb : m.testBit k with
      | true =>
        rw [htb] at hb hx
        have HX : Hid (lackL m (k + 1) = lackL m k ++ [(k : Int)]) := hideL hx
        have HN2 : Hid (n + 1 = (lackL m (k + 1)).length) := hideL (by rw [HX.out, List.length_append, ← HN.out]; rfl)
        have HGd := hideL (HG.out.later (Kept.drew wr))
        clear hx htb HG HN
        go_wp2_with fail
        go_region
        generalize wr.drew = V at *
        go_wp2_with (at_builtin; refine wpList_pushI rfl _ _ rfl _ n _ (k : Int) rfl HGd _ (by first | rfl | simp) rfl (by omega) ?_; intro a4 c4 W4 G4; rw [← HX.out] at G4; clear HGd)
        go_roundw
        case rel => exact ⟨k + 1, n + 1, a4, c4, by omega, by omega, by go_num, rfl, HN2, G4⟩
        case measure => simp [intOf] <;> omega
      | false =>
        rw [htb] at hb hx
        have HX : Hid (lackL m (k + 1) = lackL m k) := hideL (by rw [hx]; exact List.append_nil _)
        have HGd := hideL (HG.out.later (Kept.drew wr))
        rw [← HX.out] at HGd HN
        clear hx htb HG
        go_wp2_with fail
        go_region
        go_wp2_with fail
        go_roundw
        case rel => exact ⟨k + 1, n, a, c, by omega, by omega, by go_num, rfl, HN, HGd⟩
        case measure => simp [intOf] <;> omega
    · have hkz : ¬ (k : Int) ≤ 21 := by omega
      have HK22 : Hid (k = 22) := hideL (by omega)
      go_wp2
      have e := HK22.out
      subst e
      exact HP.out _ _ _ _ HN.out HG.out
end Go.Proofs.YtiemiphlfbaojaaDoor
