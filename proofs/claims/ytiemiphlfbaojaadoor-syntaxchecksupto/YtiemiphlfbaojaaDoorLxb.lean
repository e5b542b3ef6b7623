import Derived.Test.YtiemiphlfbaojaaDoorLxa
namespace Go.Proofs.YtiemiphlfbaojaaDoor
open Go.ChangeShapes Go.WideShapes Go.ChangeAt Go.RowKit

theorem u8_intL (c d : UInt8) (h : c ≠ d) : ((c.toNat : Int) == (d.toNat : Int)) = false := by
  rw [beq_eq_false_iff_ne]
  intro e
  exact h (UInt8.toNat_inj.1 (by omega))
set_option maxRecDepth 20000 in
set_option maxHeartbeats 2000000 in
theorem classOf_any (c : UInt8) (w : World) (hC : ClsAt w) :
    Calls Tryd.prog 68 #[.int .u8 (c.toNat : Int)] w fun e w' => e = .returned (.int .i64 (cl c : Nat)) ∧ w' = w := by
  have hb : c.toNat < 256 := c.toNat_lt
  by_cases h : c.toNat < 127
  · have x0 := hC.at' c.toNat h
    have hcl : cl c = clsT.getD c.toNat 0 := rfl
    rw [← hcl] at x0
    have hk := cl_lt c
    generalize cl c = k at *
    clear hcl hC
    generalize c.toNat = m at *
    go_enter Tryd.func68, Tryd.ntmps68
    go_wp2
    go_ret
    exact ⟨rfl, rfl⟩
  · have hcl : cl c = 0 := by
      unfold cl
      rw [List.getD_eq_getElem?_getD, List.getElem?_eq_none (show clsT.length ≤ c.toNat by show 127 ≤ c.toNat; omega)]
      rfl
    rw [hcl]
    clear hC hcl
    generalize c.toNat = m at *
    go_enter Tryd.func68, Tryd.ntmps68
    go_wp2
    go_ret
    exact ⟨rfl, rfl⟩
theorem bq_beq (l : List UInt8) (m : List UInt8) : ((bq l).toList == m) = decide (l = m) := by
  rw [bq_list]
  by_cases h : l = m
  · subst h; simp
  · simp [h]
set_option maxRecDepth 20000 in
set_option maxHeartbeats 2000000 in
theorem reserved_any (l : List UInt8) (w : World) :
    Calls Tryd.prog 79 #[.string (bq l)] w fun e w' => e = .returned (.int .i64 (rsv l : Nat)) ∧ w' = w := by
  have e1 := bq_list l
  obtain ⟨s, hs⟩ : ∃ s, s = bq l := ⟨_, rfl⟩
  rw [← hs] at e1 ⊢
  clear hs
  unfold rsv
  by_cases h1 : l = [65, 78, 68]
  · rw [if_pos h1]
    have g1 : (s.toList == [65, 78, 68]) = true := by rw [e1, h1]; rfl
    clear e1 h1
    go_enter Tryd.func79, Tryd.ntmps79
    go_wp2
    go_ret
    exact ⟨rfl, rfl⟩
  rw [if_neg h1]
  have g1 : (s.toList == [65, 78, 68]) = false := by rw [e1]; simpa using h1
  by_cases h2 : l = [79, 82]
  · rw [if_pos h2]
    have g2 : (s.toList == [79, 82]) = true := by rw [e1, h2]; rfl
    clear e1 h1 h2
    go_enter Tryd.func79, Tryd.ntmps79
    go_wp2
    go_ret
    exact ⟨rfl, rfl⟩
  rw [if_neg h2]
  have g2 : (s.toList == [79, 82]) = false := by rw [e1]; simpa using h2
  by_cases h3 : l = [78, 79, 84]
  · rw [if_pos h3]
    have g3 : (s.toList == [78, 79, 84]) = true := by rw [e1, h3]; rfl
    clear e1 h1 h2 h3
    go_enter Tryd.func79, Tryd.ntmps79
    go_wp2
    go_ret
    exact ⟨rfl, rfl⟩
  rw [if_neg h3]
  have g3 : (s.toList == [78, 79, 84]) = false := by rw [e1]; simpa using h3
  by_cases h4 : l = [84, 79]
  · rw [if_pos h4]
    have g4 : (s.toList == [84, 79]) = true := by rw [e1, h4]; rfl
    clear e1 h1 h2 h3 h4
    go_enter Tryd.func79, Tryd.ntmps79
    go_wp2
    go_ret
    exact ⟨rfl, rfl⟩
  rw [if_neg h4]
  have g4 : (s.toList == [84, 79]) = false := by rw [e1]; simpa using h4
  clear e1 h1 h2 h3 h4
  go_enter Tryd.func79, Tryd.ntmps79
  go_wp2
  go_ret
  exact ⟨rfl, rfl⟩
/-- A row of bytes, and its length. -/
structure Gb (w0 w : World) (a : Option Addr) (c n : Nat) (l : List UInt8) : Prop where
  gro : Gro w0 w 5 1 (.slice a n c) n (bu l)
  len : n = l.length
theorem Gb.later {w0 w w' : World} {a : Option Addr} {c n : Nat} {l : List UInt8} (h : Gb w0 w a c n l) (k : Kept (fun _ => False) w w') : Gb w0 w' a c n l := ⟨h.gro.later k, h.len⟩
/-- 'append(s, b)' of bytes. -/
theorem wpList_pushG {w0 W : World} {ops : Array Oper} {rest : List Oper} {o : Oper} {act : Act} {Q : Exit → Act → World → Prop} (hgd : o.guard = none) (s x : Operand)
    (ho : o.op = .call { callee := .builtin .append, args := #[s, x], argTypes := #[96, 96] }) (a : Option Addr) (c0 n : Nat) (l : List UInt8) (c : UInt8) (z : Int) (hs : act.eval s = .slice a n c0) (hG : Hid (Gb w0 W a c0 n l)) (b : Nat) (hb : b = W.heap.size) (hx : act.eval x = .slice (some ⟨b, 0, none⟩) 1 1)
    (hc : Hid (z = (c.toNat : Int))) (hn : n ≤ 1099511627776)
    (h : ∀ a' c' W', Hid (Gb w0 W' a' c' (n + 1) (l ++ [c])) → wpList Tryd.prog ops Q rest (act.put o.dst (.slice a' (n + 1) c')) W') : wpList Tryd.prog ops Q (o :: rest) act (W.alloc (.cells #[.int .u8 z] 5)) := by
  subst hb
  refine wpList_pushB hgd s x ho (.slice a n c0) n (n + 1) l (l ++ [c]) c z hs hG.out.gro hx hc (hideL rfl) rfl (by omega) ?_
  intro a' c' W' g
  exact h a' c' W' ⟨g.out, by rw [List.length_append, hG.out.len]; rfl⟩
end Go.Proofs.YtiemiphlfbaojaaDoor
