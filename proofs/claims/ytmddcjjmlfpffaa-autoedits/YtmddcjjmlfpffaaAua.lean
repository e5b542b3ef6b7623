import Derived.Test.YtmddcjjmlfpffaaGro
import Derived.Test.YtmddcjjmlfpffaaStm
namespace Go.Proofs.Ytmddcjjmlfpffaa
open Go.ChangeShapes Go.WideShapes Go.ChangeAt Go.RowKit

theorem Try.infoI : (Try.prog.info? 3).map (fun i => (i.zero, i.size, i.bytes)) = some (some (.int .i64 0), 1, 8) := by kernel_rfl
/-- Numbers as cells. -/
def iv (L : List Int) : List Value := L.map (fun x => .int .i64 x)
theorem iv_len (L : List Int) : (iv L).length = L.length := by unfold iv; simp
theorem iv_app (L : List Int) (x : Int) : iv (L ++ [x]) = iv L ++ [.int .i64 x] := by unfold iv; simp
theorem iv_at {L : List Int} {j : Nat} (h : j < L.length) : (iv L)[j]? = some (.int .i64 L[j]) := by unfold iv; simp [h]
theorem info_partsA {e : TypeId} {z : Value} {s b : Nat} (h : (Try.prog.info? e).map (fun i => (i.zero, i.size, i.bytes)) = some (some z, s, b)) : ∃ i, Try.prog.info? e = some i ∧ i.zero = some z ∧ i.size = s ∧ i.bytes = b := by
  cases hx : Try.prog.info? e with
  | none => rw [hx] at h; cases h
  | some i =>
    rw [hx] at h
    simp only [Option.map_some, Option.some.injEq, Prod.mk.injEq] at h
    exact ⟨i, rfl, h.1, h.2.1, h.2.2⟩
theorem wpList_pushI {w0 W : World} {ops : Array Oper} {rest : List Oper} {o : Oper} {act : Act} {Q : Exit → Act → World → Prop} (hgd : o.guard = none) (s x : Operand)
    (ho : o.op = .call { callee := .builtin .append, args := #[s, x], argTypes := #[27, 27] }) (v : Value) (n : Nat) (L : List Int) (y : Int) (hs : act.eval s = v) (hG : Hid (Gro w0 W 3 1 v n (iv L))) (b : Nat) (hb : b = W.heap.size) (hx : act.eval x = .slice (some ⟨b, 0, none⟩) 1 1) (hn : n ≤ 1099511627776)
    (h : ∀ a' c' W', Hid (Gro w0 W' 3 1 (.slice a' (n + 1) c') (n + 1) (iv (L ++ [y]))) → wpList Try.prog ops Q rest (act.put o.dst (.slice a' (n + 1) c')) W') : wpList Try.prog ops Q (o :: rest) act (W.alloc (.cells #[.int .i64 y] 3)) := by
  subst hb
  obtain ⟨i0, hi, hz0, hz1, hz2⟩ := info_partsA Try.infoI
  rw [iv_app] at h
  exact wpList_push hgd s x 27 ho 3 i0 (.int .i64 0) 1 8 Try.underlying27 hi hz0 hz1 hz2 rfl (by decide) v n (iv L) [.int .i64 y] hs hG hx rfl (by intro u hu; simp at hu; subst hu; rfl) (hideG (by omega)) (hideG (by unfold maxLen; omega)) h
theorem Gro.baseA {w wB W : World} {e : TypeId} {sz : Nat} {v : Value} {n : Nat} {xs : List Value} (h : Gro wB W e sz v n xs) (k : Kept (fun _ => False) w wB) : Gro w W e sz v n xs := by
  refine ⟨⟨h.own.1, ?_⟩, k.trans h.kept (fun _ f => f.elim)⟩
  rcases h.own.2 with hn | ⟨g, cap, cur, e1, hb, rest⟩
  · exact .inl hn
  · exact .inr ⟨g, cap, cur, e1, Nat.le_trans k.size hb, rest⟩
/-- A pattern's elements: letters, 256 a gap, 257 a star; of stars side by side one is kept. -/
def psh (L : List Int) (e : Int) : List Int := if e = 257 ∧ L.getLast? = some 257 then L else L ++ [e]
def elsR : List Int → List UInt8 → Option (List Int)
  | L, [] => some L
  | L, c :: r =>
    if c = 63 then elsR (psh L 256) r
    else if c = 42 then elsR (psh L 257) r
    else if c = 92 then (match r with
      | [] => none
      | d :: r => elsR (psh L (d.toNat : Int)) r)
    else elsR (psh L (c.toNat : Int)) r
theorem elsR63 (L : List Int) (r : List UInt8) : elsR L (63 :: r) = elsR (psh L 256) r := by rw [elsR.eq_def]; simp
theorem elsR42 (L : List Int) (r : List UInt8) : elsR L (42 :: r) = elsR (psh L 257) r := by rw [elsR.eq_def]; simp
theorem elsR92n (L : List Int) : elsR L [92] = none := by rw [elsR.eq_def]; simp
theorem elsR92 (L : List Int) (d : UInt8) (r : List UInt8) : elsR L (92 :: d :: r) = elsR (psh L (d.toNat : Int)) r := by rw [elsR.eq_def]; simp
theorem elsRo (L : List Int) (c : UInt8) (r : List UInt8) (h1 : c ≠ 63) (h2 : c ≠ 42) (h3 : c ≠ 92) : elsR L (c :: r) = elsR (psh L (c.toNat : Int)) r := by rw [elsR.eq_def]; simp [h1, h2, h3]
theorem elsRn (L : List Int) : elsR L [] = some L := by rw [elsR.eq_def]
theorem psh_len (L : List Int) (e : Int) : (psh L e).length ≤ L.length + 1 := by
  unfold psh
  split
  · omega
  · simp
theorem psh_ne {L : List Int} {e : Int} (h : e ≠ 257) : psh L e = L ++ [e] := by unfold psh; rw [if_neg (fun x => h x.1)]
theorem psh_nil (e : Int) : psh [] e = [e] := by unfold psh; simp
theorem psh_star {L : List Int} (h : L.getLast? = some 257) : psh L 257 = L := by unfold psh; rw [if_pos ⟨rfl, h⟩]
theorem psh_other {L : List Int} (h : L.getLast? ≠ some 257) : psh L 257 = L ++ [257] := by unfold psh; rw [if_neg (fun x => h x.2)]
def elPost (w w' : World) : Option (List Int) → Ending → Prop
  | none, e => e = .returned (.tuple #[.slice none 0 0, .bool false]) ∧ Kept (fun _ => False) w w'
  | some L, e => ∃ a c, e = .returned (.tuple #[.slice a L.length c, .bool true]) ∧ Gro w w' 3 1 (.slice a L.length c) L.length (iv L)
theorem u8_int (c d : UInt8) (h : c = d) : ((c.toNat : Int) == (d.toNat : Int)) = true := by subst h; simp
theorem u8_int' (c d : UInt8) (h : c ≠ d) : ((c.toNat : Int) == (d.toNat : Int)) = false := by
  have : c.toNat ≠ d.toNat := fun e => h (UInt8.toNat_inj.1 e)
  simp
  omega
end Go.Proofs.Ytmddcjjmlfpffaa
