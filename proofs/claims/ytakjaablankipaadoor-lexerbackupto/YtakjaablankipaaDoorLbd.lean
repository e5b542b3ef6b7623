import Derived.Test.YtakjaablankipaaDoorLbc
namespace Go.Proofs.YtakjaablankipaaDoor
open Go.ChangeShapes Go.WideShapes Go.ChangeAt Go.RowKit

/-! The law's wrapped. -/
theorem wpList_minB {P : Program} {W : World} {ops : Array Oper} {rest : List Oper} {o : Oper} {act : Act} {Q : Exit → Act → World → Prop} {ts : Array TypeId} (hgd : o.guard = none) (s t : Operand)
    (ho : o.op = .call { callee := .builtin .min, args := #[s, t], argTypes := ts }) (x y m : Int) (hs : act.eval s = .int .i64 x) (ht : act.eval t = .int .i64 y) (hm : m = if y < x then y else x)
    (h : wpList P ops Q rest (act.put o.dst (.int .i64 m)) W) : wpList P ops Q (o :: rest) act W :=
  wpList_plain hgd fun _ hK => wp_minL s t ho x y m hs ht hm (hK _ _ h)
def smB : List UInt8 := [32, 9, 10, 13, 32, 9, 10, 13, 32, 32, 9, 10, 13, 32, 9, 10, 13, 32, 32, 9, 10, 13, 32, 9, 10, 13, 32, 32, 9, 10, 13, 32, 9, 10, 13, 32, 32, 9, 10, 13, 32, 9, 10, 13, 32]
theorem smB_blk : ∀ n, blk (smB.take n) = true := by
  intro n
  have h : ∀ k : Fin 46, blk (smB.take k.val) = true := by decide +kernel
  by_cases hn : n < 46
  · exact h ⟨n, hn⟩
  · have := h ⟨45, by omega⟩
    rw [List.take_of_length_le (show smB.length ≤ n from by show 45 ≤ n; omega)]
    exact this
theorem smB_head (n : Nat) : smB.take n = [] ∨ ∃ b', smB.take n = 32 :: b' ∧ blk b' = true := by
  cases n with
  | zero => exact .inl rfl
  | succ n =>
    have h : blk (32 :: (smB.drop 1).take n) = true := smB_blk (n + 1)
    unfold blk at h
    rw [List.all_cons, Bool.and_eq_true] at h
    exact .inr ⟨(smB.drop 1).take n, rfl, h.2⟩
theorem smB_slice (n : Nat) (h : n ≤ 45) (W : World) : (Instr.slice 9 (.string ⟨#[32, 9, 10, 13, 32, 9, 10, 13, 32, 32, 9, 10, 13, 32, 9, 10, 13, 32, 32, 9, 10, 13, 32, 9, 10, 13, 32, 32, 9, 10, 13, 32, 9, 10, 13, 32, 32, 9, 10, 13, 32, 9, 10, 13, 32]⟩) none (some (.int .i64 (n : Int))) none).run Tryd.prog W = .ok (.string (bq (smB.take n))) W := by
  have e : (⟨#[32, 9, 10, 13, 32, 9, 10, 13, 32, 32, 9, 10, 13, 32, 9, 10, 13, 32, 32, 9, 10, 13, 32, 9, 10, 13, 32, 32, 9, 10, 13, 32, 9, 10, 13, 32, 32, 9, 10, 13, 32, 9, 10, 13, 32]⟩ : ByteArray) = bq smB := rfl
  rw [e]
  have e2 : (bq smB).size = 45 := rfl
  have := run_slice_string_h (P := Tryd.prog) W 9 (bq smB) Tryd.underlying9 .i64 (n : Int) (by omega) (by rw [e2]; omega)
  rw [this]
  rw [Int.toNat_natCast, bq_extract]
  rfl
structure Wra (w4 : World) (ga gc : Nat) (A : List Lx) (d : Nat) (W : World) : Prop where
  kept : Kept (fun _ => False) w4 W
  a : ∀ k y, A[k]? = some y → LxAt W ga k y
  c : ∀ k y, A[k]? = some y → LxAt W gc k (shL d y)
theorem Wra.later {w4 : World} {ga gc : Nat} {A : List Lx} {d : Nat} {W W' : World} (h : Wra w4 ga gc A d W) (k : Kept (fun _ => False) W W') : Wra w4 ga gc A d W' :=
  ⟨h.kept.trans k (fun _ f => f.elim), fun i y e => (h.a i y e).later k, fun i y e => (h.c i y e).later k⟩
set_option maxRecDepth 20000 in
set_option maxHeartbeats 4000000 in
theorem wrapped_out (q : List UInt8) (w : World) (ad : Addr) (hC : ClsAt w) (hS : SynAt w ad) (hq : q.length ≤ 400000000000) (hZ : (scanF q).2 = none) (x y : Int) (h : x < 0 ∨ y < 0 ∨ 50 < x ∨ 50 < y) :
    Calls Tryd.prog 14 #[.string (bq q), .int .i64 x, .int .i64 y] w fun e w' => e = .returned (.bool true) ∧ Kept (fun _ => False) w w' := by
  have C1 := hideL (scan_laid q w ad hC hS hq _ (show scanF q = ((scanF q).1, none) by rw [← hZ]))
  generalize (scanF q).1 = L at *
  generalize L.length = n at *
  generalize bq q = s at *
  clear hC hS hZ hq
  by_cases h1 : x < 0
  · clear h
    go_enter Tryd.func14, Tryd.ntmps14
    go_wp2_with (go_at_call 6; refine C1.out.mono ?_; clear C1; rintro e W1 ⟨⟨g1, c1, rfl, l1⟩, k1⟩; have K1 := hideL k1; clear l1 k1)
    go_ret
    exact ⟨rfl, K1.out⟩
  by_cases h2 : y < 0
  · clear h
    go_enter Tryd.func14, Tryd.ntmps14
    go_wp2_with (go_at_call 6; refine C1.out.mono ?_; clear C1; rintro e W1 ⟨⟨g1, c1, rfl, l1⟩, k1⟩; have K1 := hideL k1; clear l1 k1)
    go_ret
    exact ⟨rfl, K1.out⟩
  by_cases h3 : 50 < x
  · clear h
    go_enter Tryd.func14, Tryd.ntmps14
    go_wp2_with (go_at_call 6; refine C1.out.mono ?_; clear C1; rintro e W1 ⟨⟨g1, c1, rfl, l1⟩, k1⟩; have K1 := hideL k1; clear l1 k1)
    go_ret
    exact ⟨rfl, K1.out⟩
  have h4 : 50 < y := by omega
  clear h
  go_enter Tryd.func14, Tryd.ntmps14
  go_wp2_with (go_at_call 6; refine C1.out.mono ?_; clear C1; rintro e W1 ⟨⟨g1, c1, rfl, l1⟩, k1⟩; have K1 := hideL k1; clear l1 k1)
  go_ret
  exact ⟨rfl, K1.out⟩
end Go.Proofs.YtakjaablankipaaDoor
