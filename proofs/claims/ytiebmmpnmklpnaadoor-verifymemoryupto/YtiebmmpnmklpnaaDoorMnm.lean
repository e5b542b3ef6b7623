import Derived.Test.YtiebmmpnmklpnaaDoorWrB
import Derived.BigQuiet
namespace Go.Proofs.YtiebmmpnmklpnaaDoor
open Go.ChangeShapes Go.WideShapes Go.ChangeAt Go.RowKit

theorem hideP {p : Prop} (h : p) : Hid p := h
theorem wpList_minP {P : Program} {W : World} {ops : Array Oper} {rest : List Oper} {o : Oper} {act : Act} {Q : Exit → Act → World → Prop} {ts : Array TypeId} (hgd : o.guard = none) (s t : Operand)
    (ho : o.op = .call { callee := .builtin .min, args := #[s, t], argTypes := ts }) (x y m : Int) (hs : act.eval s = .int .i64 x) (ht : act.eval t = .int .i64 y) (hm : m = if y < x then y else x)
    (h : wpList P ops Q rest (act.put o.dst (.int .i64 m)) W) : wpList P ops Q (o :: rest) act W := by
  refine wpList_plain hgd fun K hK => ?_
  have hr : ∀ ty, (Builtin.min_ ts ty #[.int .i64 x, .int .i64 y]).run P W = .ok (.int .i64 m) W := fun ty => by rw [hm]; simp [Builtin.min_, Builtin.min2]
  unfold Oper.wp execOp
  simp only [ho, resolve, invoke, builtin, Sem.run_bind, Sem.run_pure, Result.andThen_ok, List.map_toArray, List.map_cons, List.map_nil, hs, ht, hr]
  exact hK _ _ h
set_option maxRecDepth 20000 in
set_option maxHeartbeats 1000000 in
theorem min_any (l : List Int) (a : Option Addr) (c : Nat) (w : World) (h : IntsAt w a l) (hl : l.length ≤ 1099511627776) (hne : l ≠ []) :
    Calls Tryd.prog 49 #[.slice a l.length c] w fun e w' => (∃ m : Int, e = .returned (.int .i64 m) ∧ decide (m < 0) = l.any (fun x => decide (x < 0))) ∧ w' = w := by
  have h0 : 0 < l.length := List.length_pos_iff.2 hne
  obtain ⟨b, off, rfl, hc0⟩ := h.get h0
  have HH := hideP h
  obtain ⟨x0, hx0⟩ : ∃ x0, x0 = l[0]?.getD 0 := ⟨_, rfl⟩
  rw [← hx0, Nat.add_zero] at hc0
  have H1 : Hid (decide (x0 < 0) = (l.take 1).any (fun x => decide (x < 0))) := hideP (by
    have e := any_snoc (k := 0) (l := l) (fun x => decide (x < 0)) h0
    rw [Nat.zero_add] at e
    rw [e, ← hx0]
    simp)
  obtain ⟨n, hn⟩ : ∃ n, n = l.length := ⟨_, rfl⟩
  rw [← hn] at hl h0 ⊢
  have HN := hideP hn
  have hn1 : ¬ (n : Int) < 1 := by omega
  clear h hx0 hn hne
  go_enter Tryd.func49, Tryd.ntmps49
  go_wp2
  go_loop [3, 4] (fun mv i => ∃ (k : Nat) (m : Int), 1 ≤ k ∧ k ≤ n ∧ mv = .int .i64 m ∧ i = .int .i64 k ∧ Hid (decide (m < 0) = (l.take k).any (fun x => decide (x < 0)))) (fun _ i => n - (intOf i).toNat)
  case atStart => exact ⟨1, x0, by omega, by omega, rfl, rfl, H1⟩
  case round =>
    obtain ⟨k, m, hk1, hk, rfl, rfl, HM⟩ := hrel
    clear hc0
    by_cases hlt : k < n
    · have hkk : (k : Int) < (n : Int) := by omega
      obtain ⟨b', off', e, hc⟩ := HH.out.get (k := k) (by rw [← HN.out]; exact hlt)
      cases e
      obtain ⟨x, hx⟩ : ∃ x, x = l[k]?.getD 0 := ⟨_, rfl⟩
      rw [← hx] at hc
      obtain ⟨m', hm'⟩ : ∃ m', m' = if x < m then x else m := ⟨_, rfl⟩
      have HM2 : Hid (decide (m' < 0) = (l.take (k + 1)).any (fun x => decide (x < 0))) := hideP (by
        rw [any_snoc _ (by rw [← HN.out]; exact hlt), ← HM.out, ← hx, hm', Bool.eq_iff_iff]
        simp
        split <;> omega)
      have Hm' := hideP hm'
      clear hx hm' HM
      go_wp2_with (refine wpList_minP rfl _ _ rfl m x m' rfl rfl Hm'.out ?_)
      go_round
      case rel => exact ⟨k + 1, m', by omega, by omega, rfl, by go_num, HM2⟩
      case measure => simp [intOf]; omega
    · have hkk : ¬ (k : Int) < (n : Int) := by omega
      go_wp2
      go_ret
      refine ⟨⟨m, rfl, ?_⟩, rfl⟩
      rw [HM.out, List.take_of_length_le (by have := HN.out; omega)]
end Go.Proofs.YtiebmmpnmklpnaaDoor
