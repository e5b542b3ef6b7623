import Derived.Test.YtohnkamobmkhkaaDoorVfl
namespace Go.Proofs.YtohnkamobmkhkaaDoor
open Go.ChangeShapes Go.WideShapes Go.ChangeAt Go.RowKit

/-- The greatest of numbers that aren't below 0. -/
def mxL (l : List Int) : Int := l.foldl max 0
theorem mx_take {l : List Int} {k : Nat} (h : k < l.length) : mxL (l.take (k + 1)) = max (mxL (l.take k)) l[k] := by
  unfold mxL
  rw [List.take_succ_eq_append_getElem h, List.foldl_append]
  rfl
theorem mx_ge (l : List Int) (x : Int) (h : x ∈ l) : x ≤ mxL l := by
  obtain ⟨k, hk, rfl⟩ := List.mem_iff_getElem.1 h
  have key : ∀ j, k < j → j ≤ l.length → l[k] ≤ mxL (l.take j) := by
    intro j
    induction j with
    | zero => intro h; omega
    | succ j ih =>
      intro h1 h2
      rw [mx_take (by omega)]
      by_cases hj : k = j
      · subst hj; omega
      · have := ih (by omega) (by omega); omega
  have := key l.length hk (Nat.le_refl _)
  rwa [List.take_length] at this
theorem mx_le (l : List Int) (m : Int) (h0 : 0 ≤ m) (h : ∀ x ∈ l, x ≤ m) : mxL l ≤ m := by
  have key : ∀ j, j ≤ l.length → mxL (l.take j) ≤ m := by
    intro j
    induction j with
    | zero => intro _; simpa [mxL] using h0
    | succ j ih =>
      intro h1
      rw [mx_take (by omega)]
      have := ih (by omega)
      have := h l[j] (List.getElem_mem (by omega))
      omega
  have := key l.length (Nat.le_refl _)
  rwa [List.take_length] at this
theorem mx_nn (l : List Int) : 0 ≤ mxL l := by
  have key : ∀ j, j ≤ l.length → 0 ≤ mxL (l.take j) := by
    intro j
    induction j with
    | zero => intro _; simp [mxL]
    | succ j ih =>
      intro h1
      rw [mx_take (by omega)]
      have := ih (by omega)
      omega
  have := key l.length (Nat.le_refl _)
  rwa [List.take_length] at this
theorem wpList_maxV {P : Program} {W : World} {ops : Array Oper} {rest : List Oper} {o : Oper} {act : Act} {Q : Exit → Act → World → Prop} {ts : Array TypeId} (hgd : o.guard = none) (s t : Operand)
    (ho : o.op = .call { callee := .builtin .max, args := #[s, t], argTypes := ts }) (x y m : Int) (hs : act.eval s = .int .i64 x) (ht : act.eval t = .int .i64 y) (hm : m = if y > x then y else x)
    (h : wpList P ops Q rest (act.put o.dst (.int .i64 m)) W) : wpList P ops Q (o :: rest) act W := by
  refine wpList_plain hgd fun K hK => ?_
  have hr : ∀ ty, (Builtin.max_ ts ty #[.int .i64 x, .int .i64 y]).run P W = .ok (.int .i64 m) W := fun ty => by rw [hm]; simp [Builtin.max_, Builtin.max2]
  unfold Oper.wp execOp
  simp only [ho, resolve, invoke, builtin, Sem.run_bind, Sem.run_pure, Result.andThen_ok, List.map_toArray, List.map_cons, List.map_nil, hs, ht, hr]
  exact hK _ _ h
set_option maxRecDepth 20000 in
set_option maxHeartbeats 1000000 in
theorem max_any (l : List Int) (a : Option Addr) (c : Nat) (w : World) (h : IntsAt w a l) (hl : l.length ≤ 1099511627776) (hne : l ≠ []) (hnn : ∀ x ∈ l, 0 ≤ x) :
    Calls Tryd.prog 23 #[.slice a l.length c] w fun e w' => e = .returned (.int .i64 (mxL l)) ∧ w' = w := by
  have h0 : 0 < l.length := List.length_pos_iff.2 hne
  obtain ⟨b, off, rfl, hc0⟩ := h.get h0
  have HH := hideI h
  obtain ⟨x0, hx0⟩ : ∃ x0, x0 = l[0]?.getD 0 := ⟨_, rfl⟩
  rw [← hx0, Nat.add_zero] at hc0
  have H1 : Hid (x0 = mxL (l.take 1)) := hideI (by
    have e := mx_take (k := 0) h0
    rw [Nat.zero_add] at e
    rw [e, hx0, List.getElem?_eq_getElem h0]
    have := hnn l[0] (List.getElem_mem h0)
    simp [mxL]
    omega)
  obtain ⟨n, hn⟩ : ∃ n, n = l.length := ⟨_, rfl⟩
  rw [← hn] at hl h0 ⊢
  have HN := hideI hn
  have hn1 : ¬ (n : Int) < 1 := by omega
  clear h hx0 hn hne hnn
  go_enter Tryd.func23, Tryd.ntmps23
  go_wp2
  go_loop [3, 4] (fun mv i => ∃ (k : Nat) (m : Int), 1 ≤ k ∧ k ≤ n ∧ mv = .int .i64 m ∧ i = .int .i64 k ∧ Hid (m = mxL (l.take k))) (fun _ i => n - (intOf i).toNat)
  case atStart => exact ⟨1, x0, by omega, by omega, rfl, rfl, H1⟩
  case round =>
    obtain ⟨k, m, hk1, hk, rfl, rfl, HM⟩ := hrel
    clear hc0
    by_cases hlt : k < n
    · have hkk : (k : Int) < (n : Int) := by omega
      have hkl : k < l.length := by rw [← HN.out]; exact hlt
      obtain ⟨b', off', e, hc⟩ := HH.out.get (k := k) hkl
      cases e
      obtain ⟨x, hx⟩ : ∃ x, x = l[k]?.getD 0 := ⟨_, rfl⟩
      rw [← hx] at hc
      obtain ⟨m', hm'⟩ : ∃ m', m' = if x > m then x else m := ⟨_, rfl⟩
      have HM2 : Hid (m' = mxL (l.take (k + 1))) := hideI (by
        rw [mx_take hkl, ← HM.out, hm']
        rw [List.getElem?_eq_getElem hkl, Option.getD_some] at hx
        rw [← hx]
        split <;> omega)
      have Hm' := hideI hm'
      clear hx hm' HM
      go_wp2_with (refine wpList_maxV rfl _ _ rfl m x m' rfl rfl Hm'.out ?_)
      go_round
      case rel => exact ⟨k + 1, m', by omega, by omega, rfl, by go_num, HM2⟩
      case measure => simp [intOf]; omega
    · have hkk : ¬ (k : Int) < (n : Int) := by omega
      go_wp2
      go_ret
      refine ⟨?_, rfl⟩
      have e := HM.out
      rw [List.take_of_length_le (by have := HN.out; omega)] at e
      rw [← e]; rfl
theorem hL_nn (L : List In) : ∀ x ∈ hL L, 0 ≤ x := by
  intro x hx
  obtain ⟨k, hk, rfl⟩ := List.mem_iff_getElem.1 hx
  rw [hL_get]; omega
theorem hL_mx (L : List In) : mxL (hL L) ≤ L.length := mx_le _ _ (by omega) (fun x hx => by
  obtain ⟨k, hk, rfl⟩ := List.mem_iff_getElem.1 hx
  rw [hL_get]
  rw [hL_len] at hk
  have := hA_le L k
  omega)
/-- What Check answers. -/
def ckP (w : World) (p : Pg) (ac : Addr) (e : Ending) (w' : World) : Prop :=
  (∀ L, Vok p L → e = .returned (.tuple #[.agg #[.int .i64 L.length, .int .i64 (mxL (hL L))], .nilIface])) ∧ ((¬ ∃ L, Vok p L) → e = .returned (.tuple #[.agg #[.int .i64 0, .int .i64 0], errV ac])) ∧ Kept (fun _ => False) w w'
theorem ckP_bad {w : World} {p : Pg} {ac : Addr} {e : Ending} {w' : World} (h : ¬ ∃ L, Vok p L) (he : e = .returned (.tuple #[.agg #[.int .i64 0, .int .i64 0], errV ac])) (k : Kept (fun _ => False) w w') : ckP w p ac e w' :=
  ⟨fun L hv => absurd ⟨L, hv⟩ h, fun _ => he, k⟩
theorem ckP_good {w : World} {p : Pg} {ac : Addr} {e : Ending} {w' : World} {L : List In} {n : Nat} {m : Int} (h : Vok p L) (hn : n = L.length) (hm : m = mxL (hL L)) (he : e = .returned (.tuple #[.agg #[.int .i64 n, .int .i64 m], .nilIface])) (k : Kept (fun _ => False) w w') : ckP w p ac e w' := by
  subst hn hm
  exact ⟨fun M hv => by obtain rfl := h.uniq hv; exact he, fun f => absurd ⟨L, h⟩ f, k⟩
theorem load_pf {W : World} {g : Nat} {x0 x1 : Value} (h : W.heap[g]? = some (.cells #[x0, x1] 31 (0, 0))) : (loadVar 31 ⟨g, 0, none⟩).run Tryd.prog W = .ok (.agg #[x0, x1]) W :=
  run_loadVar_row W g 31 31 #[x0, x1] (0, 0) _ h Tryd.underlying31 rfl (by kernel_rfl)
theorem pf_put2 {W : World} {g : Nat} {x0 x1 v0 v1 : Value} {t : TypeId} (h : W.heap[g]? = some (.cells #[x0, x1] t (0, 0))) : ((W.setCell ⟨g, 0, none⟩ v0).setCell ⟨g, 1, none⟩ v1).heap[g]? = some (.cells #[v0, v1] t (0, 0)) := by
  have h1 := heap_setCell_same W g 0 _ t v0 h
  have h2 := heap_setCell_same _ g 1 _ t v1 h1
  simpa using h2
theorem kept_put2 {F : Nat → Prop} {w W : World} {g : Nat} {v0 v1 : Value} (h : Kept F w W) (hg : w.heap.size ≤ g) : Kept F w ((W.setCell ⟨g, 0, none⟩ v0).setCell ⟨g, 1, none⟩ v1) :=
  (h.trans (Kept.setCell W ⟨g, 0, none⟩ v0) (fun i e => .inr (by simp only at e; omega))).trans (Kept.setCell _ ⟨g, 1, none⟩ v1) (fun i e => .inr (by simp only at e; omega))
end Go.Proofs.YtohnkamobmkhkaaDoor
