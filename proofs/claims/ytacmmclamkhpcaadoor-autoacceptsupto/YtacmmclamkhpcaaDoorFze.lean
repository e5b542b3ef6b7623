import Derived.Test.YtacmmclamkhpcaaDoorFzn
import Derived.Test.YtacmmclamkhpcaaDoorLvb
import Derived.Shelf.Abstract
namespace Go.Proofs.YtacmmclamkhpcaaDoor
open Go.ChangeShapes Go.WideShapes Go.ChangeAt Go.RowKit

theorem wpList_maxA {P : Program} {W : World} {ops : Array Oper} {rest : List Oper} {o : Oper} {act : Act} {Q : Exit → Act → World → Prop} {ts : Array TypeId} (hgd : o.guard = none) (s t : Operand)
    (ho : o.op = .call { callee := .builtin .max, args := #[s, t], argTypes := ts }) (x y m : Int) (hs : act.eval s = .int .i64 x) (ht : act.eval t = .int .i64 y) (hm : m = if x < y then y else x)
    (h : wpList P ops Q rest (act.put o.dst (.int .i64 m)) W) : wpList P ops Q (o :: rest) act W := by
  refine wpList_plain hgd fun K hK => ?_
  have hr : ∀ ty, (Builtin.max_ ts ty #[.int .i64 x, .int .i64 y]).run P W = .ok (.int .i64 m) W := fun ty => by rw [hm]; simp [Builtin.max_, Builtin.max2]
  unfold Oper.wp execOp
  simp only [ho, resolve, invoke, builtin, Sem.run_bind, Sem.run_pure, Result.andThen_ok, List.map_toArray, List.map_cons, List.map_nil, hs, ht, hr]
  exact hK _ _ h
theorem ivF_next {l : List UInt8} {ed : Nat} {S : List Int} {b : Nat} (h : IvF l ed S) (hne : S ≠ []) : IvF l ed (nxF l ed S b) := by
  rcases h with h | ⟨x, row, rfl, hr, hle, hx⟩
  · exact absurd h hne
  · have e : nxF l ed (nz (x :: row)) b = nz (trm (ed + 1) x (ent l x (ed + 1) b row (lim l x row))) := by unfold nxF; rw [zn_nz]
    rw [e]
    cases ht : trm (ed + 1) x (ent l x (ed + 1) b row (lim l x row)) with
    | nil => exact .inl rfl
    | cons x2 row2 =>
      right
      rw [← trm_mid (ed + 1) x 0] at ht
      obtain ⟨z, e2, M, y, er, hy⟩ := trm_split ht
      have hlen := congrArg List.length e2
      rw [List.replicate_zero, List.append_nil, List.length_append, List.length_append, List.length_append, List.length_replicate, List.length_replicate, List.length_replicate, ent_len] at hlen
      have hl2 : lim l x row ≤ l.length + 1 - x := Nat.min_le_right _ _
      have hpos := List.length_pos_iff.2 hr
      refine ⟨x2, row2, rfl, by rw [er]; simp, fun r hm => ?_, by omega⟩
      have h3 : r ∈ List.replicate x (ed + 1) ++ ent l x (ed + 1) b row (lim l x row) ++ List.replicate 0 (ed + 1) := by
        rw [e2]
        exact List.mem_append_left _ (List.mem_append_right _ hm)
      rw [List.replicate_zero, List.append_nil] at h3
      rcases List.mem_append.1 h3 with h4 | h4
      · exact Nat.le_of_eq (List.mem_replicate.1 h4).2
      · unfold ent at h4
        obtain ⟨k, _, rfl⟩ := List.mem_map.1 h4
        exact lfs_le _ _ _ _ _ _
set_option maxRecDepth 20000 in
theorem accepts_fuzzy (l : List UInt8) (ed : Nat) (W : World) (S : List Int) (a : Option Addr) (c : Nat) (hl : l.length ≤ 1099511000000) (hS : NsAt W a S) (hI : IvF l ed S) (hne : S ≠ []) :
    Calls Tryd.prog 57 #[.agg #[.string (bq l), .int .i64 (ed : Nat)], .slice a S.length c] W fun e w' => e = .returned (.bool (acF l S)) ∧ Kept (fun _ => False) W w' := by
  rcases hI with h | ⟨x, row, rfl, hr, hle, hx⟩
  · exact absurd h hne
  · obtain ⟨bS, oS, rfl, hc⟩ := hS hne
    have KB := Kept.alloc W (.cells #[.string (bq l), .int .i64 (ed : Nat)] 68)
    obtain ⟨R, hR⟩ : ∃ R, R = row.length := ⟨_, rfl⟩
    have hR1 : 1 ≤ R := by rw [hR]; exact List.length_pos_iff.2 hr
    have eS : (nz (x :: row)).length = R + 1 := by rw [nz_len, List.length_cons, hR]
    have y0 := KB.cell (hc 0 (by rw [eS]; omega)) (fun f => f)
    have y0v : (nz (x :: row))[0]'(by rw [eS]; omega) = (x : Int) := by unfold nz; simp
    rw [y0v, Nat.add_zero] at y0
    have HKB := hideG KB
    have hz : (bq l).size = l.length := bq_size l
    have eA : acF l (nz (x :: row)) = decide (x + R = (bq l).size + 1) := by unfold acF; rw [zn_nz, hz, hR]
    rw [eA, eS]
    generalize bq l = s at *
    have z0 : (W.alloc (.cells #[.string s, .int .i64 (ed : Nat)] 68)).cell? ⟨W.heap.size, 0, none⟩ = some (.string s) := by simp
    have b1 : x ≤ 1099511000001 := by omega
    have b2 : R ≤ 1099511000001 := by omega
    have i1 : IntKind.i64.wrap ((x : Int) + ((R : Int) + 1)) = (x : Int) + ((R : Int) + 1) := by rw [IntKind.wrap_i64]; omega
    have i2 : IntKind.i64.wrap ((x : Int) + ((R : Int) + 1) - 2) = (x : Int) + ((R : Int) + 1) - 2 := by clear i1; rw [IntKind.wrap_i64]; omega
    have eD : ((x : Int) + ((R : Int) + 1) - 2 == (s.size : Int)) = decide (x + R = s.size + 1) := by
      clear i1 i2
      by_cases h : x + R = s.size + 1
      · rw [decide_eq_true h]; simp; omega
      · rw [decide_eq_false h]; simp; omega
    have HD := hideG eD
    clear KB hc hS hz eA eD hle hx hr hR eS y0v b1 b2 hR1
    rw [← HD.out]
    clear HD
    go_enter Tryd.func57, Tryd.ntmps57
    go_wp2_with (go_quiet (fail))
    go_ret
    exact ⟨rfl, HKB.out.trans (Kept.drewA _ _) (fun _ f => f.elim)⟩
theorem mN_fuzzy (v : Value) (w : World) : (method 220 68 v "concord/auto.next").run Tryd.prog w = .ok (59, v) w := by kernel_rfl
theorem mA_fuzzy (v : Value) (w : World) : (method 220 68 v "concord/auto.accepts").run Tryd.prog w = .ok (57, v) w := by kernel_rfl
theorem knd_fuzzy (w0 : World) (l : List UInt8) (ed : Nat) (hl : l.length ≤ 1099511000000) (hed : ed ≤ 1099511000000) : Knd w0 68 (.agg #[.string (bq l), .int .i64 (ed : Nat)]) 59 57 (nxF l ed) (acF l) (IvF l ed) :=
  ⟨fun w => mN_fuzzy _ w, fun w => mA_fuzzy _ w, enters_of Tryd.func59 (by kernel_rfl) rfl, enters_of Tryd.func57 (by kernel_rfl) rfl, fun S b _ hi hne => ivF_next hi hne, fun W S a c b hcp _ hS hI hne hb => next_fuzzy l ed W S a c b hl hed hcp hS hI hne hb, fun W S a c _ _ hS hI hne => accepts_fuzzy l ed W S a c hl hS hI hne⟩
set_option maxRecDepth 20000 in
set_option maxHeartbeats 4000000 in
theorem fstartK_any (l : List UInt8) (ed : Nat) (w : World) (hl : l.length ≤ 1099511000000) (hed : ed ≤ 1099511000000) : Calls Tryd.prog 60 #[.agg #[.string (bq l), .int .i64 (ed : Nat)]] w fun e w' => StK w w' (nz (0 :: List.range (min l.length ed + 1))) e := by
  obtain ⟨k, hk⟩ : ∃ k, k = min l.length ed := ⟨_, rfl⟩
  have hz : (bq l).size = l.length := bq_size l
  have HM : Hid ((k : Int) = if (ed : Int) < ((bq l).size : Int) then (ed : Int) else ((bq l).size : Int)) := hideG (by rw [hk, hz]; exact minN _ _)
  have hkb : k ≤ 1099511000000 := by omega
  rw [← hk]
  obtain ⟨S0, hS0⟩ : ∃ S0, S0 = nz (0 :: List.range (k + 1)) := ⟨_, rfl⟩
  rw [← hS0]
  have HS0 := hideG hS0
  clear hS0
  generalize bq l = s at *
  have KB := hideG (Kept.alloc w (.cells #[.string s, .int .i64 (ed : Nat)] 68))
  have HG0 := hideG ((gro_one (w.alloc (.cells #[.string s, .int .i64 (ed : Nat)] 68)) 0).baseA KB.out)
  rw [World.size_alloc] at HG0
  clear hk hz hl hed
  go_enter Tryd.func60, Tryd.ntmps60
  go_wp2_with (refine wpList_minA rfl _ _ rfl (s.size : Int) (ed : Int) (k : Int) rfl rfl HM.out ?_)
  go_loopw [3, 13] (fun v iw wr => ∃ (i j : Nat) (a : Option Addr) (c : Nat), i ≤ k + 1 ∧ j = i + 1 ∧ iw = .int .i64 i ∧ v = .slice a j c ∧ Hid (Gro w wr 3 1 (.slice a j c) j (iv (nz (0 :: List.range i))))) (fun _ iw _ => k + 1 - (intOf iw).toNat)
  case atStart => exact ⟨0, 1, _, _, by omega, rfl, rfl, rfl, HG0⟩
  case round =>
    obtain ⟨i, j, a, c, hi, hj, rfl, rfl, HG⟩ := hrel
    have HJ := hideG hj
    have hjb : j ≤ 1099511000002 := by omega
    clear HG0 HM hj
    by_cases hlt : i < k + 1
    · have hii : (i : Int) < (k : Int) + 1 := by omega
      have HP : Hid (nz (0 :: List.range i) ++ [(i : Int)] = nz (0 :: List.range (i + 1))) := hideG (by rw [List.range_succ]; unfold nz; simp)
      go_wp2_with (at_builtin; refine wpList_pushI rfl _ _ rfl _ j (nz (0 :: List.range i)) (i : Int) rfl HG _ (by first | rfl | simp) rfl (by omega) ?_; clear HG; intro a1 c1 W1 G1; rw [HP.out] at G1)
      go_roundw
      case rel => exact ⟨i + 1, j + 1, a1, c1, by omega, by rw [HJ.out], by go_num, rfl, G1⟩
      case measure => simp [intOf]; omega
    · have hii : ¬ ((i : Int) < (k : Int) + 1) := by omega
      obtain rfl : i = k + 1 := by omega
      have hj := HJ.out
      subst hj
      go_wp2
      go_ret
      have hS0 := HS0.out
      subst hS0
      have hL : (nz (0 :: List.range (k + 1))).length = k + 1 + 1 := by rw [nz_len, List.length_cons, List.length_range]
      obtain ⟨g, rfl, _, hc⟩ := HG.out.cell (by omega)
      refine ⟨⟨some ⟨g, 0, none⟩, c, by rw [hL]; rfl, fun _ => ⟨g, 0, rfl, fun q hq => ?_⟩, ?_⟩, HG.out.kept⟩
      · rw [Nat.zero_add]
        exact hc q _ (iv_at hq)
      · rw [hL]
        rcases HG.out.own.2 with ⟨e1, _⟩ | ⟨g', cap, cur, e1, _, _, hn, _⟩
        · cases e1
        · simp only [Value.slice.injEq] at e1
          omega
/-- fuzzy's automaton. -/
def AuF (w w' : World) (l : List UInt8) (ed : Nat) (e : Ending) : Prop := (∃ ba sa sc, e = .returned (.pointer (some ⟨ba, 0, none⟩)) ∧ AuK w' ba 68 (.agg #[.string (bq l), .int .i64 (ed : Nat)]) (nz (0 :: List.range (min l.length ed + 1))) sa sc) ∧ Kept (fun _ => False) w w'
theorem ivF_start (l : List UInt8) (ed : Nat) : IvF l ed (nz (0 :: List.range (min l.length ed + 1))) := by
  refine .inr ⟨0, _, rfl, by rw [List.range_succ]; simp, fun r hr => ?_, ?_⟩
  · have := List.mem_range.1 hr
    omega
  · rw [List.length_range]; omega
theorem newAutoK_fuzzy (l : List UInt8) (ed : Nat) (w : World) (hl : l.length ≤ 1099511000000) (hed : ed ≤ 1099511000000) : Calls Tryd.prog 27 #[.iface 68 (.agg #[.string (bq l), .int .i64 (ed : Nat)])] w fun e w' => AuF w w' l ed e := by
  have CS := hideG (fstartK_any l ed w hl hed)
  have M0 := meth_fuzzy
  unfold AuF
  generalize nz (0 :: List.range (min l.length ed + 1)) = S0 at *
  go_enter Tryd.func27, Tryd.ntmps27
  go_wp2_with (go_at_call 60; refine CS.out.mono ?_; clear CS; rintro e W ⟨⟨a, c, rfl, hN, hc⟩, K1⟩)
  go_ret
  have ka := Kept.alloc W (.cells #[.iface 68 (.agg #[.string (bq l), .int .i64 (ed : Nat)]), .slice a S0.length c] 60)
  exact ⟨⟨W.heap.size, a, c, rfl, ⟨by simp, by simp, hN.kept ka, hc⟩⟩, K1.trans ka (fun _ f => f.elim)⟩
end Go.Proofs.YtacmmclamkhpcaaDoor
