import Derived.Test.YtbhoplmbiomogaaDoorMrg2
import Derived.Test.YtbhoplmbiomogaaDoorWfa
import Derived.Test.YtbhoplmbiomogaaDoorScy
import Derived.Test.YtbhoplmbiomogaaDoorTxo
namespace Go.Proofs.YtbhoplmbiomogaaDoor
open Go.ChangeShapes Go.WideShapes Go.ChangeAt Go.RowKit

/-- A field's bytes; a schema's. -/
def fe (f : Fd) : List Int := (uvb f.n.size ++ sb f.n) ++ [((fby f : Nat) : Int)]
def feL (l : List Fd) : List Int := (l.map fe).flatten
def ebs (l : List Fd) : List Int := uvb l.length ++ feL l
theorem feL_snoc {l : List Fd} {j : Nat} (h : j < l.length) : feL (l.take (j + 1)) = feL (l.take j) ++ fe l[j] := by
  rw [feL, List.take_succ_eq_append_getElem h, List.map_append, List.flatten_append]
  simp [feL]
theorem gs_lenE {l : List Fd} (h : gschema l = true) : 1 ≤ l.length ∧ l.length ≤ 16 := by
  by_cases hc : 1 ≤ l.length ∧ l.length ≤ 16
  · exact hc
  · rw [gs_count hc] at h; cases h
theorem gs_memE {l : List Fd} (h : gschema l = true) {f : Fd} (hf : f ∈ l) : gfield f = true := by
  cases hg : gfield f with
  | true => rfl
  | false => rw [gs_field hf hg] at h; cases h
theorem fe_len {f : Fd} (h : f.n.size ≤ 32) : (fe f).length ≤ 43 := by
  rw [fe, List.length_append, List.length_append, sb_length, uvb_small (by omega)]
  simp
  omega
theorem feL_len : ∀ (l : List Fd), (∀ f ∈ l, f.n.size ≤ 32) → (feL l).length ≤ 43 * l.length
  | [], _ => by simp [feL]
  | f :: r, h => by
    have h1 := fe_len (h f List.mem_cons_self)
    have h2 := feL_len r (fun g hg => h g (List.mem_cons_of_mem _ hg))
    have e : feL (f :: r) = fe f ++ feL r := by simp [feL]
    rw [e, List.length_append, List.length_cons]
    omega
theorem fboxE {w : World} {bx : Nat} {n : ByteArray} {k : Int} {fo st se : Bool} (h : w.heap[bx]? = some (.cells #[.string n, .int .i64 k, .bool fo, .bool st, .bool se] 46 (0, 0))) :
    (w.cell? ⟨bx, 0, none⟩ = some (.string n) ∧ w.cell? ⟨bx, 1, none⟩ = some (.int .i64 k) ∧ w.cell? ⟨bx, 2, none⟩ = some (.bool fo) ∧ w.cell? ⟨bx, 3, none⟩ = some (.bool st) ∧ w.cell? ⟨bx, 4, none⟩ = some (.bool se)) ∧ True := by
  refine ⟨⟨?_, ?_, ?_, ?_, ?_⟩, trivial⟩ <;> simp [World.cell?, h]
theorem own_lower {w : World} {b b' e z n : Nat} {v : Value} {xs : List Value} (h : w.ownsRow b e z v n xs) (hb : b' ≤ b) : w.ownsRow b' e z v n xs := by
  refine ⟨h.1, ?_⟩
  rcases h.2 with hn | ⟨g, cap, cur, e1, hg, rest⟩
  · exact .inl hn
  · exact .inr ⟨g, cap, cur, e1, Nat.le_trans hb hg, rest⟩
set_option maxRecDepth 20000 in
set_option maxHeartbeats 8000000 in
/-- The project's Encode, at a schema that Check refuses. -/
theorem encodeS_bad (l : List Fd) (a : Option Addr) (c : Nat) (te : TypeId) (pe : Value) (w : World) (hF : FsAt w a l) (hO : ∀ f ∈ l, f.Ok) (hl : l.length ≤ 4398046511104) (hE : w.cell? ⟨0, 0, none⟩ = some (.iface te pe)) (hg : gschema l = false) :
    Calls Tryd.prog 6 #[.agg #[.slice a l.length c]] w fun e w' => e = .returned (.tuple #[.slice none 0 0, .iface te pe]) ∧ Kept (fun _ => False) w w' := by
  have KA := Kept.alloc w (.cells #[.slice a l.length c] 24)
  have CC := hideW (check_any l a c te pe _ (hF.kept KA) hO hl (KA.cell hE (fun f => f)))
  rw [chk_bad _ hg] at CC
  have HE := hideW (KA.cell hE (fun f => f))
  have HK := hideW KA
  clear KA hE hF hO hg
  go_enter Tryd.func6, Tryd.ntmps6
  go_wp2_with (go_at_call 12; refine CC.out.mono ?_; clear CC; rintro e W1 ⟨rfl, K1⟩; have e1 := K1.cell HE.out (fun f => f))
  have HK1 := hideW (HK.out.trans K1 (fun _ f => f.elim))
  clear HE HK K1
  go_region
  all_goals go_wp2
  all_goals go_ret2
  all_goals exact ⟨rfl, HK1.out.trans (Kept.drew _) (fun _ f => f.elim)⟩
set_option maxRecDepth 20000 in
set_option maxHeartbeats 8000000 in
/-- The project's Encode, at a good schema. -/
theorem encodeS_good (l : List Fd) (a : Option Addr) (c : Nat) (te : TypeId) (pe : Value) (w : World) (hF : FsAt w a l) (hO : ∀ f ∈ l, f.Ok) (hl : l.length ≤ 4398046511104) (hE : w.cell? ⟨0, 0, none⟩ = some (.iface te pe)) (hg : gschema l = true) :
    Calls Tryd.prog 6 #[.agg #[.slice a l.length c]] w fun e w' => (∃ g, w.heap.size ≤ g ∧ e = .returned (.tuple #[.slice (some ⟨g, 0, none⟩) (ebs l).length (ebs l).length, .nilIface]) ∧ w'.ownsRow w.heap.size 5 1 (.slice (some ⟨g, 0, none⟩) (ebs l).length (ebs l).length) (ebs l).length (bs (ebs l))) ∧ Kept (fun _ => False) w w' := by
  have KA := Kept.alloc w (.cells #[.slice a l.length c] 24)
  have CC := hideW (check_any l a c te pe _ (hF.kept KA) hO hl (KA.cell hE (fun f => f)))
  rw [chk_good _ hg] at CC
  obtain ⟨fb, fo, rfl, hc⟩ := hF (by intro e; have := (gs_lenE hg).1; rw [e] at this; simp at this)
  have hl1 := gs_lenE hg
  have HG := hideW hg
  have hfb : fb < w.heap.size := World.block_lt_of_cell? w _ (hc 0 (by omega)).1
  have HC := hideW hc
  have HK := hideW KA
  have BX : Hid ((w.alloc (.cells #[.slice (some ⟨fb, fo, none⟩) l.length c] 24)).cell? ⟨w.heap.size, 0, none⟩ = some (.slice (some ⟨fb, fo, none⟩) l.length c)) := hideW (by simp)
  have HFL : Hid (∀ j, (uvb l.length ++ feL (l.take j)).length ≤ 800) := hideW (fun j => by
    have h1 := feL_len (l.take j) (fun f hf => (by have := (gn_chars (gs_memE hg (List.mem_of_mem_take hf))).1; simp only [Array.length_toList] at this; exact this))
    have h2 : (uvb l.length).length = 1 := by rw [uvb_small (by omega)]; rfl
    have h3 : (l.take j).length ≤ 16 := by rw [List.length_take]; omega
    rw [List.length_append]
    omega)
  clear KA hE hF hO hg hc
  obtain ⟨nl, hnl⟩ : ∃ nl, nl = l.length := ⟨_, rfl⟩
  have HEB : Hid (ebs l = uvb nl ++ feL l) := hideW (by rw [hnl]; rfl)
  rw [← hnl] at CC HK BX HFL hl1 hl ⊢
  have HNL := hideW hnl
  clear hnl
  go_enter Tryd.func6, Tryd.ntmps6
  go_wp2_with (first
    | (go_at_call 12; refine CC.out.mono ?_; clear CC; rintro e W1 ⟨rfl, K1⟩; have e1 := K1.cell BX.out (fun f => f); have HK1 := hideW (HK.out.trans K1 (fun _ f => f.elim)); clear K1)
    | (go_at_call 16; refine (new_any _).mono ?_; rintro e Wb ⟨rfl, hWr, K2⟩; have HWr := hideW hWr; have e2 := K2.cell e1 (fun f => f); have HKb := hideW (HK1.out.trans K2 (fun _ f => f.elim)); clear hWr K2)
    | (go_at_call 17; refine (wuv_any W1.heap.size _ _ nl _ HWr.out (by omega) (by simp)).mono ?_; rintro e W3 ⟨rfl, v3, hW3, S3⟩; have HW3 := hideW hW3; have HS3 := hideW S3; have e3 := S3.kept.cell e2 (fun f => by rcases f with f | f; (have := World.block_lt_of_cell? W1 _ e1; simp only at f this; omega); (simp [Value.ownBlock] at f)); clear hW3 S3))
  have HSb : Hid (WStep Wb W3 W1.heap.size (.slice none 0 0) v3) := HS3
  have hwl : W1.heap.size < Wb.heap.size := HWr.out.lt
  have hb1 : w.heap.size ≤ W1.heap.size := HK1.out.size
  have HCb : Hid (∀ (k : Nat) (h : k < l.length), Wb.cell? ⟨fb, fo + k * 5, none⟩ = some (.string l[k].n) ∧ Wb.cell? ⟨fb, fo + k * 5 + 1, none⟩ = some (.int .i64 l[k].k) ∧ Wb.cell? ⟨fb, fo + k * 5 + 2, none⟩ = some (.bool l[k].fo) ∧ Wb.cell? ⟨fb, fo + k * 5 + 3, none⟩ = some (.bool l[k].st) ∧ Wb.cell? ⟨fb, fo + k * 5 + 4, none⟩ = some (.bool l[k].se)) := hideW (fun k h => by
    obtain ⟨x0, x1, x2, x3, x4⟩ := HC.out k h
    exact ⟨HKb.out.cell x0 (fun f => f), HKb.out.cell x1 (fun f => f), HKb.out.cell x2 (fun f => f), HKb.out.cell x3 (fun f => f), HKb.out.cell x4 (fun f => f)⟩)
  have hfb2 : fb < W1.heap.size := by omega
  have HSz := hideW HK1.out.size
  clear HC BX HK e1 e2 e3 HS3 HWr hfb HK1
  generalize W1.heap.size = bw at *
  go_loopw [21] (fun v21 wr => ∃ (j : Nat) (v : Value), j ≤ nl ∧ v21 = .int .i64 j ∧ Hid (Wr wr bw v (uvb nl ++ feL (l.take j))) ∧ Hid (WStep Wb wr bw (.slice none 0 0) v)) (fun v21 _ => nl - (intOf v21).toNat)
  case atStart => exact ⟨0, v3, by omega, rfl, hideW (by simpa [feL] using HW3.out), HSb⟩
  case round =>
    obtain ⟨j, v, hj, rfl, HB, SS⟩ := hrel
    by_cases hlt : j < nl
    · have hlt2 : j < l.length := by rw [← HNL.out]; exact hlt
      have hji : (j : Int) < (nl : Int) := by omega
      obtain ⟨x0, x1, x2, x3, x4⟩ := HCb.out j hlt2
      have hnF : ¬ WF bw (.slice none 0 0) fb := by
        intro f
        rcases f with f | f
        · omega
        · simp [Value.ownBlock] at f
      have x0 := SS.out.kept.cell x0 hnF
      have x1 := SS.out.kept.cell x1 hnF
      have x2 := SS.out.kept.cell x2 hnF
      have x3 := SS.out.kept.cell x3 hnF
      have x4 := SS.out.kept.cell x4 hnF
      have HS0 := hideW (HFL.out j)
      have HT : Hid (feL (l.take (j + 1)) = feL (l.take j) ++ fe l[j]) := hideW (feL_snoc hlt2)
      have HFk := hideW (gk_range (gs_memE HG.out (List.getElem_mem hlt2)))
      have HFn := hideW (gn_chars (gs_memE HG.out (List.getElem_mem hlt2))).1
      generalize l[j] = f at *
      obtain ⟨n, k, fo', st, se⟩ := f
      simp only at x0 x1 x2 x3 x4
      have hns : n.size ≤ 32 := by have := HFn.out; simp only [Array.length_toList] at this; exact this
      have hk := HFk.out
      simp only at hk
      have HKx := hideW (Kept.alloc wr (.cells #[.string n, .int .i64 k, .bool fo', .bool st, .bool se] 46))
      have HBx := hideW (HB.out.kept HKx.out (fun _ _ f => f))
      have HXx : Hid ((wr.alloc (.cells #[.string n, .int .i64 k, .bool fo', .bool st, .bool se] 46)).heap[wr.heap.size]? = some (.cells #[.string n, .int .i64 k, .bool fo', .bool st, .bool se] 46 (0, 0))) := hideW (heap_alloc_new wr _)
      have hbx : ¬ WF bw v wr.heap.size := by
        intro f
        rcases f with f | f
        · have := HB.out.lt; omega
        · have := (HB.out.own.lt _ f).2; omega
      have HSx : Hid (WStep Wb (wr.alloc (.cells #[.string n, .int .i64 k, .bool fo', .bool st, .bool se] 46)) bw (.slice none 0 0) v) := hideW (SS.out.trans ⟨HKx.out.mono (fun _ f => f.elim), fun _ h => .inl h⟩)
      have HLt : Hid ((uvb n.size ++ sb n).length ≤ 33) := hideW (by rw [List.length_append, sb_length, uvb_small (by omega)]; simp; omega)
      have HFB := fun w => hideW (fieldByte_any n k fo' st se w hk)
      have HFE : Hid (fe ⟨n, k, fo', st, se⟩ = (uvb n.size ++ sb n) ++ [((k.toNat + bt fo' 4 + bt st 8 + bt se 16 : Nat) : Int)]) := hideW rfl
      generalize ((k.toNat + bt fo' 4 + bt st 8 + bt se 16 : Nat) : Int) = fb8 at *
      clear HCb HFk HFn hk hnF HFL
      go_wp2_with (first
        | (go_at_call 18; refine (text_any bw _ _ n _ HBx.out (by have := HS0.out; omega)).mono ?_; rintro e W5 ⟨rfl, v5, hW5, S5⟩; have HW5 := hideW hW5; have HS5 := hideW (HSx.out.trans S5); have HX5 := hideW (S5.kept.heap HXx.out hbx); obtain ⟨⟨y0, y1, y2, y3, y4⟩, -⟩ := fboxE HX5.out; clear hW5 S5)
        | (go_at_call 20; refine (HFB _).out.mono ?_; rintro e W6 ⟨rfl, K6⟩; have HW6 := hideW (HW5.out.kept K6 (fun _ _ f => f)); have HS6 := hideW (HS5.out.trans ⟨K6.mono (fun _ f => f.elim), fun _ h => .inl h⟩); clear K6)
        | (go_at_call 19; refine (byte_any bw _ _ _ _ HW6.out (by have h1 := HS0.out; have h2 := HLt.out; rw [List.length_append]; omega)).mono ?_; rintro e W7 ⟨rfl, v7, hW7, S7⟩; have HW7 := hideW hW7; have HS7 := hideW (HS6.out.trans S7); clear hW7 S7))
      go_roundw
      case rel => exact ⟨j + 1, _, hlt, by go_num, hideW (by rw [HT.out, HFE.out]; simpa [List.append_assoc] using HW7.out), HS7⟩
      case measure => simp [intOf]; omega
    · obtain rfl : j = nl := by omega
      have hT : l.take j = l := List.take_of_length_le (by rw [HNL.out]; exact Nat.le_refl _)
      have hfl := HFL.out j
      rw [hT] at HB hfl
      rw [← HEB.out] at HB hfl
      have HLe := hideW hfl
      clear hfl HFL
      go_wp2_with (go_at_call 21; refine (bytes_any bw _ _ _ HB.out (by have := HLe.out; omega)).mono ?_; rintro e W5 ⟨rfl, hO5, K5⟩)
      go_ret2
      have hKw : Kept (fun _ => False) w wr := HKb.out.trans SS.out.kept (fun i hi => .inr (by
        rcases hi with f | f
        · have := HSz.out; omega
        · simp [Value.ownBlock] at f))
      exact ⟨⟨_, hKw.size, rfl, own_lower hO5 hKw.size⟩, hKw.trans K5 (fun _ f => f.elim)⟩
end Go.Proofs.YtbhoplmbiomogaaDoor
