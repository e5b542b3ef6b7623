import Derived.Test.YtbhoplmbiomogaaDoorScw
namespace Go.Proofs.YtbhoplmbiomogaaDoor
open Go.ChangeShapes Go.WideShapes Go.ChangeAt Go.RowKit Go.Maps Go.WideMaps

/-- A field as it lies. -/
structure Fd.Ok (f : Fd) : Prop where
  n : f.n.size ≤ maxLen
  k0 : -9223372036854775808 ≤ f.k
  k1 : f.k ≤ 9223372036854775807
/-- Where the fields of a list lie. -/
def FsAt (w : World) (a : Option Addr) (l : List Fd) : Prop :=
  l ≠ [] → ∃ b off, a = some ⟨b, off, none⟩ ∧ ∀ k (h : k < l.length), w.cell? ⟨b, off + k * 5, none⟩ = some (.string (l[k]).n) ∧ w.cell? ⟨b, off + k * 5 + 1, none⟩ = some (.int .i64 (l[k]).k)
    ∧ w.cell? ⟨b, off + k * 5 + 2, none⟩ = some (.bool (l[k]).fo) ∧ w.cell? ⟨b, off + k * 5 + 3, none⟩ = some (.bool (l[k]).st) ∧ w.cell? ⟨b, off + k * 5 + 4, none⟩ = some (.bool (l[k]).se)
theorem FsAt.kept {w w' : World} {a : Option Addr} {l : List Fd} (h : FsAt w a l) (k : Kept (fun _ => False) w w') : FsAt w' a l := by
  intro hne
  obtain ⟨b, off, e, hc⟩ := h hne
  exact ⟨b, off, e, fun j hj => ⟨k.cell (hc j hj).1 (fun f => f), k.cell (hc j hj).2.1 (fun f => f), k.cell (hc j hj).2.2.1 (fun f => f), k.cell (hc j hj).2.2.2.1 (fun f => f), k.cell (hc j hj).2.2.2.2 (fun f => f)⟩⟩

set_option maxRecDepth 20000 in
theorem gkind_any (f : Fd) (w : World) : Calls Tryd.prog 32 #[.agg #[.string f.n, .int .i64 f.k, .bool f.fo, .bool f.st, .bool f.se]] w fun e w' => e = .returned (.bool (gkind f)) ∧ Kept (fun _ => False) w w' := by
  obtain ⟨n, k, fo, st, se⟩ := f
  show Calls Tryd.prog 32 #[.agg #[.string n, .int .i64 k, .bool fo, .bool st, .bool se]] w fun e w' => e = .returned (.bool (gkind ⟨n, k, fo, st, se⟩)) ∧ Kept (fun _ => False) w w'
  by_cases h1 : k = 1
  · subst h1
    go_enter Tryd.func32, Tryd.ntmps32
    go_wp2
    go_ret
    exact ⟨rfl, Kept.alloc _ _⟩
  · by_cases h2 : k = 2
    · subst h2
      go_enter Tryd.func32, Tryd.ntmps32
      cases fo <;> cases st <;> cases se
      all_goals
        go_wp2
        go_ret
        exact ⟨rfl, Kept.alloc _ _⟩
    · by_cases h3 : k = 3
      · subst h3
        go_enter Tryd.func32, Tryd.ntmps32
        cases fo <;> cases st <;> cases se
        all_goals
          go_wp2
          go_ret
          exact ⟨rfl, Kept.alloc _ _⟩
      · have e : gkind ⟨n, k, fo, st, se⟩ = false := by simp [gkind, h1, h2, h3]
        rw [e]
        go_enter Tryd.func32, Tryd.ntmps32
        go_wp2
        go_ret
        exact ⟨rfl, Kept.alloc _ _⟩

theorem lawK : Keyed Tryd.prog 9 := string_keyed Tryd.underlying9
theorem zeroE (w : World) : (zeroValue 3).run Tryd.prog w = .ok (.int .i64 0) w := by kernel_rfl
theorem makeM (k : IntKind) (n : Int) (w : World) : (Instr.makeMap 70 (some (.int k n))).run Tryd.prog w = .ok (.map (some w.heap.size)) (w.alloc (.map #[] 0)) := by
  simp [Instr.makeMap, run_underlying Tryd.underlying70, asInt, asIntOf, Result.andThen]

theorem names_next {l : List Fd} {k : Nat} (h : k < l.length) : l.take (k + 1) = l.take k ++ [l[k]] := by rw [List.take_add_one, List.getElem?_eq_getElem h]; rfl
set_option maxRecDepth 20000 in
set_option maxHeartbeats 1000000 in
theorem numbers_any (l : List Fd) (a : Option Addr) (c : Nat) (w : World) (hF : FsAt w a l) (hO : ∀ f ∈ l, f.Ok) (hl : l.length ≤ 4398046511104) :
    Calls Tryd.prog 33 #[.agg #[.slice a l.length c]] w fun e w' => ∃ (B : Nat) (D : DataW Unit), e = .returned (.map (some B)) ∧ w'.ownsMap Tryd.prog 9 (plainElem Tryd.prog 3) B l.length D ∧ Nm l D ∧ Kept (fun _ => False) w w' ∧ w.heap.size ≤ B := by
  have hmk := makeM
  have HF := hideW hF
  have HO := hideW hO
  clear hF hO
  go_enter Tryd.func33, Tryd.ntmps33
  go_wp2
  go_loopw [15] (fun i wr => ∃ (k : Nat) (D : DataW Unit), k ≤ l.length ∧ i = .int .i64 k ∧ Hid (wr.ownsMap Tryd.prog 9 (plainElem Tryd.prog 3) (w.heap.size + 1) k D) ∧ Hid (Nm (l.take k) D) ∧ Hid (Kept (fun _ => False) w wr)) (fun i _ => l.length - (intOf i).toNat)
  case atStart =>
    refine ⟨0, .map [], by omega, rfl, hideW ?_, hideW Nm.start, hideW ((Kept.alloc w _).trans (Kept.alloc _ _) (fun _ f => f.elim))⟩
    have := World.ownsMap_made (w.alloc (.cells #[.slice a l.length c] 24)) Tryd.prog 9 (plainElem (H := Unit) Tryd.prog 3)
    simpa using this
  case round =>
    obtain ⟨k, D, hk, rfl, hown, hN, hK⟩ := hrel
    by_cases hlt : k < l.length
    · obtain ⟨b, off, rfl, hc⟩ := HF.out (by intro e; rw [e] at hlt; simp at hlt)
      obtain ⟨x0, x1, x2, x3, x4⟩ := hc k hlt
      have hOk := HO.out _ (List.getElem_mem hlt)
      have hsn := names_next hlt
      obtain ⟨f, hf⟩ : ∃ f, f = l[k] := ⟨_, rfl⟩
      rw [← hf] at x0 x1 x2 x3 x4 hOk hsn
      have y0 := hK.out.cell x0 (fun f => f)
      have y1 := hK.out.cell x1 (fun f => f)
      have y2 := hK.out.cell x2 (fun f => f)
      have y3 := hK.out.cell x3 (fun f => f)
      have y4 := hK.out.cell x4 (fun f => f)
      have hn := hOk.n
      have hi : ((k : Nat) : Int) < (l.length : Int) := by omega
      have SN := hideW hsn
      have hsz := hK.out.size
      clear x0 x1 x2 x3 x4 hc hOk hf hsn
      cases hH : Maps.has D (.string f.n.data.toList) with
      | true =>
        go_wp2_with (first
          | (at_lookup; refine wpList_lookup_own_ok_int _ rfl _ _ 70 rfl 9 3 .i64 lawK Tryd.underlying70 Tryd.underlying3 (zeroE _) (w.heap.size + 1) k D rfl (hown.out.alloc _) _ _ rfl (keyOf_string_mk Tryd.underlying9 hn) ?_; intro cc hat hwc)
          | go_in)
        go_roundw
        case rel => exact ⟨k + 1, D, by omega, by go_num, hideW ((hown.out.alloc _).mono (by omega)), hideW (by rw [SN.out]; exact hN.out.seen hH), hideW (hK.out.trans (Kept.alloc _ _) (fun _ f => f.elim))⟩
        case measure => simp [intOf]; omega
      | false =>
        have hlen : (l.take k).length = k := by rw [List.length_take]; omega
        go_wp2_with (first
          | (at_lookup; refine wpList_lookup_own_ok_int _ rfl _ _ 70 rfl 9 3 .i64 lawK Tryd.underlying70 Tryd.underlying3 (zeroE _) (w.heap.size + 1) k D rfl (hown.out.alloc _) _ _ rfl (keyOf_string_mk Tryd.underlying9 hn) ?_; intro cc hat hwc)
          | (at_mapUpdate; refine wpList_mapUpdate_own _ rfl _ _ _ 70 rfl 9 3 lawK Tryd.underlying70 _ (w.heap.size + 1) k _ rfl (hown.out.alloc _) (by unfold maxLen; omega) _ _ _ rfl rfl (keyOf_string_mk Tryd.underlying9 hn) _ [] (plainElem_int Tryd.underlying3 (WalkArith.wf_i64 (by omega))) ?_; intro w1 hown1 hgrow1)
          | go_in)
        have R1 := hideW hown1
        have R2 := hideW ((hK.out.trans (Kept.alloc wr _) (fun _ f => f.elim)).trans (Kept.grown hgrow1) (fun i hi => .inr (by injection hi with hi; omega)))
        have R3 := hN.out.new (hown.out.tidy lawK) hH
        rw [hlen] at R3
        clear hown1 hgrow1
        go_wp2
        go_roundw
        case rel => exact ⟨k + 1, _, by omega, by go_num, R1, hideW (by rw [SN.out]; exact R3), R2⟩
        case measure => simp [intOf]; omega
    · obtain rfl : k = l.length := by omega
      have hN2 := hN.out
      rw [List.take_length] at hN2
      go_wp2
      go_ret
      exact ⟨_, D, rfl, hown.out, hN2, hK.out, Nat.le_succ _⟩
end Go.Proofs.YtbhoplmbiomogaaDoor
