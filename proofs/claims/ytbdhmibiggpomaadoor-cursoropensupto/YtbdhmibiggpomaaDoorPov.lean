import Derived.Test.YtbdhmibiggpomaaDoorPou
namespace Go.Proofs.YtbdhmibiggpomaaDoor
open Go.ChangeShapes Go.WideShapes Go.ChangeAt Go.RowKit

theorem own_capP {w : World} {base n c : Nat} {e : TypeId} {sz : Nat} {a : Option Addr} {xs : List Value} (h : w.ownsRow base e sz (.slice a n c) n xs) : n ≤ c := by
  rcases h.2 with ⟨e1, e2⟩ | ⟨g, cap, cur, e1, hg, hh, hnc, _⟩
  · simp only [Value.slice.injEq] at e1
    omega
  · simp only [Value.slice.injEq] at e1
    obtain ⟨_, _, rfl⟩ := e1
    exact hnc
theorem CallsArg8 {P : Program} {f : Nat} {a : Option Addr} {m n c : Nat} {w : World} {R : Ending → World → Prop} (h : m = n) (hc : Calls P f #[.slice a n c] w R) : Calls P f #[.slice a m c] w R := by rw [h]; exact hc
theorem wpOp_in {P : Program} {ops : Array Oper} {Q : Exit → Act → World → Prop} {i : Nat} {o : Oper} {K : Act → World → Prop} {a : Act} {w : World} (hi : ops[i]? = some o) (hgd : o.guard = none) (h : o.wp P a w K Q) : wpOp P ops Q i K a w := by
  have hw : Region.wanted o (yielded ops a.tmps) = true := by simp [Region.wanted, hgd]
  unfold wpOp
  rw [hi]
  simp only
  rw [if_pos hw]
  exact .inl h
theorem img_le {L : List Po} (hg : gdl (-1) L) (hl : L.length ≤ 1048576) (ht : tot L ≤ 1048576) : (img L).length ≤ 500000000 := by
  have h1 := bkb_le (m := nbp L.length) hg (by omega) (by omega)
  have u1 := uvb_le10P L.length (by omega)
  have u2 := uvb_le10P (tot L) (by omega)
  have hn : nbp L.length ≤ 65537 := by unfold nbp; omega
  unfold img
  rw [List.length_append, List.length_append, List.length_append]
  omega
theorem img_pos (L : List Po) : 0 < (img L).length := by
  have := uvb_pos L.length
  unfold img
  rw [List.length_append, List.length_append]
  omega
theorem bytesAt_own {W : World} {base g n c : Nat} {X : List Int} (h : W.ownsRow base 5 1 (.slice (some ⟨g, 0, none⟩) n c) n (bs X)) : BytesAt W (some ⟨g, 0, none⟩) X := by
  obtain ⟨a', c', e', h', -⟩ := bytes_of_own h
  simp only [Value.slice.injEq, true_and] at e'
  exact e'.1 ▸ h'
theorem BytesAt.headP {w : World} {a : Option Addr} {l : List Int} (h : BytesAt w a l) (n : Nat) : BytesAt w a (l.take n) := by
  intro hne
  have hl : l ≠ [] := by intro e; rw [e] at hne; simp at hne
  obtain ⟨b, off, e, hc⟩ := h hl
  refine ⟨b, off, e, fun k hk => ?_⟩
  rw [List.length_take] at hk
  rw [hc k (by omega), List.getElem?_take, if_pos (by omega)]
theorem conv_at (a : Option Addr) (n c : Nat) (W : World) (B : List Int) (hn : n = B.length) (h : BytesAt W a B) : (convert 22 9 (.slice a n c)).run Tryd.prog W = .ok (.string (strOfNums B)) W := by
  subst hn
  by_cases hne : B = []
  · subst hne
    cases a with
    | none => exact run_convert_bytes_nil W 22 5 Tryd.underlying22 Tryd.underlying5 0 c 9 Tryd.underlying9
    | some ad =>
      have hl : (loadCells ad 0).run Tryd.prog W = .ok (([] : List Int).map (Value.int .u8)).toArray W := by
        have := run_loadCells_list (P := Tryd.prog) W ad [] (fun j v hj => by simp at hj)
        simpa using this
      show (convert 22 9 (.slice (some ad) 0 c)).run Tryd.prog W = _
      rw [run_convert_bytes_string W 22 9 5 _ 0 c Tryd.underlying22 Tryd.underlying5 Tryd.underlying9, run_bytesToString W _ 0 c [] hl]
      rfl
  · obtain ⟨b, off, rfl, hc⟩ := h hne
    refine run_convert_bytes_arg W 22 5 Tryd.underlying22 Tryd.underlying5 b off B.length c B rfl (fun i hi => ?_) 9 Tryd.underlying9
    simpa [List.getD] using hc i hi
end Go.Proofs.YtbdhmibiggpomaaDoor
