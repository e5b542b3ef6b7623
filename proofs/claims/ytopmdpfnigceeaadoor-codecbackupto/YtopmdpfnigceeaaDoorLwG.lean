import Derived.Test.YtopmdpfnigceeaaDoorLwF
namespace Go.Proofs.YtopmdpfnigceeaaDoor
open Go.ChangeShapes Go.WideShapes Go.ChangeAt Go.RowKit

/-- string(b) of bytes that lie anywhere. -/
theorem conv_at {W : World} {a : Option Addr} {B : List Int} {c : Nat} (h : BytesAt W a B) : (convert 27 9 (.slice a B.length c)).run Tryd.prog W = .ok (.string (strOfNums B)) W := by
  by_cases hne : B = []
  · subst hne
    cases a with
    | none => exact run_convert_bytes_nil W 27 5 Tryd.underlying27 Tryd.underlying5 0 c 9 Tryd.underlying9
    | some ad =>
      have hl : (loadCells ad 0).run Tryd.prog W = .ok (([] : List Int).map (Value.int .u8)).toArray W := by
        have := run_loadCells_list (P := Tryd.prog) W ad [] (fun j v hj => by simp at hj)
        simpa using this
      show (convert 27 9 (.slice (some ad) 0 c)).run Tryd.prog W = _
      rw [run_convert_bytes_string W 27 9 5 _ 0 c Tryd.underlying27 Tryd.underlying5 Tryd.underlying9, run_bytesToString W _ 0 c [] hl]
      rfl
  · obtain ⟨b, off, rfl, hc⟩ := h hne
    refine run_convert_bytes_arg W 27 5 Tryd.underlying27 Tryd.underlying5 b off B.length c B rfl (fun i hi => ?_) 9 Tryd.underlying9
    simpa [List.getD] using hc i hi
theorem bytes_kept {F : Nat → Prop} {w w' : World} {a : Option Addr} {l : List Int} (h : BytesAt w a l) (k : Kept F w w') (hF : l ≠ [] → ∀ ad, a = some ad → ¬ F ad.block) : BytesAt w' a l := by
  intro hne
  obtain ⟨b, off, e, hc⟩ := h hne
  exact ⟨b, off, e, fun j hj => k.cell (hc j hj) (hF hne ⟨b, off, none⟩ e)⟩

set_option maxRecDepth 20000 in
set_option maxHeartbeats 1000000 in
theorem back_6 (br : Nat) (v : Value) (l : List Int) (p : Nat) (sec : Bool) (nn uu ii : Int) (B : List Int) (a : Option Addr) (c : Nat) (s : ByteArray) (lv : Value) (rest : List Int) (w : World) (h : Rd w br v l p) (hB : BytesAt w a B) (hBb : B ≠ [] → ∀ ad, a = some ad → ad.block ≠ br) (hd : l.drop p = B ++ rest) :
    Calls Tryd.prog 12 #[.pointer (some ⟨br, 0, none⟩), .agg #[.int .i64 6, .bool sec, .int .i64 nn, .int .u64 uu, .int .i64 ii, .slice a B.length c, .string s, lv]] w fun e w' => RGot br v l (p + B.length) w e w' := by
  have hle := drop_at h.le hd
  have hsm := h.sm
  obtain ⟨o, ho⟩ : ∃ o, o = opB 6 sec nn uu ii (.slice a B.length c) s lv := ⟨_, rfl⟩
  have c0 := rraw_ok br v l p B.length (w.alloc o) (h.alloc _) hle
  rw [hd, List.take_append_of_le_length (Nat.le_refl _), List.take_length] at c0
  have c1 : Calls Tryd.prog 35 #[.pointer (some ⟨br, 0, none⟩), .int .i64 B.length] (w.alloc o) fun e w' => ∃ g, e = .returned (.tuple #[.slice (some ⟨g, 0, none⟩) B.length B.length, .nilIface]) ∧ ((convert 27 9 (.slice (some ⟨g, 0, none⟩) B.length B.length)).run Tryd.prog w' = .ok (.string (strOfNums B)) w' ∧ (convert 27 9 (.slice a B.length c)).run Tryd.prog w' = .ok (.string (strOfNums B)) w') ∧ Hid (Rd w' br v l (p + B.length)) ∧ Hid (Kept (fun i => i = br) (w.alloc o) w') := by
    refine c0.mono ?_
    rintro e w' ⟨g, rfl, _, ho, hr, hk⟩
    exact ⟨g, rfl, ⟨conv_own ho, conv_at (bytes_kept (hB.alloc o) hk hBb)⟩, hr, hk⟩
  have C1 := hide c1
  have HH := hide h
  subst ho
  have hb9 : B.length ≤ 140737488355328 := by omega
  clear h hd c0 c1 hB hBb hle hsm
  obtain ⟨st, hst⟩ : ∃ st, st = strOfNums B := ⟨_, rfl⟩
  rw [← hst] at C1
  clear hst
  go_enter Tryd.func12, Tryd.ntmps12
  go_wp2_with (go_at_call 35; refine C1.out.mono ?_; rintro e w2 ⟨g, rfl, ⟨x1, x2⟩, Q1, Q2⟩; have z1 := box_kept HH.out Q2.out; unfold opB at z1; have y0 : w2.cell? ⟨w.heap.size, 0, none⟩ = some (.int .i64 6) := (by simp [World.cell?, z1]); have y5 : w2.cell? ⟨w.heap.size, 5, none⟩ = some (.slice a B.length c) := (by simp [World.cell?, z1]); clear z1)
  go_ret
  exact RGot.of HH.out Q1.out Q2.out (by first | rfl | simp)
end Go.Proofs.YtopmdpfnigceeaaDoor
