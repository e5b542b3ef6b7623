import Derived.Test.YtnkmjhcddegkhaaDoorChg8
namespace Go.Proofs.YtnkmjhcddegkhaaDoor
open Go.ChangeShapes Go.WideShapes Go.ChangeAt Go.RowKit

/-- A field in its box. -/
abbrev fdO (nm : ByteArray) (kd : Int) (fo st se : Bool) : Obj := .cells #[.string nm, .int .i64 kd, .bool fo, .bool st, .bool se] 23
theorem fd_kept {w W : World} {nm : ByteArray} {kd : Int} {fo st se : Bool} (K : Kept (fun _ => False) (w.alloc (fdO nm kd fo st se)) W) :
    W.cell? ⟨w.heap.size, 0, none⟩ = some (.string nm) ∧ W.cell? ⟨w.heap.size, 1, none⟩ = some (.int .i64 kd) ∧ W.cell? ⟨w.heap.size, 2, none⟩ = some (.bool fo) ∧ W.cell? ⟨w.heap.size, 3, none⟩ = some (.bool st) ∧ W.cell? ⟨w.heap.size, 4, none⟩ = some (.bool se) := by
  have hh := K.heap (heap_alloc_new w _) (fun f => f)
  exact ⟨cell_of_row _ _ 0 _ _ _ hh, cell_of_row _ _ 1 _ _ _ hh, cell_of_row _ _ 2 _ _ _ hh, cell_of_row _ _ 3 _ _ _ hh, cell_of_row _ _ 4 _ _ _ hh⟩
theorem kk_lt (fo st se : Bool) : ∀ x ∈ kk fo st se, x < 3 := by cases fo <;> cases st <;> cases se <;> decide
theorem kk_len (fo st se : Bool) : (kk fo st se).length ≤ 3 := by cases fo <;> cases st <;> cases se <;> decide
def tkL (l : List UInt8) : List Tk := wtk l 0 (words l)
theorem tkL_len (l : List UInt8) : (tkL l).length = (words l).length := wtk_len l 0 _
theorem tkL_size (l : List UInt8) (hl : l.length ≤ 1099511627776) : ∀ x ∈ tkL l, x.t.size ≤ 281474976710000 := by
  have q : ∀ ws i, ∀ x ∈ wtk l i ws, x.t.size ≤ l.length := by
    intro ws
    induction ws with
    | nil => intro i x hx; cases hx
    | cons p r ih =>
      intro i x hx
      rcases List.mem_cons.1 hx with rfl | hx
      · show (bq (wtx l p)).size ≤ _
        rw [bq_size]; unfold wtx; rw [List.length_take, List.length_drop]; omega
      · exact ih (i + 1) x hx
  intro x hx
  have := q _ _ x hx
  omega
set_option maxRecDepth 20000 in
set_option maxHeartbeats 4000000 in
theorem tokensOf_text (TT : Nat → ByteArray) (nm : ByteArray) (fo st se : Bool) (l : List UInt8) (w : World) (hl : l.length ≤ 1099511627776) (hS : StopsT TT w) :
    Calls Tryd.prog 12 #[.agg #[.string nm, .int .i64 1, .bool fo, .bool st, .bool se], .string (bq l)] w fun e w' => ∃ a c, e = .returned (.tuple #[.slice a (chd TT (kk fo st se) (tkL l)).length c, .int .i64 (words l).length]) ∧ Gro w w' 29 5 (.slice a (chd TT (kk fo st se) (tkL l)).length c) (chd TT (kk fo st se) (tkL l)).length (tkvs (chd TT (kk fo st se) (tkL l))) := by
  have CW := fun w => hideV (words_any l w hl)
  have CC := fun w => hideV (chainOf_any nm 1 fo st se w)
  have hwl : (words l).length ≤ 1099511627776 := by
    have : (words l).length ≤ l.length := by rw [words_F]; exact wF_len l _ 0 (Nat.le_refl _)
    omega
  have CH : Hid (∀ a0 c0 b d w1 w2 W, Gro w1 W 72 1 (.slice a0 (kk fo st se).length c0) (kk fo st se).length ((kk fo st se).map ck) → Gro w2 W 29 5 (.slice b (words l).length d) (words l).length (tkvs (tkL l)) → StopsT TT W → Calls Tryd.prog 23 #[.slice a0 (kk fo st se).length c0, .slice b (words l).length d] W fun e w' => ∃ a c, e = .returned (.slice a (chd TT (kk fo st se) (tkL l)).length c) ∧ Gro W w' 29 5 (.slice a (chd TT (kk fo st se) (tkL l)).length c) (chd TT (kk fo st se) (tkL l)).length (tkvs (chd TT (kk fo st se) (tkL l)))) := hideV (fun a0 c0 b d w1 w2 W h1 h2 h3 =>
    chained_any TT (kk fo st se) (kk_lt fo st se) a0 _ c0 (tkL l) b _ d w1 w2 W rfl (kk_len fo st se) (tkL_len l).symm hwl (tkL_size l hl) h1 h2 h3)
  have HS := hideV hS
  rw [tks_wtk] at CW
  have CW : ∀ w, Hid (Calls Tryd.prog 7 #[.string (bq l)] w fun e w' => ∃ a c, e = .returned (.slice a (words l).length c) ∧ Gro w w' 29 5 (.slice a (words l).length c) (words l).length (tkvs (tkL l))) := CW
  clear hS
  generalize bq l = s at *
  generalize (words l).length = n at *
  generalize tkvs (chd TT (kk fo st se) (tkL l)) = Y at *
  generalize (chd TT (kk fo st se) (tkL l)).length = ny at *
  generalize (kk fo st se).map ck = X at *
  generalize (kk fo st se).length = nx at *
  generalize tkvs (tkL l) = V at *
  have KB := hideV (Kept.alloc w (fdO nm 1 fo st se))
  go_enter Tryd.func12, Tryd.ntmps12
  go_wp2_with (first
    | (go_at_call 7; refine (CW _).out.mono ?_; clear CW; rintro e W1 ⟨a1, c1, rfl, G1⟩; obtain ⟨y0, y1, y2, y3, y4⟩ := fd_kept G1.kept; have K1 := hideV G1.kept; have G1 := hideV G1)
    | (go_at_call 24; refine (CC _).out.mono ?_; clear CC; rintro e W2 ⟨a2, c2, rfl, G2⟩; have K2 := hideV G2.kept; have G2 := hideV G2)
    | (go_at_call 23; refine (CH.out _ _ _ _ _ _ _ G2.out (G1.out.later K2.out) (HS.out.kept ((KB.out.trans K1.out (fun _ f => f.elim)).trans K2.out (fun _ f => f.elim)) (fun f => f))).mono ?_; clear CH; rintro e W3 ⟨a3, c3, rfl, G3⟩; have G3 := hideV G3))
  go_ret2
  exact ⟨a3, c3, rfl, G3.out.base ((KB.out.trans K1.out (fun _ f => f.elim)).trans K2.out (fun _ f => f.elim))⟩
set_option maxRecDepth 20000 in
set_option maxHeartbeats 4000000 in
theorem of_text (TT : Nat → ByteArray) (nm : ByteArray) (fo st se : Bool) (l : List UInt8) (w : World) (hl : l.length ≤ 1099511627776) (hS : StopsT TT w) :
    Calls Tryd.prog 6 #[.agg #[.string nm, .int .i64 1, .bool fo, .bool st, .bool se], .string (bq l)] w fun e w' => ∃ a c, e = .returned (.slice a (chd TT (kk fo st se) (tkL l)).length c) ∧ Gro w w' 29 5 (.slice a (chd TT (kk fo st se) (tkL l)).length c) (chd TT (kk fo st se) (tkL l)).length (tkvs (chd TT (kk fo st se) (tkL l))) := by
  have KB := hideV (Kept.alloc w (fdO nm 1 fo st se))
  have CT := hideV (tokensOf_text TT nm fo st se l (w.alloc (fdO nm 1 fo st se)) hl (hS.kept KB.out (fun f => f)))
  clear hS
  generalize bq l = s at *
  generalize (words l).length = n at *
  generalize tkvs (chd TT (kk fo st se) (tkL l)) = Y at *
  generalize (chd TT (kk fo st se) (tkL l)).length = ny at *
  go_enter Tryd.func6, Tryd.ntmps6
  go_wp2_with (go_at_call 12; refine CT.out.mono ?_; clear CT; rintro e W1 ⟨a1, c1, rfl, G1⟩; have G1 := hideV G1)
  go_ret
  exact ⟨a1, c1, rfl, G1.out.base KB.out⟩
end Go.Proofs.YtnkmjhcddegkhaaDoor
