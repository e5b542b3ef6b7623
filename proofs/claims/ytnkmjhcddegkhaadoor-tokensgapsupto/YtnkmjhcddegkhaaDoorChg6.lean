import Derived.Test.YtnkmjhcddegkhaaDoorChg5
namespace Go.Proofs.YtnkmjhcddegkhaaDoor
open Go.ChangeShapes Go.WideShapes Go.ChangeAt Go.RowKit

theorem Tryd.infoSt : (Tryd.prog.info? 72).map (fun i => (i.zero, i.size, i.bytes)) = some (some .nilIface, 1, 16) := by kernel_rfl
/-- The steps of a chain: 0 fold, 1 stop, 2 stem. -/
def ck : Nat → Value
  | 0 => .iface 60 (.agg #[])
  | 1 => .iface 61 (.agg #[])
  | _ => .iface 62 (.agg #[])
def kk (fo st se : Bool) : List Nat := (if fo then [0] else []) ++ ((if st then [1] else []) ++ (if se then [2] else []))
theorem one_ck (u0 : TypeId) : ∀ u ∈ [Value.iface u0 (.agg #[])], u.oneCell' = true := by
  intro u hu
  simp at hu
  subst hu
  rfl
theorem wpList_pushS {w0 W : World} {ops : Array Oper} {rest : List Oper} {o : Oper} {act : Act} {Q : Exit → Act → World → Prop} (hgd : o.guard = none) (s x : Operand)
    (ho : o.op = .call { callee := .builtin .append, args := #[s, x], argTypes := #[52, 52] }) (v : Value) (n : Nat) (xs : List Value) (u0 : TypeId) (hs : act.eval s = v) (hG : Hid (Gro w0 W 72 1 v n xs)) (b : Nat) (hb : b = W.heap.size) (hx : act.eval x = .slice (some ⟨b, 0, none⟩) 1 1) (hn : n ≤ 5)
    (h : ∀ a' c' W', Hid (Gro w0 W' 72 1 (.slice a' (n + 1) c') (n + 1) (xs ++ [.iface u0 (.agg #[])])) → wpList Tryd.prog ops Q rest (act.put o.dst (.slice a' (n + 1) c')) W') : wpList Tryd.prog ops Q (o :: rest) act (W.alloc (.cells #[.iface u0 (.agg #[])] 72)) := by
  subst hb
  obtain ⟨i0, hi, hz0, hz1, hz2⟩ := info_parts Tryd.infoSt
  exact wpList_push hgd s x 52 ho 72 i0 .nilIface 1 16 Tryd.underlying52 hi hz0 hz1 hz2 rfl (by decide) v n xs [.iface u0 (.agg #[])] hs hG hx rfl (one_ck u0) (hideG (by omega)) (hideG (by unfold maxLen; omega)) h
theorem Gro.base {w wB W : World} {e : TypeId} {sz : Nat} {v : Value} {n : Nat} {xs : List Value} (h : Gro wB W e sz v n xs) (k : Kept (fun _ => False) w wB) : Gro w W e sz v n xs := by
  refine ⟨⟨h.own.1, ?_⟩, k.trans h.kept (fun _ f => f.elim)⟩
  rcases h.own.2 with hn | ⟨g, cap, cur, e1, hb, rest⟩
  · exact .inl hn
  · exact .inr ⟨g, cap, cur, e1, Nat.le_trans k.size hb, rest⟩
theorem gro_nil_box (w : World) (o : Obj) (e : TypeId) : Gro w (w.alloc o) e 1 (.slice none 0 0) 0 [] := ⟨⟨rfl, .inl ⟨rfl, rfl⟩⟩, Kept.alloc _ _⟩
set_option maxRecDepth 20000 in
set_option maxHeartbeats 4000000 in
theorem chainOf_any (nm : ByteArray) (kd : Int) (fo st se : Bool) (w : World) :
    Calls Tryd.prog 24 #[.agg #[.string nm, .int .i64 kd, .bool fo, .bool st, .bool se]] w fun e w' => ∃ a c, e = .returned (.slice a (kk fo st se).length c) ∧ Gro w w' 72 1 (.slice a (kk fo st se).length c) (kk fo st se).length ((kk fo st se).map ck) := by
  have KB : Hid (Kept (fun _ => False) w (w.alloc (.cells #[.string nm, .int .i64 kd, .bool fo, .bool st, .bool se] 23))) := hideV (Kept.alloc _ _)
  have HB3 : Hid ((w.alloc (.cells #[.string nm, .int .i64 kd, .bool fo, .bool st, .bool se] 23)).cell? ⟨w.heap.size, 3, none⟩ = some (.bool st)) := hideV (by simp)
  have HB4 : Hid ((w.alloc (.cells #[.string nm, .int .i64 kd, .bool fo, .bool st, .bool se] 23)).cell? ⟨w.heap.size, 4, none⟩ = some (.bool se)) := hideV (by simp)
  have G0 := hideV (gro_nil (w.alloc (.cells #[.string nm, .int .i64 kd, .bool fo, .bool st, .bool se] 23)) 72 1)
  cases fo <;> cases st <;> cases se
  · go_enter Tryd.func24, Tryd.ntmps24
    go_wp2
    go_ret
    exact ⟨_, _, rfl, G0.out.base KB.out⟩
  · go_enter Tryd.func24, Tryd.ntmps24
    go_wp2_with (at_builtin; first | (refine wpList_pushS rfl _ _ rfl _ 0 _ 62 rfl G0 _ (by first | rfl | simp) rfl (by omega) ?_; clear G0; intro a1 c1 W1 G1; have y3 := G1.out.kept.cell HB3.out (fun f => f); have y4 := G1.out.kept.cell HB4.out (fun f => f)))
    go_ret
    exact ⟨_, _, rfl, G1.out.base KB.out⟩
  · go_enter Tryd.func24, Tryd.ntmps24
    go_wp2_with (at_builtin; first | (refine wpList_pushS rfl _ _ rfl _ 0 _ 61 rfl G0 _ (by first | rfl | simp) rfl (by omega) ?_; clear G0; intro a1 c1 W1 G1; have y3 := G1.out.kept.cell HB3.out (fun f => f); have y4 := G1.out.kept.cell HB4.out (fun f => f)))
    go_ret
    exact ⟨_, _, rfl, G1.out.base KB.out⟩
  · go_enter Tryd.func24, Tryd.ntmps24
    go_wp2_with (at_builtin; first | (refine wpList_pushS rfl _ _ rfl _ 0 _ 61 rfl G0 _ (by first | rfl | simp) rfl (by omega) ?_; clear G0; intro a1 c1 W1 G1; have y3 := G1.out.kept.cell HB3.out (fun f => f); have y4 := G1.out.kept.cell HB4.out (fun f => f)) | (refine wpList_pushS rfl _ _ rfl _ 1 _ 62 rfl G1 _ (by first | rfl | simp) rfl (by omega) ?_; clear G1; intro a2 c2 W2 G2; have y3 := G2.out.kept.cell HB3.out (fun f => f); have y4 := G2.out.kept.cell HB4.out (fun f => f)))
    go_ret
    exact ⟨_, _, rfl, G2.out.base KB.out⟩
  · go_enter Tryd.func24, Tryd.ntmps24
    go_wp2_with (at_builtin; first | (refine wpList_pushS rfl _ _ rfl _ 0 _ 60 rfl G0 _ (by first | rfl | simp) rfl (by omega) ?_; clear G0; intro a1 c1 W1 G1; have y3 := G1.out.kept.cell HB3.out (fun f => f); have y4 := G1.out.kept.cell HB4.out (fun f => f)))
    go_ret
    exact ⟨_, _, rfl, G1.out.base KB.out⟩
  · go_enter Tryd.func24, Tryd.ntmps24
    go_wp2_with (at_builtin; first | (refine wpList_pushS rfl _ _ rfl _ 0 _ 60 rfl G0 _ (by first | rfl | simp) rfl (by omega) ?_; clear G0; intro a1 c1 W1 G1; have y3 := G1.out.kept.cell HB3.out (fun f => f); have y4 := G1.out.kept.cell HB4.out (fun f => f)) | (refine wpList_pushS rfl _ _ rfl _ 1 _ 62 rfl G1 _ (by first | rfl | simp) rfl (by omega) ?_; clear G1; intro a2 c2 W2 G2; have y3 := G2.out.kept.cell HB3.out (fun f => f); have y4 := G2.out.kept.cell HB4.out (fun f => f)))
    go_ret
    exact ⟨_, _, rfl, G2.out.base KB.out⟩
  · go_enter Tryd.func24, Tryd.ntmps24
    go_wp2_with (at_builtin; first | (refine wpList_pushS rfl _ _ rfl _ 0 _ 60 rfl G0 _ (by first | rfl | simp) rfl (by omega) ?_; clear G0; intro a1 c1 W1 G1; have y3 := G1.out.kept.cell HB3.out (fun f => f); have y4 := G1.out.kept.cell HB4.out (fun f => f)) | (refine wpList_pushS rfl _ _ rfl _ 1 _ 61 rfl G1 _ (by first | rfl | simp) rfl (by omega) ?_; clear G1; intro a2 c2 W2 G2; have y3 := G2.out.kept.cell HB3.out (fun f => f); have y4 := G2.out.kept.cell HB4.out (fun f => f)))
    go_ret
    exact ⟨_, _, rfl, G2.out.base KB.out⟩
  · go_enter Tryd.func24, Tryd.ntmps24
    go_wp2_with (at_builtin; first | (refine wpList_pushS rfl _ _ rfl _ 0 _ 60 rfl G0 _ (by first | rfl | simp) rfl (by omega) ?_; clear G0; intro a1 c1 W1 G1; have y3 := G1.out.kept.cell HB3.out (fun f => f); have y4 := G1.out.kept.cell HB4.out (fun f => f)) | (refine wpList_pushS rfl _ _ rfl _ 1 _ 61 rfl G1 _ (by first | rfl | simp) rfl (by omega) ?_; clear G1; intro a2 c2 W2 G2; have y3 := G2.out.kept.cell HB3.out (fun f => f); have y4 := G2.out.kept.cell HB4.out (fun f => f)) | (refine wpList_pushS rfl _ _ rfl _ 2 _ 62 rfl G2 _ (by first | rfl | simp) rfl (by omega) ?_; clear G2; intro a3 c3 W3 G3; have y3 := G3.out.kept.cell HB3.out (fun f => f); have y4 := G3.out.kept.cell HB4.out (fun f => f)))
    go_ret
    exact ⟨_, _, rfl, G3.out.base KB.out⟩
end Go.Proofs.YtnkmjhcddegkhaaDoor
