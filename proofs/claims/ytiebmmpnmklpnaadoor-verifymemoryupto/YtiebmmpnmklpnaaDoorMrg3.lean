import Derived.Test.YtiebmmpnmklpnaaDoorIza
import Derived.Test.YtiebmmpnmklpnaaDoorIzb
import Derived.Test.YtiebmmpnmklpnaaDoorGro
import Derived.Deep.AppendLies
import Derived.Test.YtiebmmpnmklpnaaDoorIzc
import Derived.Test.YtiebmmpnmklpnaaDoorIzf
namespace Go.Proofs.YtiebmmpnmklpnaaDoor
open Go.ChangeShapes Go.WideShapes Go.ChangeAt Go.RowKit

structure StpQI (P : Prop) : Prop where
  go0 : P
theorem StpQI.go {P : Prop} (h : StpQI P) : P := h.go0
/-- A list that is grown: what may have changed. -/
structure GStepI (w w' : World) (v v' : Value) : Prop where
  kept : Kept (fun k => v.ownBlock = some k) w w'
  new : ∀ k, v'.ownBlock = some k → v.ownBlock = some k ∨ w.heap.size ≤ k
theorem GStepI.refl (w : World) (v : Value) : GStepI w w v v := ⟨Kept.refl _ _, fun _ h => .inl h⟩
theorem GStepI.trans {a b c : World} {v v1 v2 : Value} (h : GStepI a b v v1) (k : GStepI b c v1 v2) : GStepI a c v v2 :=
  ⟨h.kept.trans k.kept (fun i hi => h.new i hi), fun i hi => (k.new i hi).elim (fun x => h.new i x) (fun x => .inr (Nat.le_trans h.kept.size x))⟩
theorem GStepI.later {a b c : World} {v v1 : Value} (h : GStepI a b v v1) (k : Kept (fun _ => False) b c) : GStepI a c v v1 :=
  ⟨h.kept.trans k (fun _ f => f.elim), h.new⟩
theorem GStepI.ahead {a b c : World} {v v1 : Value} (k : Kept (fun _ => False) a b) (h : GStepI b c v v1) : GStepI a c v v1 :=
  ⟨(k.mono (fun _ f => f.elim)).trans h.kept (fun _ hi => .inl hi), fun i hi => (h.new i hi).imp id (fun x => Nat.le_trans k.size x)⟩
/-- Two lists lie apart. -/
def ApaI (v u : Value) : Prop := ∀ k, v.ownBlock = some k → u.ownBlock ≠ some k
theorem ApaI.symm {v u : Value} (h : ApaI v u) : ApaI u v := fun k hk e => h k e hk
theorem Gro.otherI {w0 W W' : World} {e e' : TypeId} {sz sz' : Nat} {u v v' : Value} {m n : Nat} {ys xs : List Value} (h : Gro w0 W e sz u m ys) (g : Gro w0 W e' sz' v n xs) (s : GStepI W W' v v') (ap : ApaI v u) : Gro w0 W' e sz u m ys ∧ ApaI v' u :=
  ⟨⟨s.kept.row h.own (fun j hj f => ap j f hj), h.kept.trans s.kept (fun i hi => .inr (g.own.lt i hi).1)⟩, fun k hk hu => (s.new k hk).elim (fun q => ap k q hu) (fun q => by have := (h.own.lt k hu).2; omega)⟩
/-- 'append(s, x...)' of what lies elsewhere. -/
theorem wpList_catXI {w0 W : World} {ops : Array Oper} {rest : List Oper} {o : Oper} {act : Act} {Q : Exit → Act → World → Prop} (hgd : o.guard = none) (s x : Operand) (t : TypeId)
    (ho : o.op = .call { callee := .builtin .append, args := #[s, x], argTypes := #[t, t] }) (e : TypeId) (i : TypeInfo) (z : Value) (size bytes : Nat)
    (ht : Tryd.prog.underlying t = some (.slice e)) (hi : Tryd.prog.info? e = some i) (hz : i.zero = some z) (hsize : i.size = size) (hby : i.bytes = bytes) (hzs : z.cells.size = size) (hsz : 0 < size)
    (v : Value) (n : Nat) (xs news : List Value) (hs : act.eval s = v) (hG : Hid (Gro w0 W e size v n xs)) (a : Addr) (m c : Nat) (hx : act.eval x = .slice (some a) m c)
    (hl : news.length = m * size) (hc : ∀ j u, news[j]? = some u → W.cell? (a.add j) = some u) (h1 : ∀ u ∈ news, u.oneCell' = true) (hm : 0 < m) (hb : (n + m) * bytes ≤ 140737488355328) (h63 : n + m ≤ maxLen)
    (h : ∀ g c' W', Hid (Gro w0 W' e size (.slice (some ⟨g, 0, none⟩) (n + m) c') (n + m) (xs ++ news)) → Hid (GStepI W W' v (.slice (some ⟨g, 0, none⟩) (n + m) c')) → wpList Tryd.prog ops Q rest (act.put o.dst (.slice (some ⟨g, 0, none⟩) (n + m) c')) W') : wpList Tryd.prog ops Q (o :: rest) act W := by
  refine wpList_append_lies W hgd s x t ho w0.heap.size e i z size bytes ht hi hz hsize hby hzs hsz v n xs hs hG.out.own a m c news hx hl hc h1 hm h63 hb hG.out.kept.size _ rfl ?_
  intro g c' W' ho2 hg2 hat _
  refine h g c' W' (hideI ⟨ho2, hG.out.kept.trans (Kept.grown hg2) (fun i hi => .inr (hG.out.own.lt i hi).1)⟩) (hideI ⟨Kept.grown hg2, fun k hk => ?_⟩)
  simp [Value.ownBlock] at hk
  subst hk
  exact hat.imp id (fun e => by rw [e]; exact Nat.le_refl _)
/-- 'append(s, x...)' of bytes. -/
theorem wpList_catBI {w0 W : World} {ops : Array Oper} {rest : List Oper} {o : Oper} {act : Act} {Q : Exit → Act → World → Prop} (hgd : o.guard = none) (s x : Operand)
    (ho : o.op = .call { callee := .builtin .append, args := #[s, x], argTypes := #[25, 25] }) (v : Value) (n : Nat) (xs ys : List Int) (hs : act.eval s = v) (hG : Hid (Gro w0 W 5 1 v n (bs xs))) (a : Option Addr) (m c : Nat) (hx : act.eval x = .slice a m c) (hm : m = ys.length) (hB : Hid (BytesAt W a ys)) (hm0 : 0 < m) (hb : n + m ≤ 140737488355328)
    (h : ∀ g c' W', Hid (Gro w0 W' 5 1 (.slice (some ⟨g, 0, none⟩) (n + m) c') (n + m) (bs (xs ++ ys))) → Hid (GStepI W W' v (.slice (some ⟨g, 0, none⟩) (n + m) c')) → wpList Tryd.prog ops Q rest (act.put o.dst (.slice (some ⟨g, 0, none⟩) (n + m) c')) W') : wpList Tryd.prog ops Q (o :: rest) act W := by
  obtain ⟨i0, hi, hz0, hz1, hz2⟩ := info_parts Tryd.infoB
  obtain ⟨b, off, rfl, hc⟩ := hB.out (by intro e; rw [e] at hm; simp at hm; omega)
  rw [bs_append] at h
  exact wpList_catXI hgd s x 25 ho 5 i0 (.int .u8 0) 1 1 Tryd.underlying25 hi hz0 hz1 hz2 rfl (by decide) v n (bs xs) (bs ys) hs hG ⟨b, off, none⟩ m c hx (by rw [bs_length, hm, Nat.mul_one]) (BytesAt.cells hc) (bs_one _) hm0 (by omega) (by unfold maxLen; omega) h
/-- 'append(s, x)' of one byte. -/
theorem wpList_pushZI {w0 W : World} {ops : Array Oper} {rest : List Oper} {o : Oper} {act : Act} {Q : Exit → Act → World → Prop} (hgd : o.guard = none) (s x : Operand)
    (ho : o.op = .call { callee := .builtin .append, args := #[s, x], argTypes := #[25, 25] }) (v : Value) (n : Nat) (xs : List Int) (y : Int) (hs : act.eval s = v) (hG : Hid (Gro w0 W 5 1 v n (bs xs))) (b : Nat) (hbb : b = W.heap.size) (hx : act.eval x = .slice (some ⟨b, 0, none⟩) 1 1) (hb : n + 1 ≤ 140737488355328)
    (h : ∀ g c' W', Hid (Gro w0 W' 5 1 (.slice (some ⟨g, 0, none⟩) (n + 1) c') (n + 1) (bs (xs ++ [y]))) → Hid (GStepI W W' v (.slice (some ⟨g, 0, none⟩) (n + 1) c')) → wpList Tryd.prog ops Q rest (act.put o.dst (.slice (some ⟨g, 0, none⟩) (n + 1) c')) W') : wpList Tryd.prog ops Q (o :: rest) act (W.alloc (.cells #[.int .u8 y] 5)) := by
  subst hbb
  obtain ⟨i0, hi, hz0, hz1, hz2⟩ := info_parts Tryd.infoB
  rw [bs_append] at h
  refine wpList_catXI hgd s x 25 ho 5 i0 (.int .u8 0) 1 1 Tryd.underlying25 hi hz0 hz1 hz2 rfl (by decide) v n (bs xs) (bs [y]) hs (hideI (hG.out.later (Kept.alloc W _))) ⟨W.heap.size, 0, none⟩ 1 1 hx (by rw [bs_length]; rfl) (row_news W [.int .u8 y] 5) (bs_one _) (by decide) (by omega) (by unfold maxLen; omega) ?_
  intro g c' W' hG2 hS
  exact h g c' W' hG2 (hideI (GStepI.ahead (Kept.alloc W _) hS.out))
theorem gro_bytesI {w0 W : World} {a : Option Addr} {n c : Nat} {xs : List Int} (h : Gro w0 W 5 1 (.slice a n c) n (bs xs)) : BytesAt W a xs ∧ n = xs.length ∧ n ≤ c := by
  have hn : n = xs.length := by have := h.own.1; rw [bs_length] at this; omega
  rcases h.own.2 with ⟨e1, e2⟩ | ⟨g, cap, cur, e1, hg, hh, hnc, _⟩
  · simp only [Value.slice.injEq] at e1
    obtain ⟨rfl, rfl, rfl⟩ := e1
    exact ⟨fun hne => absurd (List.eq_nil_of_length_eq_zero hn.symm) hne, hn, Nat.le_refl _⟩
  · simp only [Value.slice.injEq] at e1
    obtain ⟨rfl, _, rfl⟩ := e1
    refine ⟨fun _ => ⟨g, 0, rfl, fun k hk => ?_⟩, hn, hnc⟩
    have q0 := h.own.cells (g := g) rfl k (.int .u8 (xs[k]?.getD 0)) (by unfold bs; rw [List.getElem?_map, List.getElem?_eq_getElem hk]; simp)
    have hp : (⟨g, 0, none⟩ : Addr).add k = ⟨g, k, none⟩ := by unfold Addr.add; split <;> simp_all
    rw [hp] at q0
    rw [Nat.zero_add]
    exact q0
set_option maxRecDepth 20000 in
set_option maxHeartbeats 4000000 in
/-- The document's Uvarint. -/
theorem duv_anyI (n : Nat) (w : World) (hn : n < 18446744073709551616) :
    Calls Tryd.prog 48 #[.int .u64 n] w fun e w' => ∃ g c, e = .returned (.slice (some ⟨g, 0, none⟩) (uvb n).length c) ∧ Gro w w' 5 1 (.slice (some ⟨g, 0, none⟩) (uvb n).length c) (uvb n).length (bs (uvb n)) := by
  have HG0 := hideI (gro_empty w w 5 1 (Kept.refl _ _))
  go_enter Tryd.func48, Tryd.ntmps48
  go_wp2_with fail
  have HLn : Hid (∀ (zs : List Int) (m : Nat), zs ++ uvb m = uvb n → zs.length ≤ 10) := hideI (fun zs m e => by
    have h8 := congrArg List.length e
    rw [List.length_append] at h8
    have h9 := ulen_10 hn
    omega)
  go_loopw [0, 3] (fun v0 v3 wr => ∃ (m : Nat) (va : Value) (zs : List Int), v0 = .int .u64 m ∧ v3 = va ∧ m < 18446744073709551616 ∧ Hid (Gro w wr 5 1 va zs.length (bs zs)) ∧ Hid (zs ++ uvb m = uvb n)) (fun v0 _ _ => (intOf v0).toNat)
  case atStart => exact ⟨n, _, [], rfl, rfl, hn, HG0, hideI rfl⟩
  case round =>
    obtain ⟨m, va, zs, rfl, rfl, hm, HG, HF⟩ := hrel
    have hzl := HLn.out zs m HF.out
    by_cases h128 : m < 128
    · have d1 : ¬ (128 : Int) ≤ (m : Int) := by omega
      have d2 : decide ((128 : Int) ≤ (m : Int)) = false := decide_eq_false d1
      have d3 : decide (128 ≤ m) = false := decide_eq_false (by omega)
      have w1 : IntKind.u8.wrap (m : Int) = (m : Int) := by rw [IntKind.wrap_u8]; omega
      rw [uvb_small h128] at HF
      go_wp2_with (at_builtin; refine StpQI.go ?_)
      refine ⟨?_⟩
      refine wpList_pushZI rfl (.tmp 16) (.tmp 19) rfl _ zs.length zs (m : Int) rfl HG _ rfl rfl (by omega) ?_
      intro g7 c7 W7 HG7 _
      go_wp2
      go_ret
      have e : (uvb n).length = zs.length + 1 := by rw [← HF.out]; simp
      rw [e, ← HF.out]
      exact ⟨g7, c7, rfl, HG7.out⟩
    · obtain ⟨r, hr⟩ : ∃ r, r = m % 128 := ⟨_, rfl⟩
      obtain ⟨q, hq⟩ : ∃ q, q = m / 128 := ⟨_, rfl⟩
      have hr128 : r < 128 := by omega
      have hqm : q < m := by omega
      have e1 : (m : Int).tmod 128 = (r : Int) := by rw [Int.tmod_eq_emod_of_nonneg (by omega)]; omega
      have e2 : (m : Int).tdiv 128 = (q : Int) := by rw [Int.tdiv_eq_ediv_of_nonneg (by omega)]; omega
      have e3 : (m : Int) % 128 = (r : Int) := by omega
      have e4 : (m : Int) / 128 = (q : Int) := by omega
      have HF2 : Hid ((zs ++ [(128 + (r : Int))]) ++ uvb q = uvb n) := hideI (by
        rw [← HF.out, uvb_big h128, e3, ← hq, List.append_assoc]
        rfl)
      have d1 : (128 : Int) ≤ (m : Int) := by omega
      have d2 : decide ((128 : Int) ≤ (m : Int)) = true := decide_eq_true d1
      have d3 : decide (128 ≤ m) = true := decide_eq_true (by omega)
      have w1 : IntKind.u8.wrap (128 + (r : Int)) = 128 + (r : Int) := by rw [IntKind.wrap_u8]; omega
      clear HF hr hq
      go_wp2_with (at_builtin; refine StpQI.go ?_)
      refine ⟨?_⟩
      refine wpList_pushZI rfl (.tmp 7) (.tmp 12) rfl _ zs.length zs (128 + (r : Int)) rfl HG _ rfl rfl (by omega) ?_
      intro g7 c7 W7 HG7 _
      go_wp2
      go_roundw
      case rel => exact ⟨q, _, zs ++ [(128 + (r : Int))], rfl, rfl, by omega, hideI (by rw [List.length_append]; exact HG7.out), HF2⟩
      case measure => simp [intOf]; omega
end Go.Proofs.YtiebmmpnmklpnaaDoor
namespace Go.Proofs.YtiebmmpnmklpnaaDoor
open Go.ChangeShapes Go.WideShapes Go.ChangeAt Go.RowKit

def rtC : Array Value := #[.string ⟨#[101, 110, 100]⟩, .int .i64 0, .string ⟨#[110, 111, 110, 101]⟩, .int .i64 0, .string ⟨#[97, 108, 108]⟩, .int .i64 0, .string ⟨#[104, 97, 115]⟩, .int .i64 1, .string ⟨#[116, 101, 114, 109]⟩, .int .i64 2, .string ⟨#[112, 104, 114, 97, 115, 101]⟩, .int .i64 2, .string ⟨#[97, 110, 100]⟩, .int .i64 0, .string ⟨#[111, 114]⟩, .int .i64 0, .string ⟨#[109, 97, 120]⟩, .int .i64 0, .string ⟨#[111, 112, 116]⟩, .int .i64 0, .string ⟨#[101, 120, 99, 101, 112, 116]⟩, .int .i64 0, .string ⟨#[110, 111, 116]⟩, .int .i64 0, .string ⟨#[115, 99, 97, 108, 101]⟩, .int .i64 1, .string ⟨#[102, 105, 120]⟩, .int .i64 1, .string ⟨#[108, 101, 97, 115, 116]⟩, .int .i64 2, .string ⟨#[109, 105, 115, 115]⟩, .int .i64 1, .string ⟨#[104, 105, 116]⟩, .int .i64 1]
theorem rtC_at (k : Nat) (hk : k < 17) : rtC[k * 2]? = some (.string ⟨(nmN k).toArray⟩) ∧ rtC[k * 2 + 1]? = some (.int .i64 (arN k : Nat)) := by
  match k, hk with
  | 0, _ => exact ⟨rfl, rfl⟩
  | 1, _ => exact ⟨rfl, rfl⟩
  | 2, _ => exact ⟨rfl, rfl⟩
  | 3, _ => exact ⟨rfl, rfl⟩
  | 4, _ => exact ⟨rfl, rfl⟩
  | 5, _ => exact ⟨rfl, rfl⟩
  | 6, _ => exact ⟨rfl, rfl⟩
  | 7, _ => exact ⟨rfl, rfl⟩
  | 8, _ => exact ⟨rfl, rfl⟩
  | 9, _ => exact ⟨rfl, rfl⟩
  | 10, _ => exact ⟨rfl, rfl⟩
  | 11, _ => exact ⟨rfl, rfl⟩
  | 12, _ => exact ⟨rfl, rfl⟩
  | 13, _ => exact ⟨rfl, rfl⟩
  | 14, _ => exact ⟨rfl, rfl⟩
  | 15, _ => exact ⟨rfl, rfl⟩
  | 16, _ => exact ⟨rfl, rfl⟩
  | n + 17, h => omega
/-- The document's table at its block. -/
structure RT (w : World) (g : Nat) : Prop where
  nm : ∀ k : Nat, k < 17 → w.cell? ⟨g, k * 2, none⟩ = some (.string ⟨(nmN k).toArray⟩)
  ar : ∀ k : Nat, k < 17 → w.cell? ⟨g, k * 2 + 1, none⟩ = some (.int .i64 (arN k : Nat))
theorem rt_new (w : World) : RT (w.alloc (.cells rtC 113)) w.heap.size :=
  ⟨fun k hk => by rw [World.cell?_alloc_new]; exact (rtC_at k hk).1, fun k hk => by rw [World.cell?_alloc_new]; exact (rtC_at k hk).2⟩
set_option maxRecDepth 20000 in
set_option maxHeartbeats 4000000 in
theorem rtable_any (w : World) :
    Calls Tryd.prog 57 #[] w fun e w' => e = .returned (.slice (some ⟨w.heap.size, 0, none⟩) 17 17) ∧ RT w' w.heap.size ∧ Kept (fun _ => False) w w' := by
  have HT := hideI (rt_new w)
  have HK := hideI (Kept.alloc w (.cells rtC 113))
  unfold rtC at HT HK
  go_enter Tryd.func57, Tryd.ntmps57
  go_wp2
  go_ret
  exact ⟨rfl, HT.out, HK.out⟩
set_option maxRecDepth 20000 in
set_option maxHeartbeats 2000000 in
theorem rargs_any (op : Int) (w : World) :
    Calls Tryd.prog 42 #[.int .i64 op] w fun e w' => e = .returned (arV op) ∧ Kept (fun _ => False) w w' := by
  have HC := hideI (rtable_any w)
  cases hO : isO op with
  | true =>
    rw [arV_in hO]
    obtain ⟨h0, h1⟩ := isO_iff.1 hO
    obtain ⟨k, rfl⟩ : ∃ k : Nat, op = k := ⟨op.toNat, by omega⟩
    have hk : k < 17 := by omega
    have hk1 : ¬ (17 : Int) ≤ (k : Int) := by omega
    clear hO h0
    go_enter Tryd.func42, Tryd.ntmps42
    go_wp2_with (go_at_call 57; refine HC.out.mono ?_; rintro e W ⟨rfl, hR, K⟩; have x1 := hR.ar k hk; have HK := hideI K; clear hR K)
    go_ret2
    exact ⟨rfl, HK.out⟩
  | false =>
    rw [arV_out hO]
    have hn := isO_not.1 hO
    by_cases h0 : op < 0
    · clear hO hn
      go_enter Tryd.func42, Tryd.ntmps42
      go_wp2_with (go_at_call 57; refine HC.out.mono ?_; rintro e W ⟨rfl, -, K⟩; have HK := hideI K; clear K)
      go_ret2
      exact ⟨rfl, HK.out⟩
    · have h1 : (17 : Int) ≤ op := by omega
      clear hO hn
      go_enter Tryd.func42, Tryd.ntmps42
      go_wp2_with (go_at_call 57; refine HC.out.mono ?_; rintro e W ⟨rfl, -, K⟩; have HK := hideI K; clear K)
      go_ret2
      exact ⟨rfl, HK.out⟩
end Go.Proofs.YtiebmmpnmklpnaaDoor
namespace Go.Proofs.YtiebmmpnmklpnaaDoor
open Go.ChangeShapes Go.WideShapes Go.ChangeAt Go.RowKit

/-- What the document's operands answers. -/
def opP (w : World) (n : Nat) (p q : Int) (ok : Bool) (e : Ending) (w' : World) : Prop :=
  (ok = true → ∃ g, w.heap.size ≤ g ∧ e = .returned (.tuple #[.slice (some ⟨g, 0, none⟩) n 2, .bool true]) ∧ w'.cell? ⟨g, 0, none⟩ = some (.int .u64 p) ∧ w'.cell? ⟨g, 1, none⟩ = some (.int .u64 q)) ∧
  (ok = false → e = .returned (.tuple #[.slice none 0 0, .bool false])) ∧ Kept (fun _ => False) w w'
theorem new2 (W : World) (p q : Int) (t : TypeId) : (W.alloc (.cells #[.int .u64 p, .int .u64 q] t)).cell? ⟨W.heap.size, 0, none⟩ = some (.int .u64 p) ∧ (W.alloc (.cells #[.int .u64 p, .int .u64 q] t)).cell? ⟨W.heap.size, 1, none⟩ = some (.int .u64 q) := by
  constructor <;> rw [World.cell?_alloc_new] <;> rfl
set_option maxRecDepth 20000 in
set_option maxHeartbeats 8000000 in
theorem roperands_any (x : In) (w : World) :
    Calls Tryd.prog 47 #[inV x] w (opP w (arN x.op) x.a x.b (okI x)) := by
  obtain ⟨op, a, b⟩ := x
  unfold inV
  simp only
  have KA := Kept.alloc w (.cells #[.int .i64 op, .int .u64 a, .int .u64 b] 74)
  have HBX : Hid ((w.alloc (.cells #[.int .i64 op, .int .u64 a, .int .u64 b] 74)).heap[w.heap.size]? = some (.cells #[.int .i64 op, .int .u64 a, .int .u64 b] 74 (0, 0))) := hideI (heap_alloc_new w _)
  have HA := hideI (rargs_any op (w.alloc (.cells #[.int .i64 op, .int .u64 a, .int .u64 b] 74)))
  have HK := hideI KA
  clear KA
  cases hO : isO op with
  | false =>
    rw [arV_out hO] at HA
    have hk : okI ⟨op, a, b⟩ = false := by simp [okI, hO]
    rw [hk]
    clear hO hk
    go_enter Tryd.func47, Tryd.ntmps47
    go_wp2_with (go_at_call 42; refine HA.out.mono ?_; clear HA; rintro e W ⟨rfl, K1⟩; have HK1 := hideI (HK.out.trans K1 (fun _ f => f.elim)); clear K1)
    go_ret2
    exact ⟨fun h => (by cases h), fun _ => rfl, HK1.out⟩
  | true =>
    rw [arV_in hO] at HA
    have hk : okI ⟨op, a, b⟩ = ((decide (1 ≤ arN op) || decide (a = 0)) && (decide (2 ≤ arN op) || decide (b = 0))) := by simp [okI, hO]
    rw [hk]
    have hn := arN_le op
    have hp : ((a : Int) == 0) = decide (a = 0) := by
      rw [Bool.eq_iff_iff, beq_iff_eq, decide_eq_true_iff]; omega
    have hq : ((b : Int) == 0) = decide (b = 0) := by
      rw [Bool.eq_iff_iff, beq_iff_eq, decide_eq_true_iff]; omega
    have hp2 : ((a : Int) != 0) = !decide (a = 0) := by rw [← hp]; rfl
    have hq2 : ((b : Int) != 0) = !decide (b = 0) := by rw [← hq]; rfl
    generalize decide (a = 0) = da at *
    generalize decide (b = 0) = db at *
    generalize (a : Int) = p at *
    generalize (b : Int) = q at *
    generalize arN op = n at *
    clear hO hk
    obtain rfl | rfl | rfl : n = 0 ∨ n = 1 ∨ n = 2 := by omega
    · rw [show ((0 : Nat) : Int) = 0 from rfl] at HA
      clear hn
      cases da <;> cases db
      all_goals go_enter Tryd.func47, Tryd.ntmps47
      all_goals go_wp2_with (go_at_call 42; refine HA.out.mono ?_; clear HA; rintro e W ⟨rfl, K1⟩; have HK1 := hideI (HK.out.trans K1 (fun _ f => f.elim)); obtain ⟨y0, y1, y2, -⟩ := cell_row3 (K1.heap HBX.out (fun f => f)); clear K1)
      all_goals go_ret2
      all_goals first
        | exact ⟨fun h => (by cases h), fun _ => rfl, HK1.out⟩
        | exact ⟨fun _ => ⟨W.heap.size, HK1.out.size, rfl, (new2 W p q _).1, (new2 W p q _).2⟩, fun h => (by cases h), HK1.out.trans (Kept.alloc _ _) (fun _ f => f.elim)⟩
    · rw [show ((1 : Nat) : Int) = 1 from rfl] at HA
      clear hn
      cases da <;> cases db
      all_goals go_enter Tryd.func47, Tryd.ntmps47
      all_goals go_wp2_with (go_at_call 42; refine HA.out.mono ?_; clear HA; rintro e W ⟨rfl, K1⟩; have HK1 := hideI (HK.out.trans K1 (fun _ f => f.elim)); obtain ⟨y0, y1, y2, -⟩ := cell_row3 (K1.heap HBX.out (fun f => f)); clear K1)
      all_goals go_ret2
      all_goals first
        | exact ⟨fun h => (by cases h), fun _ => rfl, HK1.out⟩
        | exact ⟨fun _ => ⟨W.heap.size, HK1.out.size, rfl, (new2 W p q _).1, (new2 W p q _).2⟩, fun h => (by cases h), HK1.out.trans (Kept.alloc _ _) (fun _ f => f.elim)⟩
    · rw [show ((2 : Nat) : Int) = 2 from rfl] at HA
      clear hn
      cases da <;> cases db
      all_goals go_enter Tryd.func47, Tryd.ntmps47
      all_goals go_wp2_with (go_at_call 42; refine HA.out.mono ?_; clear HA; rintro e W ⟨rfl, K1⟩; have HK1 := hideI (HK.out.trans K1 (fun _ f => f.elim)); obtain ⟨y0, y1, y2, -⟩ := cell_row3 (K1.heap HBX.out (fun f => f)); clear K1)
      all_goals go_ret2
      all_goals first
        | exact ⟨fun h => (by cases h), fun _ => rfl, HK1.out⟩
        | exact ⟨fun _ => ⟨W.heap.size, HK1.out.size, rfl, (new2 W p q _).1, (new2 W p q _).2⟩, fun h => (by cases h), HK1.out.trans (Kept.alloc _ _) (fun _ f => f.elim)⟩
end Go.Proofs.YtiebmmpnmklpnaaDoor
namespace Go.Proofs.YtiebmmpnmklpnaaDoor
open Go.ChangeShapes Go.WideShapes Go.ChangeAt Go.RowKit

theorem opsI_at {x : In} {j : Nat} (hj : j < arN x.op) (hl : j < (opsI x).length) : (opsI x)[j] = if j = 0 then x.a else x.b := by
  have := arN_le x.op
  have e : (opsI x)[j]? = some (if j = 0 then x.a else x.b) := by
    unfold opsI
    rw [List.getElem?_take, if_pos hj]
    match j with
    | 0 => rfl
    | 1 => rfl
    | j + 2 => omega
  rw [List.getElem?_eq_getElem hl] at e
  exact Option.some.inj e
theorem ops_snoc {l : List Nat} {j : Nat} (h : j < l.length) : ((l.take (j + 1)).map uvb).flatten = ((l.take j).map uvb).flatten ++ uvb l[j] := by
  rw [List.take_succ_eq_append_getElem h, List.map_append, List.flatten_append]; simp
end Go.Proofs.YtiebmmpnmklpnaaDoor
namespace Go.Proofs.YtiebmmpnmklpnaaDoor
open Go.ChangeShapes Go.WideShapes Go.ChangeAt Go.RowKit

theorem own_lowerI {w : World} {b b' e z n : Nat} {v : Value} {xs : List Value} (h : w.ownsRow b e z v n xs) (hb : b' ≤ b) : w.ownsRow b' e z v n xs := by
  refine ⟨h.1, ?_⟩
  rcases h.2 with hn | ⟨g, cap, cur, e1, hg, rest⟩
  · exact .inl hn
  · exact .inr ⟨g, cap, cur, e1, Nat.le_trans hb hg, rest⟩
/-- What Encode answers. -/
def encP (w : World) (l : List In) (ac : Addr) (e : Ending) (w' : World) : Prop :=
  ((∀ x ∈ l, okI x = true) → ∃ g, w.heap.size ≤ g ∧ e = .returned (.tuple #[.slice (some ⟨g, 0, none⟩) (ibL l).length (ibL l).length, .nilIface]) ∧ w'.ownsRow w.heap.size 5 1 (.slice (some ⟨g, 0, none⟩) (ibL l).length (ibL l).length) (ibL l).length (bs (ibL l))) ∧
  ((¬ ∀ x ∈ l, okI x = true) → e = .returned (.tuple #[.slice none 0 0, errV ac])) ∧ Kept (fun _ => False) w w'
end Go.Proofs.YtiebmmpnmklpnaaDoor
namespace Go.Proofs.YtiebmmpnmklpnaaDoor
open Go.ChangeShapes Go.WideShapes Go.ChangeAt Go.RowKit

/-- What the document's Encode answers. -/
def rencP (w : World) (l : List In) (e : Ending) (w' : World) : Prop :=
  ((∀ x ∈ l, okI x = true) → ∃ a c, e = .returned (.tuple #[.slice a (ibL l).length c, .int .i64 0]) ∧ Gro w w' 5 1 (.slice a (ibL l).length c) (ibL l).length (bs (ibL l))) ∧
  ((¬ ∀ x ∈ l, okI x = true) → e = .returned (.tuple #[.slice none 0 0, .int .i64 21])) ∧ Kept (fun _ => False) w w'
set_option maxRecDepth 20000 in
set_option maxHeartbeats 8000000 in
/-- The document's Encode, at any list. -/
theorem rencode_any (l : List In) (a : Option Addr) (c : Nat) (w : World) (hL : InsAt w a l) (hO : ∀ x ∈ l, x.Ok) (hl : l.length ≤ 5864062014976) :
    Calls Tryd.prog 30 #[.slice a l.length c] w (rencP w l) := by
  have HL := hideI hL
  have HO := hideI hO
  have HG0 := hideI (gro_empty w w 5 1 (Kept.refl _ _))
  have HLen : Hid (∀ j, (ibL (l.take j)).length ≤ 123145302314496) := hideI (fun j => by
    have h1 := ibL_len (l.take j) (fun x hx => hO x (List.mem_of_mem_take hx))
    have h2 : (l.take j).length ≤ l.length := by simp; omega
    omega)
  clear hL hO
  obtain ⟨nl, hnl⟩ : ∃ nl, nl = l.length := ⟨_, rfl⟩
  rw [← hnl] at hl ⊢
  have HNL := hideI hnl
  clear hnl
  go_enter Tryd.func30, Tryd.ntmps30
  go_wp2
  go_loopw [4, 14] (fun v4 v14 wr => ∃ (j n : Nat) (va : Value), j ≤ nl ∧ v14 = .int .i64 j ∧ v4 = va ∧ Hid (n = (ibL (l.take j)).length) ∧ Hid (Gro w wr 5 1 va n (bs (ibL (l.take j)))) ∧ Hid (∀ k (h : k < l.length), k < j → okI l[k] = true)) (fun _ v14 _ => nl - (intOf v14).toNat)
  case atStart => exact ⟨0, 0, _, by omega, rfl, rfl, hideI rfl, HG0, hideI (fun k _ h => by omega)⟩
  case round =>
    obtain ⟨j, n, va, hj, rfl, rfl, HN, HG, HA⟩ := hrel
    by_cases hlt : j < nl
    · have hjl : j < l.length := by rw [← HNL.out]; exact hlt
      have hji : (j : Int) < (nl : Int) := by omega
      obtain ⟨fb, fo, ea, hc⟩ := HL.out (by intro e; rw [e] at hjl; simp at hjl)
      obtain ⟨x0, x1, x2⟩ := hc j hjl
      subst ea
      have z0 := HG.out.kept.cell x0 (fun f => f)
      have z1 := HG.out.kept.cell x1 (fun f => f)
      have z2 := HG.out.kept.cell x2 (fun f => f)
      clear x0 x1 x2 hc
      have HSN := hideI (ibL_snoc hjl)
      have HOx := hideI (HO.out l[j] (List.getElem_mem hjl))
      have HAn : Hid (okI l[j] = true → ∀ k (h : k < l.length), k < j + 1 → okI l[k] = true) := hideI (fun e k h hk => by
        by_cases hkj : k = j
        · subst hkj; exact e
        · exact HA.out k h (by omega))
      have HAb : Hid (okI l[j] = false → ¬ ∀ x ∈ l, okI x = true) := hideI (fun e h => by
        have := h l[j] (List.getElem_mem hjl)
        rw [e] at this; cases this)
      have HLj := hideI (HLen.out j)
      generalize l[j] = x at *
      have HXL := hideI (opsI_len x)
      have HAT : Hid (∀ j (hj : j < arN x.op) (hl : j < (opsI x).length), (opsI x)[j] = if j = 0 then x.a else x.b) := hideI (fun j hj hl => opsI_at hj hl)
      have HIB : Hid (ib x = x.op :: ((opsI x).map uvb).flatten) := hideI rfl
      have hnl2 := arN_le x.op
      have HKx := hideI (Kept.alloc wr (.cells #[.int .i64 x.op, .int .u64 x.a, .int .u64 x.b] 74))
      have HXx : Hid ((wr.alloc (.cells #[.int .i64 x.op, .int .u64 x.a, .int .u64 x.b] 74)).heap[wr.heap.size]? = some (.cells #[.int .i64 x.op, .int .u64 x.a, .int .u64 x.b] 74 (0, 0))) := hideI (heap_alloc_new wr _)
      have hRO := roperands_any x (wr.alloc (.cells #[.int .i64 x.op, .int .u64 x.a, .int .u64 x.b] 74))
      unfold inV at hRO
      have HRO := hideI hRO
      clear hRO
      cases hok : okI x with
      | false =>
        rw [hok] at HRO
        have HBad := hideI (HAb.out hok)
        clear hok HAb HAn
        go_wp2_with (go_at_call 47; refine HRO.out.mono ?_; clear HRO; rintro e W3 ⟨-, h3, K3⟩; have h3e := h3 rfl; subst h3e; have HK3 := hideI ((HG.out.kept.trans HKx.out (fun _ f => f.elim)).trans K3 (fun _ f => f.elim)); clear h3 K3)
        go_ret2
        exact ⟨fun h => absurd h HBad.out, fun _ => rfl, HK3.out⟩
      | true =>
        rw [hok] at HRO
        have HAn2 := hideI (HAn.out hok)
        have h17 := (okI_iff.1 hok).1
        have hop : IntKind.u8.wrap x.op = x.op := by rw [IntKind.wrap_u8]; omega
        clear hok HAb HAn h17
        generalize opsI x = ops at *
        generalize ib x = ibx at *
        obtain ⟨op, xa, xb⟩ := x
        simp only at *
        generalize arN op = m at *
        go_wp2_with (first
          | (go_at_call 47; refine HRO.out.mono ?_; clear HRO; rintro e W3 ⟨h3, -, K3⟩; obtain ⟨g, hg, h3e, c0, c1⟩ := h3 rfl; subst h3e; have HK3 := hideI (HKx.out.trans K3 (fun _ f => f.elim)); obtain ⟨y0, y1, y2, -⟩ := cell_row3 (K3.heap HXx.out (fun f => f)); have HG3 := hideI (HG.out.later HK3.out); have HC0 := hideI c0; have HC1 := hideI c1; have HGB := hideI hg; clear h3 K3 c0 c1 hg)
          | (at_builtin; refine StpQI.go ?_))
        refine ⟨?_⟩
        have hnb : n ≤ 123145302314496 := by have := HN.out; have := HLj.out; omega
        refine wpList_pushZI rfl (.tmp 25) (.tmp 29) rfl _ n (ibL (l.take j)) op rfl HG3 _ rfl rfl (by omega) ?_
        intro g4 c4 W4 HG4 HS4
        have hgg : g4 ≠ g := by
          intro e
          rcases HS4.out.new g4 rfl with h | h
          · have h1 := (HG.out.own.lt g4 h).2
            have h2 := HGB.out
            have h3 := HKx.out.size
            omega
          · have h2 := World.block_lt_of_cell? W3 _ HC0.out
            simp only at h2
            omega
        have HD0 := hideI (HS4.out.kept.cell HC0.out (fun f => by
          have h1 := (HG.out.own.lt g f).2
          have h2 := HGB.out
          have h3 := HKx.out.size
          omega))
        have HD1 := hideI (HS4.out.kept.cell HC1.out (fun f => by
          have h1 := (HG.out.own.lt g f).2
          have h2 := HGB.out
          have h3 := HKx.out.size
          omega))
        clear y0 y1 y2 HC0 HC1 HG3 HK3 HXx HKx
        have HGV := hideI hgg
        clear hgg
        generalize hv4 : (Value.slice (some ⟨g4, 0, none⟩) (n + 1) c4) = v4 at *
        have HOB : Hid (v4.ownBlock = some g4) := hideI (by rw [← hv4]; rfl)
        clear hv4
        obtain ⟨wr0, hwr0⟩ : ∃ wr0, wr0 = wr := ⟨_, rfl⟩
        clear hwr0
        go_wp2
        go_loopw [4, 33] (fun u4 u33 wr => ∃ (i n' : Nat) (vb : Value), i ≤ m ∧ u33 = .int .i64 i ∧ u4 = vb ∧ Hid (n' = (ibL (l.take j) ++ [op] ++ ((ops.take i).map uvb).flatten).length) ∧ Hid (Gro w wr 5 1 vb n' (bs (ibL (l.take j) ++ [op] ++ ((ops.take i).map uvb).flatten))) ∧ Hid (GStepI W4 wr v4 vb)) (fun _ u33 _ => m - (intOf u33).toNat)
        case atStart => exact ⟨0, n + 1, _, by omega, rfl, rfl, hideI (by simp [HN.out]), hideI (by simpa using HG4.out), hideI (GStepI.refl _ _)⟩
        case round =>
          obtain ⟨i, n', vb, hi, rfl, rfl, HN2, HGi, HSi⟩ := hrel
          by_cases hlt2 : i < m
          · have hii : (i : Int) < (m : Int) := by omega
            have hil : i < ops.length := by rw [HXL.out]; exact hlt2
            have HSN2 := hideI (ops_snoc hil)
            have hv : ops[i] < 18446744073709551616 := by
              rw [HAT.out i hlt2 hil]
              split
              · exact HOx.out.ha
              · exact HOx.out.hb
            have hcell : wr.cell? ⟨g, i, none⟩ = some (.int .u64 (ops[i] : Nat)) := by
              rw [HAT.out i hlt2 hil]
              have hn2 : i < 2 := by omega
              have hF : ¬ (v4.ownBlock = some g) := by rw [HOB.out]; intro e; exact HGV.out (Option.some.inj e)
              match i, hn2 with
              | 0, _ => exact HSi.out.kept.cell HD0.out hF
              | 1, _ => exact HSi.out.kept.cell HD1.out hF
            have hn3 : n' ≤ n + 31 := by
              have h1 := HN2.out
              have h2 : (((ops.take i).map uvb).flatten).length ≤ 10 * i := by
                have q : ∀ i, i ≤ ops.length → (((ops.take i).map uvb).flatten).length ≤ 10 * i := by
                  intro i
                  induction i with
                  | zero => intro _; simp
                  | succ i ih =>
                    intro hle
                    rw [ops_snoc (show i < ops.length by omega), List.length_append]
                    have := ih (by omega)
                    have := ulen_10 (n := ops[i]) (by
                      rw [HAT.out i (by rw [← HXL.out]; omega) (by omega)]
                      split
                      · exact HOx.out.ha
                      · exact HOx.out.hb)
                    omega
                exact q i (by omega)
              have h3 := HN.out
              rw [List.length_append, List.length_append] at h1
              simp at h1
              simp at h2
              omega
            generalize ops[i] = u at *
            have HU := hideI (duv_anyI u wr hv)
            have hul := ulen_10 hv
            have hup : 0 < (uvb u).length := by rw [uvb_length]; have := (ulen_le u (by simpa using hv)).1; omega
            clear hv
            go_wp2_with (first
              | (go_at_call 48; refine HU.out.mono ?_; clear HU; rintro e W6 ⟨g6, c6, rfl, hG6⟩; have HB6 := hideI (gro_bytesI hG6).1; have HGr := hideI (HGi.out.later hG6.kept); have HSr := hideI (HSi.out.later hG6.kept); clear hG6)
              | (at_builtin; refine StpQI.go ?_))
            refine ⟨?_⟩
            refine wpList_catBI rfl (.tmp 37) (.tmp 39) rfl _ n' _ (uvb u) rfl HGr (some ⟨g6, 0, none⟩) (uvb u).length c6 rfl rfl HB6 hup (by omega) ?_
            intro g7 c7 W7 HG7 HS7
            go_wp2
            go_roundw
            case rel => exact ⟨i + 1, n' + (uvb u).length, _, hlt2, by go_num, rfl, hideI (by rw [HN2.out, HSN2.out]; simp; omega), hideI (by rw [HSN2.out]; simpa [List.append_assoc] using HG7.out), hideI (HSr.out.trans HS7.out)⟩
            case measure => simp [intOf]; omega
          · obtain rfl : i = m := by omega
            have hT2 : ops.take i = ops := List.take_of_length_le (by rw [HXL.out]; exact Nat.le_refl _)
            rw [hT2] at HGi HN2
            have HE : Hid (ibL (l.take j) ++ [op] ++ (ops.map uvb).flatten = ibL (l.take (j + 1))) := hideI (by rw [HSN.out, HIB.out]; simp)
            rw [HE.out] at HGi HN2
            go_wp2
            go_roundw
            case rel => exact ⟨j + 1, n', _, hlt, by go_num, rfl, HN2, HGi, HAn2⟩
            case measure => simp [intOf]; omega
    · obtain rfl : j = nl := by omega
      have hT : l.take j = l := List.take_of_length_le (by rw [HNL.out]; exact Nat.le_refl _)
      rw [hT] at HG HN
      have HAll : Hid (∀ x ∈ l, okI x = true) := hideI (fun x hx => by
        obtain ⟨k, hk, rfl⟩ := List.mem_iff_getElem.1 hx
        exact HA.out k hk (by rw [HNL.out]; exact hk))
      obtain ⟨a', c', rfl⟩ := HG.out.shape
      go_wp2
      go_ret2
      have hn := HN.out
      subst hn
      exact ⟨fun _ => ⟨a', c', rfl, HG.out⟩, fun h => absurd HAll.out h, HG.out.kept⟩
end Go.Proofs.YtiebmmpnmklpnaaDoor
