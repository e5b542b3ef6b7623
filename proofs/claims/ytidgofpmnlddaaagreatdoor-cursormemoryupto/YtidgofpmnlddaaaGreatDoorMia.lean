import Derived.Test.YtidgofpmnlddaaaGreatDoorPda
import Derived.Laws.MakeOwn
import Derived.Laws.AppendOwnNone
import Derived.BigQuiet
import Derived.OrdersHeld
import Derived.Deep.RegionWith
namespace Go.Proofs.YtidgofpmnlddaaaGreatDoor
open Go.ChangeShapes Go.WideShapes Go.ChangeAt Go.RowKit

/-- What Mark answers hangs on its two numbers alone. -/
def MarkI (mk : Nat → Nat → Int) : Prop := ∀ (i j : Nat), i < 281474976710656 → j < 281474976710656 → ∀ w, Calls Tryz.prog 25 #[.int .i64 i, .int .i64 j] w fun e w' => e = .returned (.int .i64 (mk i j)) ∧ w' = w
set_option maxRecDepth 20000 in
set_option maxHeartbeats 1000000 in
theorem markI_one (i j : Nat) (hi : i < 281474976710656) (hj : j < 281474976710656) : ∃ m : Int, ∀ w, Calls Tryz.prog 25 #[.int .i64 i, .int .i64 j] w fun e w' => e = .returned (.int .i64 m) ∧ w' = w := by
  apply Exists.intro
  case h =>
    intro w
    go_enter Tryz.func25, Tryz.ntmps25
    go_wp2
    go_ret
    exact ⟨rfl, rfl⟩
theorem markI_fun : ∃ mk, MarkI mk := by
  have h : ∀ i j : Nat, ∃ m : Int, i < 281474976710656 → j < 281474976710656 → ∀ w, Calls Tryz.prog 25 #[.int .i64 i, .int .i64 j] w fun e w' => e = .returned (.int .i64 m) ∧ w' = w := by
    intro i j
    by_cases hi : i < 281474976710656
    · by_cases hj : j < 281474976710656
      · obtain ⟨m, hm⟩ := markI_one i j hi hj
        exact ⟨m, fun _ _ => hm⟩
      · exact ⟨0, fun _ h => (hj h).elim⟩
    · exact ⟨0, fun h => (hi h).elim⟩
  exact ⟨fun i j => Classical.choose (h i j), fun i j hi hj w => Classical.choose_spec (h i j) hi hj w⟩
/-- A mark's byte. -/
def mib (mk : Nat → Nat → Int) (i j : Nat) : Int := mk i j % 256
theorem mib_byte (mk : Nat → Nat → Int) (i j : Nat) : 0 ≤ mib mk i j ∧ mib mk i j ≤ 255 := by unfold mib; omega
def mibs (mk : Nat → Nat → Int) (i n : Nat) : List Int := (List.range n).map (mib mk i)
theorem mibs_length (mk : Nat → Nat → Int) (i n : Nat) : (mibs mk i n).length = n := by simp [mibs]
theorem mibs_succ (mk : Nat → Nat → Int) (i n : Nat) : mibs mk i (n + 1) = mibs mk i n ++ [mib mk i n] := by simp [mibs, List.range_succ]
theorem mibs_get (mk : Nat → Nat → Int) (i n j : Nat) (h : j < n) : (mibs mk i n)[j]?.getD 0 = mib mk i j := by simp [mibs, h]
theorem mibs_bytes (mk : Nat → Nat → Int) (i n : Nat) : IsBytes (mibs mk i n) := by
  intro x hx
  obtain ⟨j, _, rfl⟩ := List.mem_map.1 hx
  exact mib_byte mk i j

def mis (mk : Nat → Nat → Int) (i n : Nat) : List Int := (List.range n).map (mk i)
theorem mis_length (mk : Nat → Nat → Int) (i n : Nat) : (mis mk i n).length = n := by simp [mis]
theorem mis_succ (mk : Nat → Nat → Int) (i n : Nat) : mis mk i (n + 1) = mis mk i n ++ [mk i n] := by simp [mis, List.range_succ]
theorem mis_get (mk : Nat → Nat → Int) (i n j : Nat) (h : j < n) : (mis mk i n)[j]?.getD 0 = mk i j := by simp [mis, h]
theorem is_lenM (l : List Int) : (is l).length = l.length := List.length_map ..
theorem is_appM (a b : List Int) : is (a ++ b) = is a ++ is b := List.map_append
theorem is_oneM (l : List Int) : ∀ u ∈ is l, u.oneCell' = true := by
  intro u hu
  obtain ⟨x, _, rfl⟩ := List.mem_map.1 hu
  rfl
theorem ints_cellsM {W : World} {b off : Nat} {l : List Int} (h : ∀ k, k < l.length → W.cell? ⟨b, off + k, none⟩ = some (.int .i64 (l[k]?.getD 0))) : ∀ j u, (is l)[j]? = some u → W.cell? ((⟨b, off, none⟩ : Addr).add j) = some u := by
  intro j u hu
  unfold is at hu
  rw [List.getElem?_map] at hu
  rcases Nat.lt_or_ge j l.length with q | q
  · rw [List.getElem?_eq_getElem q] at hu
    simp only [Option.map_some, Option.some.injEq] at hu
    have := h j q
    rw [List.getElem?_eq_getElem q] at this
    rw [Go.WideShapes.add_plain, this, ← hu]
    rfl
  · rw [List.getElem?_eq_none q] at hu
    cases hu
/-- 'append(s, x...)', x empty or not. -/
theorem wpList_catY {w0 W : World} {ops : Array Oper} {rest : List Oper} {o : Oper} {act : Act} {Q : Exit → Act → World → Prop} (hgd : o.guard = none) (s x : Operand) (t : TypeId)
    (ho : o.op = .call { callee := .builtin .append, args := #[s, x], argTypes := #[t, t] }) (e : TypeId) (i : TypeInfo) (z : Value) (size bytes : Nat)
    (ht : Tryz.prog.underlying t = some (.slice e)) (hi : Tryz.prog.info? e = some i) (hz : i.zero = some z) (hsize : i.size = size) (hby : i.bytes = bytes) (hzs : z.cells.size = size) (hsz : 0 < size)
    (v : Value) (n : Nat) (xs news : List Value) (hs : act.eval s = v) (hG : Hid (Gro w0 W e size v n xs)) (ad : Option Addr) (m c : Nat) (hx : act.eval x = .slice ad m c)
    (hl : news.length = m * size) (hc : ∀ p, ad = some p → ∀ j u, news[j]? = some u → W.cell? (p.add j) = some u) (h1 : ∀ u ∈ news, u.oneCell' = true) (h0 : ad = none → m = 0 ∧ c = 0) (hb : (n + m) * bytes ≤ 140737488355328) (h63 : n + m ≤ maxLen)
    (h : ∀ a' c' W', Hid (Gro w0 W' e size (.slice a' (n + m) c') (n + m) (xs ++ news)) → Hid (GStep W W' v (.slice a' (n + m) c')) → wpList Tryz.prog ops Q rest (act.put o.dst (.slice a' (n + m) c')) W') : wpList Tryz.prog ops Q (o :: rest) act W := by
  cases ad with
  | none =>
    obtain ⟨rfl, rfl⟩ := h0 rfl
    obtain rfl : news = [] := List.eq_nil_of_length_eq_zero (by rw [hl]; simp)
    obtain ⟨a', c', rfl⟩ := hG.out.shape
    refine wpList_append_own_none hgd s x t ho w0.heap.size e i size ht hi _ n xs hs hG.out.own hx ?_
    have := h a' c' W (hideP (by rw [List.append_nil]; exact hG.out)) (hideP (GStep.refl _ _))
    exact this
  | some p =>
    refine wpList_append_own_at W hgd s x t ho w0.heap.size e i z size bytes ht hi hz hsize hby hzs hsz v n xs hs hG.out.own p m c news hx hl (hc p rfl) h1 h63 hb hG.out.kept.size ?_
    intro v' w1 ho1 hg1 _ hat
    have G1 : Gro w0 w1 e size v' (n + m) (xs ++ news) := ⟨ho1, hG.out.kept.trans (Kept.grown hg1) (fun i hi => .inr (hG.out.own.lt i hi).1)⟩
    obtain ⟨a', c', rfl⟩ := G1.shape
    refine h a' c' w1 (hideP G1) (hideP ⟨Kept.grown hg1, fun k hk => ?_⟩)
    rcases hat with q | q
    · exact .inl (by rw [← q]; exact hk)
    · rw [q] at hk
      exact .inr (by simp only [Option.some.injEq] at hk; omega)
/-- of bytes. -/
theorem wpList_catYB {w0 W : World} {ops : Array Oper} {rest : List Oper} {o : Oper} {act : Act} {Q : Exit → Act → World → Prop} (hgd : o.guard = none) (s x : Operand)
    (ho : o.op = .call { callee := .builtin .append, args := #[s, x], argTypes := #[26, 26] }) (v : Value) (n : Nat) (xs ys : List Int) (hs : act.eval s = v) (hG : Hid (Gro w0 W 5 1 v n (bs xs))) (a : Option Addr) (m c : Nat) (hx : act.eval x = .slice a m c) (hm : Hid (m = ys.length)) (hB : Hid (BytesAt W a ys)) (h0 : Hid (a = none → c = 0)) (hb : n + m ≤ 70368744177664)
    (h : ∀ a' c' W', Hid (Gro w0 W' 5 1 (.slice a' (n + m) c') (n + m) (bs (xs ++ ys))) → Hid (GStep W W' v (.slice a' (n + m) c')) → wpList Tryz.prog ops Q rest (act.put o.dst (.slice a' (n + m) c')) W') : wpList Tryz.prog ops Q (o :: rest) act W := by
  obtain ⟨i0, hi, hz0, hz1, hz2⟩ := info_partsP Tryz.infoB
  rw [bs_append] at h
  refine wpList_catY hgd s x 26 ho 5 i0 (.int .u8 0) 1 1 Tryz.underlying26 hi hz0 hz1 hz2 rfl (by decide) v n (bs xs) (bs ys) hs hG a m c hx (by rw [bs_length, hm.out, Nat.mul_one]) ?_ (bs_one _) ?_ (by omega) (by unfold maxLen; omega) h
  · rintro p rfl j u hu
    have hne : ys ≠ [] := by rintro rfl; simp [bs] at hu
    obtain ⟨b, off, e, hc⟩ := hB.out hne
    cases e
    exact BytesAt.cells hc j u hu
  · rintro rfl
    refine ⟨?_, h0.out rfl⟩
    rw [hm.out]
    cases ys with
    | nil => rfl
    | cons y r => obtain ⟨b, off, e, _⟩ := hB.out (by simp); cases e
/-- of numbers. -/
theorem wpList_catYI {w0 W : World} {ops : Array Oper} {rest : List Oper} {o : Oper} {act : Act} {Q : Exit → Act → World → Prop} (hgd : o.guard = none) (s x : Operand)
    (ho : o.op = .call { callee := .builtin .append, args := #[s, x], argTypes := #[24, 24] }) (v : Value) (n : Nat) (xs ys : List Int) (hs : act.eval s = v) (hG : Hid (Gro w0 W 3 1 v n (is xs))) (a : Option Addr) (m c : Nat) (hx : act.eval x = .slice a m c) (hm : Hid (m = ys.length)) (hB : Hid (IntsAt W a ys)) (h0 : Hid (a = none → c = 0)) (hb : n + m ≤ 8796093022208)
    (h : ∀ a' c' W', Hid (Gro w0 W' 3 1 (.slice a' (n + m) c') (n + m) (is (xs ++ ys))) → Hid (GStep W W' v (.slice a' (n + m) c')) → wpList Tryz.prog ops Q rest (act.put o.dst (.slice a' (n + m) c')) W') : wpList Tryz.prog ops Q (o :: rest) act W := by
  obtain ⟨i0, hi, hz0, hz1, hz2⟩ := info_partsP Tryz.infoI
  rw [is_appM] at h
  refine wpList_catY hgd s x 24 ho 3 i0 (.int .i64 0) 1 8 Tryz.underlying24 hi hz0 hz1 hz2 rfl (by decide) v n (is xs) (is ys) hs hG a m c hx (by rw [is_lenM, hm.out, Nat.mul_one]) ?_ (is_oneM _) ?_ (by omega) (by unfold maxLen; omega) h
  · rintro p rfl j u hu
    have hne : ys ≠ [] := by rintro rfl; simp [is] at hu
    obtain ⟨b, off, e, hc⟩ := hB.out hne
    cases e
    exact ints_cellsM hc j u hu
  · rintro rfl
    refine ⟨?_, h0.out rfl⟩
    rw [hm.out]
    cases ys with
    | nil => rfl
    | cons y r => obtain ⟨b, off, e, _⟩ := hB.out (by simp); cases e
theorem gro_intsM {w0 w : World} {a : Option Addr} {n c : Nat} {l : List Int} (h : Gro w0 w 3 1 (.slice a n c) n (is l)) : IntsAt w a l ∧ n = l.length ∧ n ≤ c ∧ (a = none → c = 0) := by
  have hn : n = l.length := by have := h.own.1; rw [is_lenM] at this; omega
  rcases h.own.2 with ⟨e1, e2⟩ | ⟨g, cap, cur, e1, hg, hh, hnc, _⟩
  · simp only [Value.slice.injEq] at e1
    obtain ⟨rfl, rfl, rfl⟩ := e1
    exact ⟨fun hne => absurd (List.eq_nil_of_length_eq_zero hn.symm) hne, hn, Nat.le_refl _, fun _ => rfl⟩
  · simp only [Value.slice.injEq] at e1
    obtain ⟨rfl, _, rfl⟩ := e1
    refine ⟨fun _ => ⟨g, 0, rfl, fun k hk => ?_⟩, hn, hnc, fun e => by cases e⟩
    have q0 := h.own.cells (g := g) rfl k (.int .i64 (l[k]?.getD 0)) (by unfold is; rw [List.getElem?_map, List.getElem?_eq_getElem hk]; simp)
    rw [Go.WideShapes.add_plain] at q0
    exact q0
theorem gro_capM {w0 w : World} {e : TypeId} {a : Option Addr} {n c : Nat} {xs : List Value} (h : Gro w0 w e 1 (.slice a n c) n xs) (hn : 0 < n) : ∃ g, a = some ⟨g, 0, none⟩ ∧ n ≤ c ∧ w0.heap.size ≤ g := by
  rcases h.own.2 with ⟨e1, e2⟩ | ⟨g, cap, cur, e1, hg, hh, hnc, _⟩
  · omega
  · simp only [Value.slice.injEq] at e1
    obtain ⟨rfl, _, rfl⟩ := e1
    exact ⟨g, rfl, hnc, hg⟩
end Go.Proofs.YtidgofpmnlddaaaGreatDoor
