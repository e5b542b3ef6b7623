import Derived.Test.YtcanbhbhdgogoaaDoorDrf
import Derived.Test.YtcanbhbhdgogoaaDoorDbb
namespace Go.Proofs.YtcanbhbhdgogoaaDoor
open Go.ChangeShapes Go.WideShapes Go.ChangeAt Go.RowKit

theorem Dct.kept {w w' : World} {ws bd : Nat} {va : Value} {E : List En} (h : Dct w ws bd va E) (k : Kept (fun _ => False) w w') : Dct w' ws bd va E :=
  ⟨k.heap h.blk (fun f => f), k.row h.own (fun _ _ f => f), h.new⟩
theorem Dct.cell {w : World} {ws bd : Nat} {va : Value} {E : List En} (h : Dct w ws bd va E) : w.cell? ⟨bd, 0, none⟩ = some va := cell_of_one h.blk
theorem Dct.shape {w : World} {ws bd : Nat} {va : Value} {E : List En} (h : Dct w ws bd va E) : ∃ a c, va = .slice a E.length c := row_shape h.own
theorem Dct.key {w : World} {ws bd : Nat} {a : Option Addr} {n c : Nat} {E : List En} (h : Dct w ws bd (.slice a n c) E) {i : Nat} (hi : i < E.length) : ∃ g, a = some ⟨g, 0, none⟩ ∧ w.cell? ⟨g, i * 5, none⟩ = some (.string (E[i]).k) ∧ w.cell? ⟨g, i * 5 + 1, none⟩ = some (.int .i64 (E[i]).d) ∧ w.cell? ⟨g, i * 5 + 2, none⟩ = some (.int .i64 (E[i]).t) ∧ w.cell? ⟨g, i * 5 + 3, none⟩ = some (.int .i64 (E[i]).p) ∧ w.cell? ⟨g, i * 5 + 4, none⟩ = some (.int .i64 (E[i]).s) := by
  obtain ⟨a', c', e⟩ := h.shape
  simp only [Value.slice.injEq] at e
  obtain ⟨rfl, rfl, rfl⟩ := e
  obtain ⟨b, off, e, hc⟩ := es_of_own h.own rfl (by intro e; rw [e] at hi; simp at hi)
  rcases h.own.2 with ⟨e2, _⟩ | ⟨g, cap, cur, e2, _⟩
  · injection e2 with e2 e3 e4
    omega
  · have ea : a = some ⟨g, 0, none⟩ := by injection e2
    rw [ea] at e
    simp only [Option.some.injEq, Addr.mk.injEq, and_true] at e
    obtain ⟨rfl, rfl⟩ := e
    have := hc i hi
    rw [Nat.zero_add] at this
    exact ⟨g, ea, this⟩
theorem len_any (w : World) (ws bd : Nat) (va : Value) (E : List En) (h : Dct w ws bd va E) : Calls Tryd.prog 18 #[.pointer (some ⟨bd, 0, none⟩)] w fun e w' => e = .returned (.int .i64 E.length) ∧ w' = w := by
  have hc := h.cell
  obtain ⟨a, c, rfl⟩ := h.shape
  clear h
  generalize E.length = n at *
  go_enter Tryd.func18, Tryd.ntmps18
  go_wp2
  go_ret
  exact ⟨rfl, rfl⟩
theorem geq_strD (t : TypeId) (a b : ByteArray) : binOp .geq t (.string a) (.string b) = pure (.bool !(Op.bytesLess a.toList b.toList)) := by simp [binOp, Op.stringOp]
set_option maxRecDepth 20000 in
set_option maxHeartbeats 2000000 in
theorem seek_cl (x : ByteArray) (bp bx i bd g n c : Nat) (k : ByteArray) (W : World) (hp : W.cell? ⟨bp, 0, none⟩ = some (.pointer (some ⟨bd, 0, none⟩))) (hx : W.cell? ⟨bx, 0, none⟩ = some (.string x)) (hd : W.cell? ⟨bd, 0, none⟩ = some (.slice (some ⟨g, 0, none⟩) n c)) (hk : W.cell? ⟨g, i * 5, none⟩ = some (.string k)) (hi : i < n) :
    Calls Tryd.prog 62 #[.int .i64 i, .pointer (some ⟨bp, 0, none⟩), .pointer (some ⟨bx, 0, none⟩)] W fun e w' => e = .returned (.bool (!klt k x)) ∧ ∃ q, w' = W.drewN q := by
  have g1 := geq_strD 9 k x
  have hkl : Op.bytesLess k.toList x.toList = klt k x := rfl
  rw [hkl] at g1
  generalize klt k x = B at *
  have hiz : (i : Int) < (n : Int) := by omega
  clear hkl
  go_enter Tryd.func62, Tryd.ntmps62
  go_wp2_with fail
  go_quiet (fail)
  go_wp2
  go_ret
  exact ⟨rfl, _, rfl⟩
set_option maxRecDepth 20000 in
set_option maxHeartbeats 2000000 in
theorem seek_search (n bp bx : Nat) (pr : Nat → Bool) (w : World) (hn : n ≤ 1099511627776) (hc : ∀ q i : Nat, i < n → Calls Tryd.prog 62 #[.int .i64 i, .pointer (some ⟨bp, 0, none⟩), .pointer (some ⟨bx, 0, none⟩)] (w.drewN q) fun e w' => e = .returned (.bool (pr i)) ∧ ∃ q', w' = (w.drewN q).drewN q') :
    Calls Tryd.prog 61 #[.int .i64 n, .func (.func 62) #[] #[.pointer (some ⟨bp, 0, none⟩), .pointer (some ⟨bx, 0, none⟩)]] w fun e w' => ∃ r q : Nat, e = .returned (.int .i64 r) ∧ w' = w.drewN q ∧ r ≤ n ∧ (r = 0 ∨ pr (r - 1) = false) ∧ (r = n ∨ pr r = true) := by
  have HC : ∀ q i : Nat, i < n → Hid (Calls Tryd.prog 62 (#[.int .i64 i] ++ #[.pointer (some ⟨bp, 0, none⟩), .pointer (some ⟨bx, 0, none⟩)]) (w.drewN q) fun e w' => e = .returned (.bool (pr i)) ∧ ∃ q', w' = (w.drewN q).drewN q') := fun q i hi => hc q i hi
  clear hc
  go_enter Tryd.func61, Tryd.ntmps61
  go_wp2
  go_loopw [5, 6] (fun s5 s6 wr => ∃ (lo hi q : Nat), lo ≤ hi ∧ hi ≤ n ∧ s5 = .int .i64 lo ∧ s6 = .int .i64 hi ∧ wr = w.drewN q ∧ Hid (lo = 0 ∨ pr (lo - 1) = false) ∧ Hid (hi = n ∨ pr hi = true)) (fun s5 s6 _ => (intOf s6).toNat - (intOf s5).toNat)
  case atStart => exact ⟨0, n, 0, by omega, by omega, rfl, rfl, rfl, Or.inl rfl, Or.inl rfl⟩
  case round =>
    obtain ⟨lo, hi, q, hlh, hh, rfl, rfl, rfl, H1, H2⟩ := hrel
    by_cases hlt : lo < hi
    · have hc := HC q ((lo + hi) / 2) (by omega)
      obtain ⟨m, hm⟩ : ∃ m, m = (lo + hi) / 2 := ⟨_, rfl⟩
      rw [← hm] at hc
      have em : ((lo : Int) + (hi : Int)) / 2 = (m : Int) := by omega
      have m1 : lo ≤ m := by omega
      have m2 : m < hi := by omega
      clear hm HC
      cases hb : pr m with
      | false =>
        rw [hb] at hc
        have HB := hideQ hb
        clear hb
        go_wp2_with (go_at_call 62; refine hc.out.mono ?_; rintro e w' ⟨rfl, q', rfl⟩)
        go_roundw
        case rel => exact ⟨m + 1, hi, q + q', by omega, by omega, by go_num, rfl, rfl, Or.inr (by rw [Nat.add_sub_cancel]; exact HB.out), H2⟩
        case measure => simp [intOf]; omega
      | true =>
        rw [hb] at hc
        have HB := hideQ hb
        clear hb
        go_wp2_with (go_at_call 62; refine hc.out.mono ?_; rintro e w' ⟨rfl, q', rfl⟩)
        go_roundw
        case rel => exact ⟨lo, m, q + q', by omega, by omega, rfl, by go_num, rfl, H1, Or.inr HB.out⟩
        case measure => simp [intOf]; omega
    · obtain rfl : hi = lo := by omega
      go_wp2
      go_ret
      exact ⟨hi, q, rfl, rfl, hh, H1.out, H2.out⟩
def kat (E : List En) (i : Nat) : ByteArray := match E[i]? with | some e => e.k | none => ByteArray.empty
theorem kat_at {E : List En} {i : Nat} (h : i < E.length) : kat E i = (E[i]).k := by unfold kat; rw [List.getElem?_eq_getElem h]
/-- Where a key is sought. -/
def Skd (E : List En) (x : ByteArray) (r : Nat) : Prop := r ≤ E.length ∧ (r = 0 ∨ klt (kat E (r - 1)) x = true) ∧ (r = E.length ∨ klt (kat E r) x = false)
set_option maxRecDepth 20000 in
set_option maxHeartbeats 2000000 in
theorem seek_any (x : ByteArray) (w : World) (ws bd : Nat) (va : Value) (E : List En) (h : Dct w ws bd va E) (hn : E.length ≤ 1099511627776) : Calls Tryd.prog 37 #[.pointer (some ⟨bd, 0, none⟩), .string x] w fun e w' => (∃ r : Nat, e = .returned (.int .i64 r) ∧ Skd E x r) ∧ Kept (fun _ => False) w w' := by
  have hmf : ∀ (fn : Fn) (first cap : Array Value) (w : World), (Instr.makeFunc fn first cap).run Tryd.prog w = .ok (.func fn first cap) w := fun _ _ _ _ => rfl
  obtain ⟨a, c, rfl⟩ := h.shape
  have KA := (Kept.alloc w (.cells #[.pointer (some ⟨bd, 0, none⟩)] 38)).trans (Kept.alloc (w.alloc (.cells #[.pointer (some ⟨bd, 0, none⟩)] 38)) (.cells #[.string x] 9)) (fun _ f => f.elim)
  have HD := h.kept KA
  have hc := HD.cell
  have x0 : ((w.alloc (.cells #[.pointer (some ⟨bd, 0, none⟩)] 38)).alloc (.cells #[.string x] 9)).cell? ⟨w.heap.size, 0, none⟩ = some (.pointer (some ⟨bd, 0, none⟩)) := (Kept.alloc (w.alloc (.cells #[.pointer (some ⟨bd, 0, none⟩)] 38)) (.cells #[.string x] 9)).cell (by simp) (fun f => f)
  have x1 : ((w.alloc (.cells #[.pointer (some ⟨bd, 0, none⟩)] 38)).alloc (.cells #[.string x] 9)).cell? ⟨w.heap.size + 1, 0, none⟩ = some (.string x) := by simp
  have CS := hideQ (seek_search E.length w.heap.size (w.heap.size + 1) (fun i => !klt (kat E i) x) ((w.alloc (.cells #[.pointer (some ⟨bd, 0, none⟩)] 38)).alloc (.cells #[.string x] 9)) hn (fun q i hi => by
    obtain ⟨g, rfl, hk, -⟩ := HD.key hi
    rw [kat_at hi]
    exact seek_cl x w.heap.size (w.heap.size + 1) i bd g E.length c _ _ x0 x1 hc hk hi))
  have HK := hideQ KA
  clear KA HD h
  obtain ⟨n, hne⟩ : ∃ n, n = E.length := ⟨_, rfl⟩
  rw [← hne] at CS hc hn
  have HN := hideQ hne
  clear hne
  go_enter Tryd.func37, Tryd.ntmps37
  go_wp2_with (go_at_call 61; refine CS.out.mono ?_; clear CS; rintro e w' ⟨r, q, rfl, rfl, h1, h2, h3⟩)
  go_ret
  refine ⟨⟨r, rfl, by rw [← HN.out]; exact h1, h2.imp id (fun e => by simpa using e), ?_⟩, HK.out.trans (Kept.drewN _ _) (fun _ f => f.elim)⟩
  rw [← HN.out]
  exact h3.imp id (fun e => by simpa using e)
theorem neq_strD (t : TypeId) (a b : ByteArray) : binOp .neq t (.string a) (.string b) = pure (.bool !(a.toList == b.toList)) := by simp [binOp, Op.stringOp]
theorem toList_eqD {a b : ByteArray} : (a.toList == b.toList) = decide (a = b) := by
  by_cases h : a = b
  · subst h; simp
  · rw [decide_eq_false h, beq_eq_false_iff_ne]
    intro e
    rw [ByteArray.toList_eq, ByteArray.toList_eq] at e
    exact h (ByteArray.ext (Array.toList_inj.1 e))
/-- What Find tells. -/
def Fnd (E : List En) (x : ByteArray) (i : Nat) (b : Bool) : Prop := ∃ r, Skd E x r ∧ ((b = true ∧ r < E.length ∧ kat E r = x ∧ i = r) ∨ (b = false ∧ i = 0 ∧ (r = E.length ∨ ¬ kat E r = x)))
set_option maxRecDepth 20000 in
set_option maxHeartbeats 4000000 in
theorem find_any (x : ByteArray) (w : World) (ws bd : Nat) (va : Value) (E : List En) (h : Dct w ws bd va E) (hn : E.length ≤ 1099511627776) : Calls Tryd.prog 17 #[.pointer (some ⟨bd, 0, none⟩), .string x] w fun e w' => (∃ (i : Nat) (b : Bool), e = .returned (.tuple #[.int .i64 i, .bool b]) ∧ Fnd E x i b) ∧ Kept (fun _ => False) w w' := by
  have CS := hideQ (seek_any x w ws bd va E h hn)
  obtain ⟨a, c, rfl⟩ := h.shape
  have HD := hideQ h
  obtain ⟨n, hne⟩ : ∃ n, n = E.length := ⟨_, rfl⟩
  rw [← hne] at HD hn
  clear h
  go_enter Tryd.func17, Tryd.ntmps17
  go_wp2_with fail
  go_at_call 37
  refine CS.out.mono ?_
  rintro e W1 ⟨⟨r, rfl, hr⟩, K1⟩
  clear CS
  have hrn : r ≤ n := by rw [hne]; exact hr.1
  have HD1 := HD.out.kept K1
  have hc := HD1.cell
  by_cases hrE : r = n
  · have HF : Hid (Fnd E x 0 false) := hideQ ⟨r, hr, .inr ⟨rfl, rfl, .inl (hrE.trans hne)⟩⟩
    have h1 : ((r : Int) == (n : Int)) = true := by rw [hrE]; simp
    clear hr HD1 hne hrE HD
    go_wp2
    go_ret2
    exact ⟨⟨0, false, rfl, HF.out⟩, K1⟩
  · have hrl : r < E.length := by omega
    have hrz : (r : Int) < (n : Int) := by omega
    have h1 : ((r : Int) == (n : Int)) = false := by rw [beq_eq_false_iff_ne]; omega
    obtain ⟨g, rfl, hk, -⟩ := HD1.key hrl
    rw [← kat_at hrl] at hk
    have g1 := neq_strD 9 (kat E r) x
    rw [toList_eqD] at g1
    by_cases hkx : kat E r = x
    · have HF : Hid (Fnd E x r true) := hideQ ⟨r, hr, .inl ⟨rfl, hrl, hkx, rfl⟩⟩
      rw [decide_eq_true hkx] at g1
      generalize kat E r = k at *
      clear hr HD1 hne hrE HD hrl hkx
      go_wp2
      go_ret2
      exact ⟨⟨r, true, rfl, HF.out⟩, K1⟩
    · have HF : Hid (Fnd E x 0 false) := hideQ ⟨r, hr, .inr ⟨rfl, rfl, .inr hkx⟩⟩
      rw [decide_eq_false hkx] at g1
      generalize kat E r = k at *
      clear hr HD1 hne hrE HD hrl hkx
      go_wp2
      go_ret2
      exact ⟨⟨0, false, rfl, HF.out⟩, K1⟩
end Go.Proofs.YtcanbhbhdgogoaaDoor
