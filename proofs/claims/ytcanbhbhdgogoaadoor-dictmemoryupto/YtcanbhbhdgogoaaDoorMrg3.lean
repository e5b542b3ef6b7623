import Derived.Test.YtcanbhbhdgogoaaDoorDbf
import Derived.Test.YtcanbhbhdgogoaaDoorShl
import Derived.Test.YtcanbhbhdgogoaaDoorAnyz
import Derived.BigQuiet
namespace Go.Proofs.YtcanbhbhdgogoaaDoor
open Go.ChangeShapes Go.WideShapes Go.ChangeAt Go.RowKit

/-- How many keys of the first n lie below x. -/
def blw (E : List En) (x : ByteArray) (n : Nat) : Nat := (E.take n).countP (fun e => klt e.k x)
theorem cnt_step {p : En → Bool} {E : List En} {i : Nat} (h : i < E.length) : (E.take (i + 1)).countP p = (E.take i).countP p + if p E[i] then 1 else 0 := by
  rw [List.take_add_one, List.getElem?_eq_getElem h, List.countP_append]
  congr 1
  simp [List.countP_cons]
theorem cnt_le {p : En → Bool} (E : List En) (i : Nat) : (E.take i).countP p ≤ i := Nat.le_trans List.countP_le_length (by simp; omega)
theorem es_key {w : World} {a : Option Addr} {E : List En} (h : EsAt w a E) {i : Nat} (hi : i < E.length) : ∃ b off, a = some ⟨b, off, none⟩ ∧ w.cell? ⟨b, off + i * 5, none⟩ = some (.string E[i].k) := by
  obtain ⟨b, off, rfl, hc⟩ := h (by intro e; rw [e] at hi; simp at hi)
  exact ⟨b, off, rfl, (hc i hi).1⟩
theorem eql_strN (t : TypeId) (a b : ByteArray) : binOp .eql t (.string a) (.string b) = pure (.bool (a.toList == b.toList)) := by simp [binOp, Op.stringOp]
set_option maxRecDepth 20000 in
set_option maxHeartbeats 4000000 in
/-- The document's Seek. -/
theorem rseek_any (x : ByteArray) (E : List En) (a : Option Addr) (c : Nat) (w : World) (h : EsAt w a E) (hl : E.length ≤ 1073741824) : Calls Tryd.prog 38 #[.slice a E.length c, .string x] w fun e w' => e = .returned (.int .i64 (blw E x E.length : Nat)) ∧ w' = w := by
  have HE := hideQ h
  have HC : Hid (∀ i (hi : i < E.length), blw E x (i + 1) = blw E x i + if klt E[i].k x then 1 else 0) := hideQ (fun i hi => cnt_step hi)
  have HB : Hid (∀ i, blw E x i ≤ i) := hideQ (fun i => cnt_le E i)
  have HZ : Hid (blw E x 0 = 0) := hideQ (by simp [blw])
  obtain ⟨nl, hnl⟩ : ∃ nl, nl = E.length := ⟨_, rfl⟩
  rw [← hnl] at hl ⊢
  have HNL := hideQ hnl
  clear h hnl
  generalize blw E x = B at *
  go_enter Tryd.func38, Tryd.ntmps38
  go_wp2_with fail
  go_loopw [5, 6] (fun v5 v6 wr => ∃ (j : Nat), j ≤ nl ∧ v5 = .int .i64 (B j : Nat) ∧ v6 = .int .i64 j ∧ wr = w) (fun _ v6 _ => nl - (intOf v6).toNat)
  case atStart => exact ⟨0, by omega, by rw [HZ.out]; rfl, rfl, rfl⟩
  case round =>
    obtain ⟨j, hj, rfl, rfl, rfl⟩ := hrel
    by_cases hlt : j < nl
    · have hjj : (j : Int) < (nl : Int) := by omega
      have hjl : j < E.length := by rw [← HNL.out]; exact hlt
      obtain ⟨b, off, rfl, hc⟩ := es_key HE.out hjl
      have g1 := lss_strD 9 E[j].k x
      have hkl : Op.bytesLess E[j].k.toList x.toList = klt E[j].k x := rfl
      rw [hkl] at g1
      have HC1 := hideQ (HC.out j hjl)
      have hb := HB.out j
      have q1 : IntKind.i64.wrap ((j : Int) + 1) = (j : Int) + 1 := by rw [IntKind.wrap_i64]; omega
      have q2 : IntKind.i64.wrap ((B j : Int) + 1) = (B j : Int) + 1 := by rw [IntKind.wrap_i64]; omega
      clear hkl
      generalize klt E[j].k x = Q at *
      generalize E[j].k = k at *
      cases Q with
      | true =>
        have e1 : Hid (B (j + 1) = B j + 1) := hideQ (by rw [HC1.out]; rfl)
        clear HC1
        generalize B j = bj at *
        go_wp2_with fail
        go_roundw
        case rel => exact ⟨j + 1, hlt, by rw [e1.out]; go_num, by go_num, trivial⟩
        case measure => simp [intOf]; omega
      | false =>
        have e1 : Hid (B (j + 1) = B j) := hideQ (by rw [HC1.out]; rfl)
        clear HC1
        generalize B j = bj at *
        go_wp2_with fail
        go_roundw
        case rel => exact ⟨j + 1, hlt, by rw [e1.out], by go_num, trivial⟩
        case measure => simp [intOf]; omega
    · obtain rfl : j = nl := by omega
      go_wp2_with fail
      go_ret
      exact ⟨rfl, rfl⟩
/-- What the document's Find tells. -/
def rfPost (E : List En) (x : ByteArray) (e : Ending) : Prop :=
  (∃ i : Nat, i < E.length ∧ kat E i = x ∧ e = .returned (.tuple #[.int .i64 i, .bool true])) ∨ ((∀ i, i < E.length → ¬ kat E i = x) ∧ e = .returned (.tuple #[.int .i64 0, .bool false]))
set_option maxRecDepth 20000 in
set_option maxHeartbeats 4000000 in
/-- The document's Find. -/
theorem rfind_anyN (x : ByteArray) (E : List En) (a : Option Addr) (c : Nat) (w : World) (h : EsAt w a E) (hl : E.length ≤ 1073741824) : Calls Tryd.prog 36 #[.slice a E.length c, .string x] w fun e w' => rfPost E x e ∧ w' = w := by
  have HE := hideQ h
  have HP : Hid (∀ e, ((∃ i : Nat, i < E.length ∧ kat E i = x ∧ e = .returned (.tuple #[.int .i64 i, .bool true])) → rfPost E x e) ∧ ((∀ i, i < E.length → ¬ kat E i = x) ∧ e = .returned (.tuple #[.int .i64 0, .bool false]) → rfPost E x e)) := hideQ (fun e => ⟨.inl, .inr⟩)
  obtain ⟨nl, hnl⟩ : ∃ nl, nl = E.length := ⟨_, rfl⟩
  rw [← hnl] at hl HP ⊢
  have HNL := hideQ hnl
  clear h hnl
  generalize rfPost E x = PO at *
  go_enter Tryd.func36, Tryd.ntmps36
  go_wp2_with fail
  go_loopw [6] (fun v6 wr => ∃ (j : Nat), j ≤ nl ∧ v6 = .int .i64 j ∧ wr = w ∧ Hid (∀ i, i < j → ¬ kat E i = x)) (fun v6 _ => nl - (intOf v6).toNat)
  case atStart => exact ⟨0, by omega, rfl, rfl, hideQ (fun i hi => by omega)⟩
  case round =>
    obtain ⟨j, hj, rfl, rfl, HF⟩ := hrel
    by_cases hlt : j < nl
    · have hjj : (j : Int) < (nl : Int) := by omega
      have hjl : j < E.length := by rw [← HNL.out]; exact hlt
      obtain ⟨b, off, rfl, hc⟩ := es_key HE.out hjl
      rw [← kat_at hjl] at hc
      have g1 := eql_strN 9 (kat E j) x
      rw [toList_eqD] at g1
      have q1 : IntKind.i64.wrap ((j : Int) + 1) = (j : Int) + 1 := by rw [IntKind.wrap_i64]; omega
      by_cases hk : kat E j = x
      · have HQ := hideQ (fun e he => (HP.out e).1 ⟨j, hlt, hk, he⟩)
        rw [decide_eq_true hk] at g1
        clear hk HF HP
        generalize kat E j = k at *
        go_wp2_with fail
        go_ret2
        exact ⟨HQ.out _ rfl, rfl⟩
      · have HQ : Hid (∀ i, i < j + 1 → ¬ kat E i = x) := hideQ (fun i hi => by
          by_cases e : i = j
          · rw [e]; exact hk
          · exact HF.out i (by omega))
        rw [decide_eq_false hk] at g1
        clear hk HF
        generalize kat E j = k at *
        go_wp2_with fail
        go_roundw
        case rel => exact ⟨j + 1, hlt, by go_num, trivial, HQ⟩
        case measure => simp [intOf]; omega
    · obtain rfl : j = nl := by omega
      have HQ := hideQ (fun e he => (HP.out e).2 ⟨HF.out, he⟩)
      clear HF HP
      go_wp2_with fail
      go_ret2
      exact ⟨HQ.out _ rfl, rfl⟩
end Go.Proofs.YtcanbhbhdgogoaaDoor
namespace Go.Proofs.YtcanbhbhdgogoaaDoor
open Go.ChangeShapes Go.WideShapes Go.ChangeAt Go.RowKit

/-- Does k begin with x? -/
def hdp (k x : ByteArray) : Bool := Lib.hasPrefix k.data.toList x.data.toList
set_option maxRecDepth 20000 in
set_option maxHeartbeats 2000000 in
theorem hd_cl (x : ByteArray) (bp bf bx i f bd g n c : Nat) (k : ByteArray) (W : World) (hp : W.cell? ⟨bp, 0, none⟩ = some (.pointer (some ⟨bd, 0, none⟩))) (hf : W.cell? ⟨bf, 0, none⟩ = some (.int .i64 f)) (hx : W.cell? ⟨bx, 0, none⟩ = some (.string x)) (hd : W.cell? ⟨bd, 0, none⟩ = some (.slice (some ⟨g, 0, none⟩) n c)) (hk : W.cell? ⟨g, (f + i) * 5, none⟩ = some (.string k)) (hi : f + i < n) (hn : n ≤ 1099511627776) :
    Calls Tryd.prog 63 #[.int .i64 i, .pointer (some ⟨bp, 0, none⟩), .pointer (some ⟨bf, 0, none⟩), .pointer (some ⟨bx, 0, none⟩)] W fun e w' => e = .returned (.bool (!hdp k x)) ∧ ∃ q, w' = W.drewN q := by
  have CP : ∀ q : Nat, Hid (Calls Tryd.prog 64 #[.string k, .string x] (W.drewN q) fun e w' => e = .returned (.bool (hdp k x)) ∧ ∃ m, w' = W.drewN m) := fun q => hideQ ((Tryd.strings_HasPrefix k x _).mono (fun e w' h => ⟨h.1, q, h.2⟩))
  generalize hdp k x = B at *
  obtain ⟨m, hm⟩ : ∃ m, m = f + i := ⟨_, rfl⟩
  rw [← hm] at hi hk
  have e1 : (f : Int) + (i : Int) = (m : Int) := by omega
  have hiz : (m : Int) < (n : Int) := by omega
  clear hm
  go_enter Tryd.func63, Tryd.ntmps63
  go_wp2_with fail
  go_quiet ((exact (CP _).out))
  go_wp2
  go_ret
  exact ⟨rfl, _, rfl⟩
set_option maxRecDepth 20000 in
set_option maxHeartbeats 2000000 in
theorem hd_search (n bp bf bx : Nat) (pr : Nat → Bool) (w : World) (hn : n ≤ 1099511627776) (hc : ∀ q i : Nat, i < n → Calls Tryd.prog 63 #[.int .i64 i, .pointer (some ⟨bp, 0, none⟩), .pointer (some ⟨bf, 0, none⟩), .pointer (some ⟨bx, 0, none⟩)] (w.drewN q) fun e w' => e = .returned (.bool (pr i)) ∧ ∃ q', w' = (w.drewN q).drewN q') :
    Calls Tryd.prog 61 #[.int .i64 n, .func (.func 63) #[] #[.pointer (some ⟨bp, 0, none⟩), .pointer (some ⟨bf, 0, none⟩), .pointer (some ⟨bx, 0, none⟩)]] w fun e w' => ∃ r q : Nat, e = .returned (.int .i64 r) ∧ w' = w.drewN q ∧ r ≤ n ∧ (r = 0 ∨ pr (r - 1) = false) ∧ (r = n ∨ pr r = true) := by
  have HC : ∀ q i : Nat, i < n → Hid (Calls Tryd.prog 63 (#[.int .i64 i] ++ #[.pointer (some ⟨bp, 0, none⟩), .pointer (some ⟨bf, 0, none⟩), .pointer (some ⟨bx, 0, none⟩)]) (w.drewN q) fun e w' => e = .returned (.bool (pr i)) ∧ ∃ q', w' = (w.drewN q).drewN q') := fun q i hi => hc q i hi
  clear hc
  go_enter Tryd.func61, Tryd.ntmps61
  go_wp2
  go_loopw [5, 6] (fun s5 s6 wr => ∃ (lo hi q : Nat), lo ≤ hi ∧ hi ≤ n ∧ s5 = .int .i64 lo ∧ s6 = .int .i64 hi ∧ wr = w.drewN q ∧ Hid (lo = 0 ∨ pr (lo - 1) = false) ∧ Hid (hi = n ∨ pr hi = true)) (fun s5 s6 _ => (intOf s6).toNat - (intOf s5).toNat)
  case atStart => exact ⟨0, n, 0, by omega, by omega, rfl, rfl, rfl, Or.inl rfl, Or.inl rfl⟩
  case round =>
    obtain ⟨lo, hi, q, hlh, hh, rfl, rfl, rfl, H1, H2⟩ := hrel
    by_cases hlt : lo < hi
    · have hc := HC q ((lo + hi) / 2) (by omega)
      obtain ⟨m, hm⟩ : ∃ m, m = (lo + hi) / 2 := ⟨_, rfl⟩
      rw [← hm] at hc
      have em : ((lo : Int) + (hi : Int)) / 2 = (m : Int) := by omega
      have m1 : lo ≤ m := by omega
      have m2 : m < hi := by omega
      clear hm HC
      cases hb : pr m with
      | false =>
        rw [hb] at hc
        have HB := hideQ hb
        clear hb
        go_wp2_with (go_at_call 63; refine hc.out.mono ?_; rintro e w' ⟨rfl, q', rfl⟩)
        go_roundw
        case rel => exact ⟨m + 1, hi, q + q', by omega, by omega, by go_num, rfl, rfl, Or.inr (by rw [Nat.add_sub_cancel]; exact HB.out), H2⟩
        case measure => simp [intOf]; omega
      | true =>
        rw [hb] at hc
        have HB := hideQ hb
        clear hb
        go_wp2_with (go_at_call 63; refine hc.out.mono ?_; rintro e w' ⟨rfl, q', rfl⟩)
        go_roundw
        case rel => exact ⟨lo, m, q + q', by omega, by omega, rfl, by go_num, rfl, H1, Or.inr HB.out⟩
        case measure => simp [intOf]; omega
    · obtain rfl : hi = lo := by omega
      go_wp2
      go_ret
      exact ⟨hi, q, rfl, rfl, hh, H1.out, H2.out⟩
/-- The range of the keys that begin with x. -/
def Hdd (E : List En) (x : ByteArray) (r t : Nat) : Prop := Skd E x r ∧ r ≤ t ∧ t ≤ E.length ∧ (t = r ∨ hdp (kat E (t - 1)) x = true) ∧ (t = E.length ∨ hdp (kat E t) x = false)
set_option maxRecDepth 20000 in
set_option maxHeartbeats 4000000 in
theorem heads_any (x : ByteArray) (w : World) (ws bd : Nat) (va : Value) (E : List En) (h : Dct w ws bd va E) (hn : E.length ≤ 1099511627776) : Calls Tryd.prog 39 #[.pointer (some ⟨bd, 0, none⟩), .string x] w fun e w' => (∃ r t : Nat, e = .returned (.tuple #[.int .i64 r, .int .i64 t]) ∧ Hdd E x r t) ∧ Kept (fun _ => False) w w' := by
  have hmf : ∀ (fn : Fn) (first cap : Array Value) (w : World), (Instr.makeFunc fn first cap).run Tryd.prog w = .ok (.func fn first cap) w := fun _ _ _ _ => rfl
  obtain ⟨a, c, rfl⟩ := h.shape
  have KA := (Kept.alloc w (.cells #[.pointer (some ⟨bd, 0, none⟩)] 38)).trans (Kept.alloc (w.alloc (.cells #[.pointer (some ⟨bd, 0, none⟩)] 38)) (.cells #[.string x] 9)) (fun _ f => f.elim)
  have HD := h.kept KA
  have x0 : ((w.alloc (.cells #[.pointer (some ⟨bd, 0, none⟩)] 38)).alloc (.cells #[.string x] 9)).cell? ⟨w.heap.size, 0, none⟩ = some (.pointer (some ⟨bd, 0, none⟩)) := (Kept.alloc (w.alloc (.cells #[.pointer (some ⟨bd, 0, none⟩)] 38)) (.cells #[.string x] 9)).cell (by simp) (fun f => f)
  have x1 : ((w.alloc (.cells #[.pointer (some ⟨bd, 0, none⟩)] 38)).alloc (.cells #[.string x] 9)).cell? ⟨w.heap.size + 1, 0, none⟩ = some (.string x) := by simp
  have CS := hideQ (seek_any x _ ws bd _ E HD hn)
  have HK := hideQ KA
  have HH := hideQ HD
  have HX0 := hideQ x0
  have HX1 := hideQ x1
  clear KA HD h
  obtain ⟨n, hne⟩ : ∃ n, n = E.length := ⟨_, rfl⟩
  rw [← hne] at hn HH
  have HN := hideQ hne
  clear hne
  go_enter Tryd.func39, Tryd.ntmps39
  go_wp2_with (go_at_call 37; refine CS.out.mono ?_; clear CS; rintro e W1 ⟨⟨r, rfl, hr⟩, K1⟩; have HR := hideQ hr; have HK1 := hideQ K1; clear hr K1 x0 x1)
  obtain ⟨m, hm⟩ : ∃ m, m = n - r := ⟨_, rfl⟩
  have hrn : r ≤ n := by rw [HN.out]; exact HR.out.1
  have em : (n : Int) - (r : Int) = (m : Int) := by omega
  have hm2 : m ≤ 1099511627776 := by omega
  have hrm : r + m = n := by omega
  clear hm
  have KB := Kept.alloc W1 (.cells #[.int .i64 (r : Int)] 3)
  have KC := HK1.out.trans KB (fun _ f => f.elim)
  have HDB := HH.out.kept KC
  have y0 := KC.cell HX0.out (fun f => f)
  have y1 := KC.cell HX1.out (fun f => f)
  have y2 := HDB.cell
  have y3 : (W1.alloc (.cells #[.int .i64 (r : Int)] 3)).cell? ⟨W1.heap.size, 0, none⟩ = some (.int .i64 (r : Int)) := by simp
  obtain ⟨W2, hW2⟩ : ∃ W2, W1.alloc (.cells #[.int .i64 (r : Int)] 3) = W2 := ⟨_, rfl⟩
  rw [hW2] at KC HDB y0 y1 y2 y3 ⊢
  have HKC := hideQ (HK.out.trans KC (fun _ f => f.elim))
  have CS2 : ∀ W : World, Kept (fun _ => False) W2 W → Hid (Calls Tryd.prog 61 #[.int .i64 m, .func (.func 63) #[] #[.pointer (some ⟨w.heap.size, 0, none⟩), .pointer (some ⟨W1.heap.size, 0, none⟩), .pointer (some ⟨w.heap.size + 1, 0, none⟩)]] W fun e w' => ∃ j q : Nat, e = .returned (.int .i64 j) ∧ w' = W.drewN q ∧ j ≤ m ∧ (j = 0 ∨ (fun i => !hdp (kat E (r + i)) x) (j - 1) = false) ∧ (j = m ∨ (fun i => !hdp (kat E (r + i)) x) j = true)) := fun W kW => hideQ (hd_search m w.heap.size W1.heap.size (w.heap.size + 1) (fun i => !hdp (kat E (r + i)) x) W hm2 (fun q i hi => by
    have kq := kW.trans (Kept.drewN W q) (fun _ f => f.elim)
    have hl : r + i < E.length := by rw [← HN.out]; omega
    have HDq := HDB.kept kq
    obtain ⟨g, rfl, hk, -⟩ := HDq.key hl
    rw [← kat_at hl] at hk
    exact hd_cl x _ _ _ i r bd g n c _ _ (kq.cell y0 (fun f => f)) (kq.cell y3 (fun f => f)) (kq.cell y1 (fun f => f)) HDq.cell hk (by omega) hn))
  clear KB KC HDB HX0 HX1 HH HK HK1 hW2 
  refine wp_region_held (S := fun W => Kept (fun _ => False) W2 W) (by kernel_rfl) ?_
  change wpAnyH _ _ _ _ _ _ _ _ (World.drew _)
  have hSd : Kept (fun _ => False) W2 W2.drew := Kept.drew _
  refine takeZ (i := 0) (d := 11) (v := .pointer (some ⟨bd, 0, none⟩)) rfl rfl (by kernel_rfl) (by kernel_rfl) (by kernel_rfl) (fun _ _ _ h => h) (Or.inl ⟨by rfl, fun W hW => ?_⟩) hSd ?_
  · have q0 := hW.cell y0 (fun f => f)
    have q1 := hW.cell y1 (fun f => f)
    have q2 := hW.cell y2 (fun f => f)
    have q3 := hW.cell y3 (fun f => f)
    go_simp
  try simp only [Act.put, List.setIfInBounds_toArray, List.set_cons_zero, List.set_cons_succ]
  refine takeZ (i := 1) (d := 12) (v := .pointer (some ⟨bd, 0, none⟩)) rfl rfl (by kernel_rfl) (by kernel_rfl) (by kernel_rfl) (fun _ _ _ h => h) (Or.inl ⟨by rfl, fun W hW => ?_⟩) hSd ?_
  · have q0 := hW.cell y0 (fun f => f)
    have q1 := hW.cell y1 (fun f => f)
    have q2 := hW.cell y2 (fun f => f)
    have q3 := hW.cell y3 (fun f => f)
    go_simp
  try simp only [Act.put, List.setIfInBounds_toArray, List.set_cons_zero, List.set_cons_succ]
  refine takeZ (i := 2) (d := 13) (v := .pointer (some ⟨bd, 0, none⟩)) rfl rfl (by kernel_rfl) (by kernel_rfl) (by kernel_rfl) (fun _ _ _ h => h) (Or.inl ⟨by rfl, fun W hW => ?_⟩) hSd ?_
  · have q0 := hW.cell y0 (fun f => f)
    have q1 := hW.cell y1 (fun f => f)
    have q2 := hW.cell y2 (fun f => f)
    have q3 := hW.cell y3 (fun f => f)
    go_simp
  try simp only [Act.put, List.setIfInBounds_toArray, List.set_cons_zero, List.set_cons_succ]
  refine takeZ (i := 3) (d := 14) (v := .slice a n c) rfl rfl (by kernel_rfl) (by kernel_rfl) (by kernel_rfl) (fun _ _ _ h => h) (Or.inl ⟨by rfl, fun W hW => ?_⟩) hSd ?_
  · have q0 := hW.cell y0 (fun f => f)
    have q1 := hW.cell y1 (fun f => f)
    have q2 := hW.cell y2 (fun f => f)
    have q3 := hW.cell y3 (fun f => f)
    go_simp
  try simp only [Act.put, List.setIfInBounds_toArray, List.set_cons_zero, List.set_cons_succ]
  refine takeZ (i := 4) (d := 15) (v := .int .i64 (n : Int)) rfl rfl (by kernel_rfl) (by kernel_rfl) (by kernel_rfl) (fun _ _ _ h => h) (Or.inl ⟨by rfl, fun W hW => ?_⟩) hSd ?_
  · have q0 := hW.cell y0 (fun f => f)
    have q1 := hW.cell y1 (fun f => f)
    have q2 := hW.cell y2 (fun f => f)
    have q3 := hW.cell y3 (fun f => f)
    go_simp
  try simp only [Act.put, List.setIfInBounds_toArray, List.set_cons_zero, List.set_cons_succ]
  refine takeZ (i := 5) (d := 16) (v := .int .i64 (r : Int)) rfl rfl (by kernel_rfl) (by kernel_rfl) (by kernel_rfl) (fun _ _ _ h => h) (Or.inl ⟨by rfl, fun W hW => ?_⟩) hSd ?_
  · have q0 := hW.cell y0 (fun f => f)
    have q1 := hW.cell y1 (fun f => f)
    have q2 := hW.cell y2 (fun f => f)
    have q3 := hW.cell y3 (fun f => f)
    go_simp
  try simp only [Act.put, List.setIfInBounds_toArray, List.set_cons_zero, List.set_cons_succ]
  refine takeZ (i := 6) (d := 17) (v := .int .i64 (m : Int)) rfl rfl (by kernel_rfl) (by kernel_rfl) (by kernel_rfl) (fun _ _ _ h => h) (Or.inl ⟨by rfl, fun W hW => ?_⟩) hSd ?_
  · have q0 := hW.cell y0 (fun f => f)
    have q1 := hW.cell y1 (fun f => f)
    have q2 := hW.cell y2 (fun f => f)
    have q3 := hW.cell y3 (fun f => f)
    go_simp
    rw [IntKind.wrap_i64]; omega
  try simp only [Act.put, List.setIfInBounds_toArray, List.set_cons_zero, List.set_cons_succ]
  refine takeZ (i := 7) (d := 18) (v := .func (.func 63) #[] #[.pointer (some ⟨w.heap.size, 0, none⟩), .pointer (some ⟨W1.heap.size, 0, none⟩), .pointer (some ⟨w.heap.size + 1, 0, none⟩)]) rfl rfl (by kernel_rfl) (by kernel_rfl) (by kernel_rfl) (fun _ _ _ h => h) (Or.inl ⟨by rfl, fun W hW => ?_⟩) hSd ?_
  · have q0 := hW.cell y0 (fun f => f)
    have q1 := hW.cell y1 (fun f => f)
    have q2 := hW.cell y2 (fun f => f)
    have q3 := hW.cell y3 (fun f => f)
    go_simp
  try simp only [Act.put, List.setIfInBounds_toArray, List.set_cons_zero, List.set_cons_succ]
  refine wpAnyH_all (rs := [8]) (by kernel_rfl) (by simp) ?_
  intro i' hi'
  obtain rfl : i' = 8 := by simpa using hi'
  unfold wpOp
  go_simp
  refine Or.inl ((CS2 _ hSd).out.mono ?_)
  clear CS2
  rintro e W3 ⟨j, q, rfl, rfl, hj1, hj2, hj3⟩
  have hk3 : Kept (fun _ => False) W2 (W2.drew.drewN q) := hSd.trans (Kept.drewN _ _) (fun _ f => f.elim)
  refine ⟨hk3, ?_⟩
  try simp only [Act.put, List.setIfInBounds_toArray, List.set_cons_zero, List.set_cons_succ]
  refine takeZ (i := 9) (d := 7) (v := .int .i64 (j : Int)) rfl rfl (by kernel_rfl) (by kernel_rfl) (by kernel_rfl) (fun _ _ _ h => h) (Or.inl ⟨by rfl, fun W hW => ?_⟩) hk3 ?_
  · go_simp
  try simp only [Act.put, List.setIfInBounds_toArray, List.set_cons_zero, List.set_cons_succ]
  refine wpAnyH_done (by kernel_rfl) ?_ _
  obtain ⟨t, ht⟩ : ∃ t, t = r + j := ⟨_, rfl⟩
  have et : (r : Int) + (j : Int) = (t : Int) := by omega
  have HT : Hid (Hdd E x r t) := hideQ ⟨HR.out, by omega, by rw [← HN.out]; omega, by
    subst ht
    rcases hj2 with e | e
    · left; omega
    · by_cases hj : j = 0
      · left; omega
      · right
        rw [show r + j - 1 = r + (j - 1) by omega]
        simpa using e, by
    subst ht
    rcases hj3 with e | e
    · left; rw [← HN.out]; omega
    · right; simpa using e⟩
  have ht2 : t ≤ 1099511627776 := by omega
  have y4 := hk3.cell y3 (fun f => f)
  have HK3 := hideQ (HKC.out.trans hk3 (fun _ f => f.elim))
  obtain ⟨W4, hW4⟩ : ∃ W4, W2.drew.drewN q = W4 := ⟨_, rfl⟩
  rw [hW4] at HK3 y4 ⊢
  clear hW4 hk3 hj1 hj2 hj3 hSd y0 y1 y2 y3 HKC ht hrm em HR HN
  go_wp2_with fail
  go_quiet (fail)
  go_wp2
  go_ret2
  exact ⟨⟨r, t, rfl, HT.out⟩, HK3.out.trans (Kept.drewN _ _) (fun _ f => f.elim)⟩
end Go.Proofs.YtcanbhbhdgogoaaDoor
namespace Go.Proofs.YtcanbhbhdgogoaaDoor
open Go.ChangeShapes Go.WideShapes Go.ChangeAt Go.RowKit

theorem pre_ge : ∀ x y : List UInt8, x.isPrefixOf y = true → Op.bytesLess y x = false
  | [], y, _ => by cases y <;> rfl
  | a :: x, [], h => by simp at h
  | a :: x, b :: y, h => by
    simp only [List.isPrefixOf, Bool.and_eq_true, beq_iff_eq] at h
    obtain ⟨rfl, h⟩ := h
    have := pre_ge x y h
    simp [Op.bytesLess, this]
theorem u8_tri {a b : UInt8} (h1 : ¬ a < b) (h2 : ¬ b < a) : a = b := by
  rw [UInt8.lt_iff_toNat_lt] at h1 h2
  exact UInt8.toNat_inj.1 (by omega)
theorem pre_mid : ∀ x y z : List UInt8, Op.bytesLess y x = false → Op.bytesLess z y = false → x.isPrefixOf z = true → x.isPrefixOf y = true
  | [], _, _, _, _, _ => by simp
  | a :: x, [], _, h, _, _ => by simp [Op.bytesLess] at h
  | a :: x, b :: y, [], _, _, h => by simp at h
  | a :: x, b :: y, c :: z, h1, h2, h3 => by
    simp only [List.isPrefixOf, Bool.and_eq_true, beq_iff_eq] at h3
    obtain ⟨rfl, h3⟩ := h3
    simp only [Op.bytesLess, Bool.or_eq_false_iff, decide_eq_false_iff_not, Bool.and_eq_false_iff, beq_eq_false_iff_ne] at h1 h2
    obtain rfl : b = a := u8_tri h1.1 h2.1
    have e1 := h1.2.resolve_left (fun f => f rfl)
    have e2 := h2.2.resolve_left (fun f => f rfl)
    simp [List.isPrefixOf, pre_mid x y z e1 e2 h3]
theorem bl_trans : ∀ x y z : List UInt8, Op.bytesLess x y = true → Op.bytesLess y z = true → Op.bytesLess x z = true
  | _, [], _, h, _ => by simp [Op.bytesLess] at h
  | _, _ :: _, [], _, h => by simp [Op.bytesLess] at h
  | [], b :: y, c :: z, _, _ => rfl
  | a :: x, b :: y, c :: z, h1, h2 => by
    simp only [Op.bytesLess, Bool.or_eq_true, decide_eq_true_eq, Bool.and_eq_true, beq_iff_eq] at h1 h2 ⊢
    rcases h1 with h1 | ⟨rfl, h1⟩
    · left
      rcases h2 with h2 | ⟨rfl, h2⟩
      · rw [UInt8.lt_iff_toNat_lt] at h1 h2 ⊢; omega
      · exact h1
    · rcases h2 with h2 | ⟨rfl, h2⟩
      · exact .inl h2
      · exact .inr ⟨rfl, bl_trans x y z h1 h2⟩
theorem bl_asym {x y : List UInt8} (h : Op.bytesLess x y = true) : Op.bytesLess y x = false := by
  have h1 := bl_total x y
  rw [h] at h1
  simpa using h1.symm
theorem bl_irr (x : List UInt8) : Op.bytesLess x x = false := by
  have h1 := bl_total x x
  cases h : Op.bytesLess x x
  · rfl
  · rw [h] at h1; simp at h1
theorem klt_trans {a b c : ByteArray} (h1 : klt a b = true) (h2 : klt b c = true) : klt a c = true := bl_trans _ _ _ h1 h2
theorem rises_lt {E : List En} (hr : Rises E) {i j : Nat} (hij : i < j) (hj : j < E.length) : klt (kat E i) (kat E j) = true := by
  induction j with
  | zero => omega
  | succ j ih =>
    have h1 := hr j hj
    rw [← kat_at (by omega), ← kat_at hj] at h1
    by_cases e : i = j
    · subst e; exact h1
    · exact klt_trans (ih (by omega) (by omega)) h1
theorem rises_le {E : List En} (hr : Rises E) {i j : Nat} (hij : i ≤ j) (hj : j < E.length) : klt (kat E j) (kat E i) = false := by
  by_cases e : i = j
  · subst e; exact bl_irr _
  · exact bl_asym (rises_lt hr (by omega) hj)
theorem skd_iff {E : List En} {x : ByteArray} {r : Nat} (hr : Rises E) (h : Skd E x r) {i : Nat} (hi : i < E.length) : klt (kat E i) x = decide (i < r) := by
  obtain ⟨h1, h2, h3⟩ := h
  by_cases hlt : i < r
  · rw [decide_eq_true hlt]
    have e := h2.resolve_left (by omega)
    by_cases hz : i = r - 1
    · rw [hz]; exact e
    · exact klt_trans (rises_lt hr (by omega) (by omega)) e
  · rw [decide_eq_false hlt]
    have e := h3.resolve_left (by omega)
    cases hc : klt (kat E i) x
    · rfl
    · by_cases hz : i = r
      · rw [← hz, hc] at e; exact e
      · rw [klt_trans (rises_lt hr (i := r) (by omega) hi) hc] at e; exact e
theorem skd_uniq {E : List En} {x : ByteArray} {r s : Nat} (hr : Rises E) (h : Skd E x r) (h' : Skd E x s) : r = s := by
  rcases Nat.lt_trichotomy r s with hl | hl | hl
  · have h1 := skd_iff hr h (i := r) (by have := h'.1; omega)
    have h2 := skd_iff hr h' (i := r) (by have := h'.1; omega)
    rw [h1] at h2
    simp [hl] at h2
  · exact hl
  · have h1 := skd_iff hr h (i := s) (by have := h.1; omega)
    have h2 := skd_iff hr h' (i := s) (by have := h.1; omega)
    rw [h1] at h2
    simp [hl] at h2
theorem skd_own {E : List En} {i r : Nat} (hr : Rises E) (hi : i < E.length) (h : Skd E (kat E i) r) : r = i := by
  have hs : Skd E (kat E i) i := ⟨by omega, by
    by_cases hz : i = 0
    · exact .inl hz
    · exact .inr (rises_lt hr (by omega) hi), .inr (bl_irr _)⟩
  exact skd_uniq hr h hs
theorem fnd_own {E : List En} {i k : Nat} {b : Bool} (hr : Rises E) (hi : i < E.length) (h : Fnd E (kat E i) k b) : k = i ∧ b = true := by
  obtain ⟨r, hs, h⟩ := h
  obtain rfl := skd_own hr hi hs
  rcases h with ⟨h1, _, _, h4⟩ | ⟨_, _, h3⟩
  · exact ⟨h4, h1⟩
  · rcases h3 with e | e
    · omega
    · exact absurd rfl e
theorem fnd_any {E : List En} {x : ByteArray} {k r : Nat} {b : Bool} (hr : Rises E) (hs : Skd E x r) (h : Fnd E x k b) : (b = true ∧ r < E.length ∧ kat E r = x ∧ k = r) ∨ (b = false ∧ k = 0 ∧ (r = E.length ∨ ¬ kat E r = x)) := by
  obtain ⟨s, hs', h⟩ := h
  obtain rfl := skd_uniq hr hs hs'
  exact h
theorem hdp_eq (k x : ByteArray) : hdp k x = x.toList.isPrefixOf k.toList := by unfold hdp Lib.hasPrefix; rw [ByteArray.toList_eq, ByteArray.toList_eq]
theorem hdd_iff {E : List En} {x : ByteArray} {r t : Nat} (hr : Rises E) (h : Hdd E x r t) {i : Nat} (hi : i < E.length) : hdp (kat E i) x = (decide (r ≤ i) && decide (i < t)) := by
  obtain ⟨hs, h1, h2, h3, h4⟩ := h
  by_cases hir : r ≤ i
  · rw [decide_eq_true hir, Bool.true_and]
    have hx : klt (kat E i) x = false := by rw [skd_iff hr hs hi]; exact decide_eq_false (by omega)
    by_cases hit : i < t
    · rw [decide_eq_true hit]
      have e := h3.resolve_left (by omega)
      rw [hdp_eq] at e ⊢
      exact pre_mid _ _ _ hx (rises_le hr (i := i) (j := t - 1) (by omega) (by omega)) e
    · rw [decide_eq_false hit]
      have e := h4.resolve_left (by omega)
      cases hc : hdp (kat E i) x
      · rfl
      · rw [hdp_eq] at e hc
        have hx2 : klt (kat E t) x = false := by rw [skd_iff hr hs (by omega)]; exact decide_eq_false (by omega)
        rw [pre_mid _ _ _ hx2 (rises_le hr (i := t) (j := i) (by omega) hi) hc] at e
        exact e
  · rw [decide_eq_false hir, Bool.false_and]
    have hx : klt (kat E i) x = true := by rw [skd_iff hr hs hi]; exact decide_eq_true (by omega)
    cases hc : hdp (kat E i) x
    · rfl
    · rw [hdp_eq] at hc
      have := pre_ge _ _ hc
      unfold klt at hx
      rw [hx] at this
      exact this
end Go.Proofs.YtcanbhbhdgogoaaDoor
namespace Go.Proofs.YtcanbhbhdgogoaaDoor
open Go.ChangeShapes Go.WideShapes Go.ChangeAt Go.RowKit

theorem hdp_ext (k x : ByteArray) : decide (k.extract 0 x.size = x) = hdp k x := by
  have e : (k.extract 0 x.size).data.toList = k.data.toList.take x.data.toList.length := by
    rw [ByteArray.data_extract]
    simp only [Array.toList_extract, List.extract_eq_take_drop, Nat.sub_zero, List.drop_zero]
    rfl
  have e2 : (k.extract 0 x.size = x) ↔ x.data.toList <+: k.data.toList := by
    rw [List.prefix_iff_eq_take, ← e]
    constructor
    · intro h; rw [h]
    · intro h; exact (ByteArray.ext (Array.toList_inj.1 h)).symm
  unfold hdp Lib.hasPrefix
  by_cases h : x.data.toList <+: k.data.toList
  · rw [decide_eq_true (e2.2 h), List.isPrefixOf_iff_prefix.2 h]
  · rw [decide_eq_false (fun g => h (e2.1 g))]
    cases hc : List.isPrefixOf x.data.toList k.data.toList
    · rfl
    · exact absurd (List.isPrefixOf_iff_prefix.1 hc) h
/-- How many keys of the first n begin with x. -/
def bgn (E : List En) (x : ByteArray) (n : Nat) : Nat := (E.take n).countP (fun e => hdp e.k x)
theorem hdp_short {k x : ByteArray} (h : k.size < x.size) : hdp k x = false := by
  rw [← hdp_ext, decide_eq_false]
  intro e
  have := congrArg ByteArray.size e
  rw [ByteArray.size_extract] at this
  omega
theorem cnt_cong {p : En → Bool} {E : List En} {f : Nat → Nat} (h0 : f 0 = 0) (hs : ∀ i (hi : i < E.length), f (i + 1) = f i + if p E[i] then 1 else 0) : ∀ n, n ≤ E.length → (E.take n).countP p = f n
  | 0, _ => by simp [h0]
  | n + 1, h => by rw [cnt_step (by omega : n < E.length), cnt_cong h0 hs n (by omega), hs n (by omega)]
theorem skd_blw {E : List En} {x : ByteArray} {r : Nat} (hr : Rises E) (h : Skd E x r) : blw E x E.length = r := by
  unfold blw
  rw [cnt_cong (f := fun n => min n r) (by simp) (fun i hi => by
    have e := skd_iff hr h hi
    rw [kat_at hi] at e
    simp only [e, decide_eq_true_eq]
    split <;> omega) E.length (Nat.le_refl _)]
  have := h.1
  show min E.length r = r
  omega
theorem hdd_bgn {E : List En} {x : ByteArray} {r t : Nat} (hr : Rises E) (h : Hdd E x r t) : bgn E x E.length = t - r := by
  unfold bgn
  obtain ⟨-, h1, h2, -, -⟩ := id h
  rw [cnt_cong (f := fun n => min n t - min n r) (by simp) (fun i hi => by
    have e := hdd_iff hr h hi
    rw [kat_at hi] at e
    simp only [e, Bool.and_eq_true, decide_eq_true_eq]
    split <;> omega) E.length (Nat.le_refl _)]
  show min E.length t - min E.length r = t - r
  omega
/-- Find of both sides. -/
theorem fnd_same {E : List En} {x : ByteArray} {i : Nat} {b : Bool} {e : Ending} (hr : Rises E) (h : Fnd E x i b) (he : rfPost E x e) : e = .returned (.tuple #[.int .i64 i, .bool b]) := by
  rcases he with ⟨j, hj, hk, rfl⟩ | ⟨hn, rfl⟩
  · rw [← hk] at h
    obtain ⟨rfl, rfl⟩ := fnd_own hr hj h
    rfl
  · obtain ⟨r, -, ⟨-, h2, h3, -⟩ | ⟨rfl, rfl, -⟩⟩ := h
    · exact absurd h3 (hn r h2)
    · rfl
set_option maxRecDepth 20000 in
set_option maxHeartbeats 4000000 in
/-- The document's Heads. -/
theorem rheads_any (x : ByteArray) (E : List En) (a : Option Addr) (c : Nat) (w : World) (h : EsAt w a E) (hl : E.length ≤ 1073741824) : Calls Tryd.prog 40 #[.slice a E.length c, .string x] w fun e w' => e = .returned (.tuple #[.int .i64 (blw E x E.length : Nat), .int .i64 ((blw E x E.length + bgn E x E.length : Nat))]) ∧ w' = w := by
  have HE := hideQ h
  have CS := hideQ (rseek_any x E a c w h hl)
  have HC : Hid (∀ i (hi : i < E.length), bgn E x (i + 1) = bgn E x i + if hdp E[i].k x then 1 else 0) := hideQ (fun i hi => cnt_step hi)
  have HB : Hid (∀ i, bgn E x i ≤ i) := hideQ (fun i => cnt_le E i)
  have HZ : Hid (bgn E x 0 = 0) := hideQ (by simp [bgn])
  have hbl : blw E x E.length ≤ E.length := cnt_le E _
  obtain ⟨fr, hfr⟩ : ∃ fr, fr = blw E x E.length := ⟨_, rfl⟩
  rw [← hfr] at CS hbl ⊢
  obtain ⟨nl, hnl⟩ : ∃ nl, nl = E.length := ⟨_, rfl⟩
  rw [← hnl] at hl CS hbl ⊢
  have HNL := hideQ hnl
  clear h hnl hfr
  generalize bgn E x = B at *
  go_enter Tryd.func40, Tryd.ntmps40
  go_wp2_with (go_at_call 38; refine CS.out.mono ?_; rintro e V1 ⟨rfl, h1⟩; obtain rfl := h1.symm)
  clear CS
  go_loopw [7, 8] (fun v7 v8 wr => ∃ (j : Nat), j ≤ nl ∧ v7 = .int .i64 (B j : Nat) ∧ v8 = .int .i64 j ∧ wr = w) (fun _ v8 _ => nl - (intOf v8).toNat)
  case atStart => exact ⟨0, by omega, by rw [HZ.out]; rfl, rfl, rfl⟩
  case round =>
    obtain ⟨j, hj, rfl, rfl, rfl⟩ := hrel
    by_cases hlt : j < nl
    · have hjj : (j : Int) < (nl : Int) := by omega
      have hjl : j < E.length := by rw [← HNL.out]; exact hlt
      obtain ⟨b, off, rfl, hc⟩ := es_key HE.out hjl
      have HC1 := hideQ (HC.out j hjl)
      have hb := HB.out j
      have q1 : IntKind.i64.wrap ((j : Int) + 1) = (j : Int) + 1 := by rw [IntKind.wrap_i64]; omega
      have q2 : IntKind.i64.wrap ((B j : Int) + 1) = (B j : Int) + 1 := by rw [IntKind.wrap_i64]; omega
      generalize E[j].k = k at *
      by_cases hs : x.size ≤ k.size
      · have s1 : (x.size : Int) ≤ (k.size : Int) := by omega
        have s2 : decide ((x.size : Int) ≤ (k.size : Int)) = true := decide_eq_true s1
        have s3 : decide (x.size ≤ k.size) = true := decide_eq_true hs
        have g1 := eql_strN 9 (k.extract 0 x.size) x
        rw [toList_eqD, hdp_ext] at g1
        generalize hdp k x = Q at *
        cases Q with
        | true =>
          have e1 : Hid (B (j + 1) = B j + 1) := hideQ (by rw [HC1.out]; rfl)
          clear HC1
          generalize B j = bj at *
          go_wp2_with fail
          go_roundw
          case rel => exact ⟨j + 1, hlt, by rw [e1.out]; go_num, by go_num, trivial⟩
          case measure => simp [intOf]; omega
        | false =>
          have e1 : Hid (B (j + 1) = B j) := hideQ (by rw [HC1.out]; rfl)
          clear HC1
          generalize B j = bj at *
          go_wp2_with fail
          go_roundw
          case rel => exact ⟨j + 1, hlt, by rw [e1.out], by go_num, trivial⟩
          case measure => simp [intOf]; omega
      · have s1 : ¬ (x.size : Int) ≤ (k.size : Int) := by omega
        have s2 : decide ((x.size : Int) ≤ (k.size : Int)) = false := decide_eq_false s1
        have s3 : decide (x.size ≤ k.size) = false := decide_eq_false hs
        have e1 : Hid (B (j + 1) = B j) := hideQ (by rw [HC1.out, hdp_short (by omega)]; rfl)
        clear HC1
        generalize B j = bj at *
        go_wp2_with fail
        go_roundw
        case rel => exact ⟨j + 1, hlt, by rw [e1.out], by go_num, trivial⟩
        case measure => simp [intOf]; omega
    · obtain rfl : j = nl := by omega
      have hb := HB.out j
      have q3 : IntKind.i64.wrap ((fr : Int) + (B j : Int)) = (fr : Int) + (B j : Int) := by rw [IntKind.wrap_i64]; omega
      go_wp2_with fail
      go_ret2
      exact ⟨by first | rfl | (rw [q3]; rfl) | (simp), rfl⟩
end Go.Proofs.YtcanbhbhdgogoaaDoor
