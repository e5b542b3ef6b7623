import Derived.Test.YteeimpjjmdpbgaaDoorDbf
import Derived.Test.YteeimpjjmdpbgaaDoorShl
import Derived.Test.YteeimpjjmdpbgaaDoorAnyz
import Derived.BigQuiet
namespace Go.Proofs.YteeimpjjmdpbgaaDoor
open Go.ChangeShapes Go.WideShapes Go.ChangeAt Go.RowKit

/-- Does k begin with x? -/
def hdp (k x : ByteArray) : Bool := Lib.hasPrefix k.data.toList x.data.toList
set_option maxRecDepth 20000 in
set_option maxHeartbeats 2000000 in
theorem hd_cl (x : ByteArray) (bp bf bx i f bd g n c : Nat) (k : ByteArray) (W : World) (hp : W.cell? ⟨bp, 0, none⟩ = some (.pointer (some ⟨bd, 0, none⟩))) (hf : W.cell? ⟨bf, 0, none⟩ = some (.int .i64 f)) (hx : W.cell? ⟨bx, 0, none⟩ = some (.string x)) (hd : W.cell? ⟨bd, 0, none⟩ = some (.slice (some ⟨g, 0, none⟩) n c)) (hk : W.cell? ⟨g, (f + i) * 5, none⟩ = some (.string k)) (hi : f + i < n) (hn : n ≤ 1099511627776) :
    Calls Tryd.prog 54 #[.int .i64 i, .pointer (some ⟨bp, 0, none⟩), .pointer (some ⟨bf, 0, none⟩), .pointer (some ⟨bx, 0, none⟩)] W fun e w' => e = .returned (.bool (!hdp k x)) ∧ ∃ q, w' = W.drewN q := by
  have CP : ∀ q : Nat, Hid (Calls Tryd.prog 55 #[.string k, .string x] (W.drewN q) fun e w' => e = .returned (.bool (hdp k x)) ∧ ∃ m, w' = W.drewN m) := fun q => hideQ ((Tryd.strings_HasPrefix k x _).mono (fun e w' h => ⟨h.1, q, h.2⟩))
  generalize hdp k x = B at *
  obtain ⟨m, hm⟩ : ∃ m, m = f + i := ⟨_, rfl⟩
  rw [← hm] at hi hk
  have e1 : (f : Int) + (i : Int) = (m : Int) := by omega
  have hiz : (m : Int) < (n : Int) := by omega
  clear hm
  go_enter Tryd.func54, Tryd.ntmps54
  go_wp2_with fail
  go_quiet ((exact (CP _).out))
  go_wp2
  go_ret
  exact ⟨rfl, _, rfl⟩
set_option maxRecDepth 20000 in
set_option maxHeartbeats 2000000 in
theorem hd_search (n bp bf bx : Nat) (pr : Nat → Bool) (w : World) (hn : n ≤ 1099511627776) (hc : ∀ q i : Nat, i < n → Calls Tryd.prog 54 #[.int .i64 i, .pointer (some ⟨bp, 0, none⟩), .pointer (some ⟨bf, 0, none⟩), .pointer (some ⟨bx, 0, none⟩)] (w.drewN q) fun e w' => e = .returned (.bool (pr i)) ∧ ∃ q', w' = (w.drewN q).drewN q') :
    Calls Tryd.prog 52 #[.int .i64 n, .func (.func 54) #[] #[.pointer (some ⟨bp, 0, none⟩), .pointer (some ⟨bf, 0, none⟩), .pointer (some ⟨bx, 0, none⟩)]] w fun e w' => ∃ r q : Nat, e = .returned (.int .i64 r) ∧ w' = w.drewN q ∧ r ≤ n ∧ (r = 0 ∨ pr (r - 1) = false) ∧ (r = n ∨ pr r = true) := by
  have HC : ∀ q i : Nat, i < n → Hid (Calls Tryd.prog 54 (#[.int .i64 i] ++ #[.pointer (some ⟨bp, 0, none⟩), .pointer (some ⟨bf, 0, none⟩), .pointer (some ⟨bx, 0, none⟩)]) (w.drewN q) fun e w' => e = .returned (.bool (pr i)) ∧ ∃ q', w' = (w.drewN q).drewN q') := fun q i hi => hc q i hi
  clear hc
  go_enter Tryd.func52, Tryd.ntmps52
  go_wp2
  go_loopw [5, 6] (fun s5 s6 wr => ∃ (lo hi q : Nat), lo ≤ hi ∧ hi ≤ n ∧ s5 = .int .i64 lo ∧ s6 = .int .i64 hi ∧ wr = w.drewN q ∧ Hid (lo = 0 ∨ pr (lo - 1) = false) ∧ Hid (hi = n ∨ pr hi = true)) (fun s5 s6 _ => (intOf s6).toNat - (intOf s5).toNat)
  case atStart => exact ⟨0, n, 0, by omega, by omega, rfl, rfl, rfl, Or.inl rfl, Or.inl rfl⟩
  case round =>
    obtain ⟨lo, hi, q, hlh, hh, rfl, rfl, rfl, H1, H2⟩ := hrel
    by_cases hlt : lo < hi
    · have hc := HC q ((lo + hi) / 2) (by omega)
      obtain ⟨m, hm⟩ : ∃ m, m = (lo + hi) / 2 := ⟨_, rfl⟩
      rw [← hm] at hc
      have em : ((lo : Int) + (hi : Int)) / 2 = (m : Int) := by omega
      have m1 : lo ≤ m := by omega
      have m2 : m < hi := by omega
      clear hm HC
      cases hb : pr m with
      | false =>
        rw [hb] at hc
        have HB := hideQ hb
        clear hb
        go_wp2_with (go_at_call 54; refine hc.out.mono ?_; rintro e w' ⟨rfl, q', rfl⟩)
        go_roundw
        case rel => exact ⟨m + 1, hi, q + q', by omega, by omega, by go_num, rfl, rfl, Or.inr (by rw [Nat.add_sub_cancel]; exact HB.out), H2⟩
        case measure => simp [intOf]; omega
      | true =>
        rw [hb] at hc
        have HB := hideQ hb
        clear hb
        go_wp2_with (go_at_call 54; refine hc.out.mono ?_; rintro e w' ⟨rfl, q', rfl⟩)
        go_roundw
        case rel => exact ⟨lo, m, q + q', by omega, by omega, rfl, by go_num, rfl, H1, Or.inr HB.out⟩
        case measure => simp [intOf]; omega
    · obtain rfl : hi = lo := by omega
      go_wp2
      go_ret
      exact ⟨hi, q, rfl, rfl, hh, H1.out, H2.out⟩
/-- The range of the keys that begin with x. -/
def Hdd (E : List En) (x : ByteArray) (r t : Nat) : Prop := Skd E x r ∧ r ≤ t ∧ t ≤ E.length ∧ (t = r ∨ hdp (kat E (t - 1)) x = true) ∧ (t = E.length ∨ hdp (kat E t) x = false)
set_option maxRecDepth 20000 in
set_option maxHeartbeats 4000000 in
theorem heads_any (x : ByteArray) (w : World) (ws bd : Nat) (va : Value) (E : List En) (h : Dct w ws bd va E) (hn : E.length ≤ 1099511627776) : Calls Tryd.prog 30 #[.pointer (some ⟨bd, 0, none⟩), .string x] w fun e w' => (∃ r t : Nat, e = .returned (.tuple #[.int .i64 r, .int .i64 t]) ∧ Hdd E x r t) ∧ Kept (fun _ => False) w w' := by
  have hmf : ∀ (fn : Fn) (first cap : Array Value) (w : World), (Instr.makeFunc fn first cap).run Tryd.prog w = .ok (.func fn first cap) w := fun _ _ _ _ => rfl
  obtain ⟨a, c, rfl⟩ := h.shape
  have KA := (Kept.alloc w (.cells #[.pointer (some ⟨bd, 0, none⟩)] 34)).trans (Kept.alloc (w.alloc (.cells #[.pointer (some ⟨bd, 0, none⟩)] 34)) (.cells #[.string x] 9)) (fun _ f => f.elim)
  have HD := h.kept KA
  have x0 : ((w.alloc (.cells #[.pointer (some ⟨bd, 0, none⟩)] 34)).alloc (.cells #[.string x] 9)).cell? ⟨w.heap.size, 0, none⟩ = some (.pointer (some ⟨bd, 0, none⟩)) := (Kept.alloc (w.alloc (.cells #[.pointer (some ⟨bd, 0, none⟩)] 34)) (.cells #[.string x] 9)).cell (by simp) (fun f => f)
  have x1 : ((w.alloc (.cells #[.pointer (some ⟨bd, 0, none⟩)] 34)).alloc (.cells #[.string x] 9)).cell? ⟨w.heap.size + 1, 0, none⟩ = some (.string x) := by simp
  have CS := hideQ (seek_any x _ ws bd _ E HD hn)
  have HK := hideQ KA
  have HH := hideQ HD
  have HX0 := hideQ x0
  have HX1 := hideQ x1
  clear KA HD h
  obtain ⟨n, hne⟩ : ∃ n, n = E.length := ⟨_, rfl⟩
  rw [← hne] at hn HH
  have HN := hideQ hne
  clear hne
  go_enter Tryd.func30, Tryd.ntmps30
  go_wp2_with (go_at_call 28; refine CS.out.mono ?_; clear CS; rintro e W1 ⟨⟨r, rfl, hr⟩, K1⟩; have HR := hideQ hr; have HK1 := hideQ K1; clear hr K1 x0 x1)
  obtain ⟨m, hm⟩ : ∃ m, m = n - r := ⟨_, rfl⟩
  have hrn : r ≤ n := by rw [HN.out]; exact HR.out.1
  have em : (n : Int) - (r : Int) = (m : Int) := by omega
  have hm2 : m ≤ 1099511627776 := by omega
  have hrm : r + m = n := by omega
  clear hm
  have KB := Kept.alloc W1 (.cells #[.int .i64 (r : Int)] 3)
  have KC := HK1.out.trans KB (fun _ f => f.elim)
  have HDB := HH.out.kept KC
  have y0 := KC.cell HX0.out (fun f => f)
  have y1 := KC.cell HX1.out (fun f => f)
  have y2 := HDB.cell
  have y3 : (W1.alloc (.cells #[.int .i64 (r : Int)] 3)).cell? ⟨W1.heap.size, 0, none⟩ = some (.int .i64 (r : Int)) := by simp
  obtain ⟨W2, hW2⟩ : ∃ W2, W1.alloc (.cells #[.int .i64 (r : Int)] 3) = W2 := ⟨_, rfl⟩
  rw [hW2] at KC HDB y0 y1 y2 y3 ⊢
  have HKC := hideQ (HK.out.trans KC (fun _ f => f.elim))
  have CS2 : ∀ W : World, Kept (fun _ => False) W2 W → Hid (Calls Tryd.prog 52 #[.int .i64 m, .func (.func 54) #[] #[.pointer (some ⟨w.heap.size, 0, none⟩), .pointer (some ⟨W1.heap.size, 0, none⟩), .pointer (some ⟨w.heap.size + 1, 0, none⟩)]] W fun e w' => ∃ j q : Nat, e = .returned (.int .i64 j) ∧ w' = W.drewN q ∧ j ≤ m ∧ (j = 0 ∨ (fun i => !hdp (kat E (r + i)) x) (j - 1) = false) ∧ (j = m ∨ (fun i => !hdp (kat E (r + i)) x) j = true)) := fun W kW => hideQ (hd_search m w.heap.size W1.heap.size (w.heap.size + 1) (fun i => !hdp (kat E (r + i)) x) W hm2 (fun q i hi => by
    have kq := kW.trans (Kept.drewN W q) (fun _ f => f.elim)
    have hl : r + i < E.length := by rw [← HN.out]; omega
    have HDq := HDB.kept kq
    obtain ⟨g, rfl, hk, -⟩ := HDq.key hl
    rw [← kat_at hl] at hk
    exact hd_cl x _ _ _ i r bd g n c _ _ (kq.cell y0 (fun f => f)) (kq.cell y3 (fun f => f)) (kq.cell y1 (fun f => f)) HDq.cell hk (by omega) hn))
  clear KB KC HDB HX0 HX1 HH HK HK1 hW2 
  refine wp_region_held (S := fun W => Kept (fun _ => False) W2 W) (by kernel_rfl) ?_
  change wpAnyH _ _ _ _ _ _ _ _ (World.drew _)
  have hSd : Kept (fun _ => False) W2 W2.drew := Kept.drew _
  refine takeZ (i := 0) (d := 11) (v := .pointer (some ⟨bd, 0, none⟩)) rfl rfl (by kernel_rfl) (by kernel_rfl) (by kernel_rfl) (fun _ _ _ h => h) (Or.inl ⟨by rfl, fun W hW => ?_⟩) hSd ?_
  · have q0 := hW.cell y0 (fun f => f)
    have q1 := hW.cell y1 (fun f => f)
    have q2 := hW.cell y2 (fun f => f)
    have q3 := hW.cell y3 (fun f => f)
    go_simp
  try simp only [Act.put, List.setIfInBounds_toArray, List.set_cons_zero, List.set_cons_succ]
  refine takeZ (i := 1) (d := 12) (v := .pointer (some ⟨bd, 0, none⟩)) rfl rfl (by kernel_rfl) (by kernel_rfl) (by kernel_rfl) (fun _ _ _ h => h) (Or.inl ⟨by rfl, fun W hW => ?_⟩) hSd ?_
  · have q0 := hW.cell y0 (fun f => f)
    have q1 := hW.cell y1 (fun f => f)
    have q2 := hW.cell y2 (fun f => f)
    have q3 := hW.cell y3 (fun f => f)
    go_simp
  try simp only [Act.put, List.setIfInBounds_toArray, List.set_cons_zero, List.set_cons_succ]
  refine takeZ (i := 2) (d := 13) (v := .pointer (some ⟨bd, 0, none⟩)) rfl rfl (by kernel_rfl) (by kernel_rfl) (by kernel_rfl) (fun _ _ _ h => h) (Or.inl ⟨by rfl, fun W hW => ?_⟩) hSd ?_
  · have q0 := hW.cell y0 (fun f => f)
    have q1 := hW.cell y1 (fun f => f)
    have q2 := hW.cell y2 (fun f => f)
    have q3 := hW.cell y3 (fun f => f)
    go_simp
  try simp only [Act.put, List.setIfInBounds_toArray, List.set_cons_zero, List.set_cons_succ]
  refine takeZ (i := 3) (d := 14) (v := .slice a n c) rfl rfl (by kernel_rfl) (by kernel_rfl) (by kernel_rfl) (fun _ _ _ h => h) (Or.inl ⟨by rfl, fun W hW => ?_⟩) hSd ?_
  · have q0 := hW.cell y0 (fun f => f)
    have q1 := hW.cell y1 (fun f => f)
    have q2 := hW.cell y2 (fun f => f)
    have q3 := hW.cell y3 (fun f => f)
    go_simp
  try simp only [Act.put, List.setIfInBounds_toArray, List.set_cons_zero, List.set_cons_succ]
  refine takeZ (i := 4) (d := 15) (v := .int .i64 (n : Int)) rfl rfl (by kernel_rfl) (by kernel_rfl) (by kernel_rfl) (fun _ _ _ h => h) (Or.inl ⟨by rfl, fun W hW => ?_⟩) hSd ?_
  · have q0 := hW.cell y0 (fun f => f)
    have q1 := hW.cell y1 (fun f => f)
    have q2 := hW.cell y2 (fun f => f)
    have q3 := hW.cell y3 (fun f => f)
    go_simp
  try simp only [Act.put, List.setIfInBounds_toArray, List.set_cons_zero, List.set_cons_succ]
  refine takeZ (i := 5) (d := 16) (v := .int .i64 (r : Int)) rfl rfl (by kernel_rfl) (by kernel_rfl) (by kernel_rfl) (fun _ _ _ h => h) (Or.inl ⟨by rfl, fun W hW => ?_⟩) hSd ?_
  · have q0 := hW.cell y0 (fun f => f)
    have q1 := hW.cell y1 (fun f => f)
    have q2 := hW.cell y2 (fun f => f)
    have q3 := hW.cell y3 (fun f => f)
    go_simp
  try simp only [Act.put, List.setIfInBounds_toArray, List.set_cons_zero, List.set_cons_succ]
  refine takeZ (i := 6) (d := 17) (v := .int .i64 (m : Int)) rfl rfl (by kernel_rfl) (by kernel_rfl) (by kernel_rfl) (fun _ _ _ h => h) (Or.inl ⟨by rfl, fun W hW => ?_⟩) hSd ?_
  · have q0 := hW.cell y0 (fun f => f)
    have q1 := hW.cell y1 (fun f => f)
    have q2 := hW.cell y2 (fun f => f)
    have q3 := hW.cell y3 (fun f => f)
    go_simp
    rw [IntKind.wrap_i64]; omega
  try simp only [Act.put, List.setIfInBounds_toArray, List.set_cons_zero, List.set_cons_succ]
  refine takeZ (i := 7) (d := 18) (v := .func (.func 54) #[] #[.pointer (some ⟨w.heap.size, 0, none⟩), .pointer (some ⟨W1.heap.size, 0, none⟩), .pointer (some ⟨w.heap.size + 1, 0, none⟩)]) rfl rfl (by kernel_rfl) (by kernel_rfl) (by kernel_rfl) (fun _ _ _ h => h) (Or.inl ⟨by rfl, fun W hW => ?_⟩) hSd ?_
  · have q0 := hW.cell y0 (fun f => f)
    have q1 := hW.cell y1 (fun f => f)
    have q2 := hW.cell y2 (fun f => f)
    have q3 := hW.cell y3 (fun f => f)
    go_simp
  try simp only [Act.put, List.setIfInBounds_toArray, List.set_cons_zero, List.set_cons_succ]
  refine wpAnyH_all (rs := [8]) (by kernel_rfl) (by simp) ?_
  intro i' hi'
  obtain rfl : i' = 8 := by simpa using hi'
  unfold wpOp
  go_simp
  refine Or.inl ((CS2 _ hSd).out.mono ?_)
  clear CS2
  rintro e W3 ⟨j, q, rfl, rfl, hj1, hj2, hj3⟩
  have hk3 : Kept (fun _ => False) W2 (W2.drew.drewN q) := hSd.trans (Kept.drewN _ _) (fun _ f => f.elim)
  refine ⟨hk3, ?_⟩
  try simp only [Act.put, List.setIfInBounds_toArray, List.set_cons_zero, List.set_cons_succ]
  refine takeZ (i := 9) (d := 7) (v := .int .i64 (j : Int)) rfl rfl (by kernel_rfl) (by kernel_rfl) (by kernel_rfl) (fun _ _ _ h => h) (Or.inl ⟨by rfl, fun W hW => ?_⟩) hk3 ?_
  · go_simp
  try simp only [Act.put, List.setIfInBounds_toArray, List.set_cons_zero, List.set_cons_succ]
  refine wpAnyH_done (by kernel_rfl) ?_ _
  obtain ⟨t, ht⟩ : ∃ t, t = r + j := ⟨_, rfl⟩
  have et : (r : Int) + (j : Int) = (t : Int) := by omega
  have HT : Hid (Hdd E x r t) := hideQ ⟨HR.out, by omega, by rw [← HN.out]; omega, by
    subst ht
    rcases hj2 with e | e
    · left; omega
    · by_cases hj : j = 0
      · left; omega
      · right
        rw [show r + j - 1 = r + (j - 1) by omega]
        simpa using e, by
    subst ht
    rcases hj3 with e | e
    · left; rw [← HN.out]; omega
    · right; simpa using e⟩
  have ht2 : t ≤ 1099511627776 := by omega
  have y4 := hk3.cell y3 (fun f => f)
  have HK3 := hideQ (HKC.out.trans hk3 (fun _ f => f.elim))
  obtain ⟨W4, hW4⟩ : ∃ W4, W2.drew.drewN q = W4 := ⟨_, rfl⟩
  rw [hW4] at HK3 y4 ⊢
  clear hW4 hk3 hj1 hj2 hj3 hSd y0 y1 y2 y3 HKC ht hrm em HR HN
  go_wp2_with fail
  go_quiet (fail)
  go_wp2
  go_ret2
  exact ⟨⟨r, t, rfl, HT.out⟩, HK3.out.trans (Kept.drewN _ _) (fun _ f => f.elim)⟩
end Go.Proofs.YteeimpjjmdpbgaaDoor
