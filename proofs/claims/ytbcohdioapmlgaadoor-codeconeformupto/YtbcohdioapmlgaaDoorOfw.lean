import Derived.Test.YtbcohdioapmlgaaDoorAgx
import Derived.Test.YtbcohdioapmlgaaDoorBcx
import Derived.Deep.QuietTactic
import Derived.OrdersHeld
import Derived.BigQuiet
namespace Go.Proofs.YtbcohdioapmlgaaDoor
open Go.ChangeShapes Go.WideShapes Go.ChangeAt Go.RowKit

theorem bytes_cap {H : Type} {enc : TypeId × Value → H} {W : World} {fuel : Nat} {a : Option Addr} {n c : Nat} {x : DataW H × List MemPlace} (hf : DataW.trod enc Tryd.prog W 0 (fun _ => true) true fuel 22 [.slice a n c] = some x) : n ≤ c := by
  rcases open_ints Tryd.underlying22 Tryd.underlying5 Tryd.cU8 hf with ⟨e, _⟩ | ⟨a', l, c', zs, e, _, hl, _⟩
  · simp only [List.cons.injEq, Value.slice.injEq, and_true] at e
    omega
  · simp only [List.cons.injEq, Value.slice.injEq, and_true] at e
    omega
theorem takeH {P : Program} {ops : Array Oper} {Q : Exit → Act → World → Prop} {md : Region.Mode} {S : World → Prop} {i d : Nat} {oi : Oper} {v : Value} {fuel : Nat} {listed : Array Bool} {a : Act} {w : World} (hi : ops[i]? = some oi) (hd : oi.dst = some d)
    (hs : Region.noSelect ops = true) (hf : Region.free md ops listed i = true) (hr : (Region.ready md ops listed).contains i = true)
    (hQ : ∀ c a w, Q (.panic c) (a.put (some d) v) w → Q (.panic c) a w) (hy : YieldsIf P ops S oi v a) (hS : S w)
    (h : wpAnyH P md ops Q S fuel (listed.setIfInBounds i true) (a.put (some d) v) w) : wpAnyH P md ops Q S (fuel + 1) listed a w := by
  rw [← hd] at hQ h
  exact wpAnyH_take hi hs hf hr hQ hy hS h
/-- The Reader at a place, in a world that keeps the first one. -/
structure Of (w W : World) (br : Nat) (rv : Value) (l : List Int) (p : Nat) : Prop where
  rd : Rd W br rv l p
  new : w.heap.size ≤ br
  own : ∀ k, rv.ownBlock = some k → w.heap.size ≤ k
  kept : Kept (fun _ => False) w W
theorem conv_sub {W : World} {a : Option Addr} {b off p n : Nat} {l : List Int} {c : Nat} (h : BytesAt W a l) (ha : a = some ⟨b, off, none⟩) (hpn : p + n ≤ l.length) : (convert 22 9 (.slice (some ⟨b, off + p, none⟩) n c)).run Tryd.prog W = .ok (.string (strOfNums ((l.drop p).take n))) W := by
  have hlen : ((l.drop p).take n).length = n := by rw [List.length_take, List.length_drop]; omega
  have hb : BytesAt W (some ⟨b, off + p, none⟩) ((l.drop p).take n) := by
    intro hne
    have hn : 0 < n := by have := List.length_pos_iff.2 hne; omega
    obtain ⟨b', off', e, hc⟩ := h (by intro e; rw [e] at hpn; simp at hpn; omega)
    rw [ha] at e
    simp only [Option.some.injEq, Addr.mk.injEq, and_true] at e
    obtain ⟨rfl, rfl⟩ := e
    refine ⟨b, off + p, rfl, fun k hk => ?_⟩
    rw [hlen] at hk
    have := hc (p + k) (by omega)
    rw [List.getElem?_take, if_pos hk, List.getElem?_drop, Nat.add_assoc]
    exact this
  have q := conv_at (c := c) hb
  rw [hlen] at q
  exact q
set_option maxRecDepth 20000 in
set_option maxHeartbeats 4000000 in
theorem oneForm_walk (l : List Int) (ba : Option Addr) (bc : Nat) (S : List OpD) (sa : Option Addr) (sc : Nat) (a0 a1 a2 a3 a7 : Addr) (w : World) (hL : BytesAt w ba l) (hLB : IsBytes l) (hll : l.length ≤ 1099511627776) (hba : ba = none → bc = 0) (hbc : l.length ≤ bc) (hS : OpsAt w sa S) (hO : ∀ o ∈ S, o.At w) (htot : S.length ≤ 1073741824)
    (g0 : w.cell? ⟨3, 0, none⟩ = some (errV a0)) (g1 : w.cell? ⟨4, 0, none⟩ = some (errV a1)) (g2 : w.cell? ⟨2, 0, none⟩ = some (errV a2)) (g3 : w.cell? ⟨1, 0, none⟩ = some (errV a3)) (g7 : w.cell? ⟨0, 0, none⟩ = some (errV a7)) :
    Calls Tryd.prog 3 #[.slice ba l.length bc, .slice sa S.length sc] w fun e w' => e = .returned (.bool true) ∧ Kept (fun _ => False) w w' := by
  have hE : ∀ W, Kept (fun _ => False) w W → W.cell? ⟨3, 0, none⟩ = some (errV a0) ∧ W.cell? ⟨4, 0, none⟩ = some (errV a1) ∧ W.cell? ⟨2, 0, none⟩ = some (errV a2) ∧ W.cell? ⟨1, 0, none⟩ = some (errV a3) ∧ W.cell? ⟨0, 0, none⟩ = some (errV a7) := fun W k => ⟨k.cell g0 (fun f => f), k.cell g1 (fun f => f), k.cell g2 (fun f => f), k.cell g3 (fun f => f), k.cell g7 (fun f => f)⟩
  have LV : Hid (Calls Tryd.prog 5 #[] w fun e W => e = .returned (.bool true) ∧ Hid (Kept (fun _ => False) w W)) := (lives_any a0 a1 w g0 g1).mono fun e W q => ⟨q.1, q.2⟩
  have NR : Hid (∀ W, Hid (Kept (fun _ => False) w W) → Calls Tryd.prog 6 #[.slice ba l.length bc] W fun e W' => ∃ br rv, e = .returned (.pointer (some ⟨br, 0, none⟩)) ∧ Hid (Of w W' br rv l 0)) := by
    intro W hk
    refine (newr_any l ba bc W (bytes_kept hL hk.out (fun _ _ _ f => f)) hLB (by omega)).mono ?_
    rintro e W' ⟨br, rv, rfl, r1, r2, r3, r4⟩
    exact ⟨br, rv, rfl, r1, Nat.le_trans hk.out.size r2, fun k hk' => Nat.le_trans hk.out.size (r3 k hk'), hk.out.trans r4 (fun _ f => f.elim)⟩
  -- a round's calls: the Writer, again, At, Left, Bytes
  have NW : Hid (∀ k (hk : k < S.length) W br rv p, Hid (Of w W br rv l p) → Calls Tryd.prog 7 #[] (W.alloc (.cells (S[k]).cells.toArray 30)) fun e W' => ∃ bw, e = .returned (.pointer (some ⟨bw, 0, none⟩)) ∧ Hid (W'.heap[W.heap.size]? = some (.cells (S[k]).cells.toArray 30)) ∧ Hid (AgIn W' br bw rv l p a0 a1 a2 a3 a7 ∧ w.heap.size ≤ bw ∧ Of w W' br rv l p)) := by
    intro k hk W br rv p hh
    have ka := Kept.alloc W (.cells (S[k]).cells.toArray 30)
    refine (new_any _).mono ?_
    rintro e W' ⟨rfl, h1, h2⟩
    have k2 := ka.trans h2 (fun _ f => f.elim)
    have kw := hh.out.kept.trans k2 (fun _ f => f.elim)
    have hrd := hh.out.rd.kept k2 (fun f => f) (fun _ _ f => f)
    obtain ⟨q0, q1, q2, q3, q7⟩ := hE _ kw
    have hlt := lt_of_block hh.out.rd.blk
    have hsz : (W.alloc (.cells (S[k]).cells.toArray 30)).heap.size = W.heap.size + 1 := by simp
    refine ⟨_, rfl, h2.heap (heap_alloc_new W _) (fun f => f), ⟨hrd, h1, by omega, ?_, hll, q0, q1, q2, q3, q7⟩, Nat.le_trans hh.out.kept.size ka.size, hrd, hh.out.new, hh.out.own, kw⟩
    intro e
    have := (hh.out.rd.own.lt _ e).2
    omega
  have AG : Hid (∀ k (hk : k < S.length) W br bw rv p, Hid (AgIn W br bw rv l p a0 a1 a2 a3 a7 ∧ w.heap.size ≤ bw ∧ Of w W br rv l p) → Calls Tryd.prog 8 #[.pointer (some ⟨br, 0, none⟩), .pointer (some ⟨bw, 0, none⟩), .agg (S[k]).cells.toArray] W fun e W' => ∃ (ok : Bool) (p' : Nat), e = .returned (.bool ok) ∧ Hid (p ≤ p' ∧ p' ≤ l.length ∧ (ok = false → p' = p)) ∧ Hid (Of w W' br rv l p' ∧ ∃ v' xs, Wr W' bw v' xs ∧ xs.length ≤ 17592186044416 ∧ (ok = true → xs = (l.drop p).take (p' - p)))) := by
    intro k hk W br bw rv p hh
    obtain ⟨h1, h2, h3⟩ := hh.out
    have hAt := hO _ (List.getElem_mem hk)
    generalize S[k] = o at hAt ⊢
    obtain ⟨kd, sec, nn, U, ii, ba', bc', B, s, la, lc, L⟩ := o
    refine (again_all sec nn U ii (.slice ba' B.length bc') s (.slice la L.length lc) kd h1 hAt.n1).mono ?_
    rintro e W' ⟨ok, p', xs, rfl, ⟨v', r1, r2, r3⟩, hx, hp, hy, hn⟩
    refine ⟨ok, p', rfl, ⟨hp, r1.le, hn⟩, ⟨r1, h3.new, h3.own, h3.kept.trans r3 ?_⟩, v', xs, r2, hx, hy⟩
    rintro i (e | e)
    · subst e; exact .inr h3.new
    · subst e; exact .inr h2
  have AT : Hid (∀ W br rv p', Hid (Of w W br rv l p') → Calls Tryd.prog 9 #[.pointer (some ⟨br, 0, none⟩)] W fun e W' => e = .returned (.int .i64 p') ∧ W' = W) := fun W br rv p' hh => at_any br rv l p' W hh.out.rd
  have LF : Hid (∀ W br bw rv p' (R : List Int → Prop), Hid (Of w W br rv l p' ∧ ∃ v' xs, Wr W bw v' xs ∧ xs.length ≤ 17592186044416 ∧ R xs) → p' ≤ l.length → Calls Tryd.prog 10 #[.pointer (some ⟨br, 0, none⟩)] W fun e W' => e = .returned (.int .i64 ((l.length : Int) - p')) ∧ Hid (Of w W' br rv l p' ∧ ∃ v' xs, Wr W' bw v' xs ∧ xs.length ≤ 17592186044416 ∧ R xs)) := by
    intro W br bw rv p' R hh hp
    obtain ⟨h1, v', xs, h2, h3, h4⟩ := hh.out
    have q := left_any br rv l p' W h1.rd
    rw [show ((l.length - p' : Nat) : Int) = (l.length : Int) - p' by omega] at q
    refine q.mono ?_
    rintro e W' ⟨rfl, n, rfl⟩
    have kd := Kept.drewN W n
    exact ⟨rfl, ⟨h1.rd.drewN n, h1.new, h1.own, h1.kept.trans kd (fun _ f => f.elim)⟩, v', xs, h2.kept kd (fun _ _ f => f), h3, h4⟩
  have BY : Hid (∀ W br bw rv p p', Hid (Of w W br rv l p' ∧ ∃ v' xs, Wr W bw v' xs ∧ xs.length ≤ 17592186044416 ∧ xs = (l.drop p).take (p' - p)) → Hid (p ≤ p' ∧ p' ≤ l.length) → Calls Tryd.prog 11 #[.pointer (some ⟨bw, 0, none⟩)] W fun e W' => ∃ g n, e = .returned (.slice (some ⟨g, 0, none⟩) n n) ∧ (convert 22 9 (.slice (some ⟨g, 0, none⟩) n n)).run Tryd.prog W' = .ok (.string (strOfNums ((l.drop p).take (p' - p)))) W' ∧ Hid (Of w W' br rv l p')) := by
    intro W br bw rv p p' hh hp
    obtain ⟨h1, v', xs, h2, h3, rfl⟩ := hh.out
    refine (bytes_any bw v' _ W h2 (by omega)).mono ?_
    rintro e W' ⟨rfl, r1, r2⟩
    obtain ⟨a, c, e, hb, _⟩ := bytes_of_own r1
    simp only [Value.slice.injEq] at e
    obtain ⟨rfl, _, rfl⟩ := e
    exact ⟨_, _, rfl, conv_at hb, h1.rd.kept r2 (fun f => f) (fun _ _ f => f), h1.new, h1.own, h1.kept.trans r2 (fun _ f => f.elim)⟩
  have HS := hide hS
  have HE := hide hE
  have HL := hide hL
  have HLB := hide hLB
  clear hS hO hE hL hLB g0 g1 g2 g3 g7
  go_enter Tryd.func3, Tryd.ntmps3
  go_wp2_with (first | (go_at_call 5; refine LV.out.mono ?_; rintro e W2 ⟨rfl, K2⟩) | (go_at_call 6; refine (NR.out W2 K2).mono ?_; rintro e W3 ⟨br, rv, rfl, K3⟩))
  go_loopw [7, 22] (fun at_ i wr => ∃ (k p : Nat), k ≤ S.length ∧ p ≤ l.length ∧ i = .int .i64 k ∧ at_ = .int .i64 p ∧ Hid (Of w wr br rv l p)) (fun _ i _ => S.length - (intOf i).toNat)
  case atStart => exact ⟨0, 0, Nat.zero_le _, Nat.zero_le _, rfl, rfl, K3⟩
  case round =>
    obtain ⟨k, p, hk, hp, rfl, rfl, K4⟩ := hrel
    by_cases hlt : k < S.length
    · obtain ⟨b, off, rfl, hc⟩ := HS.out (by intro e; rw [e] at hlt; simp at hlt)
      have hcw : ∀ j, j < 8 → wr.cell? ⟨b, off + k * 8 + j, none⟩ = (S[k]).cells[j]? := by
        intro j hj
        have h1 := hc k hlt j hj
        have h2 : (S[k]).cells[j]? = some ((S[k]).cells[j]'(by rw [OpD.cells_length]; exact hj)) := List.getElem?_eq_getElem _
        rw [h2] at h1 ⊢
        rw [Nat.add_assoc]
        exact K4.out.kept.cell h1 (fun f => f)
      have nw := NW.out k hlt wr br rv p K4
      have ag := AG.out k hlt
      generalize S[k] = o at hcw nw ag
      clear hc
      obtain ⟨kd, sec, nn, U, ii, ba', bc', B, s, la, lc, L⟩ := o
      have h0 : wr.cell? ⟨b, off + k * 8, none⟩ = some (.int .i64 kd) := hcw 0 (by decide)
      have h1 : wr.cell? ⟨b, off + k * 8 + 1, none⟩ = some (.bool sec) := hcw 1 (by decide)
      have h2 : wr.cell? ⟨b, off + k * 8 + 2, none⟩ = some (.int .i64 nn) := hcw 2 (by decide)
      have h3 : wr.cell? ⟨b, off + k * 8 + 3, none⟩ = some (.int .u64 U) := hcw 3 (by decide)
      have h4 : wr.cell? ⟨b, off + k * 8 + 4, none⟩ = some (.int .i64 ii) := hcw 4 (by decide)
      have h5 : wr.cell? ⟨b, off + k * 8 + 5, none⟩ = some (.slice ba' B.length bc') := hcw 5 (by decide)
      have h6 : wr.cell? ⟨b, off + k * 8 + 6, none⟩ = some (.string s) := hcw 6 (by decide)
      have h7 : wr.cell? ⟨b, off + k * 8 + 7, none⟩ = some (.slice la L.length lc) := hcw 7 (by decide)
      have NW1 : Hid (Calls Tryd.prog 7 #[] (wr.alloc (.cells #[.int .i64 kd, .bool sec, .int .i64 nn, .int .u64 U, .int .i64 ii, .slice ba' B.length bc', .string s, .slice la L.length lc] 30)) fun e W' => ∃ bw, e = .returned (.pointer (some ⟨bw, 0, none⟩)) ∧ Hid (W'.heap[wr.heap.size]? = some (.cells #[.int .i64 kd, .bool sec, .int .i64 nn, .int .u64 U, .int .i64 ii, .slice ba' B.length bc', .string s, .slice la L.length lc] 30)) ∧ Hid (AgIn W' br bw rv l p a0 a1 a2 a3 a7 ∧ w.heap.size ≤ bw ∧ Of w W' br rv l p)) := nw
      have AG1 : Hid (∀ W br bw rv p, Hid (AgIn W br bw rv l p a0 a1 a2 a3 a7 ∧ w.heap.size ≤ bw ∧ Of w W br rv l p) → Calls Tryd.prog 8 #[.pointer (some ⟨br, 0, none⟩), .pointer (some ⟨bw, 0, none⟩), .agg #[.int .i64 kd, .bool sec, .int .i64 nn, .int .u64 U, .int .i64 ii, .slice ba' B.length bc', .string s, .slice la L.length lc]] W fun e W' => ∃ (ok : Bool) (p' : Nat), e = .returned (.bool ok) ∧ Hid (p ≤ p' ∧ p' ≤ l.length ∧ (ok = false → p' = p)) ∧ Hid (Of w W' br rv l p' ∧ ∃ v' xs, Wr W' bw v' xs ∧ xs.length ≤ 17592186044416 ∧ (ok = true → xs = (l.drop p).take (p' - p)))) := ag
      clear nw ag hcw NW AG LV NR K3
      go_wp2_with (first | (go_at_call 7; refine NW1.out.mono ?_; rintro e W4 ⟨bw, rfl, Kb, K5⟩; have z := Kb.out; have y0 : W4.cell? ⟨wr.heap.size, 0, none⟩ = some (.int .i64 kd) := (by simp [World.cell?, z]); have y1 : W4.cell? ⟨wr.heap.size, 1, none⟩ = some (.bool sec) := (by simp [World.cell?, z]); have y2 : W4.cell? ⟨wr.heap.size, 2, none⟩ = some (.int .i64 nn) := (by simp [World.cell?, z]); have y3 : W4.cell? ⟨wr.heap.size, 3, none⟩ = some (.int .u64 U) := (by simp [World.cell?, z]); have y4 : W4.cell? ⟨wr.heap.size, 4, none⟩ = some (.int .i64 ii) := (by simp [World.cell?, z]); have y5 : W4.cell? ⟨wr.heap.size, 5, none⟩ = some (.slice ba' B.length bc') := (by simp [World.cell?, z]); have y6 : W4.cell? ⟨wr.heap.size, 6, none⟩ = some (.string s) := (by simp [World.cell?, z]); have y7 : W4.cell? ⟨wr.heap.size, 7, none⟩ = some (.slice la L.length lc) := (by simp [World.cell?, z]); clear z Kb) | (go_at_call 8; refine (AG1.out W4 br bw rv p K5).mono ?_; rintro e W5 ⟨ok, p', rfl, B6, K6⟩; clear y0 y1 y2 y3 y4 y5 y6 y7; have hp1 := B6.out.1; have hp2 := B6.out.2.1) | (go_at_call 9; refine (AT.out W5 br rv p' K6.out.1).mono ?_; rintro e W' ⟨rfl, e2⟩; subst e2) | (go_at_call 10; refine (LF.out _ br bw rv p' _ K6 hp2).mono ?_; rintro e W6 ⟨rfl, K7⟩))
      cases ok
      · have e6 := B6.out.2.2 rfl
        subst e6
        clear B6 K6 BY
        go_quiet (fail)
        go_wp2
        go_roundw
        case rel => exact ⟨k + 1, p', by omega, by omega, by go_num, rfl, by have q := K7.out.1; exact ⟨q.rd.drewN _, q.new, q.own, q.kept.trans (Kept.drewN _ _) (fun _ f => f.elim)⟩⟩
        case measure => simp [intOf]; omega
      · have K8 : Hid (Of w W6 br rv l p' ∧ ∃ v' xs, Wr W6 bw v' xs ∧ xs.length ≤ 17592186044416 ∧ xs = (l.drop p).take (p' - p)) := by
          obtain ⟨q, v', xs, r1, r2, r3⟩ := K7.out
          exact ⟨q, v', xs, r1, r2, r3 rfl⟩
        have BY1 : Hid (∀ j, Calls Tryd.prog 11 #[.pointer (some ⟨bw, 0, none⟩)] (W6.drewN j) fun e W' => ∃ g n, e = .returned (.slice (some ⟨g, 0, none⟩) n n) ∧ (convert 22 9 (.slice (some ⟨g, 0, none⟩) n n)).run Tryd.prog W' = .ok (.string (strOfNums ((l.drop p).take (p' - p)))) W' ∧ Hid (Of w W' br rv l p')) := by
          intro j
          obtain ⟨q, v', xs, r1, r2, r3⟩ := K8.out
          have kd := Kept.drewN W6 j
          exact BY.out _ br bw rv p p' ⟨⟨q.rd.drewN _, q.new, q.own, q.kept.trans kd (fun _ f => f.elim)⟩, v', xs, r1.kept kd (fun _ _ f => f), r2, r3⟩ ⟨hp1, hp2⟩
        have HW6 := hide K7.out.1.kept
        clear B6 K6 K7 K8 BY AT LF AG1 NW1
        obtain ⟨st, hst⟩ : ∃ st, st = strOfNums ((l.drop p).take (p' - p)) := ⟨_, rfl⟩
        rw [← hst] at BY1
        have f1 : (p : Int) ≤ (p' : Int) := by omega
        have f2 : (p' : Int) ≤ (bc : Int) := by omega
        have f3 : ¬ ((p' : Int) < (p : Int)) := by omega
        have f4 : ¬ ((bc : Int) < (p' : Int)) := by omega
        have f6 : p' ≤ bc := by omega
        have f8 : p ≤ p' := by omega
        by_cases hpc : p = bc
        · have hpp : p = p' := by omega
          have hst0 : st = strOfNums [] := by rw [hst, ← hpp, Nat.sub_self, List.take_zero]
          have hcvW : Hid (∀ W, Kept (fun _ => False) w W → (convert 22 9 (.slice ba 0 0)).run Tryd.prog W = .ok (.string st) W) := fun W _ => by rw [hst0]; exact conv_at (B := []) (fun e => (e rfl).elim)
          clear hst hst0
          subst hpp
          subst hpc
          have hS6 : Kept (fun _ => False) w W6.drew := HW6.out.trans (Kept.drewN W6 1) (fun _ f => f.elim)
          have BY2 := hide (BY1.out 1)
          refine wp_region_held (S := fun W => Kept (fun _ => False) w W) (by kernel_rfl) ?_
          change wpAnyH _ _ _ _ _ _ _ _ (World.drew _)
          refine takeH (i := 0) (d := 57) (v := .bool true) rfl rfl (by kernel_rfl) (by kernel_rfl) (by kernel_rfl) (fun _ _ _ h => h) (Or.inl ⟨by rfl, fun W hW => ?_⟩) hS6 ?_
          · go_simp
          simp only [Act.put, List.setIfInBounds_toArray, List.set_cons_zero, List.set_cons_succ]
          refine takeH (i := 1) (d := 58) (v := .bool false) rfl rfl (by kernel_rfl) (by kernel_rfl) (by kernel_rfl) (fun _ _ _ h => h) (Or.inl ⟨by rfl, fun W hW => ?_⟩) hS6 ?_
          · go_simp
          simp only [Act.put, List.setIfInBounds_toArray, List.set_cons_zero, List.set_cons_succ]
          refine takeH (i := 2) (d := 59) (v := .bool false) rfl rfl (by kernel_rfl) (by kernel_rfl) (by kernel_rfl) (fun _ _ _ h => h) (Or.inl ⟨by rfl, fun W hW => ?_⟩) hS6 ?_
          · go_simp
          simp only [Act.put, List.setIfInBounds_toArray, List.set_cons_zero, List.set_cons_succ]
          refine takeH (i := 3) (d := 60) (v := undef) rfl rfl (by kernel_rfl) (by kernel_rfl) (by kernel_rfl) (fun _ _ _ h => h) (Or.inr ⟨by rfl, rfl⟩) hS6 ?_
          simp only [Act.put, List.setIfInBounds_toArray, List.set_cons_zero, List.set_cons_succ]
          refine takeH (i := 4) (d := 61) (v := undef) rfl rfl (by kernel_rfl) (by kernel_rfl) (by kernel_rfl) (fun _ _ _ h => h) (Or.inr ⟨by rfl, rfl⟩) hS6 ?_
          simp only [Act.put, List.setIfInBounds_toArray, List.set_cons_zero, List.set_cons_succ]
          refine takeH (i := 5) (d := 62) (v := undef) rfl rfl (by kernel_rfl) (by kernel_rfl) (by kernel_rfl) (fun _ _ _ h => h) (Or.inr ⟨by rfl, rfl⟩) hS6 ?_
          simp only [Act.put, List.setIfInBounds_toArray, List.set_cons_zero, List.set_cons_succ]
          refine takeH (i := 6) (d := 63) (v := .bool false) rfl rfl (by kernel_rfl) (by kernel_rfl) (by kernel_rfl) (fun _ _ _ h => h) (Or.inl ⟨by rfl, fun W hW => ?_⟩) hS6 ?_
          · go_simp
          simp only [Act.put, List.setIfInBounds_toArray, List.set_cons_zero, List.set_cons_succ]
          refine takeH (i := 7) (d := 64) (v := .bool false) rfl rfl (by kernel_rfl) (by kernel_rfl) (by kernel_rfl) (fun _ _ _ h => h) (Or.inl ⟨by rfl, fun W hW => ?_⟩) hS6 ?_
          · go_simp
          simp only [Act.put, List.setIfInBounds_toArray, List.set_cons_zero, List.set_cons_succ]
          refine takeH (i := 8) (d := 65) (v := .bool true) rfl rfl (by kernel_rfl) (by kernel_rfl) (by kernel_rfl) (fun _ _ _ h => h) (Or.inl ⟨by rfl, fun W hW => ?_⟩) hS6 ?_
          · go_simp
          simp only [Act.put, List.setIfInBounds_toArray, List.set_cons_zero, List.set_cons_succ]
          refine takeH (i := 9) (d := 66) (v := .bool true) rfl rfl (by kernel_rfl) (by kernel_rfl) (by kernel_rfl) (fun _ _ _ h => h) (Or.inl ⟨by rfl, fun W hW => ?_⟩) hS6 ?_
          · go_simp
          simp only [Act.put, List.setIfInBounds_toArray, List.set_cons_zero, List.set_cons_succ]
          refine takeH (i := 10) (d := 67) (v := .pointer (some ⟨bw, 0, none⟩)) rfl rfl (by kernel_rfl) (by kernel_rfl) (by kernel_rfl) (fun _ _ _ h => h) (Or.inl ⟨by rfl, fun W hW => ?_⟩) hS6 ?_
          · go_simp
          simp only [Act.put, List.setIfInBounds_toArray, List.set_cons_zero, List.set_cons_succ]
          refine takeH (i := 13) (d := 70) (v := .slice ba l.length p) rfl rfl (by kernel_rfl) (by kernel_rfl) (by kernel_rfl) (fun _ _ _ h => h) (Or.inl ⟨by rfl, fun W hW => ?_⟩) hS6 ?_
          · go_simp
          simp only [Act.put, List.setIfInBounds_toArray, List.set_cons_zero, List.set_cons_succ]
          refine takeH (i := 14) (d := 71) (v := .int .i64 p) rfl rfl (by kernel_rfl) (by kernel_rfl) (by kernel_rfl) (fun _ _ _ h => h) (Or.inl ⟨by rfl, fun W hW => ?_⟩) hS6 ?_
          · go_simp
          simp only [Act.put, List.setIfInBounds_toArray, List.set_cons_zero, List.set_cons_succ]
          refine takeH (i := 15) (d := 72) (v := .int .i64 p) rfl rfl (by kernel_rfl) (by kernel_rfl) (by kernel_rfl) (fun _ _ _ h => h) (Or.inl ⟨by rfl, fun W hW => ?_⟩) hS6 ?_
          · go_simp
          simp only [Act.put, List.setIfInBounds_toArray, List.set_cons_zero, List.set_cons_succ]
          refine takeH (i := 16) (d := 73) (v := .slice ba 0 0) rfl rfl (by kernel_rfl) (by kernel_rfl) (by kernel_rfl) (fun _ _ _ h => h) (Or.inl ⟨by rfl, fun W hW => ?_⟩) hS6 ?_
          · go_simp
          simp only [Act.put, List.setIfInBounds_toArray, List.set_cons_zero, List.set_cons_succ]
          refine takeH (i := 17) (d := 74) (v := .string st) rfl rfl (by kernel_rfl) (by kernel_rfl) (by kernel_rfl) (fun _ _ _ h => h) (Or.inl ⟨by rfl, fun W hW => ?_⟩) hS6 ?_
          · (have hcW := hcvW.out W hW; go_simp)
          simp only [Act.put, List.setIfInBounds_toArray, List.set_cons_zero, List.set_cons_succ]
          refine wpAnyH_all (rs := [11]) (by kernel_rfl) (by simp) ?_
          intro i hi
          obtain rfl : i = 11 := by simpa using hi
          unfold wpOp
          go_simp
          first | refine BY2.out.mono ?_ | refine Or.inl (BY2.out.mono ?_)
          clear BY2
          rintro e W8 ⟨g8, n8, rfl, x8, K9⟩
          refine ⟨K9.out.kept, ?_⟩
          refine wpAnyH_all (rs := [12]) (by kernel_rfl) (by simp) ?_
          intro i hi
          obtain rfl : i = 12 := by simpa using hi
          unfold wpOp
          go_simp
          first | refine ⟨K9.out.kept, ?_⟩ | refine Or.inl ⟨K9.out.kept, ?_⟩
          refine takeH (i := 18) (d := 75) (v := .bool false) rfl rfl (by kernel_rfl) (by kernel_rfl) (by kernel_rfl) (fun _ _ _ h => h) (Or.inl ⟨by rfl, fun W hW => ?_⟩) K9.out.kept ?_
          · go_simp
          simp only [Act.put, List.setIfInBounds_toArray, List.set_cons_zero, List.set_cons_succ]
          refine takeH (i := 19) (d := 76) (v := .bool false) rfl rfl (by kernel_rfl) (by kernel_rfl) (by kernel_rfl) (fun _ _ _ h => h) (Or.inl ⟨by rfl, fun W hW => ?_⟩) K9.out.kept ?_
          · go_simp
          simp only [Act.put, List.setIfInBounds_toArray, List.set_cons_zero, List.set_cons_succ]
          refine takeH (i := 20) (d := 77) (v := .bool false) rfl rfl (by kernel_rfl) (by kernel_rfl) (by kernel_rfl) (fun _ _ _ h => h) (Or.inl ⟨by rfl, fun W hW => ?_⟩) K9.out.kept ?_
          · go_simp
          simp only [Act.put, List.setIfInBounds_toArray, List.set_cons_zero, List.set_cons_succ]
          refine wpAnyH_done (by kernel_rfl) ?_ _
          go_wp2
          go_roundw
          case rel => exact ⟨k + 1, p, by omega, by omega, by go_num, rfl, K9⟩
          case measure => simp [intOf]; omega
        by_cases hl0 : l = []
        · have hp0 : p' = 0 := by rw [hl0] at hp2; simpa using hp2
          have hpz : p = 0 := by omega
          have hst0 : st = strOfNums [] := by rw [hst, hl0, List.drop_nil, List.take_nil]
          have hcvW : Hid (∀ W, Kept (fun _ => False) w W → (convert 22 9 (.slice ba 0 bc)).run Tryd.prog W = .ok (.string st) W) := fun W _ => by rw [hst0]; exact conv_at (B := []) (fun e => (e rfl).elim)
          obtain ⟨ad, rfl⟩ : ∃ ad, ba = some ad := by
            cases ba with
            | none => have := hba rfl; omega
            | some ad => exact ⟨ad, rfl⟩
          clear hst hst0 hl0
          subst hp0
          subst hpz
          have z0 : ((0 : Nat) : Int) = 0 := rfl
          rw [z0]
          have hS6 : Kept (fun _ => False) w W6.drew := HW6.out.trans (Kept.drewN W6 1) (fun _ f => f.elim)
          have BY2 := hide (BY1.out 1)
          refine wp_region_held (S := fun W => Kept (fun _ => False) w W) (by kernel_rfl) ?_
          change wpAnyH _ _ _ _ _ _ _ _ (World.drew _)
          refine takeH (i := 0) (d := 57) (v := .bool true) rfl rfl (by kernel_rfl) (by kernel_rfl) (by kernel_rfl) (fun _ _ _ h => h) (Or.inl ⟨by rfl, fun W hW => ?_⟩) hS6 ?_
          · go_simp
          simp only [Act.put, List.setIfInBounds_toArray, List.set_cons_zero, List.set_cons_succ]
          refine takeH (i := 1) (d := 58) (v := .bool false) rfl rfl (by kernel_rfl) (by kernel_rfl) (by kernel_rfl) (fun _ _ _ h => h) (Or.inl ⟨by rfl, fun W hW => ?_⟩) hS6 ?_
          · go_simp
          simp only [Act.put, List.setIfInBounds_toArray, List.set_cons_zero, List.set_cons_succ]
          refine takeH (i := 2) (d := 59) (v := .bool false) rfl rfl (by kernel_rfl) (by kernel_rfl) (by kernel_rfl) (fun _ _ _ h => h) (Or.inl ⟨by rfl, fun W hW => ?_⟩) hS6 ?_
          · go_simp
          simp only [Act.put, List.setIfInBounds_toArray, List.set_cons_zero, List.set_cons_succ]
          refine takeH (i := 3) (d := 60) (v := undef) rfl rfl (by kernel_rfl) (by kernel_rfl) (by kernel_rfl) (fun _ _ _ h => h) (Or.inr ⟨by rfl, rfl⟩) hS6 ?_
          simp only [Act.put, List.setIfInBounds_toArray, List.set_cons_zero, List.set_cons_succ]
          refine takeH (i := 4) (d := 61) (v := undef) rfl rfl (by kernel_rfl) (by kernel_rfl) (by kernel_rfl) (fun _ _ _ h => h) (Or.inr ⟨by rfl, rfl⟩) hS6 ?_
          simp only [Act.put, List.setIfInBounds_toArray, List.set_cons_zero, List.set_cons_succ]
          refine takeH (i := 5) (d := 62) (v := undef) rfl rfl (by kernel_rfl) (by kernel_rfl) (by kernel_rfl) (fun _ _ _ h => h) (Or.inr ⟨by rfl, rfl⟩) hS6 ?_
          simp only [Act.put, List.setIfInBounds_toArray, List.set_cons_zero, List.set_cons_succ]
          refine takeH (i := 6) (d := 63) (v := .bool false) rfl rfl (by kernel_rfl) (by kernel_rfl) (by kernel_rfl) (fun _ _ _ h => h) (Or.inl ⟨by rfl, fun W hW => ?_⟩) hS6 ?_
          · go_simp
          simp only [Act.put, List.setIfInBounds_toArray, List.set_cons_zero, List.set_cons_succ]
          refine takeH (i := 7) (d := 64) (v := .bool false) rfl rfl (by kernel_rfl) (by kernel_rfl) (by kernel_rfl) (fun _ _ _ h => h) (Or.inl ⟨by rfl, fun W hW => ?_⟩) hS6 ?_
          · go_simp
          simp only [Act.put, List.setIfInBounds_toArray, List.set_cons_zero, List.set_cons_succ]
          refine takeH (i := 8) (d := 65) (v := .bool true) rfl rfl (by kernel_rfl) (by kernel_rfl) (by kernel_rfl) (fun _ _ _ h => h) (Or.inl ⟨by rfl, fun W hW => ?_⟩) hS6 ?_
          · go_simp
          simp only [Act.put, List.setIfInBounds_toArray, List.set_cons_zero, List.set_cons_succ]
          refine takeH (i := 9) (d := 66) (v := .bool true) rfl rfl (by kernel_rfl) (by kernel_rfl) (by kernel_rfl) (fun _ _ _ h => h) (Or.inl ⟨by rfl, fun W hW => ?_⟩) hS6 ?_
          · go_simp
          simp only [Act.put, List.setIfInBounds_toArray, List.set_cons_zero, List.set_cons_succ]
          refine takeH (i := 10) (d := 67) (v := .pointer (some ⟨bw, 0, none⟩)) rfl rfl (by kernel_rfl) (by kernel_rfl) (by kernel_rfl) (fun _ _ _ h => h) (Or.inl ⟨by rfl, fun W hW => ?_⟩) hS6 ?_
          · go_simp
          simp only [Act.put, List.setIfInBounds_toArray, List.set_cons_zero, List.set_cons_succ]
          refine takeH (i := 13) (d := 70) (v := .slice (some ad) l.length bc) rfl rfl (by kernel_rfl) (by kernel_rfl) (by kernel_rfl) (fun _ _ _ h => h) (Or.inl ⟨by rfl, fun W hW => ?_⟩) hS6 ?_
          · go_simp
          simp only [Act.put, List.setIfInBounds_toArray, List.set_cons_zero, List.set_cons_succ]
          refine takeH (i := 14) (d := 71) (v := .int .i64 0) rfl rfl (by kernel_rfl) (by kernel_rfl) (by kernel_rfl) (fun _ _ _ h => h) (Or.inl ⟨by rfl, fun W hW => ?_⟩) hS6 ?_
          · go_simp
          simp only [Act.put, List.setIfInBounds_toArray, List.set_cons_zero, List.set_cons_succ]
          refine takeH (i := 15) (d := 72) (v := .int .i64 0) rfl rfl (by kernel_rfl) (by kernel_rfl) (by kernel_rfl) (fun _ _ _ h => h) (Or.inl ⟨by rfl, fun W hW => ?_⟩) hS6 ?_
          · go_simp
          simp only [Act.put, List.setIfInBounds_toArray, List.set_cons_zero, List.set_cons_succ]
          refine takeH (i := 16) (d := 73) (v := .slice (some ad) 0 bc) rfl rfl (by kernel_rfl) (by kernel_rfl) (by kernel_rfl) (fun _ _ _ h => h) (Or.inl ⟨by rfl, fun W hW => ?_⟩) hS6 ?_
          · go_simp
          simp only [Act.put, List.setIfInBounds_toArray, List.set_cons_zero, List.set_cons_succ]
          refine takeH (i := 17) (d := 74) (v := .string st) rfl rfl (by kernel_rfl) (by kernel_rfl) (by kernel_rfl) (fun _ _ _ h => h) (Or.inl ⟨by rfl, fun W hW => ?_⟩) hS6 ?_
          · (have hcW := hcvW.out W hW; go_simp)
          simp only [Act.put, List.setIfInBounds_toArray, List.set_cons_zero, List.set_cons_succ]
          refine wpAnyH_all (rs := [11]) (by kernel_rfl) (by simp) ?_
          intro i hi
          obtain rfl : i = 11 := by simpa using hi
          unfold wpOp
          go_simp
          first | refine BY2.out.mono ?_ | refine Or.inl (BY2.out.mono ?_)
          clear BY2
          rintro e W8 ⟨g8, n8, rfl, x8, K9⟩
          refine ⟨K9.out.kept, ?_⟩
          refine wpAnyH_all (rs := [12]) (by kernel_rfl) (by simp) ?_
          intro i hi
          obtain rfl : i = 12 := by simpa using hi
          unfold wpOp
          go_simp
          first | refine ⟨K9.out.kept, ?_⟩ | refine Or.inl ⟨K9.out.kept, ?_⟩
          refine takeH (i := 18) (d := 75) (v := .bool false) rfl rfl (by kernel_rfl) (by kernel_rfl) (by kernel_rfl) (fun _ _ _ h => h) (Or.inl ⟨by rfl, fun W hW => ?_⟩) K9.out.kept ?_
          · go_simp
          simp only [Act.put, List.setIfInBounds_toArray, List.set_cons_zero, List.set_cons_succ]
          refine takeH (i := 19) (d := 76) (v := .bool false) rfl rfl (by kernel_rfl) (by kernel_rfl) (by kernel_rfl) (fun _ _ _ h => h) (Or.inl ⟨by rfl, fun W hW => ?_⟩) K9.out.kept ?_
          · go_simp
          simp only [Act.put, List.setIfInBounds_toArray, List.set_cons_zero, List.set_cons_succ]
          refine takeH (i := 20) (d := 77) (v := .bool false) rfl rfl (by kernel_rfl) (by kernel_rfl) (by kernel_rfl) (fun _ _ _ h => h) (Or.inl ⟨by rfl, fun W hW => ?_⟩) K9.out.kept ?_
          · go_simp
          simp only [Act.put, List.setIfInBounds_toArray, List.set_cons_zero, List.set_cons_succ]
          refine wpAnyH_done (by kernel_rfl) ?_ _
          go_wp2
          go_roundw
          case rel => exact ⟨k + 1, 0, by omega, by omega, by go_num, rfl, K9⟩
          case measure => simp [intOf]; omega
        · obtain ⟨bb, oo, rfl, hcc⟩ := HL.out hl0
          have hcvW : Hid (∀ W, Kept (fun _ => False) w W → (convert 22 9 (.slice (some ⟨bb, oo + p, none⟩) (p' - p) (bc - p))).run Tryd.prog W = .ok (.string st) W) := fun W kk => by rw [hst]; exact conv_sub (bytes_kept HL.out kk (fun _ _ _ f => f)) rfl (by omega)
          have f5 : ¬ bc = p := by omega
          have f7 : ¬ bc - p = 0 := by omega
          clear hst hcc
          have hS6 : Kept (fun _ => False) w W6.drew := HW6.out.trans (Kept.drewN W6 1) (fun _ f => f.elim)
          have BY2 := hide (BY1.out 1)
          refine wp_region_held (S := fun W => Kept (fun _ => False) w W) (by kernel_rfl) ?_
          change wpAnyH _ _ _ _ _ _ _ _ (World.drew _)
          refine takeH (i := 0) (d := 57) (v := .bool true) rfl rfl (by kernel_rfl) (by kernel_rfl) (by kernel_rfl) (fun _ _ _ h => h) (Or.inl ⟨by rfl, fun W hW => ?_⟩) hS6 ?_
          · go_simp
          simp only [Act.put, List.setIfInBounds_toArray, List.set_cons_zero, List.set_cons_succ]
          refine takeH (i := 1) (d := 58) (v := .bool false) rfl rfl (by kernel_rfl) (by kernel_rfl) (by kernel_rfl) (fun _ _ _ h => h) (Or.inl ⟨by rfl, fun W hW => ?_⟩) hS6 ?_
          · go_simp
          simp only [Act.put, List.setIfInBounds_toArray, List.set_cons_zero, List.set_cons_succ]
          refine takeH (i := 2) (d := 59) (v := .bool false) rfl rfl (by kernel_rfl) (by kernel_rfl) (by kernel_rfl) (fun _ _ _ h => h) (Or.inl ⟨by rfl, fun W hW => ?_⟩) hS6 ?_
          · go_simp
          simp only [Act.put, List.setIfInBounds_toArray, List.set_cons_zero, List.set_cons_succ]
          refine takeH (i := 3) (d := 60) (v := undef) rfl rfl (by kernel_rfl) (by kernel_rfl) (by kernel_rfl) (fun _ _ _ h => h) (Or.inr ⟨by rfl, rfl⟩) hS6 ?_
          simp only [Act.put, List.setIfInBounds_toArray, List.set_cons_zero, List.set_cons_succ]
          refine takeH (i := 4) (d := 61) (v := undef) rfl rfl (by kernel_rfl) (by kernel_rfl) (by kernel_rfl) (fun _ _ _ h => h) (Or.inr ⟨by rfl, rfl⟩) hS6 ?_
          simp only [Act.put, List.setIfInBounds_toArray, List.set_cons_zero, List.set_cons_succ]
          refine takeH (i := 5) (d := 62) (v := undef) rfl rfl (by kernel_rfl) (by kernel_rfl) (by kernel_rfl) (fun _ _ _ h => h) (Or.inr ⟨by rfl, rfl⟩) hS6 ?_
          simp only [Act.put, List.setIfInBounds_toArray, List.set_cons_zero, List.set_cons_succ]
          refine takeH (i := 6) (d := 63) (v := .bool false) rfl rfl (by kernel_rfl) (by kernel_rfl) (by kernel_rfl) (fun _ _ _ h => h) (Or.inl ⟨by rfl, fun W hW => ?_⟩) hS6 ?_
          · go_simp
          simp only [Act.put, List.setIfInBounds_toArray, List.set_cons_zero, List.set_cons_succ]
          refine takeH (i := 7) (d := 64) (v := .bool false) rfl rfl (by kernel_rfl) (by kernel_rfl) (by kernel_rfl) (fun _ _ _ h => h) (Or.inl ⟨by rfl, fun W hW => ?_⟩) hS6 ?_
          · go_simp
          simp only [Act.put, List.setIfInBounds_toArray, List.set_cons_zero, List.set_cons_succ]
          refine takeH (i := 8) (d := 65) (v := .bool true) rfl rfl (by kernel_rfl) (by kernel_rfl) (by kernel_rfl) (fun _ _ _ h => h) (Or.inl ⟨by rfl, fun W hW => ?_⟩) hS6 ?_
          · go_simp
          simp only [Act.put, List.setIfInBounds_toArray, List.set_cons_zero, List.set_cons_succ]
          refine takeH (i := 9) (d := 66) (v := .bool true) rfl rfl (by kernel_rfl) (by kernel_rfl) (by kernel_rfl) (fun _ _ _ h => h) (Or.inl ⟨by rfl, fun W hW => ?_⟩) hS6 ?_
          · go_simp
          simp only [Act.put, List.setIfInBounds_toArray, List.set_cons_zero, List.set_cons_succ]
          refine takeH (i := 10) (d := 67) (v := .pointer (some ⟨bw, 0, none⟩)) rfl rfl (by kernel_rfl) (by kernel_rfl) (by kernel_rfl) (fun _ _ _ h => h) (Or.inl ⟨by rfl, fun W hW => ?_⟩) hS6 ?_
          · go_simp
          simp only [Act.put, List.setIfInBounds_toArray, List.set_cons_zero, List.set_cons_succ]
          refine takeH (i := 13) (d := 70) (v := .slice (some ⟨bb, oo, none⟩) l.length bc) rfl rfl (by kernel_rfl) (by kernel_rfl) (by kernel_rfl) (fun _ _ _ h => h) (Or.inl ⟨by rfl, fun W hW => ?_⟩) hS6 ?_
          · go_simp
          simp only [Act.put, List.setIfInBounds_toArray, List.set_cons_zero, List.set_cons_succ]
          refine takeH (i := 14) (d := 71) (v := .int .i64 p) rfl rfl (by kernel_rfl) (by kernel_rfl) (by kernel_rfl) (fun _ _ _ h => h) (Or.inl ⟨by rfl, fun W hW => ?_⟩) hS6 ?_
          · go_simp
          simp only [Act.put, List.setIfInBounds_toArray, List.set_cons_zero, List.set_cons_succ]
          refine takeH (i := 15) (d := 72) (v := .int .i64 p') rfl rfl (by kernel_rfl) (by kernel_rfl) (by kernel_rfl) (fun _ _ _ h => h) (Or.inl ⟨by rfl, fun W hW => ?_⟩) hS6 ?_
          · go_simp
          simp only [Act.put, List.setIfInBounds_toArray, List.set_cons_zero, List.set_cons_succ]
          refine takeH (i := 16) (d := 73) (v := .slice (some ⟨bb, oo + p, none⟩) (p' - p) (bc - p)) rfl rfl (by kernel_rfl) (by kernel_rfl) (by kernel_rfl) (fun _ _ _ h => h) (Or.inl ⟨by rfl, fun W hW => ?_⟩) hS6 ?_
          · go_simp
          simp only [Act.put, List.setIfInBounds_toArray, List.set_cons_zero, List.set_cons_succ]
          refine takeH (i := 17) (d := 74) (v := .string st) rfl rfl (by kernel_rfl) (by kernel_rfl) (by kernel_rfl) (fun _ _ _ h => h) (Or.inl ⟨by rfl, fun W hW => ?_⟩) hS6 ?_
          · (have hcW := hcvW.out W hW; go_simp)
          simp only [Act.put, List.setIfInBounds_toArray, List.set_cons_zero, List.set_cons_succ]
          refine wpAnyH_all (rs := [11]) (by kernel_rfl) (by simp) ?_
          intro i hi
          obtain rfl : i = 11 := by simpa using hi
          unfold wpOp
          go_simp
          first | refine BY2.out.mono ?_ | refine Or.inl (BY2.out.mono ?_)
          clear BY2
          rintro e W8 ⟨g8, n8, rfl, x8, K9⟩
          refine ⟨K9.out.kept, ?_⟩
          refine wpAnyH_all (rs := [12]) (by kernel_rfl) (by simp) ?_
          intro i hi
          obtain rfl : i = 12 := by simpa using hi
          unfold wpOp
          go_simp
          first | refine ⟨K9.out.kept, ?_⟩ | refine Or.inl ⟨K9.out.kept, ?_⟩
          refine takeH (i := 18) (d := 75) (v := .bool false) rfl rfl (by kernel_rfl) (by kernel_rfl) (by kernel_rfl) (fun _ _ _ h => h) (Or.inl ⟨by rfl, fun W hW => ?_⟩) K9.out.kept ?_
          · go_simp
          simp only [Act.put, List.setIfInBounds_toArray, List.set_cons_zero, List.set_cons_succ]
          refine takeH (i := 19) (d := 76) (v := .bool false) rfl rfl (by kernel_rfl) (by kernel_rfl) (by kernel_rfl) (fun _ _ _ h => h) (Or.inl ⟨by rfl, fun W hW => ?_⟩) K9.out.kept ?_
          · go_simp
          simp only [Act.put, List.setIfInBounds_toArray, List.set_cons_zero, List.set_cons_succ]
          refine takeH (i := 20) (d := 77) (v := .bool false) rfl rfl (by kernel_rfl) (by kernel_rfl) (by kernel_rfl) (fun _ _ _ h => h) (Or.inl ⟨by rfl, fun W hW => ?_⟩) K9.out.kept ?_
          · go_simp
          simp only [Act.put, List.setIfInBounds_toArray, List.set_cons_zero, List.set_cons_succ]
          refine wpAnyH_done (by kernel_rfl) ?_ _
          go_wp2
          go_roundw
          case rel => exact ⟨k + 1, p', by omega, by omega, by go_num, rfl, K9⟩
          case measure => simp [intOf]; omega
    · obtain rfl : k = S.length := by omega
      clear hlt hk NW AG LV NR K3
      go_wp2
      go_ret
      exact ⟨rfl, K4.out.kept⟩
end Go.Proofs.YtbcohdioapmlgaaDoor
