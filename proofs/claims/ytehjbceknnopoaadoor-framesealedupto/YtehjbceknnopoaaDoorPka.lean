import Derived.Test.YtehjbceknnopoaaDoorImr
import Derived.ArgAppend
import Derived.Lib.SlBytesConst
namespace Go.Proofs.YtehjbceknnopoaaDoor
open Go.ChangeShapes Go.WideShapes Go.ChangeAt Go.RowKit

theorem Wq.same {w W W' : World} {bw : Nat} {v : Value} {xs : List Int} (h : Wq w W bw v xs) (k : Kept (fun _ => False) W W') : Wq w W' bw v xs :=
  ⟨h.wr.kept k (fun _ _ f => f), h.new, h.own, h.kept.trans k (fun _ f => f.elim)⟩
set_option maxHeartbeats 1000000 in
theorem head_any (kind : Nat) (w : World) :
    Calls Tryd.prog 33 #[.int .u8 kind] w fun e w' => ∃ a c, e = .returned (.slice a 5 c) ∧ OwnB w w' (.slice a 5 c) (cncd kind) := by
  obtain ⟨i0, hi, hz0, hz1, hz2⟩ := info_parts Tryd.infoB
  have kc := fun (w : World) (C : Array Value) (n c : Nat) => Lib.run_convert_bytes_const (P := Tryd.prog) w 22 5 C n c Tryd.underlying22 Tryd.underlying5
  go_enter Tryd.func33, Tryd.ntmps33
  go_wp2_with (at_builtin; refine wpList_append_grows _ rfl _ _ 22 rfl 5 i0 (.int .u8 0) 1 1 Tryd.underlying22 hi hz0 hz1 hz2 rfl (by decide) (some ⟨w.heap.size, 0, none⟩) 4 4 (bs [99, 110, 99, 100]) rfl (fun e => nomatch e) rfl ?c1 _ 1 1 (bs [(kind : Int)]) rfl rfl ?c2 (bs_one _) (by decide) (by unfold maxLen; decide) (by decide) ?_)
  case c1 =>
    rintro b e j u hj
    obtain rfl := Option.some.inj e
    obtain ⟨b, off, e, hcc⟩ := bytes_keptF (built_bytes w [99, 110, 99, 100] (4, 5)) (Kept.alloc _ _) (by simp)
    simp only [Option.some.injEq, Addr.mk.injEq, and_true] at e
    obtain ⟨rfl, rfl⟩ := e
    exact BytesAt.cells hcc j u hj
  case c2 =>
    have h := one_new (w.alloc (.cells (bs [99, 110, 99, 100]).toArray 5 (4, 5))) (.int .u8 (kind : Int)) 5
    have e : (w.alloc (.cells (bs [99, 110, 99, 100]).toArray 5 (4, 5))).heap.size = w.heap.size + 1 := by simp
    rw [e] at h
    exact h
  · intro v' w1 h1 h2
    have k1 : Kept (fun _ => False) w w1 := ((Kept.alloc w (.cells (bs [99, 110, 99, 100]).toArray 5 (4, 5))).trans (Kept.alloc _ (.cells (bs [(kind : Int)]).toArray 5)) (fun _ f => f.elim)).trans (Kept.grown h2) (fun i e => by cases e)
    have q : OwnB w w1 v' (cncd kind) := by
      refine ⟨⟨rfl, ?_⟩, k1⟩
      rcases h1.2 with ⟨e, e5⟩ | ⟨g, cap, cur, e, hb, r⟩
      · cases e5
      · exact .inr ⟨g, cap, cur, e, Nat.le_trans (by omega : w.heap.size ≤ w.heap.size + 1 + 1) hb, r⟩
    obtain ⟨a, c, rfl, _⟩ := q.at
    have Q := hideC q
    clear q h1 h2 k1
    go_wp2
    go_ret
    exact ⟨a, c, rfl, Q.out⟩
set_option maxRecDepth 20000 in
set_option maxHeartbeats 4000000 in
theorem pack_any (kind : Nat) (S : List BkD) (a : Option Addr) (c : Nat) (w : World) {a0 a1 a2 a3 a4 a5 a6 : Addr} (hk : 0 < kind) (hk2 : kind < 256) (hS : BksAt w a S) (hA : ∀ x ∈ S, x.At w) (hT : TabAt w) (htot : btot S ≤ 1073741824) (hE : Errs7 w a0 a1 a2 a3 a4 a5 a6) :
    Calls Tryd.prog 16 #[.int .u8 kind, .slice a S.length c] w fun e w' =>
      (∃ g, (∀ x ∈ S, 0 < x.t) ∧ e = .returned (.tuple #[.slice (some ⟨g, 0, none⟩) (penc kind S).length (penc kind S).length, .nilIface]) ∧ w.heap.size ≤ g ∧ w'.ownsRow g 5 1 (.slice (some ⟨g, 0, none⟩) (penc kind S).length (penc kind S).length) (penc kind S).length (bs (penc kind S)) ∧ Kept (fun _ => False) w w') ∨
      ((∃ x ∈ S, x.t = 0) ∧ e = .returned (.tuple #[.slice none 0 0, .iface 103 (.pointer (some a5))]) ∧ Kept (fun _ => False) w w') := by
  have hcount := btot_count S
  have hbl := bencs_small S (by omega)
  have hul := (ulen_le S.length (by omega)).2
  have hph := phead_length kind S
  have hpe := penc_length kind S
  have hpb : IsBytes (phead kind S) := phead_bytes hk2 fun x hx => ⟨(hA x hx).t2, (hA x hx).i⟩
  obtain ⟨bw, hbw⟩ : ∃ bw, bw = w.heap.size := ⟨_, rfl⟩
  obtain ⟨pre, hpre⟩ : ∃ p, p = cncd kind ++ uvb S.length := ⟨_, rfl⟩
  have hprl : pre.length = 5 + ulen S.length := by rw [hpre, List.length_append, uvb_length]; rfl
  have NW : Hid (Calls Tryd.prog 27 #[] w fun e W => e = .returned (.pointer (some ⟨bw, 0, none⟩)) ∧ Hid (Wq w W bw (.slice none 0 0) [])) := by
    refine (new_any w).mono ?_
    rintro e W ⟨rfl, h1, h2⟩
    rw [hbw]
    exact ⟨rfl, h1, Nat.le_refl _, fun k hk => (by simp [Value.ownBlock] at hk), h2⟩
  have HD : Hid (∀ W v, Hid (Wq w W bw v []) → Calls Tryd.prog 33 #[.int .u8 kind] W fun e W' => ∃ a1 c1, e = .returned (.slice a1 5 c1) ∧ Hid (Wq w W' bw v [] ∧ BytesAt W' a1 (cncd kind) ∧ (a1 = none → c1 = 0))) := by
    intro W v q
    refine (head_any kind W).mono ?_
    rintro e W' ⟨a1, c1, rfl, ho⟩
    obtain ⟨a2, c2, e2, hb2, hz2⟩ := ho.at
    simp only [Value.slice.injEq] at e2
    obtain ⟨rfl, _, rfl⟩ := e2
    exact ⟨a1, c1, rfl, q.out.same ho.kept, hb2, hz2⟩
  have R1 : Hid (∀ W v a1 c1, Hid (Wq w W bw v [] ∧ BytesAt W a1 (cncd kind) ∧ (a1 = none → c1 = 0)) → Calls Tryd.prog 30 #[.pointer (some ⟨bw, 0, none⟩), .slice a1 5 c1] W fun e W' => ∃ v', e = .returned (.tuple #[]) ∧ Hid (Wq w W' bw v' (cncd kind))) := by
    intro W v a1 c1 q
    refine (raw_any bw v [] (cncd kind) a1 c1 W q.out.1.wr q.out.2.1 q.out.2.2 (by show 0 + 5 ≤ 140737488355328; decide)).mono ?_
    rintro e W' ⟨rfl, v', h1, h2⟩
    exact ⟨v', rfl, q.out.1.step h1 h2⟩
  have UV : Hid (∀ W v, Hid (Wq w W bw v (cncd kind)) → Calls Tryd.prog 29 #[.pointer (some ⟨bw, 0, none⟩), .int .u64 S.length] W fun e W' => ∃ v', e = .returned (.tuple #[]) ∧ Hid (Wq w W' bw v' (pre ++ bencs (S.take 0)))) := by
    intro W v q
    refine (wuv_any bw v _ S.length W q.out.wr (by omega) (by show 5 + 10 ≤ _; decide)).mono ?_
    rintro e W' ⟨rfl, v', h1, h2⟩
    refine ⟨v', rfl, ?_⟩
    rw [List.take_zero, bencs_nil, List.append_nil, hpre]
    exact q.out.step h1 h2
  have EN : Hid (∀ k (hlt : k < S.length), 0 < (S[k]).t → ∀ W v, Hid (Wq w W bw v (pre ++ bencs (S.take k))) → ∀ o, Calls Tryd.prog 15 #[.int .u8 (S[k]).t, .slice (S[k]).a (S[k]).B.length (S[k]).c] (W.alloc o) fun e W' => ∃ g, e = .returned (.tuple #[.slice (some ⟨g, 0, none⟩) (benc (S[k]).t (S[k]).B).length (benc (S[k]).t (S[k]).B).length, .nilIface]) ∧ Hid (Wq w W' bw v (pre ++ bencs (S.take k)) ∧ BytesAt W' (some ⟨g, 0, none⟩) (benc (S[k]).t (S[k]).B))) := by
    intro k hlt ht W v q o
    have hx := hA _ (List.getElem_mem hlt)
    have q2 := q.out.same (Kept.alloc W o)
    have hm := btot_mem (List.getElem_mem hlt)
    simp only [BkD.size] at hm
    refine (encode_any _ _ _ _ (W.alloc o) ht hx.t2 (bytes_keptF hx.b q2.kept) hx.i hx.z (by omega) (hT.kept q2.kept)).mono ?_
    rintro e W' ⟨g, rfl, _, h2, h3⟩
    exact ⟨g, rfl, q2.same h3, (own_bytesF h2).1⟩
  have EZ : Hid (∀ W v xs, Hid (Wq w W bw v xs) → ∀ o v0, Calls Tryd.prog 15 #[.int .u8 0, v0] (W.alloc o) fun e W' => e = .returned (.tuple #[.slice none 0 0, .iface 103 (.pointer (some a5))]) ∧ Hid (Kept (fun _ => False) w W')) := by
    intro W v xs q o v0
    have q2 := q.out.same (Kept.alloc W o)
    refine (encode_zero v0 a5 (W.alloc o) (hE.kept q2.kept).s5.var).mono ?_
    rintro e W' ⟨rfl, n, rfl⟩
    exact ⟨rfl, q2.kept.trans (Kept.drewN _ n) (fun _ f => f.elim)⟩
  have RW : Hid (∀ k (hlt : k < S.length), ∀ W v g, Hid (Wq w W bw v (pre ++ bencs (S.take k)) ∧ BytesAt W (some ⟨g, 0, none⟩) (benc (S[k]).t (S[k]).B)) → Calls Tryd.prog 30 #[.pointer (some ⟨bw, 0, none⟩), .slice (some ⟨g, 0, none⟩) (benc (S[k]).t (S[k]).B).length (benc (S[k]).t (S[k]).B).length] W fun e W' => ∃ v', e = .returned (.tuple #[]) ∧ Hid (Wq w W' bw v' (pre ++ bencs (S.take (k + 1))))) := by
    intro k hlt W v g q
    have h1 := bencs_take_le S (k + 1)
    rw [take_nextB hlt, bencs_snoc, List.length_append] at h1
    refine (raw_any bw v _ _ _ _ W q.out.1.wr q.out.2 (fun e => nomatch e) (by rw [List.length_append]; omega)).mono ?_
    rintro e W' ⟨rfl, v', h1, h2⟩
    refine ⟨v', rfl, ?_⟩
    rw [take_nextB hlt, bencs_snoc, ← List.append_assoc]
    exact q.out.1.step h1 h2
  have hend : pre ++ bencs (S.take S.length) = phead kind S := by rw [List.take_length, hpre]; rfl
  have B1 : Hid (∀ W v, Hid (Wq w W bw v (pre ++ bencs (S.take S.length))) → Calls Tryd.prog 32 #[.pointer (some ⟨bw, 0, none⟩)] W fun e W' => ∃ g, e = .returned (.slice (some ⟨g, 0, none⟩) (phead kind S).length (phead kind S).length) ∧ Hid (Wq w W' bw v (phead kind S) ∧ BytesAt W' (some ⟨g, 0, none⟩) (phead kind S))) := by
    intro W v q
    rw [hend] at q
    refine (bytes_any bw v _ W q.out.wr (by omega)).mono ?_
    rintro e W' ⟨rfl, h1, h2⟩
    exact ⟨_, rfl, q.out.same h2, (own_bytesF h1).1⟩
  have SL : Hid (∀ W v g, Hid (Wq w W bw v (phead kind S) ∧ BytesAt W (some ⟨g, 0, none⟩) (phead kind S)) → Calls Tryd.prog 34 #[.slice (some ⟨g, 0, none⟩) (phead kind S).length (phead kind S).length] W fun e W' => e = .returned (.int .u32 (sealed (phead kind S) : Nat)) ∧ W' = W) := by
    intro W v g q
    exact sealed_any _ _ _ W q.out.2 hpb (by omega) (hT.kept q.out.1.kept)
  have WD : Hid (∀ W v g, Hid (Wq w W bw v (phead kind S) ∧ BytesAt W (some ⟨g, 0, none⟩) (phead kind S)) → Calls Tryd.prog 31 #[.pointer (some ⟨bw, 0, none⟩), .int .u32 (sealed (phead kind S) : Nat)] W fun e W' => ∃ v', e = .returned (.tuple #[]) ∧ Hid (Wq w W' bw v' (penc kind S))) := by
    intro W v g q
    refine (w32_any bw v _ _ W q.out.1.wr (sealed_lt _) (by omega)).mono ?_
    rintro e W' ⟨rfl, v', h1, h2⟩
    exact ⟨v', rfl, q.out.1.step h1 h2⟩
  have B2 : Hid (∀ W v, Hid (Wq w W bw v (penc kind S)) → Calls Tryd.prog 32 #[.pointer (some ⟨bw, 0, none⟩)] W fun e W' => ∃ g, e = .returned (.slice (some ⟨g, 0, none⟩) (penc kind S).length (penc kind S).length) ∧ Hid (w.heap.size ≤ g ∧ W'.ownsRow g 5 1 (.slice (some ⟨g, 0, none⟩) (penc kind S).length (penc kind S).length) (penc kind S).length (bs (penc kind S)) ∧ Kept (fun _ => False) w W')) := by
    intro W v q
    refine (bytes_any bw v _ W q.out.wr (by omega)).mono ?_
    rintro e W' ⟨rfl, h1, h2⟩
    exact ⟨_, rfl, q.out.kept.size, h1, q.out.kept.trans h2 (fun _ f => f.elim)⟩
  obtain ⟨n1, hn1⟩ : ∃ n, n = (phead kind S).length := ⟨_, rfl⟩
  obtain ⟨n2, hn2⟩ : ∃ n, n = (penc kind S).length := ⟨_, rfl⟩
  obtain ⟨s1, hs1⟩ : ∃ s, s = sealed (phead kind S) := ⟨_, rfl⟩
  rw [← hn1] at B1 SL
  rw [← hs1] at SL WD
  rw [← hn2] at B2 ⊢
  have HS := hideC hS
  have htI : (kind : Int) ≠ 0 := by omega
  clear hpb hn1 hn2 hs1 hend hph hpe hbl hul hprl hpre hbw hT hE hA hS
  have hcb : S.length ≤ 1073741824 := by omega
  clear htot
  clear hcount
  go_enter Tryd.func16, Tryd.ntmps16
  go_wp2_with (first | (go_at_call 27; refine NW.out.mono ?_; rintro e W1 ⟨rfl, K1⟩) | (go_at_call 33; refine (HD.out W1 _ K1).mono ?_; rintro e W2 ⟨a1, c1, rfl, K2⟩) | (go_at_call 30; refine (R1.out W2 _ a1 c1 K2).mono ?_; rintro e W3 ⟨v3, rfl, K3⟩) | (go_at_call 29; refine (UV.out W3 _ K3).mono ?_; rintro e W4 ⟨v4, rfl, K4⟩))
  go_loopw [26] (fun i wr => ∃ (k : Nat) (v : Value), k ≤ S.length ∧ i = .int .i64 k ∧ Hid (∀ x ∈ S.take k, 0 < x.t) ∧ Hid (Wq w wr bw v (pre ++ bencs (S.take k)))) (fun i _ => S.length - (intOf i).toNat)
  case atStart => exact ⟨0, v4, Nat.zero_le _, rfl, fun x hx => by simp at hx, K4⟩
  case round =>
    obtain ⟨k, v, hkn, rfl, HP, HQ⟩ := hrel
    by_cases hlt : k < S.length
    · obtain ⟨b, off, rfl, hc⟩ := HS.out (by intro e; rw [e] at hlt; simp at hlt)
      have h0 := HQ.out.kept.cell (hc k hlt).1 (fun f => f)
      have h1 := HQ.out.kept.cell (hc k hlt).2 (fun f => f)
      by_cases ht : (S[k]).t = 0
      · have hex : Hid (∃ x ∈ S, x.t = 0) := ⟨_, List.getElem_mem hlt, ht⟩
        have EZ2 := hideC (EZ.out wr v _ HQ)
        rw [ht] at h0
        have z0 : ((0 : Nat) : Int) = 0 := rfl
        rw [z0] at h0
        obtain ⟨nb, hnb⟩ : ∃ n, n = (S[k]).B.length := ⟨_, rfl⟩
        obtain ⟨cb, hcb2⟩ : ∃ n, n = (S[k]).c := ⟨_, rfl⟩
        obtain ⟨ab, hab⟩ : ∃ n, n = (S[k]).a := ⟨_, rfl⟩
        rw [← hnb, ← hcb2, ← hab] at h1
        clear hnb hcb2 hab ht hc HP EN RW EZ NW HD R1 UV B1 SL WD B2
        go_wp2_with (go_at_call 15; refine (EZ2.out _ _).mono ?_; rintro e W5 ⟨rfl, K5⟩)
        go_ret2
        exact .inr ⟨hex.out, rfl, K5.out⟩
      · have ht' : 0 < (S[k]).t := by omega
        have HP2 : Hid (∀ x ∈ S.take (k + 1), 0 < x.t) := by
          intro x hx
          rw [take_nextB hlt, List.mem_append, List.mem_singleton] at hx
          rcases hx with hx | rfl
          · exact HP.out x hx
          · exact ht'
        have EN2 := hideC (EN.out k hlt ht' wr v HQ)
        have RW2 := hideC (RW.out k hlt)
        generalize S[k] = x at h0 h1 EN2 RW2
        obtain ⟨nx, hnx⟩ : ∃ n, n = (benc x.t x.B).length := ⟨_, rfl⟩
        rw [← hnx] at EN2 RW2
        obtain ⟨t, ab, cb, B⟩ := x
        simp only at h0 h1 EN2 RW2
        obtain ⟨nb, hnb⟩ : ∃ n, n = B.length := ⟨_, rfl⟩
        rw [← hnb] at h1 EN2
        clear hnb hnx ht ht' hc HP EN RW EZ NW HD R1 UV B1 SL WD B2
        go_wp2_with (first | (go_at_call 15; refine (EN2.out _).mono ?_; rintro e W5 ⟨g5, rfl, K5⟩) | (go_at_call 30; refine (RW2.out W5 _ g5 K5).mono ?_; rintro e W6 ⟨v6, rfl, K6⟩))
        go_roundw
        case rel => exact ⟨k + 1, v6, by omega, by go_num, HP2, K6⟩
        case measure => simp [intOf]; omega
    · obtain rfl : k = S.length := by omega
      have hall : Hid (∀ x ∈ S, 0 < x.t) := by have := HP.out; rwa [List.take_length] at this
      clear HP EN RW EZ NW HD R1 UV HS
      go_wp2_with (first | (go_at_call 32; refine (B2.out W7 _ K7).mono ?_; rintro e W8 ⟨g8, rfl, K8⟩) | (go_at_call 32; refine (B1.out _ _ HQ).mono ?_; rintro e W5 ⟨g5, rfl, K5⟩) | (go_at_call 34; refine (SL.out W5 _ _ K5).mono ?_; rintro e W6 ⟨rfl, e6⟩; subst e6) | (go_at_call 31; refine (WD.out _ _ _ K5).mono ?_; rintro e W7 ⟨v7, rfl, K7⟩))
      go_ret2
      exact .inl ⟨g8, hall.out, rfl, K8.out⟩
theorem pack_zero (v : Value) (w : World) {a0 a1 a2 a3 a4 a5 a6 : Addr} (hE : Errs7 w a0 a1 a2 a3 a4 a5 a6) :
    Calls Tryd.prog 16 #[.int .u8 0, v] w fun e w' => e = .returned (.tuple #[.slice none 0 0, .iface 103 (.pointer (some a5))]) ∧ Kept (fun _ => False) w w' := by
  have g5 := hE.s5.var
  clear hE
  go_enter Tryd.func16, Tryd.ntmps16
  go_wp2
  go_quiet (fail)
  go_wp2
  go_ret2
  exact ⟨rfl, Kept.drewN _ _⟩
end Go.Proofs.YtehjbceknnopoaaDoor
