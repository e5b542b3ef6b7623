import Derived.Test.YtoglgicmnhklbaaDoorCrx
import Derived.Test.YtoglgicmnhklbaaDoorWrG
namespace Go.Proofs.YtoglgicmnhklbaaDoor
open Go.ChangeShapes Go.WideShapes Go.ChangeAt Go.RowKit

/-- A Writer of the call's own, in a world that keeps the first one. -/
structure Wq (w W : World) (bw : Nat) (v : Value) (xs : List Int) : Prop where
  wr : Wr W bw v xs
  new : w.heap.size ≤ bw
  own : ∀ k, v.ownBlock = some k → w.heap.size ≤ k
  kept : Kept (fun _ => False) w W
theorem Wq.step {w W W' : World} {bw : Nat} {v v' : Value} {xs xs' : List Int} (h : Wq w W bw v xs) (h1 : Wr W' bw v' xs') (h2 : WStep W W' bw v v') : Wq w W' bw v' xs' := by
  refine ⟨h1, h.new, fun k hk => ?_, h.kept.trans h2.kept ?_⟩
  · rcases h2.new k hk with e | e
    · exact h.own k e
    · exact Nat.le_trans h.kept.size e
  · rintro i (e | e)
    · subst e; exact .inr h.new
    · exact .inr (h.own i e)
theorem own_bytesF {w : World} {base g n cap : Nat} {l : List Int} (h : w.ownsRow base 5 1 (.slice (some ⟨g, 0, none⟩) n cap) n (bs l)) : BytesAt w (some ⟨g, 0, none⟩) l ∧ g < w.heap.size := by
  obtain ⟨a, c, e, hb, _⟩ := bytes_of_own h
  simp only [Value.slice.injEq] at e
  obtain ⟨rfl, _, _⟩ := e
  refine ⟨hb, ?_⟩
  rcases h.2 with ⟨e, _⟩ | ⟨g', cap', cur, hv, _, hg, _⟩
  · cases e
  · simp only [Value.slice.injEq, Option.some.injEq, Addr.mk.injEq, and_true] at hv
    obtain ⟨rfl, _⟩ := hv
    exact lt_of_block hg
theorem bytes_keptF {w w' : World} {a : Option Addr} {l : List Int} (h : BytesAt w a l) (k : Kept (fun _ => False) w w') : BytesAt w' a l := by
  intro hne
  obtain ⟨b, off, e, hc⟩ := h hne
  exact ⟨b, off, e, fun j hj => k.cell (hc j hj) (fun f => f)⟩
theorem TabAt.kept {w w' : World} (h : TabAt w) (k : Kept (fun _ => False) w w') : TabAt w' :=
  ⟨fun i hi => k.cell (h.1 i hi) (fun f => f), fun i hi => k.cell (h.2 i hi) (fun f => f)⟩
theorem le_bytes (m : Nat) : ∀ n, IsBytes (le m n) := by
  induction m with
  | zero => intro n x hx; simp [le] at hx
  | succ m ih =>
    intro n x hx
    simp only [le, List.mem_cons] at hx
    rcases hx with rfl | hx
    · omega
    · exact ih _ x hx
theorem uvb_bytesF : ∀ n, IsBytes (uvb n) := by
  intro n
  induction n using Nat.strongRecOn with
  | ind n ih =>
    rw [uvb]
    split
    · intro x hx
      simp only [List.mem_singleton] at hx
      omega
    · intro x hx
      simp only [List.mem_cons] at hx
      rcases hx with rfl | hx
      · omega
      · exact ih (n / 128) (by omega) x hx
/-- A block's bytes ahead of its sum, and whole. -/
def bhead (tag : Int) (l : List Int) : List Int := [tag] ++ uvb l.length ++ l
def benc (tag : Int) (l : List Int) : List Int := bhead tag l ++ le 4 (ext 0 (bhead tag l))
theorem bhead_bytes {tag : Int} {l : List Int} (h0 : 0 ≤ tag) (h1 : tag ≤ 255) (hb : IsBytes l) : IsBytes (bhead tag l) := by
  intro x hx
  simp only [bhead, List.mem_append, List.mem_singleton] at hx
  rcases hx with (rfl | hx) | hx
  · exact ⟨h0, h1⟩
  · exact uvb_bytesF _ x hx
  · exact hb x hx
theorem bhead_length (tag : Int) (l : List Int) : (bhead tag l).length = 1 + ulen l.length + l.length := by
  simp only [bhead, List.length_append, List.length_singleton, uvb_length]
theorem benc_length (tag : Int) (l : List Int) : (benc tag l).length = 5 + ulen l.length + l.length := by
  rw [benc, List.length_append, bhead_length, le_length]; omega
set_option maxRecDepth 20000 in
set_option maxHeartbeats 2000000 in
theorem encode_any (tag : Nat) (l : List Int) (a : Option Addr) (c : Nat) (w : World) (ht : 0 < tag) (ht2 : tag < 256) (hB : BytesAt w a l) (hb : IsBytes l) (ha : a = none → c = 0) (hl : l.length ≤ 140737488351232) (hT : TabAt w) :
    Calls Tryd.prog 12 #[.int .u8 tag, .slice a l.length c] w fun e w' => ∃ g, e = .returned (.tuple #[.slice (some ⟨g, 0, none⟩) (benc tag l).length (benc tag l).length, .nilIface]) ∧ w.heap.size ≤ g ∧ w'.ownsRow g 5 1 (.slice (some ⟨g, 0, none⟩) (benc tag l).length (benc tag l).length) (benc tag l).length (bs (benc tag l)) ∧ Kept (fun _ => False) w w' := by
  have hul := (ulen_le l.length (by omega)).2
  have h3l := bhead_length tag l
  have h4l := benc_length tag l
  have h3b := bhead_bytes (tag := tag) (l := l) (by omega) (by omega) hb
  obtain ⟨bw, hbw⟩ : ∃ bw, bw = w.heap.size := ⟨_, rfl⟩
  have nw : Calls Tryd.prog 23 #[] w fun e W => e = .returned (.pointer (some ⟨bw, 0, none⟩)) ∧ Hid (Wq w W bw (.slice none 0 0) []) := by
    refine (new_any w).mono ?_
    rintro e W ⟨rfl, h1, h2⟩
    rw [hbw]
    exact ⟨rfl, h1, Nat.le_refl _, fun k hk => (by simp [Value.ownBlock] at hk), h2⟩
  have c1 : ∀ W v, Hid (Wq w W bw v []) → Calls Tryd.prog 24 #[.pointer (some ⟨bw, 0, none⟩), .int .u8 tag] W fun e W' => ∃ v', e = .returned (.tuple #[]) ∧ Hid (Wq w W' bw v' [(tag : Int)]) := by
    intro W v q
    refine (byte_any bw v [] tag W q.out.wr (by simp)).mono ?_
    rintro e W' ⟨rfl, v', h1, h2⟩
    exact ⟨v', rfl, q.out.step h1 h2⟩
  have c2 : ∀ W v, Hid (Wq w W bw v [(tag : Int)]) → Calls Tryd.prog 25 #[.pointer (some ⟨bw, 0, none⟩), .int .u64 l.length] W fun e W' => ∃ v', e = .returned (.tuple #[]) ∧ Hid (Wq w W' bw v' ([(tag : Int)] ++ uvb l.length)) := by
    intro W v q
    refine (wuv_any bw v _ l.length W q.out.wr (by omega) (by simp)).mono ?_
    rintro e W' ⟨rfl, v', h1, h2⟩
    exact ⟨v', rfl, q.out.step h1 h2⟩
  have c3 : ∀ W v, Hid (Wq w W bw v ([(tag : Int)] ++ uvb l.length)) → Calls Tryd.prog 26 #[.pointer (some ⟨bw, 0, none⟩), .slice a l.length c] W fun e W' => ∃ v', e = .returned (.tuple #[]) ∧ Hid (Wq w W' bw v' (bhead tag l)) := by
    intro W v q
    refine (raw_any bw v _ l a c W q.out.wr (bytes_keptF hB q.out.kept) ha (by rw [List.length_append, uvb_length, List.length_singleton]; omega)).mono ?_
    rintro e W' ⟨rfl, v', h1, h2⟩
    exact ⟨v', rfl, q.out.step h1 h2⟩
  have c4 : ∀ W v, Hid (Wq w W bw v (bhead tag l)) → Calls Tryd.prog 28 #[.pointer (some ⟨bw, 0, none⟩)] W fun e W' => ∃ g, e = .returned (.slice (some ⟨g, 0, none⟩) (bhead tag l).length (bhead tag l).length) ∧ Hid (Wq w W' bw v (bhead tag l) ∧ BytesAt W' (some ⟨g, 0, none⟩) (bhead tag l)) := by
    intro W v q
    refine (bytes_any bw v _ W q.out.wr (by omega)).mono ?_
    rintro e W' ⟨rfl, h1, h2⟩
    exact ⟨_, rfl, ⟨q.out.wr.kept h2 (fun _ _ f => f), q.out.new, q.out.own, q.out.kept.trans h2 (fun _ f => f.elim)⟩, (own_bytesF h1).1⟩
  have c5 : ∀ W v g, Hid (Wq w W bw v (bhead tag l) ∧ BytesAt W (some ⟨g, 0, none⟩) (bhead tag l)) → Calls Tryd.prog 18 #[.slice (some ⟨g, 0, none⟩) (bhead tag l).length (bhead tag l).length] W fun e W' => e = .returned (.int .u32 (ext 0 (bhead tag l) : Nat)) ∧ W' = W := by
    intro W v g q
    exact sum_any (bhead tag l) _ _ W q.out.2 h3b (by omega) (hT.kept q.out.1.kept)
  have c6 : ∀ W v g, Hid (Wq w W bw v (bhead tag l) ∧ BytesAt W (some ⟨g, 0, none⟩) (bhead tag l)) → Calls Tryd.prog 27 #[.pointer (some ⟨bw, 0, none⟩), .int .u32 (ext 0 (bhead tag l) : Nat)] W fun e W' => ∃ v', e = .returned (.tuple #[]) ∧ Hid (Wq w W' bw v' (benc tag l)) := by
    intro W v g q
    refine (w32_any bw v _ _ W q.out.1.wr (ext_lt _ _) (by omega)).mono ?_
    rintro e W' ⟨rfl, v', h1, h2⟩
    exact ⟨v', rfl, q.out.1.step h1 h2⟩
  have c7 : ∀ W v, Hid (Wq w W bw v (benc tag l)) → Calls Tryd.prog 28 #[.pointer (some ⟨bw, 0, none⟩)] W fun e W' => ∃ g, e = .returned (.slice (some ⟨g, 0, none⟩) (benc tag l).length (benc tag l).length) ∧ Hid (w.heap.size ≤ g ∧ W'.ownsRow g 5 1 (.slice (some ⟨g, 0, none⟩) (benc tag l).length (benc tag l).length) (benc tag l).length (bs (benc tag l)) ∧ Kept (fun _ => False) w W') := by
    intro W v q
    refine (bytes_any bw v _ W q.out.wr (by omega)).mono ?_
    rintro e W' ⟨rfl, h1, h2⟩
    exact ⟨_, rfl, q.out.kept.size, h1, q.out.kept.trans h2 (fun _ f => f.elim)⟩
  obtain ⟨n3, hn3⟩ : ∃ n, n = (bhead tag l).length := ⟨_, rfl⟩
  obtain ⟨n4, hn4⟩ : ∃ n, n = (benc tag l).length := ⟨_, rfl⟩
  obtain ⟨s3, hs3⟩ : ∃ s, s = ext 0 (bhead tag l) := ⟨_, rfl⟩
  rw [← hn3] at c4 c5
  rw [← hs3] at c5 c6
  rw [← hn4] at c7 ⊢
  have NW := hideC nw
  have C1 := hideC c1
  have C2 := hideC c2
  have C3 := hideC c3
  have C4 := hideC c4
  have C5 := hideC c5
  have C6 := hideC c6
  have C7 := hideC c7
  clear nw c1 c2 c3 c4 c5 c6 c7 hn3 hn4 hs3 h3l h4l h3b hB hb hT hul hbw
  go_enter Tryd.func12, Tryd.ntmps12
  go_wp2_with (first | (go_at_call 23; refine NW.out.mono ?_; rintro e W1 ⟨rfl, K1⟩) | (go_at_call 24; refine (C1.out W1 _ K1).mono ?_; rintro e W2 ⟨v2, rfl, K2⟩) | (go_at_call 25; refine (C2.out W2 _ K2).mono ?_; rintro e W3 ⟨v3, rfl, K3⟩) | (go_at_call 26; refine (C3.out W3 _ K3).mono ?_; rintro e W4 ⟨v4, rfl, K4⟩) | (go_at_call 28; refine (C7.out W7 _ K7).mono ?_; rintro e W8 ⟨g8, rfl, K8⟩) | (go_at_call 28; refine (C4.out W4 _ K4).mono ?_; rintro e W5 ⟨g5, rfl, K5⟩) | (go_at_call 18; refine (C5.out W5 _ _ K5).mono ?_; rintro e W6 ⟨rfl, rfl⟩) | (go_at_call 27; refine (C6.out _ _ _ K5).mono ?_; rintro e W7 ⟨v7, rfl, K7⟩))
  go_ret2
  exact ⟨g8, rfl, K8.out⟩
end Go.Proofs.YtoglgicmnhklbaaDoor
