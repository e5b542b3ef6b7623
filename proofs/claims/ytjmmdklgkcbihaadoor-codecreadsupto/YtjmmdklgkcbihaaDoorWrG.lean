import Derived.Test.YtjmmdklgkcbihaaDoorWrF
namespace Go.Proofs.YtjmmdklgkcbihaaDoor
open Go.ChangeShapes Go.WideShapes Go.ChangeAt Go.RowKit

set_option maxRecDepth 20000 in
theorem raw_any (bw : Nat) (v : Value) (xs : List Int) (l : List Int) (a : Option Addr) (c : Nat) (w : World) (h : Wr w bw v xs) (hB : BytesAt w a l) (ha : a = none → c = 0) (hr : xs.length + l.length ≤ 140737488355328) :
    Calls Tryd.prog 39 #[.pointer (some ⟨bw, 0, none⟩), .slice a l.length c] w fun e w' => e = .returned (.tuple #[]) ∧ ∃ v', Wr w' bw v' (xs ++ l) ∧ WStep w w' bw v v' := by
  obtain ⟨i0, hi, hz0, hz1, hz2⟩ := info_parts Tryd.infoB
  have hc := h.cell
  have hf := h.free
  have hown := h.own
  have HH := hide h
  cases a with
  | none =>
    obtain rfl : l = [] := by
      cases l with
      | nil => rfl
      | cons x r => obtain ⟨b, off, e, _⟩ := hB (by simp); cases e
    obtain rfl := ha rfl
    obtain ⟨av, cv, rfl⟩ := h.slice
    clear h hB ha
    go_enter Tryd.func39, Tryd.ntmps39
    go_wp2_with (at_builtin; refine wpList_append_own_none rfl _ _ 26 rfl 0 5 i0 1 Tryd.underlying26 hi _ _ _ rfl hown rfl ?_)
    go_end0
    refine ⟨rfl, _, ⟨one_setCell HH.out.blk, ?_⟩, ⟨(Kept.setCell _ _ _).mono (fun i hi => .inl (.inl hi)), fun k hk => .inl hk⟩⟩
    rw [List.append_nil]
    exact ownsRow_setCell_other HH.out.own HH.out.ne _
  | some ad =>
    have hcl : ∀ j u, (bs l)[j]? = some u → w.cell? (ad.add j) = some u := by
      by_cases hl : l = []
      · subst hl; intro j u hu; simp [bs] at hu
      · obtain ⟨b, off, e, hcc⟩ := hB hl
        cases e
        exact BytesAt.cells hcc
    have HC := hide hcl
    clear h hB ha hcl
    go_enter Tryd.func39, Tryd.ntmps39
    go_wp2_with (at_builtin; refine wpList_append_own_at _ rfl _ _ 26 rfl 0 5 i0 (.int .u8 0) 1 1 Tryd.underlying26 hi hz0 hz1 hz2 rfl (by decide) _ _ _ rfl hown ad l.length c (bs l) rfl ?c1 HC.out (bs_one l) ?c4 ?c5 (Nat.zero_le _) ?_)
    case c1 => rw [bs_length]; omega
    case c4 => unfold maxLen; omega
    case c5 => omega
    · intro v' w1 hown1 hgrow _ hat
      obtain ⟨q1, q2, q3, q4⟩ := wr_put (news := l) HH.out (Kept.refl _ _) hown1 hgrow hat
      obtain ⟨a', c', rfl⟩ := own_slice hown1
      clear hown1 hgrow hat hown
      have Q3 := hide q3
      have Q4 := hide q4
      clear q3 q4
      go_wp2
      go_end0
      exact ⟨rfl, _, Q3.out, Q4.out⟩

/-- The bytes of a text. -/
def sb (s : ByteArray) : List Int := s.data.toList.map fun b => ((b.toNat : Nat) : Int)
theorem sb_length (s : ByteArray) : (sb s).length = s.size := by rw [sb, List.length_map, Array.length_toList]; rfl
theorem sb_cells (s : ByteArray) : Lib.strCells s = bs (sb s) := by simp [Lib.strCells, bs, sb, List.map_map]
theorem sb_bytes (s : ByteArray) : IsBytes (sb s) := by
  intro x hx
  simp only [sb, List.mem_map] at hx
  obtain ⟨b, _, rfl⟩ := hx
  have := b.toNat_lt
  omega
theorem str_lies (w : World) (s : ByteArray) (v : Value) (n : Nat) (xs : List Value) (ty : TypeId) (i : TypeInfo) (hi : Tryd.prog.info? 5 = some i) (hz : i.zero = some (.int .u8 0)) (hsize : i.size = 1) (hby : i.bytes = 1)
    (hown : w.ownsRow 0 5 1 v n xs) (h63 : n + s.size ≤ maxLen) (hbytes : n + s.size ≤ 140737488355328) :
    ∃ v' w', (Builtin.append_ #[26, 9] ty #[v, .string s]).run Tryd.prog w = .ok v' w' ∧ w'.ownsRow 0 5 1 v' (n + s.size) (xs ++ Lib.strCells s) ∧ w.grownBy w' v.ownBlock ∧ (v'.ownBlock = v.ownBlock ∨ v'.ownBlock = some w.heap.size) := by
  obtain ⟨v', w', hr, h2, h3, h4⟩ := Lib.run_append_own_string (P := Tryd.prog) w 0 26 9 ty 5 i Tryd.underlying26 Tryd.underlying9 hi hz hsize hby v n xs hown s h63 hbytes (Nat.zero_le _)
  refine ⟨v', w', hr, h2, h3, ?_⟩
  have hsmall : n + s.size ≤ 9223372036854775807 := by simp only [maxLen] at h63; omega
  rcases hown.2 with ⟨rfl, rfl⟩ | ⟨g, cap, cur, rfl, hbg, hg, hnc, hcm, hcs, htake⟩
  · by_cases hm : s.size = 0
    · have := h4.2 ⟨rfl, hm⟩
      rw [this]
      exact .inl rfl
    · have hr2 := run_append_nil_string (P := Tryd.prog) w 26 9 ty 5 i (.int .u8 0) Tryd.underlying26 Tryd.underlying9 hi hz s (by omega) (by omega) (by rw [hby]; omega)
      rw [hr] at hr2
      simp only [Result.ok.injEq] at hr2
      rw [hr2.1]
      exact .inr rfl
  · by_cases hroom : n + s.size ≤ cap
    · have hcs' : cur.size = cap := by simpa using hcs
      have hr2 := Lib.run_append_room_string (P := Tryd.prog) w 26 9 ty 5 i Tryd.underlying26 Tryd.underlying9 hi hsize g n cap cur hg s hroom (by omega)
      rw [hr] at hr2
      simp only [Result.ok.injEq] at hr2
      rw [hr2.1]
      exact .inl rfl
    · have holds : ∀ j u, xs[j]? = some u → w.cell? ((⟨g, 0, none⟩ : Addr).add j) = some u := hown.cells (g := g) rfl
      have hr2 := Lib.run_append_grow_string (P := Tryd.prog) w 26 9 ty 5 i (.int .u8 0) Tryd.underlying26 Tryd.underlying9 hi hz ⟨g, 0, none⟩ n cap xs (by rw [hsize]; simpa using hown.1) holds s (by omega) (by omega) (by rw [hby]; exact growslice_fits (by omega) (by omega))
      rw [hr] at hr2
      simp only [Result.ok.injEq] at hr2
      rw [hr2.1]
      exact .inr rfl
theorem wpList_str {w : World} {ops : Array Oper} {rest : List Oper} {o : Oper} {a : Act} {Q : Exit → Act → World → Prop} (hgd : o.guard = none) (sl x : Operand)
    (ho : o.op = .call { callee := .builtin .append, args := #[sl, x], argTypes := #[26, 9] })
    (v : Value) (n : Nat) (xs : List Value) (hs : a.eval sl = v) (hown : w.ownsRow 0 5 1 v n xs) (s : ByteArray) (hx : a.eval x = .string s) (h63 : n + s.size ≤ maxLen) (hbytes : n + s.size ≤ 140737488355328)
    (h : ∀ v' w', w'.ownsRow 0 5 1 v' (n + s.size) (xs ++ Lib.strCells s) → w.grownBy w' v.ownBlock → (v'.ownBlock = v.ownBlock ∨ v'.ownBlock = some w.heap.size) → wpList Tryd.prog ops Q rest (a.put o.dst v') w') : wpList Tryd.prog ops Q (o :: rest) a w := by
  obtain ⟨i0, hi, hz0, hz1, hz2⟩ := info_parts Tryd.infoB
  refine wpList_plain hgd fun K hK => ?_
  obtain ⟨v', w', hr, h2, h3, h4⟩ := str_lies w s v n xs o.type i0 hi hz0 hz1 hz2 hown h63 hbytes
  unfold Oper.wp execOp
  simp only [ho, resolve, invoke, builtin, Sem.run_bind, Sem.run_pure, Result.andThen_ok, List.map_toArray, List.map_cons, List.map_nil, hs, hx, hr]
  exact hK _ _ (h v' w' h2 h3 h4)

set_option maxRecDepth 20000 in
theorem text_any (bw : Nat) (v : Value) (xs : List Int) (s : ByteArray) (w : World) (h : Wr w bw v xs) (hr : xs.length + 10 + s.size ≤ 140737488355328) :
    Calls Tryd.prog 37 #[.pointer (some ⟨bw, 0, none⟩), .string s] w fun e w' => e = .returned (.tuple #[]) ∧ ∃ v', Wr w' bw v' (xs ++ (uvb s.size ++ sb s)) ∧ WStep w w' bw v v' := by
  have hul := (ulen_le s.size (by omega)).2
  have hul2 := uvb_length s.size
  have HH := hide h
  clear h
  go_enter Tryd.func37, Tryd.ntmps37
  go_wp2_with (first
    | (go_at_call 27; refine (wuv_any bw v xs s.size _ HH.out (by omega) (by omega)).mono ?_; rintro e w2 ⟨rfl, v2, hW2, hS2⟩; have hc2 := hW2.cell; have hown2 := hW2.own)
    | (at_builtin; refine wpList_str rfl _ _ rfl _ _ _ rfl hown2 s rfl ?d1 ?d2 ?_))
  case d1 => rw [List.length_append]; unfold maxLen; omega
  case d2 => rw [List.length_append]; omega
  · intro v' w1 hown1 hgrow hat
    rw [sb_cells] at hown1
    have hsl : s.size = (sb s).length := (sb_length s).symm
    have hown3 : w1.ownsRow 0 5 1 v' ((xs ++ uvb s.size).length + (sb s).length) (bs (xs ++ uvb s.size) ++ bs (sb s)) := by rw [sb_length, List.length_append, uvb_length]; exact hown1
    obtain ⟨q1, q2, q3, q4⟩ := wr_put (news := sb s) hW2 (Kept.refl _ _) hown3 hgrow hat
    obtain ⟨a', c', rfl⟩ := own_slice hown1
    clear hown1 hown3 hgrow hat hown2 hc2 hsl
    have Q3 := hide q3
    have Q4 := hide q4
    have S2 := hide hS2
    clear q3 q4 hW2 hS2 hul hul2
    go_wp2
    go_end0
    refine ⟨rfl, _, ?_, S2.out.trans Q4.out⟩
    rw [← List.append_assoc]
    exact Q3.out

/-- The errors of the lists: nothing is put. -/
theorem rising_neg (bw : Nat) (l : List Int) (a : Option Addr) (c : Nat) (e7 : Addr) (w : World) (hA : IntsAt w a l) (hl : l.length ≤ 17592186044416) (hn : l.any (fun x => decide (x < 0)) = true) (g : w.cell? ⟨0, 0, none⟩ = some (errV e7)) :
    Calls Tryd.prog 70 #[.pointer (some ⟨bw, 0, none⟩), .slice a l.length c] w fun e w' => e = .returned (errV e7) ∧ w = w' := by
  have b1 : Calls Tryd.prog 86 #[.slice a l.length c] w fun e w' => e = .returned (.bool true) ∧ w = w' := by
    refine (below_any l a c w hA (by omega)).mono ?_
    rintro e w' ⟨rfl, rfl⟩
    exact ⟨by rw [hn], rfl⟩
  clear hA hn
  go_enter Tryd.func70, Tryd.ntmps70
  go_wp2_with (go_at_call 86; refine b1.mono ?_; rintro e w' ⟨rfl, rfl⟩)
  go_ret
  exact ⟨rfl, rfl⟩
theorem rising_ord (bw : Nat) (l : List Int) (a : Option Addr) (c : Nat) (e3 : Addr) (w : World) (hA : IntsAt w a l) (hl : l.length ≤ 17592186044416) (h0 : ∀ x ∈ l, 0 ≤ x) (hn : riseB l = false) (g : w.cell? ⟨5, 0, none⟩ = some (errV e3)) :
    Calls Tryd.prog 70 #[.pointer (some ⟨bw, 0, none⟩), .slice a l.length c] w fun e w' => e = .returned (errV e3) ∧ ∃ n, w' = w.drewN n := by
  have b1 : Calls Tryd.prog 86 #[.slice a l.length c] w fun e w' => e = .returned (.bool false) ∧ w = w' := by
    refine (below_any l a c w hA (by omega)).mono ?_
    rintro e w' ⟨rfl, rfl⟩
    exact ⟨by rw [no_neg h0], rfl⟩
  have b2 : Calls Tryd.prog 87 #[.slice a l.length c] w fun e w' => e = .returned (.bool false) ∧ ∃ n, w' = w.drewN n := by
    refine (rises_any l a c w hA (by omega)).mono ?_
    rintro e w' ⟨rfl, hn'⟩
    exact ⟨by rw [hn], hn'⟩
  clear hA hn h0
  go_enter Tryd.func70, Tryd.ntmps70
  go_wp2_with (first
    | (go_at_call 86; refine b1.mono ?_; rintro e w' ⟨rfl, rfl⟩)
    | (go_at_call 87; refine b2.mono ?_; rintro e w' ⟨rfl, n, rfl⟩))
  go_ret
  exact ⟨rfl, _, rfl⟩
theorem packed_neg (bw : Nat) (l : List Int) (a : Option Addr) (c : Nat) (e7 : Addr) (w : World) (hA : IntsAt w a l) (hl : l.length ≤ 17592186044416) (hn : l.any (fun x => decide (x < 0)) = true) (g : w.cell? ⟨0, 0, none⟩ = some (errV e7)) :
    Calls Tryd.prog 73 #[.pointer (some ⟨bw, 0, none⟩), .slice a l.length c] w fun e w' => e = .returned (errV e7) ∧ w = w' := by
  have b1 : Calls Tryd.prog 86 #[.slice a l.length c] w fun e w' => e = .returned (.bool true) ∧ w = w' := by
    refine (below_any l a c w hA (by omega)).mono ?_
    rintro e w' ⟨rfl, rfl⟩
    exact ⟨by rw [hn], rfl⟩
  clear hA hn
  go_enter Tryd.func73, Tryd.ntmps73
  go_wp2_with (go_at_call 86; refine b1.mono ?_; rintro e w' ⟨rfl, rfl⟩)
  go_ret
  exact ⟨rfl, rfl⟩
theorem packed_lim (bw : Nat) (l : List Int) (a : Option Addr) (c : Nat) (e2 : Addr) (w : World) (hA : IntsAt w a l) (hl : l.length ≤ 17592186044416) (h0 : ∀ x ∈ l, 0 ≤ x) (hI : IsInts l) (hz : orl l = 0) (hb : 65536 < l.length) (g : w.cell? ⟨4, 0, none⟩ = some (errV e2)) :
    Calls Tryd.prog 73 #[.pointer (some ⟨bw, 0, none⟩), .slice a l.length c] w fun e w' => e = .returned (errV e2) ∧ w = w' := by
  have b1 : Calls Tryd.prog 86 #[.slice a l.length c] w fun e w' => e = .returned (.bool false) ∧ w = w' := by
    refine (below_any l a c w hA (by omega)).mono ?_
    rintro e w' ⟨rfl, rfl⟩
    exact ⟨by rw [no_neg h0], rfl⟩
  have b2 : Calls Tryd.prog 88 #[.slice a l.length c] w fun e w' => e = .returned (.int .i64 0) ∧ w = w' := by
    refine (width_any l a c w hA (by omega) hI h0).mono ?_
    rintro e w' ⟨rfl, rfl⟩
    rw [hz]
    exact ⟨rfl, rfl⟩
  clear hA hz h0 hI
  go_enter Tryd.func73, Tryd.ntmps73
  go_wp2_with (first
    | (go_at_call 86; refine b1.mono ?_; rintro e w' ⟨rfl, rfl⟩)
    | (go_at_call 88; refine b2.mono ?_; rintro e w' ⟨rfl, rfl⟩))
  go_ret
  exact ⟨rfl, rfl⟩
end Go.Proofs.YtjmmdklgkcbihaaDoor
