import Derived.Test.YtidgofpmnlddaaaGreatDoorMrg5
import Derived.Test.YtidgofpmnlddaaaGreatDoorRfw
namespace Go.Proofs.YtidgofpmnlddaaaGreatDoor
open Go.ChangeShapes Go.WideShapes Go.ChangeAt Go.RowKit

/-- Slices in a row. -/
def svl (L : List Il) : List Value := L.map (fun x => .slice x.a x.l.length x.c)
theorem svl_app (L : List Il) (x : Il) : svl (L ++ [x]) = svl L ++ [.slice x.a x.l.length x.c] := by simp [svl]
theorem svl_len (L : List Il) : (svl L).length = L.length := List.length_map ..
/-- A list of lists that is grown. -/
structure Gli (w0 W : World) (v : Value) (n : Nat) (L : List Il) : Prop where
  gro : Gro w0 W 24 1 v n (svl L)
  ints : ∀ x ∈ L, IntsAt W x.a x.l
  far : ∀ x ∈ L, x.l ≠ [] → ∀ b off, x.a = some ⟨b, off, none⟩ → v.ownBlock ≠ some b
theorem gli_nil (W : World) : Gli W W (.slice none 0 0) 0 [] := ⟨gro_nil W _ _, fun x h => (by cases h), fun x h => (by cases h)⟩
theorem Gli.later {w0 W W' : World} {v : Value} {n : Nat} {L : List Il} (h : Gli w0 W v n L) (k : Kept (fun _ => False) W W') : Gli w0 W' v n L := ⟨h.gro.later k, fun x hx => (h.ints x hx).kept k, h.far⟩
theorem Gli.len {w0 W : World} {v : Value} {n : Nat} {L : List Il} (h : Gli w0 W v n L) : n = L.length := by
  have := h.gro.own.1
  rw [svl_len] at this
  omega
theorem ints_lt {W : World} {a : Option Addr} {l : List Int} (h : IntsAt W a l) (hne : l ≠ []) {b off : Nat} (e : a = some ⟨b, off, none⟩) : b < W.heap.size := by
  obtain ⟨b', off', e', hc⟩ := h hne
  rw [e] at e'
  simp only [Option.some.injEq, Addr.mk.injEq, and_true] at e'
  obtain ⟨rfl, rfl⟩ := e'
  exact World.block_lt_of_cell? W _ (hc 0 (List.length_pos_iff.2 hne))
/-- Numbers stay where a list elsewhere grows. -/
theorem ints_far {W W' : World} {v v' : Value} {a : Option Addr} {l : List Int} (h : IntsAt W a l) (s : GStep W W' v v') (hf : l ≠ [] → ∀ b off, a = some ⟨b, off, none⟩ → v.ownBlock ≠ some b) : IntsAt W' a l :=
  ints_step h s.kept (fun hne => by
    obtain ⟨b, off, e, _⟩ := h hne
    exact ⟨b, off, e, hf hne b off e⟩)
theorem ints_far2 {W W' : World} {v v' : Value} {a : Option Addr} {l : List Int} (h : IntsAt W a l) (s : GStep W W' v v') (hf : l ≠ [] → ∀ b off, a = some ⟨b, off, none⟩ → v.ownBlock ≠ some b) : l ≠ [] → ∀ b off, a = some ⟨b, off, none⟩ → v'.ownBlock ≠ some b := by
  intro hne b off e hv
  rcases s.new b hv with q | q
  · exact hf hne b off e q
  · have := ints_lt h hne e
    omega
theorem Gli.more {w0 W W' : World} {v v' : Value} {n : Nat} {L : List Il} (h : Gli w0 W v n L) (y : Il) (hy : IntsAt W y.a y.l) (hf : y.l ≠ [] → ∀ b off, y.a = some ⟨b, off, none⟩ → v.ownBlock ≠ some b) (g : Gro w0 W' 24 1 v' (n + 1) (svl (L ++ [y]))) (s : GStep W W' v v') : Gli w0 W' v' (n + 1) (L ++ [y]) := by
  have hi : ∀ x ∈ L ++ [y], IntsAt W x.a x.l := fun x hx => (List.mem_append.1 hx).elim (h.ints x) (fun q => by rw [List.mem_singleton] at q; subst q; exact hy)
  have hff : ∀ x ∈ L ++ [y], x.l ≠ [] → ∀ b off, x.a = some ⟨b, off, none⟩ → v.ownBlock ≠ some b := fun x hx => (List.mem_append.1 hx).elim (h.far x) (fun q => by rw [List.mem_singleton] at q; subst q; exact hf)
  exact ⟨g, fun x hx => ints_far (hi x hx) s (hff x hx), fun x hx => ints_far2 (hi x hx) s (hff x hx)⟩
theorem Gli.li {w0 W : World} {a : Option Addr} {n c : Nat} {L : List Il} (h : Gli w0 W (.slice a n c) n L) : LiAt W a L := by
  intro hne
  obtain ⟨g, rfl, _, hc⟩ := h.gro.cell (by rw [h.len]; exact List.length_pos_iff.2 hne)
  refine ⟨g, 0, rfl, fun k hk => ⟨?_, h.ints _ (List.getElem_mem hk)⟩⟩
  rw [Nat.zero_add]
  exact hc k _ (by unfold svl; rw [List.getElem?_map, List.getElem?_eq_getElem hk]; rfl)
theorem Gro.old {w0 w : World} {e : TypeId} {sz n : Nat} {v : Value} {xs : List Value} (h : Gro w0 w e sz v n xs) {a : Option Addr} (hn : Newa w a) : ∀ b off, a = some ⟨b, off, none⟩ → v.ownBlock ≠ some b := fun b off e hv => by
  have h1 := hn b off e
  have h2 := (h.own.lt b hv).2
  omega
theorem Tryz.infoLi : (Tryz.prog.info? 24).map (fun i => (i.zero, i.size, i.bytes)) = some (some (.slice none 0 0), 1, 24) := by kernel_rfl
/-- 'append(s, x)' of one list. -/
theorem wpList_pushL {w0 W : World} {ops : Array Oper} {rest : List Oper} {o : Oper} {act : Act} {Q : Exit → Act → World → Prop} (hgd : o.guard = none) (s x : Operand)
    (ho : o.op = .call { callee := .builtin .append, args := #[s, x], argTypes := #[23, 23] }) (v : Value) (n : Nat) (L : List Il) (y : Il) (ya : Option Addr) (yn yc : Nat) (hs : act.eval s = v) (hG : Hid (Gli w0 W v n L)) (b : Nat) (hbb : b = W.heap.size) (hx : act.eval x = .slice (some ⟨b, 0, none⟩) 1 1) (hb : n ≤ 1099511627776)
    (hy : Hid (y = ⟨ya, yc, y.l⟩ ∧ yn = y.l.length)) (hi : Hid (IntsAt W y.a y.l)) (hf : Hid (y.l ≠ [] → ∀ b off, y.a = some ⟨b, off, none⟩ → v.ownBlock ≠ some b))
    (h : ∀ g c' W', Hid (Gli w0 W' (.slice (some ⟨g, 0, none⟩) (n + 1) c') (n + 1) (L ++ [y])) → Hid (GStep W W' v (.slice (some ⟨g, 0, none⟩) (n + 1) c')) → wpList Tryz.prog ops Q rest (act.put o.dst (.slice (some ⟨g, 0, none⟩) (n + 1) c')) W') : wpList Tryz.prog ops Q (o :: rest) act (W.alloc (.cells #[.slice ya yn yc] 24)) := by
  subst hbb
  obtain ⟨i0, hi0, hz0, hz1, hz2⟩ := info_partsP Tryz.infoLi
  obtain ⟨ey, en⟩ := hy.out
  have e1 : svl (L ++ [y]) = svl L ++ [.slice ya yn yc] := by rw [svl_app, en]; rw [ey]
  refine wpList_catX hgd s x 23 ho 24 i0 (.slice none 0 0) 1 24 Tryz.underlying23 hi0 hz0 hz1 hz2 rfl (by decide) v n (svl L) [.slice ya yn yc] hs (hideP (hG.out.gro.later (Kept.alloc W _))) ⟨W.heap.size, 0, none⟩ 1 1 hx (by simp) (row_news W [.slice ya yn yc] 24) (by intro u hu; simp at hu; subst hu; rfl) (by decide) (by omega) (by unfold maxLen; omega) ?_
  intro g c' W' hG2 hS
  have s2 := GStep.ahead (Kept.alloc W _) hS.out
  exact h g c' W' (hideP (hG.out.more y hi.out hf.out (by rw [e1]; exact hG2.out) s2)) (hideP s2)
/-- The words' places so far, and all of them. -/
structure Mvd (L : List Il) (O : List Int) (i : Nat) (M : List Il) (A : List Int) : Prop where
  len : M.length = i
  each : ∀ j (hj : j < M.length) (hl : j < L.length), Rsg M[j].l ∧ (∀ x, x ∈ M[j].l ↔ ∃ y ∈ L[j].l, x = y - O[j]?.getD 0) ∧ M[j].l.length ≤ L[j].l.length
  rs : Rsg A
  mem : ∀ b, b ∈ A ↔ ∃ k, ∃ hk : k < L.length, k < i ∧ ∃ p ∈ L[k].l, b = p - O[k]?.getD 0
  all : A.length ≤ (spk L O i).length
theorem mvd_zero (L : List Il) (O : List Int) : Mvd L O 0 [] [] := ⟨rfl, fun j hj => (by simp at hj), List.Pairwise.nil, fun b => by simp, Nat.zero_le _⟩
theorem Mvd.step {L : List Il} {O : List Int} {i : Nat} {M : List Il} {A A3 : List Int} (h : Mvd L O i M A) (hi : i < L.length) (y : Il) (hr : Rsg y.l) (hm : ∀ x, x ∈ y.l ↔ ∃ z ∈ L[i].l, x = z - O[i]?.getD 0) (hl : y.l.length ≤ L[i].l.length) (hr3 : Rsg A3) (hm3 : ∀ x, x ∈ A3 ↔ x ∈ A ∨ x ∈ y.l) (hl3 : A3.length ≤ A.length + y.l.length) : Mvd L O (i + 1) (M ++ [y]) A3 := by
  refine ⟨by rw [List.length_append, h.len]; rfl, fun j hj hjl => ?_, hr3, fun b => ?_, ?_⟩
  · rcases Nat.lt_or_ge j M.length with q | q
    · rw [List.getElem_append_left q]
      exact h.each j q hjl
    · have : j = M.length := by rw [List.length_append] at hj; simp at hj; omega
      subst this
      rw [List.getElem_append_right (Nat.le_refl _)]
      simp only [Nat.sub_self, List.getElem_cons_zero]
      have e := h.len
      subst e
      exact ⟨hr, hm, hl⟩
  · rw [hm3, h.mem, hm]
    constructor
    · rintro (⟨k, hk, hki, p, hp, e⟩ | ⟨p, hp, e⟩)
      · exact ⟨k, hk, by omega, p, hp, e⟩
      · exact ⟨i, hi, by omega, p, hp, e⟩
    · rintro ⟨k, hk, hki, p, hp, e⟩
      rcases Nat.lt_or_ge k i with q | q
      · exact .inl ⟨k, hk, q, p, hp, e⟩
      · obtain rfl : k = i := by omega
        exact .inr ⟨p, hp, e⟩
  · have h1 := h.all
    rw [spk, List.getElem?_eq_getElem hi, List.length_append, spw, List.length_map]
    simp only
    omega
theorem Mvd.alp {L : List Il} {O : List Int} {M : List Il} {A : List Int} (h : Mvd L O L.length M A) : Alp L O A := ⟨h.rs, fun b => by
  rw [h.mem]
  constructor
  · rintro ⟨k, hk, _, p, hp, e⟩
    exact ⟨k, hk, p, hp, e⟩
  · rintro ⟨k, hk, p, hp, e⟩
    exact ⟨k, hk, hk, p, hp, e⟩⟩
/-- Has a list a number from lo to hi? -/
def btw (l : List Int) (lo hi : Int) : Bool := decide (∃ y ∈ l, lo ≤ y ∧ y ≤ hi)
/-- The words of which one stands from b on, up to sl further: as far as i. -/
def oki (M : List Il) (sl b : Int) : Nat → Bool
  | 0 => true
  | i + 1 => oki M sl b i && (match M[i]? with | some x => btw x.l b (b + sl) | none => true)
theorem oki_iff {M : List Il} {sl b : Int} : ∀ {i : Nat}, oki M sl b i = true ↔ ∀ j (hj : j < M.length), j < i → ∃ y ∈ M[j].l, b ≤ y ∧ y ≤ b + sl
  | 0 => by simp [oki]
  | i + 1 => by
    rw [oki, Bool.and_eq_true, oki_iff]
    constructor
    · rintro ⟨h1, h2⟩ j hj hji
      rcases Nat.lt_or_ge j i with q | q
      · exact h1 j hj q
      · obtain rfl : j = i := by omega
        rw [List.getElem?_eq_getElem hj] at h2
        exact of_decide_eq_true h2
    · intro h
      refine ⟨fun j hj hji => h j hj (by omega), ?_⟩
      rcases Nat.lt_or_ge i M.length with q | q
      · rw [List.getElem?_eq_getElem q]
        exact decide_eq_true (h i q (by omega))
      · rw [List.getElem?_eq_none q]
theorem Mvd.ok {L : List Il} {O : List Int} {M : List Il} {A : List Int} (h : Mvd L O L.length M A) (sl b : Int) : oki M sl b L.length = okw L O sl b := by
  rw [Bool.eq_iff_iff, oki_iff, okw_iff]
  have hl := h.len
  constructor
  · intro g k hk
    obtain ⟨y, hy, h1, h2⟩ := g k (by omega) hk
    obtain ⟨p, hp, rfl⟩ := ((h.each k (by omega) hk).2.1 y).1 hy
    exact ⟨p, hp, h1, h2⟩
  · intro g k hk _
    obtain ⟨p, hp, h1, h2⟩ := g k (by omega)
    exact ⟨_, ((h.each k hk (by omega)).2.1 _).2 ⟨p, hp, rfl⟩, h1, h2⟩
theorem cnt_take {A : List Int} {f : Int → Bool} {k : Nat} (hk : k < A.length) : (A.take (k + 1)).countP f = (A.take k).countP f + if f A[k] then 1 else 0 := by
  rw [List.take_succ_eq_append_getElem hk, List.countP_append, List.countP_singleton]
/-- What the document's PhraseFreq answers. -/
def rfPost (L : List Il) (O : List Int) (sl : Int) (W : World) (e : Ending) (w' : World) : Prop := ∃ n : Nat, e = .returned (.int .i64 n) ∧ Kept (fun _ => False) W w' ∧ (¬ gdp L O sl → n = 0) ∧ (gdp L O sl → ∃ A, Alp L O A ∧ n = A.countP (okw L O sl))
set_option maxRecDepth 20000 in
set_option maxHeartbeats 8000000 in
/-- The document's PhraseFreq of a phrase that doesn't keep its limits, or has no word. -/
theorem rphrase_bad (L : List Il) (O : List Int) (a oa : Option Addr) (c oc : Nat) (sl : Int) (W : World) (hL : LiAt W a L) (hO : IntsAt W oa O) (hll : L.length ≤ 1048576) (hlx : ∀ x ∈ L, x.l.length ≤ 1048576) (hbad : ¬ gdp L O sl ∨ L = []) :
    Calls Tryz.prog 34 #[.slice a L.length c, .slice oa O.length oc, .int .i64 sl] W fun e w' => e = .returned (.int .i64 (0 : Nat)) ∧ w' = W := by
  by_cases h0 : L = []
  · subst h0
    clear hbad hlx hL
    simp only [List.length_nil]
    generalize O.length = m at *
    go_enter Tryz.func34, Tryz.ntmps34
    go_wp2
    go_ret
    exact ⟨rfl, rfl⟩
  have hbad : ¬ gdp L O sl := hbad.resolve_right h0
  have hn0 : 0 < L.length := List.length_pos_iff.2 h0
  have HL := hideP hL
  have HO := hideP hO
  have HLX := hideP hlx
  have HB := hideP hbad
  obtain ⟨n, hn⟩ : ∃ n, n = L.length := ⟨_, rfl⟩
  have HN := hideP hn
  obtain ⟨m, hm⟩ : ∃ m, m = O.length := ⟨_, rfl⟩
  have HM := hideP hm
  rw [← hm]
  rw [← hn] at hll hn0 ⊢
  clear hL hO hlx hbad hn hm h0
  have z0 : ((n : Int) == 0) = false := by rw [beq_eq_false_iff_ne]; omega
  by_cases hnm : n = m
  · have g1 : ((n : Int) == (m : Int)) = true := by simp [hnm]
    have g2 : ((n : Int) != (m : Int)) = false := by simp [hnm]
    by_cases q1 : sl < 0
    · have e1 : decide (sl < 0) = true := decide_eq_true q1
      have HNM := hideP hnm
      clear hnm
      go_enter Tryz.func34, Tryz.ntmps34
      go_wp2
      go_ret
      exact ⟨rfl, rfl⟩
    have e1 : decide (sl < 0) = false := decide_eq_false q1
    by_cases q2 : 2147483647 < sl
    · have e2 : decide (2147483647 < sl) = true := decide_eq_true q2
      have HNM := hideP hnm
      clear hnm
      go_enter Tryz.func34, Tryz.ntmps34
      go_wp2
      go_ret
      exact ⟨rfl, rfl⟩
    have e2 : decide (2147483647 < sl) = false := decide_eq_false q2
    have HB2 : Hid (¬ (InL O ∧ ∀ x ∈ L, InL x.l)) := hideP (fun h => HB.out ⟨by rw [← HN.out, ← HM.out]; exact hnm, by omega, h.1, h.2⟩)
    have HNM := hideP hnm
    clear hnm HB
    go_enter Tryz.func34, Tryz.ntmps34
    go_wp2
    go_loopw [7] (fun s7 wr => ∃ i : Nat, i ≤ n ∧ s7 = .int .i64 i ∧ W = wr ∧ Hid (∀ j (hj : j < L.length) (ho : j < O.length), j < i → (0 ≤ O[j] ∧ O[j] ≤ 2147483646) ∧ InL L[j].l)) (fun s7 _ => n - (intOf s7).toNat)
    case atStart => exact ⟨0, by omega, rfl, rfl, hideP (fun j hj ho h => by omega)⟩
    case round =>
      obtain ⟨i, hi, rfl, rfl, HJ⟩ := hrel
      by_cases hlt : i < n
      · have hil : i < L.length := by rw [← HN.out]; exact hlt
        have hio : i < O.length := by rw [← HM.out, ← HNM.out]; exact hlt
        obtain ⟨b, off, rfl, hc⟩ := HL.out (by intro e; rw [e] at hil; simp at hil)
        obtain ⟨ob, oo, rfl, hoc⟩ := ints_cell HO.out hio
        obtain ⟨o, ho⟩ : ∃ o, o = O[i] := ⟨_, rfl⟩
        rw [← ho] at hoc
        have HOo := hideP ho
        have hii : (i : Int) < (n : Int) := by omega
        have him : (i : Int) < (m : Int) := by have := HNM.out; omega
        have him2 : i < m := by have := HNM.out; omega
        obtain ⟨z1, z2⟩ := hc i hil
        have HZ2 := hideP z2
        obtain ⟨x, hx⟩ : ∃ x, x = L[i] := ⟨_, rfl⟩
        rw [← hx] at z1 HZ2
        have HX := hideP hx
        have HXL := hideP (HLX.out _ (List.getElem_mem hil))
        rw [← hx] at HXL
        clear ho hx hc z2
        by_cases h1 : o < 0
        · have d1 : decide (o < 0) = true := decide_eq_true h1
          go_wp2
          go_ret
          exact ⟨rfl, rfl⟩
        have d1 : decide (o < 0) = false := decide_eq_false h1
        by_cases h2 : 2147483647 ≤ o
        · have d2 : decide (2147483647 ≤ o) = true := decide_eq_true h2
          go_wp2
          go_ret
          exact ⟨rfl, rfl⟩
        have d2 : decide (2147483647 ≤ o) = false := decide_eq_false h2
        obtain ⟨xl, hxl⟩ : ∃ xl, xl = x.l.length := ⟨_, rfl⟩
        rw [← hxl] at z1
        have hxb : xl ≤ 1048576 := by rw [hxl]; exact HXL.out
        have HXN := hideP hxl
        generalize x.a = xa at *
        generalize x.c = xc at *
        clear hxl
        go_wp2
        go_loopw [8] (fun s8 w2 => ∃ k : Nat, k ≤ xl ∧ s8 = .int .i64 k ∧ W = w2 ∧ Hid (∀ j (hj : j < x.l.length), j < k → 0 ≤ x.l[j] ∧ x.l[j] ≤ 2147483646)) (fun s8 _ => xl - (intOf s8).toNat)
        case atStart => exact ⟨0, by omega, rfl, rfl, hideP (fun j hj h => by omega)⟩
        case round =>
          obtain ⟨k, hk, rfl, rfl, HK⟩ := hrel
          by_cases hkl : k < xl
          · have hkx : k < x.l.length := by rw [← HXN.out]; exact hkl
            obtain ⟨xb, xo, rfl, hxc⟩ := ints_cell HZ2.out hkx
            obtain ⟨y, hy⟩ : ∃ y, y = x.l[k] := ⟨_, rfl⟩
            rw [← hy] at hxc
            have HY := hideP hy
            have hkk : (k : Int) < (xl : Int) := by omega
            clear hy
            by_cases h3 : y < 0
            · have d3 : decide (y < 0) = true := decide_eq_true h3
              go_wp2
              go_ret
              exact ⟨rfl, rfl⟩
            have d3 : decide (y < 0) = false := decide_eq_false h3
            by_cases h4 : 2147483647 ≤ y
            · have d4 : decide (2147483647 ≤ y) = true := decide_eq_true h4
              go_wp2
              go_ret
              exact ⟨rfl, rfl⟩
            have d4 : decide (2147483647 ≤ y) = false := decide_eq_false h4
            have HK2 : Hid (∀ j (hj : j < x.l.length), j < k + 1 → 0 ≤ x.l[j] ∧ x.l[j] ≤ 2147483646) := hideP (fun j hj hjk => by
              rcases Nat.lt_or_ge j k with q | q
              · exact HK.out j hj q
              · obtain rfl : j = k := by omega
                rw [← HY.out]
                omega)
            go_wp2
            go_roundw
            case rel => exact ⟨k + 1, by omega, by go_num, by first | rfl | trivial, HK2⟩
            case measure => simp [intOf]; omega
          · have hkk : ¬ (k : Int) < (xl : Int) := by omega
            have HJ2 : Hid (∀ j (hj : j < L.length) (ho : j < O.length), j < i + 1 → (0 ≤ O[j] ∧ O[j] ≤ 2147483646) ∧ InL L[j].l) := hideP (fun j hj ho hji => by
              rcases Nat.lt_or_ge j i with q | q
              · exact HJ.out j hj ho q
              · obtain rfl : j = i := by omega
                refine ⟨by rw [← HOo.out]; omega, ?_⟩
                rw [← HX.out]
                intro y hy
                obtain ⟨t, ht, rfl⟩ := List.mem_iff_getElem.1 hy
                exact HK.out t ht (by have := HXN.out; omega))
            go_wp2
            go_roundw
            case rel => exact ⟨i + 1, by omega, by go_num, by first | rfl | trivial, HJ2⟩
            case measure => simp [intOf]; omega
      · have hin : n ≤ i := by omega
        refine absurd ⟨fun y hy => ?_, fun x hx => ?_⟩ HB2.out
        · obtain ⟨j, hj, rfl⟩ := List.mem_iff_getElem.1 hy
          have hjn : j < n := by have := HM.out; have := HNM.out; omega
          exact (HJ.out j (by rw [← HN.out]; exact hjn) hj (by omega)).1
        · obtain ⟨j, hj, rfl⟩ := List.mem_iff_getElem.1 hx
          have hjn : j < n := by rw [HN.out]; exact hj
          exact (HJ.out j hj (by rw [← HM.out, ← HNM.out]; exact hjn) (by omega)).2
  · have g1 : ((n : Int) == (m : Int)) = false := by rw [beq_eq_false_iff_ne]; omega
    have g2 : ((n : Int) != (m : Int)) = true := by simp [bne, g1]
    have g3 : ¬ (n : Int) = (m : Int) := by omega
    go_enter Tryz.func34, Tryz.ntmps34
    go_wp2
    go_ret
    exact ⟨rfl, rfl⟩
set_option maxRecDepth 20000 in
set_option maxHeartbeats 16000000 in
/-- The document's PhraseFreq of a phrase that keeps its limits. -/
theorem rphrase_good (L : List Il) (O : List Int) (a oa : Option Addr) (c oc : Nat) (sl : Int) (W : World) (hL : LiAt W a L) (hO : IntsAt W oa O) (hll : L.length ≤ 1048576) (hlx : ∀ x ∈ L, x.l.length ≤ 1048576 ∧ x.l.length ≤ x.c) (htl : ∀ k, k ≤ L.length → (spk L O k).length ≤ 274877906944) (hg : gdp L O sl) (hn0 : 0 < L.length) :
    Calls Tryz.prog 34 #[.slice a L.length c, .slice oa O.length oc, .int .i64 sl] W fun e w' => ∃ A, Alp L O A ∧ e = .returned (.int .i64 (A.countP (okw L O sl) : Nat)) ∧ Kept (fun _ => False) W w' := by
  obtain ⟨hlo, ⟨s1, s2⟩, hio, hin⟩ := hg
  have HL := hideP hL
  have HO := hideP hO
  have HLX := hideP hlx
  have HTL := hideP htl
  have HIO := hideP hio
  have HIN := hideP hin
  rw [← hlo]
  have HLO := hideP hlo
  obtain ⟨n, hn⟩ : ∃ n, n = L.length := ⟨_, rfl⟩
  have HN := hideP hn
  rw [← hn] at hll hn0 ⊢
  clear hL hO hlx hio hin htl hlo hn
  have z0 : ((n : Int) == 0) = false := by rw [beq_eq_false_iff_ne]; omega
  have g1 : ((n : Int) == (n : Int)) = true := by simp
  have g2 : ((n : Int) != (n : Int)) = false := by simp
  have e1 : decide (sl < 0) = false := decide_eq_false (by omega)
  have e2 : decide (2147483647 < sl) = false := decide_eq_false (by omega)
  go_enter Tryz.func34, Tryz.ntmps34
  go_wp2
  go_loopw [7] (fun s7 wr => ∃ i : Nat, i ≤ n ∧ s7 = .int .i64 i ∧ W = wr) (fun s7 _ => n - (intOf s7).toNat)
  case atStart => exact ⟨0, by omega, rfl, rfl⟩
  case round =>
    obtain ⟨i, hi, rfl, rfl⟩ := hrel
    by_cases hlt : i < n
    · have hil : i < L.length := by rw [← HN.out]; exact hlt
      have hio : i < O.length := by rw [← HLO.out]; exact hil
      obtain ⟨b, off, rfl, hc⟩ := HL.out (by intro e; rw [e] at hil; simp at hil)
      obtain ⟨ob, oo, rfl, hoc⟩ := ints_cell HO.out hio
      obtain ⟨o1, o2⟩ := HIO.out _ (List.getElem_mem hio)
      generalize O[i] = o at *
      have hii : (i : Int) < (n : Int) := by omega
      obtain ⟨z1, z2⟩ := hc i hil
      have HZ2 := hideP z2
      obtain ⟨x, hx⟩ : ∃ x, x = L[i] := ⟨_, rfl⟩
      have HXI := hideP (HIN.out _ (List.getElem_mem hil))
      have HXL := hideP (HLX.out _ (List.getElem_mem hil)).1
      rw [← hx] at z1 HZ2 HXI HXL
      clear hx hc z2
      have d1 : decide (o < 0) = false := decide_eq_false (by omega)
      have d2 : decide (2147483647 ≤ o) = false := decide_eq_false (by omega)
      obtain ⟨xl, hxl⟩ : ∃ xl, xl = x.l.length := ⟨_, rfl⟩
      rw [← hxl] at z1
      have hxb : xl ≤ 1048576 := by rw [hxl]; exact HXL.out
      have HXN := hideP hxl
      generalize x.a = xa at *
      generalize x.c = xc at *
      clear hxl
      go_wp2
      go_loopw [8] (fun s8 w2 => ∃ k : Nat, k ≤ xl ∧ s8 = .int .i64 k ∧ W = w2) (fun s8 _ => xl - (intOf s8).toNat)
      case atStart => exact ⟨0, by omega, rfl, rfl⟩
      case round =>
        obtain ⟨k, hk, rfl, rfl⟩ := hrel
        by_cases hkl : k < xl
        · have hkx : k < x.l.length := by rw [← HXN.out]; exact hkl
          obtain ⟨xb, xo, rfl, hxc⟩ := ints_cell HZ2.out hkx
          obtain ⟨y1, y2⟩ := HXI.out _ (List.getElem_mem hkx)
          generalize x.l[k] = y at *
          have hkk : (k : Int) < (xl : Int) := by omega
          have d3 : decide (y < 0) = false := decide_eq_false (by omega)
          have d4 : decide (2147483647 ≤ y) = false := decide_eq_false (by omega)
          go_wp2
          go_roundw
          case rel => exact ⟨k + 1, by omega, by go_num, by first | rfl | trivial⟩
          case measure => simp [intOf]; omega
        · have hkk : ¬ (k : Int) < (xl : Int) := by omega
          go_wp2
          go_roundw
          case rel => exact ⟨i + 1, by omega, by go_num, by first | rfl | trivial⟩
          case measure => simp [intOf]; omega
    · have hii : ¬ (i : Int) < (n : Int) := by omega
      clear hlt hi
      go_wp2
      go_loopw [9, 10, 11] (fun s9 s10 s11 w2 => ∃ (j na : Nat) (vm : Value) (M : List Il) (A : List Int) (aA : Option Addr) (cA : Nat), j ≤ n ∧ vm = s9 ∧ s10 = .slice aA na cA ∧ s11 = .int .i64 j ∧ Hid (na = A.length) ∧ Hid (Mvd L O j M A) ∧ Hid (Gli W w2 vm j M) ∧ Hid (IntsAt w2 aA A) ∧ Hid (A ≠ [] → ∀ b off, aA = some ⟨b, off, none⟩ → vm.ownBlock ≠ some b)) (fun _ _ s11 _ => n - (intOf s11).toNat)
      case atStart => exact ⟨0, 0, _, [], [], none, 0, by omega, rfl, rfl, rfl, hideP rfl, hideP (mvd_zero L O), hideP (gli_nil W), hideP (fun e => (e rfl).elim), hideP (fun e => (e rfl).elim)⟩
      case round =>
        obtain ⟨j, na, vm, M, A, aA, cA, hj, rfl, rfl, rfl, HNA, HMV, HG, HIA, HFA⟩ := hrel
        obtain ⟨W2, hW2⟩ : ∃ W2, W2 = wr := ⟨_, rfl⟩
        rw [← hW2] at HG HIA ⊢
        clear hW2
        by_cases hlt : j < n
        · have hjl : j < L.length := by rw [← HN.out]; exact hlt
          have hjo : j < O.length := by rw [← HLO.out]; exact hjl
          have kd := HG.out.gro.kept.trans (Kept.drew W2) (fun _ f => f.elim)
          obtain ⟨b, off, rfl, hc⟩ := HL.out (by intro e; rw [e] at hjl; simp at hjl)
          obtain ⟨ob, oo, rfl, hoc⟩ := ints_cell HO.out hjo
          obtain ⟨z1, z2⟩ := hc j hjl
          obtain ⟨o1, o2⟩ := HIO.out _ (List.getElem_mem hjo)
          have HC1 : Hid (∀ V, Kept (fun _ => False) W V → V.cell? ⟨b, off + j, none⟩ = some (.slice L[j].a L[j].l.length L[j].c)) := hideP (fun V k => k.cell z1 (fun f => f))
          have HC2 : Hid (∀ V, Kept (fun _ => False) W V → V.cell? ⟨ob, oo + j, none⟩ = some (.int .i64 O[j])) := hideP (fun V k => k.cell hoc (fun f => f))
          have hxm := List.getElem_mem hjl
          have CS := hideP (rsorted_any O[j] (by omega) L[j].l.length L[j].l rfl L[j].a L[j].c W2.drew (z2.kept kd) (fun y hy => by have := HIN.out _ hxm y hy; omega) (HLX.out _ hxm).2 (by have := (HLX.out _ hxm).1; omega))
          obtain ⟨x, hx⟩ : ∃ x, x = L[j] := ⟨_, rfl⟩
          obtain ⟨o, ho⟩ : ∃ o, o = O[j] := ⟨_, rfl⟩
          rw [← hx, ← ho] at CS
          rw [← hx] at HC1
          rw [← ho] at HC2 o1 o2
          have HX := hideP hx
          have HOo := hideP ho
          have HKD := hideP kd
          have hjj : (j : Int) < (n : Int) := by omega
          have HXC := HLX.out _ hxm
          rw [← hx] at HXC
          obtain ⟨xc1, xc2⟩ := HXC
          have HTJ : Hid (na + x.l.length ≤ 274877906944) := hideP (by
            have h1 := HTL.out (j + 1) hjl
            rw [spk, List.getElem?_eq_getElem hjl, List.length_append, spw, List.length_map, ← hx] at h1
            have h2 := HMV.out.all
            have h3 := HNA.out
            simp only at h1
            omega)
          obtain ⟨xl, hxl⟩ : ∃ xl, xl = x.l.length := ⟨_, rfl⟩
          rw [← hxl] at CS HC1 xc1 xc2 HTJ
          have HXN := hideP hxl
          generalize x.a = xa at *
          generalize x.c = xc at *
          have hS6 : Kept (fun _ => False) W W2.drew := kd
          clear hx ho z1 z2 hc hoc hxm kd hxl
          go_wp2_with fail
          refine wp_region_held (S := fun V => Kept (fun _ => False) W V) (by kernel_rfl) ?_
          change wpAnyH _ _ _ _ _ _ _ _ (World.drew _)
          refine takeZ (i := 0) (d := 86) (v := .slice (some ⟨b, off, none⟩) n c) rfl rfl (by kernel_rfl) (by kernel_rfl) (by kernel_rfl) (fun _ _ _ h => h) (Or.inl ⟨by rfl, fun W hW => ?_⟩) hS6 ?_
          · (go_simp)
          simp only [Act.put, List.setIfInBounds_toArray, List.set_cons_zero, List.set_cons_succ]
          refine takeZ (i := 1) (d := 87) (v := .int .i64 j) rfl rfl (by kernel_rfl) (by kernel_rfl) (by kernel_rfl) (fun _ _ _ h => h) (Or.inl ⟨by rfl, fun W hW => ?_⟩) hS6 ?_
          · (go_simp)
          simp only [Act.put, List.setIfInBounds_toArray, List.set_cons_zero, List.set_cons_succ]
          refine takeZ (i := 2) (d := 88) (v := .pointer (some ⟨b, off + j, none⟩)) rfl rfl (by kernel_rfl) (by kernel_rfl) (by kernel_rfl) (fun _ _ _ h => h) (Or.inl ⟨by rfl, fun W hW => ?_⟩) hS6 ?_
          · (go_simp)
          simp only [Act.put, List.setIfInBounds_toArray, List.set_cons_zero, List.set_cons_succ]
          refine takeZ (i := 3) (d := 89) (v := .slice xa xl xc) rfl rfl (by kernel_rfl) (by kernel_rfl) (by kernel_rfl) (fun _ _ _ h => h) (Or.inl ⟨by rfl, fun W hW => ?_⟩) hS6 ?_
          · (have q1 := HC1.out _ hW; go_simp)
          simp only [Act.put, List.setIfInBounds_toArray, List.set_cons_zero, List.set_cons_succ]
          refine takeZ (i := 4) (d := 90) (v := .slice (some ⟨ob, oo, none⟩) n oc) rfl rfl (by kernel_rfl) (by kernel_rfl) (by kernel_rfl) (fun _ _ _ h => h) (Or.inl ⟨by rfl, fun W hW => ?_⟩) hS6 ?_
          · (go_simp)
          simp only [Act.put, List.setIfInBounds_toArray, List.set_cons_zero, List.set_cons_succ]
          refine takeZ (i := 5) (d := 91) (v := .int .i64 j) rfl rfl (by kernel_rfl) (by kernel_rfl) (by kernel_rfl) (fun _ _ _ h => h) (Or.inl ⟨by rfl, fun W hW => ?_⟩) hS6 ?_
          · (go_simp)
          simp only [Act.put, List.setIfInBounds_toArray, List.set_cons_zero, List.set_cons_succ]
          refine takeZ (i := 6) (d := 92) (v := .pointer (some ⟨ob, oo + j, none⟩)) rfl rfl (by kernel_rfl) (by kernel_rfl) (by kernel_rfl) (fun _ _ _ h => h) (Or.inl ⟨by rfl, fun W hW => ?_⟩) hS6 ?_
          · (go_simp)
          simp only [Act.put, List.setIfInBounds_toArray, List.set_cons_zero, List.set_cons_succ]
          refine takeZ (i := 7) (d := 93) (v := .int .i64 o) rfl rfl (by kernel_rfl) (by kernel_rfl) (by kernel_rfl) (fun _ _ _ h => h) (Or.inl ⟨by rfl, fun W hW => ?_⟩) hS6 ?_
          · (have q1 := HC2.out _ hW; go_simp)
          simp only [Act.put, List.setIfInBounds_toArray, List.set_cons_zero, List.set_cons_succ]
          refine wpAnyH_all (rs := [8]) (by kernel_rfl) (by simp) ?_
          intro i hi
          obtain rfl : i = 8 := by simpa using hi
          unfold wpOp
          go_simp
          first | refine CS.out.mono ?_ | refine Or.inl (CS.out.mono ?_)
          clear CS
          rintro e V1 ⟨a1, c1, O1, rfl, hI1, hR1, hM1, hl1, k1, hn1⟩
          have K8 := HKD.out.trans k1 (fun _ f => f.elim)
          refine ⟨K8, ?_⟩
          obtain ⟨n1, hnn1⟩ : ∃ n1, n1 = O1.length := ⟨_, rfl⟩
          rw [← hnn1] at hl1 ⊢
          have kw := (Kept.drew W2).trans k1 (fun _ f => f.elim)
          have HG1 := hideP (HG.out.later kw)
          have HIA1 := hideP (HIA.out.kept kw)
          have HF1 : Hid (O1 ≠ [] → ∀ b off, a1 = some ⟨b, off, none⟩ → vm.ownBlock ≠ some b) := hideP (fun _ => HG.out.gro.old (hn1.older (Nat.le_refl _)))
          have HI1 := hideP hI1
          have HR1 := hideP hR1
          have HM1 := hideP hM1
          have HNN1 := hideP hnn1
          have HL1 : Hid (n1 ≤ xl) := hideP (by rw [HXN.out]; exact hl1)
          have hn1b : n1 ≤ 1048576 := by have := HL1.out; omega
          clear hI1 hR1 hM1 hnn1 k1 kw hn1 HG HIA
          refine takeZ (i := 9) (d := 12) (v := .slice a1 n1 c1) rfl rfl (by kernel_rfl) (by kernel_rfl) (by kernel_rfl) (fun _ _ _ h => h) (Or.inl ⟨by rfl, fun W hW => ?_⟩) K8 ?_
          · (go_simp)
          simp only [Act.put, List.setIfInBounds_toArray, List.set_cons_zero, List.set_cons_succ]
          refine wpAnyH_done (by kernel_rfl) ?_ _
          clear hl1 K8 hS6
          go_wp2_with (at_builtin; refine StpQ.go ?_)
          refine ⟨?_⟩
          refine wpList_pushL rfl (.tmp 95) (.tmp 97) rfl vm j M ⟨a1, c1, O1⟩ a1 n1 c1 rfl HG1 V1.heap.size rfl (by rfl) (by omega) (hideP ⟨rfl, HNN1.out⟩) HI1 HF1 ?_
          intro g5 c5 W5 HG5 HS5
          have CU := hideP (union_any A O1 aA a1 cA c1 W5 (ints_far HIA1.out HS5.out HFA.out) (HG5.out.ints ⟨a1, c1, O1⟩ (by simp)) HMV.out.rs HR1.out (by have h1 := HTJ.out; have h2 := HL1.out; rw [← HNA.out, ← HNN1.out]; omega))
          rw [← HNA.out, ← HNN1.out] at CU
          clear HIA1 HFA HI1 HF1 HG1 HS5
          go_wp2_with (go_at_call 53; refine StpQ.go ?_)
          refine ⟨?_⟩
          refine CU.out.mono ?_
          clear CU
          rintro e W6 ⟨a3, c3, A3, rfl, hI3, hR3, hM3, hl3, k3, n3⟩
          have HMV3 := hideP (HMV.out.step (by rw [← HN.out]; exact hlt) ⟨a1, c1, O1⟩ HR1.out (fun x => by rw [HM1.out, HOo.out, HX.out, List.getElem?_eq_getElem hjo]; rfl) (by rw [← HX.out, ← HXN.out, ← HNN1.out]; exact HL1.out) hR3 hM3 hl3)
          have HG6 := hideP (HG5.out.later k3)
          have HF6 : Hid (A3 ≠ [] → ∀ b off, a3 = some ⟨b, off, none⟩ → (Value.slice (some ⟨g5, 0, none⟩) (j + 1) c5).ownBlock ≠ some b) := hideP (fun _ => HG5.out.gro.old n3)
          have HI3 := hideP hI3
          clear hI3 hR3 hM3 hl3 k3 n3 HG5
          obtain ⟨na3, hna3⟩ : ∃ na3, na3 = A3.length := ⟨_, rfl⟩
          rw [← hna3]
          have HNA3 := hideP hna3
          clear hna3
          go_wp2
          go_roundw
          case rel => exact ⟨j + 1, na3, _, M ++ [⟨a1, c1, O1⟩], A3, a3, c3, by omega, rfl, rfl, by go_num, HNA3, HMV3, HG6, HI3, HF6⟩
          case measure => simp [intOf]; omega
        · obtain rfl : j = n := by omega
          have hjj : ¬ (j : Int) < (j : Int) := by omega
          have HMVn : Hid (Mvd L O L.length M A) := hideP (by rw [← HN.out]; exact HMV.out)
          have hnab : na ≤ 274877906944 := by have h1 := HMV.out.all; have h2 := HTL.out j (by rw [← HN.out]; exact Nat.le_refl _); have h3 := HNA.out; omega
          obtain ⟨am, cm, rfl⟩ := HG.out.gro.shape
          have HML := hideP HG.out.li
          have HKW := hideP HG.out.gro.kept
          have HMlen := hideP HMV.out.len
          clear HMV HG HFA hii
          go_wp2
          go_loopw [13, 14] (fun s13 s14 w3 => ∃ k : Nat, k ≤ na ∧ s13 = .int .i64 ((A.take k).countP (okw L O sl) : Nat) ∧ s14 = .int .i64 k ∧ Hid (Kept (fun _ => False) W2 w3)) (fun _ s14 _ => na - (intOf s14).toNat)
          case atStart => exact ⟨0, by omega, by rw [List.take_zero]; rfl, rfl, hideP (Kept.refl _ _)⟩
          case round =>
            obtain ⟨k, hk, rfl, rfl, HK3⟩ := hrel
            obtain ⟨W3, hW3⟩ : ∃ W3, W3 = wr := ⟨_, rfl⟩
            rw [← hW3] at HK3 ⊢
            clear hW3
            have hcb : (A.take k).countP (okw L O sl) ≤ k := by
              have h1 := List.countP_le_length (p := okw L O sl) (l := A.take k)
              rw [List.length_take] at h1
              omega
            obtain ⟨ct, hct⟩ : ∃ ct, ct = (A.take k).countP (okw L O sl) := ⟨_, rfl⟩
            rw [← hct] at hcb ⊢
            have HCT := hideP hct
            clear hct
            by_cases hkl : k < na
            · have hka : k < A.length := by rw [← HNA.out]; exact hkl
              obtain ⟨ab, ao, rfl, hac⟩ := ints_cell HIA.out hka
              obtain ⟨bb, hbb⟩ : ∃ bb, bb = A[k] := ⟨_, rfl⟩
              rw [← hbb] at hac
              have HBB := hideP hbb
              have hbr : -2147483648 ≤ bb ∧ bb ≤ 2147483648 := by
                obtain ⟨t, ht, -, p, hp, e⟩ := (HMVn.out.mem A[k]).1 (List.getElem_mem hka)
                rw [← hbb] at e
                have h1 := HIN.out _ (List.getElem_mem ht) p hp
                have hto : t < O.length := by rw [← HLO.out]; exact ht
                have h2 := HIO.out.at hto
                omega
              obtain ⟨br1, br2⟩ := hbr
              have hkk : (k : Int) < (na : Int) := by omega
              have wsl : IntKind.i64.wrap (bb + sl) = bb + sl := by rw [IntKind.wrap_i64]; omega
              have HSUC := hideP (cnt_take (f := okw L O sl) hka)
              rw [← hbb] at HSUC
              clear hbb
              go_wp2
              go_loopw [15, 16] (fun s15 s16 w4 => ∃ (i : Nat) (B : Bool), i ≤ j ∧ s15 = .bool B ∧ s16 = .int .i64 i ∧ Hid (B = oki M sl bb i) ∧ Hid (Kept (fun _ => False) W2 w4)) (fun _ s16 _ => j - (intOf s16).toNat)
              case atStart => exact ⟨0, true, by omega, rfl, rfl, hideP rfl, HK3⟩
              case round =>
                obtain ⟨i, B, hi, rfl, rfl, HB, HK4⟩ := hrel
                obtain ⟨W4, hW4⟩ : ∃ W4, W4 = wr := ⟨_, rfl⟩
                rw [← hW4] at HK4 ⊢
                clear hW4
                by_cases hij : i < j
                · have hiM : i < M.length := by rw [HMlen.out]; exact hij
                  have hiL : i < L.length := by rw [← HN.out]; exact hij
                  have hii : (i : Int) < (j : Int) := by omega
                  have hSi : oki M sl bb (i + 1) = (oki M sl bb i && btw M[i].l bb (bb + sl)) := by rw [oki, List.getElem?_eq_getElem hiM]
                  rw [← HB.out] at hSi
                  cases B with
                  | false =>
                    have HB2 : Hid (false = oki M sl bb (i + 1)) := hideP (by rw [hSi]; rfl)
                    clear hSi HB
                    go_wp2_with fail
                    go_quiet (fail)
                    have HK5 := hideP (HK4.out.trans (Kept.drewN W4 nq) (fun _ f => f.elim))
                    go_wp2
                    go_roundw
                    case rel => exact ⟨i + 1, false, by omega, rfl, by go_num, HB2, HK5⟩
                    case measure => simp [intOf]; omega
                  | true =>
                    obtain ⟨R, hR⟩ : ∃ R, R = btw M[i].l bb (bb + sl) := ⟨_, rfl⟩
                    obtain ⟨mb, mo, rfl, hmc⟩ := HML.out (by intro e; rw [e] at hiM; simp at hiM)
                    obtain ⟨m1, m2⟩ := hmc i hiM
                    have hme := HMVn.out.each i hiM hiL
                    have CB : Hid (∀ n', Calls Tryz.prog 54 #[.slice M[i].a M[i].l.length M[i].c, .int .i64 bb, .int .i64 (bb + sl)] (W4.drewN n') fun e w' => e = .returned (.bool R) ∧ ∃ m, w' = W4.drewN m) := hideP (fun n' => by
                      rw [hR]
                      refine (rbetw_any M[i].l M[i].a M[i].c bb (bb + sl) (W4.drewN n') ((m2.kept HK4.out).kept (Kept.drewN W4 n')) hme.1 (by have := hme.2.2; have := (HLX.out _ (List.getElem_mem hiL)).1; omega)).mono ?_
                      rintro e w' ⟨rfl, rfl⟩
                      exact ⟨rfl, n', rfl⟩)
                    have HB2 : Hid (R = oki M sl bb (i + 1)) := hideP (by rw [hSi, hR]; rfl)
                    have p1 := HK4.out.cell m1 (fun f => f)
                    have p2 := HK4.out.cell hac (fun f => f)
                    generalize M[i].l.length = ml at *
                    generalize M[i].a = ma at *
                    generalize M[i].c = mc at *
                    clear hSi HB hR m1 m2 hmc hme
                    go_wp2_with fail
                    go_quiet ((exact CB.out _))
                    have HK5 := hideP (HK4.out.trans (Kept.drewN W4 nq) (fun _ f => f.elim))
                    go_wp2
                    go_roundw
                    case rel => exact ⟨i + 1, R, by omega, rfl, by go_num, HB2, HK5⟩
                    case measure => simp [intOf]; omega
                · obtain rfl : i = j := by omega
                  have hii : ¬ (i : Int) < (i : Int) := by omega
                  have HB3 : Hid (B = okw L O sl bb) := hideP (by rw [HB.out, ← HMVn.out.ok sl bb, ← HN.out])
                  clear HB
                  cases B with
                  | false =>
                    have HC4 : Hid (ct = (A.take (k + 1)).countP (okw L O sl)) := hideP (by rw [HSUC.out, ← HCT.out, ← HB3.out]; rfl)
                    go_wp2
                    go_roundw
                    case rel => exact ⟨k + 1, by omega, by rw [← HC4.out], by go_num, HK4⟩
                    case measure => simp [intOf]; omega
                  | true =>
                    have HC4 : Hid (ct + 1 = (A.take (k + 1)).countP (okw L O sl)) := hideP (by rw [HSUC.out, ← HCT.out, ← HB3.out]; rfl)
                    go_wp2
                    go_roundw
                    case rel => exact ⟨k + 1, by omega, by rw [← HC4.out]; go_num, by go_num, HK4⟩
                    case measure => simp [intOf]; omega
            · obtain rfl : k = na := by omega
              have hkk : ¬ (k : Int) < (k : Int) := by omega
              have HC5 : Hid (ct = A.countP (okw L O sl)) := hideP (by rw [HCT.out, List.take_of_length_le (by rw [← HNA.out]; exact Nat.le_refl _)])
              go_wp2
              go_ret
              exact ⟨A, HMVn.out.alp, by rw [HC5.out]; first | rfl | (simp), HKW.out.trans HK3.out (fun _ f => f.elim)⟩
/-- The document's PhraseFreq at any lists. -/
theorem rphrase_any (L : List Il) (O : List Int) (a oa : Option Addr) (c oc : Nat) (sl : Int) (W : World) (hL : LiAt W a L) (hO : IntsAt W oa O) (hll : L.length ≤ 1048576) (hlx : ∀ x ∈ L, x.l.length ≤ 1048576 ∧ x.l.length ≤ x.c) (htl : ∀ k, k ≤ L.length → (spk L O k).length ≤ 274877906944) :
    Calls Tryz.prog 34 #[.slice a L.length c, .slice oa O.length oc, .int .i64 sl] W (rfPost L O sl W) := by
  by_cases hg : gdp L O sl
  · by_cases h0 : L = []
    · refine (rphrase_bad L O a oa c oc sl W hL hO hll (fun x hx => (hlx x hx).1) (.inr h0)).mono ?_
      rintro e w' ⟨rfl, rfl⟩
      refine ⟨0, rfl, Kept.refl _ _, fun _ => rfl, fun _ => ⟨[], ⟨List.Pairwise.nil, fun b => ?_⟩, rfl⟩⟩
      subst h0
      simp
    · refine (rphrase_good L O a oa c oc sl W hL hO hll hlx htl hg (List.length_pos_iff.2 h0)).mono ?_
      rintro e w' ⟨A, hA, rfl, k⟩
      exact ⟨_, rfl, k, fun h => absurd hg h, fun _ => ⟨A, hA, rfl⟩⟩
  · refine (rphrase_bad L O a oa c oc sl W hL hO hll (fun x hx => (hlx x hx).1) (.inl hg)).mono ?_
    rintro e w' ⟨rfl, rfl⟩
    exact ⟨0, rfl, Kept.refl _ _, fun _ => rfl, fun h => absurd h hg⟩
end Go.Proofs.YtidgofpmnlddaaaGreatDoor
