import Derived.Test.YtakjaablankipaaDoorLxg
namespace Go.Proofs.YtakjaablankipaaDoor
open Go.ChangeShapes Go.WideShapes Go.ChangeAt Go.RowKit

/-- A sign: its byte, whether it is a letter by an escape, its place, how many bytes it has. -/
structure Sg where
  c : UInt8
  l : Bool
  p : Nat
  z : Nat
def sgp : Nat → List UInt8 → List Sg
  | _, [] => []
  | k, [c] => [⟨c, false, k, 1⟩]
  | k, c :: d :: r => if c = 92 then ⟨d, true, k, 2⟩ :: sgp (k + 2) r else ⟨c, false, k, 1⟩ :: sgp (k + 1) (d :: r)
theorem sgp_nil (k : Nat) : sgp k [] = [] := by rw [sgp]
theorem sgp_one (k : Nat) (c : UInt8) : sgp k [c] = [⟨c, false, k, 1⟩] := by rw [sgp]
theorem sgp_esc (k : Nat) (d : UInt8) (r : List UInt8) : sgp k (92 :: d :: r) = ⟨d, true, k, 2⟩ :: sgp (k + 2) r := by rw [sgp, if_pos rfl]
theorem sgp_oth (k : Nat) (c : UInt8) (r : List UInt8) (h : c ≠ 92) : sgp k (c :: r) = ⟨c, false, k, 1⟩ :: sgp (k + 1) r := by
  cases r with
  | nil => rw [sgp_one, sgp_nil]
  | cons d r => rw [sgp, if_neg h]
def sgB (x : Sg) : UInt8 × Bool := (x.c, x.l)
theorem sgp_sgn : ∀ (n k : Nat) (l : List UInt8), l.length ≤ n → (sgp k l).map sgB = sgn l := by
  intro n
  induction n with
  | zero =>
    intro k l h
    cases l with
    | nil => rw [sgp_nil, sgn]; rfl
    | cons c l => simp at h
  | succ n ih =>
    intro k l h
    match l with
    | [] => rw [sgp_nil, sgn]; rfl
    | [c] => rw [sgp_one, sgn]; rfl
    | c :: d :: r =>
      simp only [List.length_cons] at h
      by_cases e : c = 92
      · subst e
        rw [sgp_esc, sgn_esc, List.map_cons, ih (k + 2) r (by omega)]; rfl
      · rw [sgp_oth k c _ e, sgn_oth c _ e, List.map_cons, ih (k + 1) (d :: r) (by simp only [List.length_cons]; omega)]; rfl
def sv1 (x : Sg) : List Value := [.int .u8 (x.c.toNat : Int), .bool x.l, .int .i64 (x.p : Int), .int .i64 (x.z : Int)]
def sgv (G : List Sg) : List Value := G.flatMap sv1
theorem sgv_at (G : List Sg) (k : Nat) (h : k < G.length) (i : Nat) (hi : i < 4) : (sgv G)[k * 4 + i]? = (sv1 G[k])[i]? := by
  induction G generalizing k with
  | nil => simp at h
  | cons x G ih =>
    have e : sgv (x :: G) = sv1 x ++ sgv G := rfl
    rw [e]
    cases k with
    | zero => rw [List.getElem?_append_left (by show 0 * 4 + i < 4; omega), Nat.zero_mul, Nat.zero_add]; rfl
    | succ k =>
      rw [List.getElem?_append_right (by show 4 ≤ (k + 1) * 4 + i; omega)]
      have e2 : (k + 1) * 4 + i - (sv1 x).length = k * 4 + i := by show (k + 1) * 4 + i - 4 = _; omega
      rw [e2, ih k (by simpa using h)]
      rfl
theorem sgv_append (G H : List Sg) : sgv (G ++ H) = sgv G ++ sgv H := List.flatMap_append
theorem Tryd.infoSg : (Tryd.prog.info? 47).map (fun i => (i.zero, i.size, i.bytes)) = some (some (.agg #[.int .u8 0, .bool false, .int .i64 0, .int .i64 0]), 4, 24) := by kernel_rfl
/-- A list of signs that is grown. -/
structure Gs13 (w0 w : World) (a : Option Addr) (c n : Nat) (G : List Sg) : Prop where
  gro : Gro w0 w 47 4 (.slice a n c) n (sgv G)
  len : n = G.length
theorem Gs13.later {w0 w w' : World} {a : Option Addr} {c n : Nat} {G : List Sg} (h : Gs13 w0 w a c n G) (k : Kept (fun _ => False) w w') : Gs13 w0 w' a c n G := ⟨h.gro.later k, h.len⟩
/-- What a sign's cells hold. -/
theorem Gs13.cell {w0 w : World} {a : Option Addr} {c n : Nat} {G : List Sg} (h : Gs13 w0 w a c n G) (k : Nat) (hk : k < G.length) : ∃ g, a = some ⟨g, 0, none⟩ ∧ w.cell? ⟨g, k * 4, none⟩ = some (.int .u8 (G[k].c.toNat : Int)) ∧ w.cell? ⟨g, k * 4 + 1, none⟩ = some (.bool G[k].l) ∧ w.cell? ⟨g, k * 4 + 2, none⟩ = some (.int .i64 (G[k].p : Int)) ∧ w.cell? ⟨g, k * 4 + 3, none⟩ = some (.int .i64 (G[k].z : Int)) := by
  obtain ⟨g, e, _, hc⟩ := h.gro.cell (by rw [h.len]; omega)
  refine ⟨g, e, ?_, ?_, ?_, ?_⟩
  · exact hc _ _ (by have := sgv_at G k hk 0 (by omega); rw [Nat.add_zero] at this; rw [this]; rfl)
  · exact hc _ _ (by rw [sgv_at G k hk 1 (by omega)]; rfl)
  · exact hc _ _ (by rw [sgv_at G k hk 2 (by omega)]; rfl)
  · exact hc _ _ (by rw [sgv_at G k hk 3 (by omega)]; rfl)
theorem wpList_pushSg {w0 W : World} {ops : Array Oper} {rest : List Oper} {o : Oper} {act : Act} {Q : Exit → Act → World → Prop} (hgd : o.guard = none) (s x : Operand)
    (ho : o.op = .call { callee := .builtin .append, args := #[s, x], argTypes := #[44, 44] }) (a : Option Addr) (c0 n : Nat) (G : List Sg) (y : Sg) (z1 z3 z4 : Int) (z2 : Bool) (hs : act.eval s = .slice a n c0) (hG : Hid (Gs13 w0 W a c0 n G)) (b : Nat) (hb : b = W.heap.size) (hx : act.eval x = .slice (some ⟨b, 0, none⟩) 1 1)
    (hy : Hid (sv1 y = [.int .u8 z1, .bool z2, .int .i64 z3, .int .i64 z4])) (hn : n ≤ 1099511627776)
    (h : ∀ a' c' W', Hid (Gs13 w0 W' a' c' (n + 1) (G ++ [y])) → wpList Tryd.prog ops Q rest (act.put o.dst (.slice a' (n + 1) c')) W') : wpList Tryd.prog ops Q (o :: rest) act (W.alloc (.cells #[.int .u8 z1, .bool z2, .int .i64 z3, .int .i64 z4] 47)) := by
  subst hb
  obtain ⟨i0, hi, hz0, hz1, hz2⟩ := info_partsL Tryd.infoSg
  refine wpList_push hgd s x 44 ho 47 i0 (.agg #[.int .u8 0, .bool false, .int .i64 0, .int .i64 0]) 4 24 Tryd.underlying44 hi hz0 hz1 hz2 rfl (by decide) (.slice a n c0) n (sgv G) [.int .u8 z1, .bool z2, .int .i64 z3, .int .i64 z4] hs (hideL hG.out.gro) hx rfl (by intro u hu; simp at hu; rcases hu with rfl | rfl | rfl | rfl <;> rfl) (hideL (by omega)) (hideL (by unfold maxLen; omega)) ?_
  intro a' c' W' g
  refine h a' c' W' ⟨?_, by rw [List.length_append, hG.out.len]; rfl⟩
  rw [sgv_append]
  have e : sgv [y] = [.int .u8 z1, .bool z2, .int .i64 z3, .int .i64 z4] := by rw [← hy.out]; exact List.append_nil _
  rw [e]
  exact g.out
theorem gs_empty (w : World) : Gs13 w (w.alloc (.cells #[] 47)) (some ⟨w.heap.size, 0, none⟩) 0 0 [] := ⟨gro_empty w w 47 4 (Kept.refl _ _), rfl⟩
def sgPost (w : World) (G : List Sg) (n : Nat) (e : Ending) (w' : World) : Prop := ∃ a c, e = .returned (.slice a n c) ∧ Gs13 w w' a c n G
theorem sgp_len (k : Nat) (l : List UInt8) : (sgp k l).length ≤ l.length := by
  have := congrArg List.length (sgp_sgn l.length k l (Nat.le_refl _))
  rw [List.length_map] at this
  rw [this]
  exact sgn_len l.length l (Nat.le_refl _)
set_option maxRecDepth 20000 in
set_option maxHeartbeats 4000000 in
theorem signs_any (l : List UInt8) (w : World) (hl : l.length ≤ 400000000000) :
    Calls Tryd.prog 16 #[.string (bq l)] w (sgPost w (sgp 0 l) (sgp 0 l).length) := by
  obtain ⟨Z, hZ⟩ : ∃ Z, Z = sgp 0 l := ⟨_, rfl⟩
  have HZ : Hid (Z = [] ++ sgp 0 (l.drop 0)) := hideL (by rw [hZ, List.drop_zero]; rfl)
  rw [← hZ]
  clear hZ
  obtain ⟨s, hs⟩ : ∃ s, s = bq l := ⟨_, rfl⟩
  have hz : s.size = l.length := by rw [hs]; exact bq_size l
  have HX : Hid (∀ k (h : k < l.length) (h2 : k < s.size), s[k] = l[k]) := hideL (fun k h h2 => by subst hs; rfl)
  rw [← hs]
  obtain ⟨n, hn⟩ : ∃ n, n = s.size := ⟨_, rfl⟩
  have HLn : Hid (n = l.length) := hideL (by omega)
  have hnb : n ≤ 400000000000 := by omega
  have HG := hideL (gs_empty w)
  clear hs hl hz
  go_enter Tryd.func16, Tryd.ntmps16
  go_wp2
  generalize w.heap.size = b0 at *
  go_loopw [3, 4] (fun v i wr => ∃ (k m : Nat) (a : Option Addr) (c : Nat) (G : List Sg), k ≤ n ∧ m ≤ k ∧ i = .int .i64 k ∧ v = .slice a m c ∧ Hid (Gs13 w wr a c m G) ∧ Hid (Z = G ++ sgp k (l.drop k))) (fun _ i _ => n - (intOf i).toNat)
  case atStart => exact ⟨0, 0, _, _, [], by omega, by omega, rfl, rfl, HG, HZ⟩
  case round =>
    obtain ⟨k, m, a, c0, G, hk, hmk, rfl, rfl, HR, HD⟩ := hrel
    clear HG HZ
    by_cases hlt : k < n
    · have hkl : k < l.length := by rw [← HLn.out]; exact hlt
      have hks : k < s.size := by rw [← hn]; exact hlt
      have hkz : (k : Int) < (n : Int) := by omega
      have c0' := HX.out k hkl hks
      have HD2 := HD.out
      rw [List.drop_eq_getElem_cons hkl] at HD2
      obtain ⟨x, hx⟩ : ∃ x, x = l[k] := ⟨_, rfl⟩
      rw [← hx] at HD2 c0'
      obtain ⟨q, hq⟩ : ∃ q, q = x.toNat := ⟨_, rfl⟩
      have hqb : q < 256 := by rw [hq]; exact x.toNat_lt
      have y0 : s[k].toNat = q := by rw [c0', hq]
      clear c0' hx HD
      by_cases e : x = 92
      · subst e
        have hq2 : q = 92 := hq
        clear hq
        subst hq2
        by_cases hE : k + 1 < n
        · have hkl2 : k + 1 < l.length := by rw [← HLn.out]; exact hE
          have hks2 : k + 1 < s.size := by rw [← hn]; exact hE
          have hkz2 : (k : Int) + 1 < (n : Int) := by omega
          have d0' := HX.out (k + 1) hkl2 hks2
          rw [List.drop_eq_getElem_cons hkl2] at HD2
          obtain ⟨d, hd⟩ : ∃ d, d = l[k + 1] := ⟨_, rfl⟩
          rw [← hd] at HD2 d0'
          have HQ : Hid (Z = (G ++ [⟨d, true, k, 2⟩]) ++ sgp (k + 1 + 1) (l.drop (k + 1 + 1))) := hideL (by rw [HD2, sgp_esc, List.append_assoc]; rfl)
          obtain ⟨q2, hq2⟩ : ∃ q2, q2 = d.toNat := ⟨_, rfl⟩
          have hqb2 : q2 < 256 := by rw [hq2]; exact d.toNat_lt
          have y1 : s[k + 1].toNat = q2 := by rw [d0', hq2]
          have HY : Hid (sv1 ⟨d, true, k, 2⟩ = [.int .u8 (q2 : Int), .bool true, .int .i64 (k : Int), .int .i64 2]) := hideL (by rw [hq2]; rfl)
          clear HD2 hd hq2 d0' HX
          go_wp2_with (at_builtin; refine wpList_pushSg rfl _ _ rfl _ _ m _ ⟨d, true, k, 2⟩ _ _ _ _ rfl HR _ (by first | rfl | simp) rfl HY (by omega) ?_; clear HR; intro a4 c4 W4 G4)
          go_roundw
          case rel => exact ⟨k + 1 + 1, m + 1, a4, c4, _, by omega, by omega, by go_num, rfl, G4, HQ⟩
          case measure => simp [intOf] <;> omega
        · obtain rfl : n = k + 1 := by omega
          have hkz2 : ¬ (k : Int) + 1 < ((k + 1 : Nat) : Int) := by omega
          have HQ : Hid (Z = (G ++ [⟨92, false, k, 1⟩]) ++ sgp (k + 1) (l.drop (k + 1))) := hideL (by rw [HD2, List.drop_of_length_le (by have := HLn.out; omega), sgp_one, sgp_nil, List.append_nil])
          have HY : Hid (sv1 ⟨92, false, k, 1⟩ = [.int .u8 92, .bool false, .int .i64 (k : Int), .int .i64 1]) := hideL rfl
          clear HD2 HX
          go_wp2_with (at_builtin; refine wpList_pushSg rfl _ _ rfl _ _ m _ ⟨92, false, k, 1⟩ _ _ _ _ rfl HR _ (by first | rfl | simp) rfl HY (by omega) ?_; clear HR; intro a4 c4 W4 G4)
          go_roundw
          case rel => exact ⟨k + 1, m + 1, a4, c4, _, by omega, by omega, by go_num, rfl, G4, HQ⟩
          case measure => simp [intOf] <;> omega
      · have HQ : Hid (Z = (G ++ [⟨x, false, k, 1⟩]) ++ sgp (k + 1) (l.drop (k + 1))) := hideL (by rw [HD2, sgp_oth k x _ e, List.append_assoc]; rfl)
        have q1 : ((q : Int) == 92) = false := by rw [hq]; exact u8_intL x 92 e
        have HY : Hid (sv1 ⟨x, false, k, 1⟩ = [.int .u8 (q : Int), .bool false, .int .i64 (k : Int), .int .i64 1]) := hideL (by rw [hq]; rfl)
        clear HD2 HX e hq
        go_wp2_with (at_builtin; refine wpList_pushSg rfl _ _ rfl _ _ m _ ⟨x, false, k, 1⟩ _ _ _ _ rfl HR _ (by first | rfl | simp) rfl HY (by omega) ?_; clear HR; intro a4 c4 W4 G4)
        go_roundw
        case rel => exact ⟨k + 1, m + 1, a4, c4, _, by omega, by omega, by go_num, rfl, G4, HQ⟩
        case measure => simp [intOf] <;> omega
    · obtain rfl : k = n := by omega
      have hZ : Z = G := by rw [HD.out, List.drop_of_length_le (by have := HLn.out; omega), sgp_nil, List.append_nil]
      subst hZ
      have hm := HR.out.len
      subst hm
      clear HD HX
      go_wp2
      go_ret
      exact ⟨_, _, rfl, HR.out⟩
end Go.Proofs.YtakjaablankipaaDoor
