import Derived.Test.YtiemiphlfbaojaaDoorLxe
import Derived.Lib.SlBytesConst
namespace Go.Proofs.YtiemiphlfbaojaaDoor
open Go.ChangeShapes Go.WideShapes Go.ChangeAt Go.RowKit

/-- The document's blanks and marks. -/
def bkB (c : UInt8) : Bool := c == 32 || c == 9 || c == 10 || c == 13
def mkL : List UInt8 := [40, 41, 91, 93, 123, 125, 58, 124, 94, 126, 64, 34]
def mkB (c : UInt8) : Bool := mkL.contains c
theorem plB_eq (f : Bool) (c : UInt8) : plB f c = !(bkB c || mkB c || wdB c || c == 92 || f && (c == 43 || c == 45)) := by
  cases f
  · have := u8_all (fun c => plB false c == !(bkB c || mkB c || wdB c || c == 92 || false && (c == 43 || c == 45))) (by decide +kernel) c
    simpa using this
  · have := u8_all (fun c => plB true c == !(bkB c || mkB c || wdB c || c == 92 || true && (c == 43 || c == 45))) (by decide +kernel) c
    simpa using this
theorem Tryd.infoBl : (Tryd.prog.info? 5).map (fun i => (i.zero, i.size, i.bytes)) = some (some (.int .u8 0), 1, 1) := Tryd.infoB
theorem u8_byL (c d : UInt8) : ((c.toNat : Int) == (d.toNat : Int)) = (c == d) := by
  by_cases h : c = d
  · subst h; simp
  · rw [u8_intL c d h]; simpa using h
set_option maxRecDepth 20000 in
set_option maxHeartbeats 2000000 in
theorem rblank_any (c : UInt8) (w : World) : Calls Tryd.prog 54 #[.int .u8 (c.toNat : Int)] w fun e w' => e = .returned (.bool (bkB c)) ∧ w' = w := by
  have hb : c.toNat < 256 := c.toNat_lt
  have q1 := u8_byL c 32
  have q2 := u8_byL c 9
  have q3 := u8_byL c 10
  have q4 := u8_byL c 13
  unfold bkB
  generalize (c == 32) = b1 at *
  generalize (c == 9) = b2 at *
  generalize (c == 10) = b3 at *
  generalize (c == 13) = b4 at *
  have q1 : ((c.toNat : Int) == 32) = b1 := q1
  have q2 : ((c.toNat : Int) == 9) = b2 := q2
  have q3 : ((c.toNat : Int) == 10) = b3 := q3
  have q4 : ((c.toNat : Int) == 13) = b4 := q4
  generalize c.toNat = m at *
  cases b1 <;> cases b2 <;> cases b3 <;> cases b4
  all_goals
    go_enter Tryd.func54, Tryd.ntmps54
    go_wp2
    go_ret
    exact ⟨rfl, rfl⟩
set_option maxRecDepth 20000 in
set_option maxHeartbeats 2000000 in
theorem rwild_any (c : UInt8) (w : World) : Calls Tryd.prog 83 #[.int .u8 (c.toNat : Int)] w fun e w' => e = .returned (.bool (wdB c)) ∧ w' = w := by
  have hb : c.toNat < 256 := c.toNat_lt
  have q1 := u8_byL c 42
  have q2 := u8_byL c 63
  unfold wdB
  generalize (c == 42) = b1 at *
  generalize (c == 63) = b2 at *
  have q1 : ((c.toNat : Int) == 42) = b1 := q1
  have q2 : ((c.toNat : Int) == 63) = b2 := q2
  generalize c.toNat = m at *
  cases b1 <;> cases b2
  all_goals
    go_enter Tryd.func83, Tryd.ntmps83
    go_wp2
    go_ret
    exact ⟨rfl, rfl⟩
/-- The marks in a row. -/
structure MkAt (w : World) (b : Nat) : Prop where
  at' : ∀ j, j < 12 → w.cell? ⟨b, j, none⟩ = some (.int .u8 ((mkL.getD j 0).toNat : Int))
theorem mk_new (w : World) : ∃ W1 : World, (convert 96 96 (.slice (some ⟨w.heap.size, 0, none⟩) 12 12)).run Tryd.prog (w.alloc (.cells #[.int .u8 40, .int .u8 41, .int .u8 91, .int .u8 93, .int .u8 123, .int .u8 125, .int .u8 58, .int .u8 124, .int .u8 94, .int .u8 126, .int .u8 64, .int .u8 34] 5)) = .ok (.slice (some ⟨w.heap.size, 0, none⟩) 12 12) W1 ∧ MkAt W1 w.heap.size ∧ Kept (fun _ => False) w W1 := by
  refine ⟨_, Lib.run_convert_bytes_const w 96 5 #[.int .u8 40, .int .u8 41, .int .u8 91, .int .u8 93, .int .u8 123, .int .u8 125, .int .u8 58, .int .u8 124, .int .u8 94, .int .u8 126, .int .u8 64, .int .u8 34] 12 12 Tryd.underlying96 Tryd.underlying5, ⟨fun j hj => ?_⟩, Kept.alloc _ _⟩
  rw [World.cell?_alloc_mark]
  obtain rfl | rfl | rfl | rfl | rfl | rfl | rfl | rfl | rfl | rfl | rfl | rfl : j = 0 ∨ j = 1 ∨ j = 2 ∨ j = 3 ∨ j = 4 ∨ j = 5 ∨ j = 6 ∨ j = 7 ∨ j = 8 ∨ j = 9 ∨ j = 10 ∨ j = 11 := by omega
  all_goals rfl
theorem mk_next (c : UInt8) (k : Nat) (h : k < 12) : (mkL.drop k).contains c = (c == mkL.getD k 0 || (mkL.drop (k + 1)).contains c) := by
  rw [List.drop_eq_getElem_cons (show k < mkL.length from h), List.contains_cons, List.getD_eq_getElem?_getD, List.getElem?_eq_getElem (show k < mkL.length from h)]
  rfl
set_option maxRecDepth 20000 in
set_option maxHeartbeats 2000000 in
theorem rmark_any (c : UInt8) (w : World) : Calls Tryd.prog 82 #[.int .u8 (c.toNat : Int)] w fun e w' => e = .returned (.bool (mkB c)) ∧ Kept (fun _ => False) w w' := by
  have hb : c.toNat < 256 := c.toNat_lt
  obtain ⟨W1, hkc, hM, hK⟩ := mk_new w
  have HM := hideL hM
  have HK := hideL hK
  clear hM hK
  obtain ⟨Z, hZ⟩ : ∃ Z, Z = mkB c := ⟨_, rfl⟩
  rw [← hZ]
  have HZ : Hid (Z = (mkL.drop 0).contains c) := hideL (by rw [hZ, List.drop_zero]; rfl)
  obtain ⟨q, hq⟩ : ∃ q, q = c.toNat := ⟨_, rfl⟩
  have HQ := hideL (fun d : UInt8 => u8_byL c d)
  rw [← hq] at HQ hb ⊢
  clear hq hZ
  go_enter Tryd.func82, Tryd.ntmps82
  go_wp2
  generalize w.heap.size = b0 at *
  go_loopw [8] (fun i wr => ∃ (k : Nat), k ≤ 12 ∧ i = .int .i64 k ∧ Hid (Z = (mkL.drop k).contains c) ∧ Hid (MkAt wr b0) ∧ Hid (Kept (fun _ => False) w wr)) (fun i _ => 12 - (intOf i).toNat)
  case atStart => exact ⟨0, by omega, rfl, HZ, HM, HK⟩
  case round =>
    obtain ⟨k, hk, rfl, HD, HMr, HKr⟩ := hrel
    clear HZ HM HK
    by_cases hlt : k < 12
    · have x0 := HMr.out.at' k hlt
      have HD2 := HD.out
      rw [mk_next c k hlt] at HD2
      have q1 := HQ.out (mkL.getD k 0)
      have hkz : (k : Int) < 12 := by omega
      obtain ⟨d, hd⟩ : ∃ d, d = (mkL.getD k 0).toNat := ⟨_, rfl⟩
      have hdb : d < 256 := by rw [hd]; exact (mkL.getD k 0).toNat_lt
      rw [← hd] at x0 q1
      generalize (c == mkL.getD k 0) = t at *
      have HD3 := hideL HD2
      clear HD HD2 hd HQ
      cases t with
      | true =>
        obtain rfl : Z = true := HD3.out
        clear HD3
        go_wp2
        go_ret
        exact ⟨rfl, HKr.out⟩
      | false =>
        have HZ2 : Hid (Z = (mkL.drop (k + 1)).contains c) := hideL (by rw [HD3.out]; rfl)
        clear HD3
        go_wp2
        go_roundw
        case rel => exact ⟨k + 1, by omega, by go_num, HZ2, HMr, HKr⟩
        case measure => simp [intOf]; omega
    · obtain rfl : k = 12 := by omega
      obtain rfl : Z = false := HD.out
      clear HD HQ
      go_wp2
      go_ret
      exact ⟨rfl, HKr.out⟩
/-- A row of bytes that lies somewhere. -/
structure Rb (w : World) (g : Nat) (l : List UInt8) : Prop where
  at' : ∀ j u, (bu l)[j]? = some u → w.cell? ⟨g, j, none⟩ = some u
theorem rb_two (w : World) (a b : UInt8) (x y : Int) (hx : x = (a.toNat : Int)) (hy : y = (b.toNat : Int)) : Rb (w.alloc (.cells #[.int .u8 x, .int .u8 y] 5)) w.heap.size [a, b] := by
  subst hx hy
  refine ⟨fun j u h => ?_⟩
  rw [World.cell?_alloc_new, ← h]
  exact List.getElem?_toArray
theorem rb_one (w : World) (a : UInt8) (x : Int) (hx : x = (a.toNat : Int)) : Rb (w.alloc (.cells #[.int .u8 x] 5)) w.heap.size [a] := by
  subst hx
  refine ⟨fun j u h => ?_⟩
  rw [World.cell?_alloc_new, ← h]
  exact List.getElem?_toArray
def esPost (w : World) (p : List UInt8) (e : Ending) (w' : World) : Prop := ∃ g, e = .returned (.slice (some ⟨g, 0, none⟩) p.length p.length) ∧ Rb w' g p ∧ Kept (fun _ => False) w w'
end Go.Proofs.YtiemiphlfbaojaaDoor
namespace Go.Proofs.YtiemiphlfbaojaaDoor
open Go.ChangeShapes Go.WideShapes Go.ChangeAt Go.RowKit

/-- 'append(s, p...)' of bytes. -/
theorem wpList_pushR {w0 W : World} {ops : Array Oper} {rest : List Oper} {o : Oper} {act : Act} {Q : Exit → Act → World → Prop} (hgd : o.guard = none) (s x : Operand)
    (ho : o.op = .call { callee := .builtin .append, args := #[s, x], argTypes := #[96, 96] }) (a : Option Addr) (c0 n : Nat) (l p : List UInt8) (q g : Nat) (hs : act.eval s = .slice a n c0) (hG : Hid (Gb w0 W a c0 n l)) (hx : act.eval x = .slice (some ⟨g, 0, none⟩) q q) (hq : Hid (q = p.length)) (hR : Hid (Rb W g p))
    (hn : n + q ≤ 1099511627776)
    (h : ∀ a' c' W', Hid (Gb w0 W' a' c' (n + q) (l ++ p)) → wpList Tryd.prog ops Q rest (act.put o.dst (.slice a' (n + q) c')) W') : wpList Tryd.prog ops Q (o :: rest) act W := by
  obtain ⟨i0, hi, hz0, hz1, hz2⟩ := info_partsL Tryd.infoB
  have e1 := hq.out
  subst e1
  have hplain : ∀ j, (⟨g, 0, none⟩ : Addr).add j = ⟨g, j, none⟩ := fun j => by unfold Addr.add; split <;> simp_all
  refine wpList_append_own _ hgd s x 96 ho w0.heap.size 5 i0 (.int .u8 0) 1 1 Tryd.underlying96 hi hz0 hz1 hz2 rfl (by decide) (.slice a n c0) n (bu l) hs hG.out.gro.own ⟨g, 0, none⟩ p.length p.length (bu p) hx (by rw [bu_len, Nat.mul_one]) (fun j u hu => by rw [hplain]; exact hR.out.at' j u hu) ?_ (by unfold maxLen; omega) (by omega) hG.out.gro.kept.size ?_
  · intro u hu
    obtain ⟨x, _, rfl⟩ := List.mem_map.1 hu
    rfl
  · intro v' W' ho2 hg2 _
    have q : Gro w0 W' 5 1 v' (n + p.length) (bu l ++ bu p) := ⟨ho2, hG.out.gro.kept.trans (Kept.grown hg2) (fun i hi => .inr (hG.out.gro.own.lt i hi).1)⟩
    obtain ⟨a', c', rfl⟩ := q.shape
    rw [← bu_append] at q
    exact h a' c' W' ⟨q, by rw [List.length_append, hG.out.len]⟩
theorem gb_empty (w : World) : Gb w (w.alloc (.cells #[] 5)) (some ⟨w.heap.size, 0, none⟩) 0 0 [] := ⟨gro_empty w w 5 1 (Kept.refl _ _), rfl⟩
theorem gb_34 (w : World) : Gb w (w.alloc (.cells #[.int .u8 34] 5)) (some ⟨w.heap.size, 0, none⟩) 1 1 [34] := by
  refine ⟨⟨⟨rfl, .inr ⟨w.heap.size, 1, #[.int .u8 34], rfl, Nat.le_refl _, heap_alloc_new w _, Nat.le_refl _, by decide, rfl, rfl⟩⟩, Kept.alloc _ _⟩, rfl⟩
theorem str_esc (l : List UInt8) : (⟨#[92]⟩ : ByteArray) ++ bq l = bq (92 :: l) := bq_append [92] l
end Go.Proofs.YtiemiphlfbaojaaDoor
namespace Go.Proofs.YtiemiphlfbaojaaDoor
open Go.ChangeShapes Go.WideShapes Go.ChangeAt Go.RowKit

/-- A sign: its byte, whether it is a letter by an escape, its place, how many bytes it has. -/
structure Sg where
  c : UInt8
  l : Bool
  p : Nat
  z : Nat
def sgp : Nat → List UInt8 → List Sg
  | _, [] => []
  | k, [c] => [⟨c, false, k, 1⟩]
  | k, c :: d :: r => if c = 92 then ⟨d, true, k, 2⟩ :: sgp (k + 2) r else ⟨c, false, k, 1⟩ :: sgp (k + 1) (d :: r)
theorem sgp_nil (k : Nat) : sgp k [] = [] := by rw [sgp]
theorem sgp_one (k : Nat) (c : UInt8) : sgp k [c] = [⟨c, false, k, 1⟩] := by rw [sgp]
theorem sgp_esc (k : Nat) (d : UInt8) (r : List UInt8) : sgp k (92 :: d :: r) = ⟨d, true, k, 2⟩ :: sgp (k + 2) r := by rw [sgp, if_pos rfl]
theorem sgp_oth (k : Nat) (c : UInt8) (r : List UInt8) (h : c ≠ 92) : sgp k (c :: r) = ⟨c, false, k, 1⟩ :: sgp (k + 1) r := by
  cases r with
  | nil => rw [sgp_one, sgp_nil]
  | cons d r => rw [sgp, if_neg h]
def sgB (x : Sg) : UInt8 × Bool := (x.c, x.l)
theorem sgp_sgn : ∀ (n k : Nat) (l : List UInt8), l.length ≤ n → (sgp k l).map sgB = sgn l := by
  intro n
  induction n with
  | zero =>
    intro k l h
    cases l with
    | nil => rw [sgp_nil, sgn]; rfl
    | cons c l => simp at h
  | succ n ih =>
    intro k l h
    match l with
    | [] => rw [sgp_nil, sgn]; rfl
    | [c] => rw [sgp_one, sgn]; rfl
    | c :: d :: r =>
      simp only [List.length_cons] at h
      by_cases e : c = 92
      · subst e
        rw [sgp_esc, sgn_esc, List.map_cons, ih (k + 2) r (by omega)]; rfl
      · rw [sgp_oth k c _ e, sgn_oth c _ e, List.map_cons, ih (k + 1) (d :: r) (by simp only [List.length_cons]; omega)]; rfl
def sv1 (x : Sg) : List Value := [.int .u8 (x.c.toNat : Int), .bool x.l, .int .i64 (x.p : Int), .int .i64 (x.z : Int)]
def sgv (G : List Sg) : List Value := G.flatMap sv1
theorem sgv_at (G : List Sg) (k : Nat) (h : k < G.length) (i : Nat) (hi : i < 4) : (sgv G)[k * 4 + i]? = (sv1 G[k])[i]? := by
  induction G generalizing k with
  | nil => simp at h
  | cons x G ih =>
    have e : sgv (x :: G) = sv1 x ++ sgv G := rfl
    rw [e]
    cases k with
    | zero => rw [List.getElem?_append_left (by show 0 * 4 + i < 4; omega), Nat.zero_mul, Nat.zero_add]; rfl
    | succ k =>
      rw [List.getElem?_append_right (by show 4 ≤ (k + 1) * 4 + i; omega)]
      have e2 : (k + 1) * 4 + i - (sv1 x).length = k * 4 + i := by show (k + 1) * 4 + i - 4 = _; omega
      rw [e2, ih k (by simpa using h)]
      rfl
theorem sgv_append (G H : List Sg) : sgv (G ++ H) = sgv G ++ sgv H := List.flatMap_append
theorem Tryd.infoSg : (Tryd.prog.info? 85).map (fun i => (i.zero, i.size, i.bytes)) = some (some (.agg #[.int .u8 0, .bool false, .int .i64 0, .int .i64 0]), 4, 24) := by kernel_rfl
/-- A list of signs that is grown. -/
structure Gs13 (w0 w : World) (a : Option Addr) (c n : Nat) (G : List Sg) : Prop where
  gro : Gro w0 w 85 4 (.slice a n c) n (sgv G)
  len : n = G.length
theorem Gs13.later {w0 w w' : World} {a : Option Addr} {c n : Nat} {G : List Sg} (h : Gs13 w0 w a c n G) (k : Kept (fun _ => False) w w') : Gs13 w0 w' a c n G := ⟨h.gro.later k, h.len⟩
/-- What a sign's cells hold. -/
theorem Gs13.cell {w0 w : World} {a : Option Addr} {c n : Nat} {G : List Sg} (h : Gs13 w0 w a c n G) (k : Nat) (hk : k < G.length) : ∃ g, a = some ⟨g, 0, none⟩ ∧ w.cell? ⟨g, k * 4, none⟩ = some (.int .u8 (G[k].c.toNat : Int)) ∧ w.cell? ⟨g, k * 4 + 1, none⟩ = some (.bool G[k].l) ∧ w.cell? ⟨g, k * 4 + 2, none⟩ = some (.int .i64 (G[k].p : Int)) ∧ w.cell? ⟨g, k * 4 + 3, none⟩ = some (.int .i64 (G[k].z : Int)) := by
  obtain ⟨g, e, _, hc⟩ := h.gro.cell (by rw [h.len]; omega)
  refine ⟨g, e, ?_, ?_, ?_, ?_⟩
  · exact hc _ _ (by have := sgv_at G k hk 0 (by omega); rw [Nat.add_zero] at this; rw [this]; rfl)
  · exact hc _ _ (by rw [sgv_at G k hk 1 (by omega)]; rfl)
  · exact hc _ _ (by rw [sgv_at G k hk 2 (by omega)]; rfl)
  · exact hc _ _ (by rw [sgv_at G k hk 3 (by omega)]; rfl)
theorem wpList_pushSg {w0 W : World} {ops : Array Oper} {rest : List Oper} {o : Oper} {act : Act} {Q : Exit → Act → World → Prop} (hgd : o.guard = none) (s x : Operand)
    (ho : o.op = .call { callee := .builtin .append, args := #[s, x], argTypes := #[82, 82] }) (a : Option Addr) (c0 n : Nat) (G : List Sg) (y : Sg) (z1 z3 z4 : Int) (z2 : Bool) (hs : act.eval s = .slice a n c0) (hG : Hid (Gs13 w0 W a c0 n G)) (b : Nat) (hb : b = W.heap.size) (hx : act.eval x = .slice (some ⟨b, 0, none⟩) 1 1)
    (hy : Hid (sv1 y = [.int .u8 z1, .bool z2, .int .i64 z3, .int .i64 z4])) (hn : n ≤ 1099511627776)
    (h : ∀ a' c' W', Hid (Gs13 w0 W' a' c' (n + 1) (G ++ [y])) → wpList Tryd.prog ops Q rest (act.put o.dst (.slice a' (n + 1) c')) W') : wpList Tryd.prog ops Q (o :: rest) act (W.alloc (.cells #[.int .u8 z1, .bool z2, .int .i64 z3, .int .i64 z4] 85)) := by
  subst hb
  obtain ⟨i0, hi, hz0, hz1, hz2⟩ := info_partsL Tryd.infoSg
  refine wpList_push hgd s x 82 ho 85 i0 (.agg #[.int .u8 0, .bool false, .int .i64 0, .int .i64 0]) 4 24 Tryd.underlying82 hi hz0 hz1 hz2 rfl (by decide) (.slice a n c0) n (sgv G) [.int .u8 z1, .bool z2, .int .i64 z3, .int .i64 z4] hs (hideL hG.out.gro) hx rfl (by intro u hu; simp at hu; rcases hu with rfl | rfl | rfl | rfl <;> rfl) (hideL (by omega)) (hideL (by unfold maxLen; omega)) ?_
  intro a' c' W' g
  refine h a' c' W' ⟨?_, by rw [List.length_append, hG.out.len]; rfl⟩
  rw [sgv_append]
  have e : sgv [y] = [.int .u8 z1, .bool z2, .int .i64 z3, .int .i64 z4] := by rw [← hy.out]; exact List.append_nil _
  rw [e]
  exact g.out
theorem gs_empty (w : World) : Gs13 w (w.alloc (.cells #[] 85)) (some ⟨w.heap.size, 0, none⟩) 0 0 [] := ⟨gro_empty w w 85 4 (Kept.refl _ _), rfl⟩
def sgPost (w : World) (G : List Sg) (n : Nat) (e : Ending) (w' : World) : Prop := ∃ a c, e = .returned (.slice a n c) ∧ Gs13 w w' a c n G
theorem sgp_len (k : Nat) (l : List UInt8) : (sgp k l).length ≤ l.length := by
  have := congrArg List.length (sgp_sgn l.length k l (Nat.le_refl _))
  rw [List.length_map] at this
  rw [this]
  exact sgn_len l.length l (Nat.le_refl _)
set_option maxRecDepth 20000 in
set_option maxHeartbeats 4000000 in
theorem signs_any (l : List UInt8) (w : World) (hl : l.length ≤ 400000000000) :
    Calls Tryd.prog 53 #[.string (bq l)] w (sgPost w (sgp 0 l) (sgp 0 l).length) := by
  obtain ⟨Z, hZ⟩ : ∃ Z, Z = sgp 0 l := ⟨_, rfl⟩
  have HZ : Hid (Z = [] ++ sgp 0 (l.drop 0)) := hideL (by rw [hZ, List.drop_zero]; rfl)
  rw [← hZ]
  clear hZ
  obtain ⟨s, hs⟩ : ∃ s, s = bq l := ⟨_, rfl⟩
  have hz : s.size = l.length := by rw [hs]; exact bq_size l
  have HX : Hid (∀ k (h : k < l.length) (h2 : k < s.size), s[k] = l[k]) := hideL (fun k h h2 => by subst hs; rfl)
  rw [← hs]
  obtain ⟨n, hn⟩ : ∃ n, n = s.size := ⟨_, rfl⟩
  have HLn : Hid (n = l.length) := hideL (by omega)
  have hnb : n ≤ 400000000000 := by omega
  have HG := hideL (gs_empty w)
  clear hs hl hz
  go_enter Tryd.func53, Tryd.ntmps53
  go_wp2
  generalize w.heap.size = b0 at *
  go_loopw [3, 4] (fun v i wr => ∃ (k m : Nat) (a : Option Addr) (c : Nat) (G : List Sg), k ≤ n ∧ m ≤ k ∧ i = .int .i64 k ∧ v = .slice a m c ∧ Hid (Gs13 w wr a c m G) ∧ Hid (Z = G ++ sgp k (l.drop k))) (fun _ i _ => n - (intOf i).toNat)
  case atStart => exact ⟨0, 0, _, _, [], by omega, by omega, rfl, rfl, HG, HZ⟩
  case round =>
    obtain ⟨k, m, a, c0, G, hk, hmk, rfl, rfl, HR, HD⟩ := hrel
    clear HG HZ
    by_cases hlt : k < n
    · have hkl : k < l.length := by rw [← HLn.out]; exact hlt
      have hks : k < s.size := by rw [← hn]; exact hlt
      have hkz : (k : Int) < (n : Int) := by omega
      have c0' := HX.out k hkl hks
      have HD2 := HD.out
      rw [List.drop_eq_getElem_cons hkl] at HD2
      obtain ⟨x, hx⟩ : ∃ x, x = l[k] := ⟨_, rfl⟩
      rw [← hx] at HD2 c0'
      obtain ⟨q, hq⟩ : ∃ q, q = x.toNat := ⟨_, rfl⟩
      have hqb : q < 256 := by rw [hq]; exact x.toNat_lt
      have y0 : s[k].toNat = q := by rw [c0', hq]
      clear c0' hx HD
      by_cases e : x = 92
      · subst e
        have hq2 : q = 92 := hq
        clear hq
        subst hq2
        by_cases hE : k + 1 < n
        · have hkl2 : k + 1 < l.length := by rw [← HLn.out]; exact hE
          have hks2 : k + 1 < s.size := by rw [← hn]; exact hE
          have hkz2 : (k : Int) + 1 < (n : Int) := by omega
          have d0' := HX.out (k + 1) hkl2 hks2
          rw [List.drop_eq_getElem_cons hkl2] at HD2
          obtain ⟨d, hd⟩ : ∃ d, d = l[k + 1] := ⟨_, rfl⟩
          rw [← hd] at HD2 d0'
          have HQ : Hid (Z = (G ++ [⟨d, true, k, 2⟩]) ++ sgp (k + 1 + 1) (l.drop (k + 1 + 1))) := hideL (by rw [HD2, sgp_esc, List.append_assoc]; rfl)
          obtain ⟨q2, hq2⟩ : ∃ q2, q2 = d.toNat := ⟨_, rfl⟩
          have hqb2 : q2 < 256 := by rw [hq2]; exact d.toNat_lt
          have y1 : s[k + 1].toNat = q2 := by rw [d0', hq2]
          have HY : Hid (sv1 ⟨d, true, k, 2⟩ = [.int .u8 (q2 : Int), .bool true, .int .i64 (k : Int), .int .i64 2]) := hideL (by rw [hq2]; rfl)
          clear HD2 hd hq2 d0' HX
          go_wp2_with (at_builtin; refine wpList_pushSg rfl _ _ rfl _ _ m _ ⟨d, true, k, 2⟩ _ _ _ _ rfl HR _ (by first | rfl | simp) rfl HY (by omega) ?_; clear HR; intro a4 c4 W4 G4)
          go_roundw
          case rel => exact ⟨k + 1 + 1, m + 1, a4, c4, _, by omega, by omega, by go_num, rfl, G4, HQ⟩
          case measure => simp [intOf] <;> omega
        · obtain rfl : n = k + 1 := by omega
          have hkz2 : ¬ (k : Int) + 1 < ((k + 1 : Nat) : Int) := by omega
          have HQ : Hid (Z = (G ++ [⟨92, false, k, 1⟩]) ++ sgp (k + 1) (l.drop (k + 1))) := hideL (by rw [HD2, List.drop_of_length_le (by have := HLn.out; omega), sgp_one, sgp_nil, List.append_nil])
          have HY : Hid (sv1 ⟨92, false, k, 1⟩ = [.int .u8 92, .bool false, .int .i64 (k : Int), .int .i64 1]) := hideL rfl
          clear HD2 HX
          go_wp2_with (at_builtin; refine wpList_pushSg rfl _ _ rfl _ _ m _ ⟨92, false, k, 1⟩ _ _ _ _ rfl HR _ (by first | rfl | simp) rfl HY (by omega) ?_; clear HR; intro a4 c4 W4 G4)
          go_roundw
          case rel => exact ⟨k + 1, m + 1, a4, c4, _, by omega, by omega, by go_num, rfl, G4, HQ⟩
          case measure => simp [intOf] <;> omega
      · have HQ : Hid (Z = (G ++ [⟨x, false, k, 1⟩]) ++ sgp (k + 1) (l.drop (k + 1))) := hideL (by rw [HD2, sgp_oth k x _ e, List.append_assoc]; rfl)
        have q1 : ((q : Int) == 92) = false := by rw [hq]; exact u8_intL x 92 e
        have HY : Hid (sv1 ⟨x, false, k, 1⟩ = [.int .u8 (q : Int), .bool false, .int .i64 (k : Int), .int .i64 1]) := hideL (by rw [hq]; rfl)
        clear HD2 HX e hq
        go_wp2_with (at_builtin; refine wpList_pushSg rfl _ _ rfl _ _ m _ ⟨x, false, k, 1⟩ _ _ _ _ rfl HR _ (by first | rfl | simp) rfl HY (by omega) ?_; clear HR; intro a4 c4 W4 G4)
        go_roundw
        case rel => exact ⟨k + 1, m + 1, a4, c4, _, by omega, by omega, by go_num, rfl, G4, HQ⟩
        case measure => simp [intOf] <;> omega
    · obtain rfl : k = n := by omega
      have hZ : Z = G := by rw [HD.out, List.drop_of_length_le (by have := HLn.out; omega), sgp_nil, List.append_nil]
      subst hZ
      have hm := HR.out.len
      subst hm
      clear HD HX
      go_wp2
      go_ret
      exact ⟨_, _, rfl, HR.out⟩
end Go.Proofs.YtiemiphlfbaojaaDoor
namespace Go.Proofs.YtiemiphlfbaojaaDoor
open Go.ChangeShapes Go.WideShapes Go.ChangeAt Go.RowKit

/-- Only rows of the type e have been written (and new blocks may have come). -/
def KT (e : TypeId) (W W' : World) : Prop := Kept (fun k => ∃ c fz, W.heap[k]? = some (.cells c e fz)) W W'
theorem KT.trans {e : TypeId} {a b c : World} (h : KT e a b) (k : KT e b c) : KT e a c := by
  refine Kept.trans h k (fun i hi => ?_)
  obtain ⟨cs, fz, hc⟩ := hi
  by_cases hlt : i < a.heap.size
  · by_cases hF : ∃ c fz, a.heap[i]? = some (.cells c e fz)
    · exact .inl hF
    · rw [h.block i hlt hF] at hc
      exact .inl ⟨_, _, hc⟩
  · exact .inr (by omega)
theorem KT.of {e : TypeId} {a b : World} (h : Kept (fun _ => False) a b) : KT e a b := h.mono (fun _ f => f.elim)
theorem KT.heap {e : TypeId} {a b : World} (h : KT e a b) {k : Nat} {cs : Array Value} {t : TypeId} {fz : Nat × Nat} (hc : a.heap[k]? = some (.cells cs t fz)) (ht : t ≠ e) : b.heap[k]? = some (.cells cs t fz) :=
  Kept.heap h hc (fun ⟨c, f, x⟩ => by
    rw [hc] at x
    simp only [Option.some.injEq, Obj.cells.injEq] at x
    exact ht x.2.1)
/-- A grown list of another type stays. -/
theorem Gro.other {w0 w w' : World} {e e' : TypeId} {sz : Nat} {v : Value} {n : Nat} {xs : List Value} (h : Gro w0 w e sz v n xs) (k : KT e' w w') (k0 : Kept (fun _ => False) w0 w') (hne : e ≠ e') : Gro w0 w' e sz v n xs := by
  refine ⟨⟨h.own.1, ?_⟩, k0⟩
  rcases h.own.2 with hn | ⟨g, cap, cur, rfl, hb, hgg, rest⟩
  · exact .inl hn
  · exact .inr ⟨g, cap, cur, rfl, hb, k.heap hgg hne, rest⟩
/-- 'append(s, x)' as wpList_push; it tells besides that only rows of the type have been written. -/
theorem wpList_pushT {w0 W : World} {ops : Array Oper} {rest : List Oper} {o : Oper} {act : Act} {Q : Exit → Act → World → Prop} (hgd : o.guard = none) (s x : Operand) (t : TypeId)
    (ho : o.op = .call { callee := .builtin .append, args := #[s, x], argTypes := #[t, t] }) (e : TypeId) (i : TypeInfo) (z : Value) (size bytes : Nat)
    (ht : Tryd.prog.underlying t = some (.slice e)) (hi : Tryd.prog.info? e = some i) (hz : i.zero = some z) (hsize : i.size = size) (hby : i.bytes = bytes) (hzs : z.cells.size = size) (hsz : 0 < size)
    (v : Value) (n : Nat) (xs news : List Value) (hs : act.eval s = v) (hG : Hid (Gro w0 W e size v n xs)) (hx : act.eval x = .slice (some ⟨W.heap.size, 0, none⟩) 1 1)
    (hl : news.length = size) (h1 : ∀ u ∈ news, u.oneCell' = true) (hb : Hid ((n + 1) * bytes ≤ 140737488355328)) (h63 : Hid (n + 1 ≤ maxLen))
    (h : ∀ a' c' W', Hid (Gro w0 W' e size (.slice a' (n + 1) c') (n + 1) (xs ++ news)) → Hid (KT e W W') → wpList Tryd.prog ops Q rest (act.put o.dst (.slice a' (n + 1) c')) W') : wpList Tryd.prog ops Q (o :: rest) act (W.alloc (.cells news.toArray e)) := by
  refine wpList_append_own _ hgd s x t ho w0.heap.size e i z size bytes ht hi hz hsize hby hzs hsz v n xs hs (hG.out.own.alloc _) ⟨W.heap.size, 0, none⟩ 1 1 news hx (by omega) (row_news W news e) h1 h63.out hb.out (by have := hG.out.kept.size; simp; omega) ?_
  intro v' W' ho2 hg2 _
  have q : Gro w0 W' e size v' (n + 1) (xs ++ news) := ⟨ho2, (hG.out.kept.trans (Kept.alloc _ _) (fun _ f => f.elim)).trans (Kept.grown hg2) (fun i hi => .inr (hG.out.own.lt i hi).1)⟩
  obtain ⟨a', c', rfl⟩ := q.shape
  refine h a' c' W' q ?_
  refine Kept.trans (KT.of (Kept.alloc W _) : KT e W _) (Kept.grown hg2) (fun k hk => ?_)
  rcases hG.out.own.2 with ⟨hn, _⟩ | ⟨g, cap, cur, rfl, _, hgg, _⟩
  · rw [hn] at hk; simp [Value.ownBlock] at hk
  · simp [Value.ownBlock] at hk
    subst hk
    exact .inl ⟨_, _, hgg⟩
/-- 'append(b, x)' of bytes, beside lists of other types. -/
theorem wpList_pushC {w0 W : World} {ops : Array Oper} {rest : List Oper} {o : Oper} {act : Act} {Q : Exit → Act → World → Prop} (hgd : o.guard = none) (s x : Operand)
    (ho : o.op = .call { callee := .builtin .append, args := #[s, x], argTypes := #[96, 96] }) (a : Option Addr) (c0 n : Nat) (l : List UInt8) (c : UInt8) (z : Int) (hs : act.eval s = .slice a n c0) (hG : Hid (Gb w0 W a c0 n l)) (b : Nat) (hb : b = W.heap.size) (hx : act.eval x = .slice (some ⟨b, 0, none⟩) 1 1)
    (hc : Hid (z = (c.toNat : Int))) (hn : n ≤ 1099511627776)
    (h : ∀ a' c' W', Hid (Gb w0 W' a' c' (n + 1) (l ++ [c])) → Hid (KT 5 W W') → wpList Tryd.prog ops Q rest (act.put o.dst (.slice a' (n + 1) c')) W') : wpList Tryd.prog ops Q (o :: rest) act (W.alloc (.cells #[.int .u8 z] 5)) := by
  subst hb
  obtain ⟨i0, hi, hz0, hz1, hz2⟩ := info_partsL Tryd.infoB
  have e2 := hc.out
  subst e2
  refine wpList_pushT hgd s x 96 ho 5 i0 (.int .u8 0) 1 1 Tryd.underlying96 hi hz0 hz1 hz2 rfl (by decide) (.slice a n c0) n (bu l) [.int .u8 (c.toNat : Int)] hs (hideL hG.out.gro) hx rfl (by intro u hu; simp at hu; subst hu; rfl) (hideL (by omega)) (hideL (by unfold maxLen; omega)) ?_
  intro a' c' W' g k
  refine h a' c' W' ⟨?_, by rw [List.length_append, hG.out.len]; rfl⟩ k
  rw [bu_append]
  exact g.out
/-- 'append(s, p...)' of bytes, beside lists of other types. -/
theorem wpList_pushQ {w0 W : World} {ops : Array Oper} {rest : List Oper} {o : Oper} {act : Act} {Q : Exit → Act → World → Prop} (hgd : o.guard = none) (s x : Operand)
    (ho : o.op = .call { callee := .builtin .append, args := #[s, x], argTypes := #[96, 96] }) (a : Option Addr) (c0 n : Nat) (l p : List UInt8) (q g : Nat) (hs : act.eval s = .slice a n c0) (hG : Hid (Gb w0 W a c0 n l)) (hx : act.eval x = .slice (some ⟨g, 0, none⟩) q q) (hq : Hid (q = p.length)) (hR : Hid (Rb W g p))
    (hn : n + q ≤ 1099511627776)
    (h : ∀ a' c' W', Hid (Gb w0 W' a' c' (n + q) (l ++ p)) → Hid (KT 5 W W') → wpList Tryd.prog ops Q rest (act.put o.dst (.slice a' (n + q) c')) W') : wpList Tryd.prog ops Q (o :: rest) act W := by
  obtain ⟨i0, hi, hz0, hz1, hz2⟩ := info_partsL Tryd.infoB
  have e1 := hq.out
  subst e1
  have hplain : ∀ j, (⟨g, 0, none⟩ : Addr).add j = ⟨g, j, none⟩ := fun j => by unfold Addr.add; split <;> simp_all
  refine wpList_append_own _ hgd s x 96 ho w0.heap.size 5 i0 (.int .u8 0) 1 1 Tryd.underlying96 hi hz0 hz1 hz2 rfl (by decide) (.slice a n c0) n (bu l) hs hG.out.gro.own ⟨g, 0, none⟩ p.length p.length (bu p) hx (by rw [bu_len, Nat.mul_one]) (fun j u hu => by rw [hplain]; exact hR.out.at' j u hu) ?_ (by unfold maxLen; omega) (by omega) hG.out.gro.kept.size ?_
  · intro u hu
    obtain ⟨x, _, rfl⟩ := List.mem_map.1 hu
    rfl
  · intro v' W' ho2 hg2 _
    have q : Gro w0 W' 5 1 v' (n + p.length) (bu l ++ bu p) := ⟨ho2, hG.out.gro.kept.trans (Kept.grown hg2) (fun i hi => .inr (hG.out.gro.own.lt i hi).1)⟩
    obtain ⟨a', c', rfl⟩ := q.shape
    rw [← bu_append] at q
    refine h a' c' W' ⟨q, by rw [List.length_append, hG.out.len]⟩ ?_
    refine Kept.mono (Kept.grown hg2) (fun k hk => ?_)
    rcases hG.out.gro.own.2 with ⟨hn, _⟩ | ⟨g, cap, cur, e, _, hgg, _⟩
    · rw [hn] at hk; simp [Value.ownBlock] at hk
    · rw [e] at hk
      simp [Value.ownBlock] at hk
      subst hk
      exact .inl ⟨_, _, hgg⟩
theorem Gs13.other {w0 w w' : World} {a : Option Addr} {c n : Nat} {G : List Sg} (h : Gs13 w0 w a c n G) (k : KT 5 w w') (k0 : Kept (fun _ => False) w0 w') : Gs13 w0 w' a c n G := ⟨h.gro.other k k0 (by decide), h.len⟩
theorem any_map (G : List Sg) (f : UInt8 × Bool → Bool) : (G.map sgB).any f = G.any (fun x => f (sgB x)) := List.any_map
theorem sgp_any (l : List UInt8) (f : UInt8 × Bool → Bool) : (sgn l).any f = (sgp 0 l).any (fun x => f (sgB x)) := by rw [← sgp_sgn l.length 0 l (Nat.le_refl _), any_map]
/-- Beside a list of signs: bytes that grow. -/
structure Bs13 (w wr : World) (a : Option Addr) (c m : Nat) (o : List UInt8) (a9 : Option Addr) (c9 N : Nat) (G : List Sg) : Prop where
  b : Gb w wr a c m o
  g : Gs13 w wr a9 c9 N G
theorem Bs13.later {w wr w' : World} {a : Option Addr} {c m : Nat} {o : List UInt8} {a9 : Option Addr} {c9 N : Nat} {G : List Sg} (h : Bs13 w wr a c m o a9 c9 N G) (k : Kept (fun _ => False) wr w') : Bs13 w w' a c m o a9 c9 N G := ⟨h.b.later k, h.g.later k⟩
theorem Bs13.push {w wr w' : World} {a a' : Option Addr} {c m c' m' : Nat} {o o' : List UInt8} {a9 : Option Addr} {c9 N : Nat} {G : List Sg} (h : Bs13 w wr a c m o a9 c9 N G) (hb : Gb w w' a' c' m' o') (k : KT 5 wr w') : Bs13 w w' a' c' m' o' a9 c9 N G := ⟨hb, h.g.other k hb.gro.kept⟩
theorem drop_any (G : List Sg) (f : Sg → Bool) (k : Nat) (h : k < G.length) : (G.drop k).any f = (f G[k] || (G.drop (k + 1)).any f) := by
  rw [List.drop_eq_getElem_cons h, List.any_cons]
end Go.Proofs.YtiemiphlfbaojaaDoor
namespace Go.Proofs.YtiemiphlfbaojaaDoor
open Go.ChangeShapes Go.WideShapes Go.ChangeAt Go.RowKit

/-- The world with a sign laid new. -/
def nsg (w : World) (q p z : Int) (b : Bool) : World := w.alloc (.cells #[.int .u8 q, .bool b, .int .i64 p, .int .i64 z] 85)
theorem nsg_blk {w W : World} {q p z : Int} {b : Bool} (k : KT 5 (nsg w q p z b) W) : W.cell? ⟨w.heap.size, 0, none⟩ = some (.int .u8 q) ∧ W.cell? ⟨w.heap.size, 1, none⟩ = some (.bool b) := by
  have h := k.heap (heap_alloc_new w (.cells #[.int .u8 q, .bool b, .int .i64 p, .int .i64 z] 85)) (by decide)
  exact ⟨cell_of_row _ _ 0 _ _ _ h, cell_of_row _ _ 1 _ _ _ h⟩
end Go.Proofs.YtiemiphlfbaojaaDoor
