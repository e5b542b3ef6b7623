import Derived.Test.YtiemiphlfbaojaaDoorSyi
namespace Go.Proofs.YtiemiphlfbaojaaDoor
open Go.ChangeShapes Go.WideShapes Go.ChangeAt Go.RowKit

/-! Behind a piece. -/
structure PB (R : List Tn) (s t : MS) : Prop where
  e : stp5 R s = stp5e R t
  le : s.at' ≤ t.at'
  hi : t.at' ≤ R.length
  ok : okS t
  ne : t.ne = 0
  ou : t.ou = s.ou
variable {R : List Tn} {Z : Bool × MS} {s s1 s2 s3 s4 t : MS} {B : Bool}
theorem pb_signed (h : Goo R Z 5 s) (q : orT (tK R 18) (tK R 19) s = (false, s1)) (hs : s.top.s = true) : PB R s s1.endU := by
  obtain ⟨a0, _, c0, d0, e0, f0, g0⟩ := Adv.at' ((adv_K R 18).or (adv_K R 19)) q
  have ht : s1.endU.top.s = true := by show s1.top.s = true; rw [e0]; exact hs
  refine ⟨?_, a0, c0 h.at', (g0 h.ok).endU, rfl, f0⟩
  simp only [stp5, q, Bool.false_eq_true, ↓reduceIte, stp5u, ht]
theorem pb_plain (h : Goo R Z 5 s) (q : orT (tK R 18) (tK R 19) s = (false, s1)) (hs : s.top.s = false) (q2 : tJoin R s1.endU = (false, s2)) : PB R s s2 := by
  obtain ⟨a0, _, c0, d0, e0, f0, g0⟩ := Adv.at' ((adv_K R 18).or (adv_K R 19)) q
  obtain ⟨a1, _, c1, d1, e1, f1, g1⟩ := Adv.at' (adv_Join R) q2
  have ht : s1.endU.top.s = false := by show s1.top.s = false; rw [e0]; exact hs
  refine ⟨?_, Nat.le_trans a0 a1, c1 (c0 h.at'), g1 (g0 h.ok).endU, by rw [d1]; rfl, by rw [f1]; exact f0⟩
  simp only [stp5, q, Bool.false_eq_true, ↓reduceIte, stp5u, ht, q2]
theorem e51 (h : Goo R Z 5 s) (q : orT (tK R 18) (tK R 19) s = (false, s1)) (hs : s.top.s = false) (q2 : tJoin R s1.endU = (true, s2)) : Goo R Z 1 s2 ∧ rkM R 1 s2 < rkM R 5 s := by
  obtain ⟨a0, _, c0, d0, e0, f0, g0⟩ := Adv.at' ((adv_K R 18).or (adv_K R 19)) q
  obtain ⟨a1, b1, c1, d1, e1, f1, g1⟩ := Adv.at' (adv_Join R) q2
  have ht : s1.endU.top.s = false := by show s1.top.s = false; rw [e0]; exact hs
  have k1 : s1.endU.at' = s1.at' := rfl
  refine h.edge ?_ ?_ ?_ ?_ ?_
  · show stp5 R s = _
    simp only [stp5, q, Bool.false_eq_true, ↓reduceIte, stp5u, ht, q2]
  · exact rk_tok _ _ (by have w := b1 rfl; omega) (c1 (c0 h.at'))
  · exact g1 (g0 h.ok).endU
  · intro _; rw [d1]; rfl
  · exact c1 (c0 h.at')
theorem p_end (h : Goo R Z 5 s) (p : PB R s t) (hou : s.ou = []) (q : tK R 0 t = (true, s3)) : Z = (true, s3) := by
  refine h.ret ?_
  show stp5 R s = _
  have ho : t.ou = [] := p.ou.trans hou
  rw [p.e]
  unfold stp5e
  rw [ho]
  simp only [q, ↓reduceIte]
theorem p_no (h : Goo R Z 5 s) (p : PB R s t) (hou : s.ou = []) (q : tK R 0 t = (false, s3)) : Goo R Z 0 s3 ∧ rkM R 0 s3 < rkM R 5 s := by
  obtain ⟨a1, b1, c1, d1, e1, f1, g1⟩ := Adv.at' (adv_K R 0) q
  have ho : t.ou = [] := p.ou.trans hou
  have w := p.le
  refine h.edge ?_ (rk_lab (by omega) (by decide)) (g1 p.ok) (fun _ => by rw [d1]; exact p.ne) (c1 p.hi)
  show stp5 R s = _
  rw [p.e]
  unfold stp5e
  rw [ho]
  simp only [q, Bool.false_eq_true, ↓reduceIte]
theorem p_clause (h : Goo R Z 5 s) (p : PB R s t) {l : Lv} {r : List Lv} (hou : s.ou = l :: r) (q : tK R 9 t = (false, s3)) : Goo R Z 0 s3 ∧ rkM R 0 s3 < rkM R 5 s := by
  obtain ⟨a1, b1, c1, d1, e1, f1, g1⟩ := Adv.at' (adv_K R 9) q
  have ho : t.ou = l :: r := p.ou.trans hou
  have w := p.le
  refine h.edge ?_ (rk_lab (by omega) (by decide)) (g1 p.ok) (fun _ => by rw [d1]; exact p.ne) (c1 p.hi)
  show stp5 R s = _
  rw [p.e]
  unfold stp5e
  rw [ho]
  simp only [q, Bool.false_eq_true, ↓reduceIte]
theorem p_close (h : Goo R Z 5 s) (p : PB R s t) {l : Lv} {r : List Lv} (hou : s.ou = l :: r) (q : tK R 9 t = (true, s3)) (q2 : tK R 21 (s3.close' l r) = (B, s4)) : (Goo R Z 5 s4 ∧ rkM R 5 s4 < rkM R 5 s) ∧ s3.ou = l :: r ∧ okS s3 := by
  obtain ⟨a1, b1, c1, d1, e1, f1, g1⟩ := Adv.at' (adv_K R 9) q
  obtain ⟨a2, b2, c2, d2, e2, f2, g2⟩ := Adv.at' (adv_K R 21) q2
  have ho : t.ou = l :: r := p.ou.trans hou
  have w := p.le
  have k1 : (s3.close' l r).at' = s3.at' := rfl
  have k2 := c1 p.hi
  have w1 := b1 rfl
  refine ⟨h.edge ?_ (rk_tok _ _ (by omega) (c2 k2)) (g2 ((g1 p.ok).close' (f1.trans ho))) (fun x => absurd rfl x) (c2 k2), f1.trans ho, g1 p.ok⟩
  show stp5 R s = _
  rw [p.e]
  unfold stp5e
  rw [ho]
  simp only [q, ↓reduceIte, q2]
/-! What holds at the labels. -/
def StS (w0 : World) (b rc : Nat) (a0 : Option Addr) (R : List Tn) (Z : Bool × MS) (r ml : Nat) (w : World) : Prop := ∃ v s, Goo R Z ml s ∧ Mc w0 w b rc a0 R v s ∧ r = rkM R ml s
def StM (w0 : World) (b rc : Nat) (a0 : Option Addr) (R : List Tn) (Z : Bool × MS) (r lab : Nat) (w : World) : Prop := (lab = 0 ∧ StS w0 b rc a0 R Z r 0 w) ∨ (lab = 1 ∧ StS w0 b rc a0 R Z r 1 w) ∨ (lab = 2 ∧ StS w0 b rc a0 R Z r 3 w) ∨ (lab = 3 ∧ StS w0 b rc a0 R Z r 4 w) ∨ (lab = 4 ∧ StS w0 b rc a0 R Z r 2 w) ∨ (lab = 5 ∧ StS w0 b rc a0 R Z r 5 w)
def rnPost (w0 : World) (b rc : Nat) (a0 : Option Addr) (R : List Tn) (Z : Bool × MS) (x : Ending) (w' : World) : Prop := x = .returned (.bool Z.1) ∧ ∃ v, Mc w0 w' b rc a0 R v Z.2
variable {w0 w w' : World} {b rc : Nat} {a0 : Option Addr} {v : Value} {r : Nat}
theorem arr120 (A : Array Value) (h : A.size = 120) : A = #[(A.getD 0 undef), (A.getD 1 undef), (A.getD 2 undef), (A.getD 3 undef), (A.getD 4 undef), (A.getD 5 undef), (A.getD 6 undef), (A.getD 7 undef), (A.getD 8 undef), (A.getD 9 undef), (A.getD 10 undef), (A.getD 11 undef), (A.getD 12 undef), (A.getD 13 undef), (A.getD 14 undef), (A.getD 15 undef), (A.getD 16 undef), (A.getD 17 undef), (A.getD 18 undef), (A.getD 19 undef), (A.getD 20 undef), (A.getD 21 undef), (A.getD 22 undef), (A.getD 23 undef), (A.getD 24 undef), (A.getD 25 undef), (A.getD 26 undef), (A.getD 27 undef), (A.getD 28 undef), (A.getD 29 undef), (A.getD 30 undef), (A.getD 31 undef), (A.getD 32 undef), (A.getD 33 undef), (A.getD 34 undef), (A.getD 35 undef), (A.getD 36 undef), (A.getD 37 undef), (A.getD 38 undef), (A.getD 39 undef), (A.getD 40 undef), (A.getD 41 undef), (A.getD 42 undef), (A.getD 43 undef), (A.getD 44 undef), (A.getD 45 undef), (A.getD 46 undef), (A.getD 47 undef), (A.getD 48 undef), (A.getD 49 undef), (A.getD 50 undef), (A.getD 51 undef), (A.getD 52 undef), (A.getD 53 undef), (A.getD 54 undef), (A.getD 55 undef), (A.getD 56 undef), (A.getD 57 undef), (A.getD 58 undef), (A.getD 59 undef), (A.getD 60 undef), (A.getD 61 undef), (A.getD 62 undef), (A.getD 63 undef), (A.getD 64 undef), (A.getD 65 undef), (A.getD 66 undef), (A.getD 67 undef), (A.getD 68 undef), (A.getD 69 undef), (A.getD 70 undef), (A.getD 71 undef), (A.getD 72 undef), (A.getD 73 undef), (A.getD 74 undef), (A.getD 75 undef), (A.getD 76 undef), (A.getD 77 undef), (A.getD 78 undef), (A.getD 79 undef), (A.getD 80 undef), (A.getD 81 undef), (A.getD 82 undef), (A.getD 83 undef), (A.getD 84 undef), (A.getD 85 undef), (A.getD 86 undef), (A.getD 87 undef), (A.getD 88 undef), (A.getD 89 undef), (A.getD 90 undef), (A.getD 91 undef), (A.getD 92 undef), (A.getD 93 undef), (A.getD 94 undef), (A.getD 95 undef), (A.getD 96 undef), (A.getD 97 undef), (A.getD 98 undef), (A.getD 99 undef), (A.getD 100 undef), (A.getD 101 undef), (A.getD 102 undef), (A.getD 103 undef), (A.getD 104 undef), (A.getD 105 undef), (A.getD 106 undef), (A.getD 107 undef), (A.getD 108 undef), (A.getD 109 undef), (A.getD 110 undef), (A.getD 111 undef), (A.getD 112 undef), (A.getD 113 undef), (A.getD 114 undef), (A.getD 115 undef), (A.getD 116 undef), (A.getD 117 undef), (A.getD 118 undef), (A.getD 119 undef)] := (arrN A 120 h).trans rfl
structure JM (w0 : World) (b rc : Nat) (a0 : Option Addr) (R : List Tn) (Z : Bool × MS) (r lab : Nat) (act : Act) (w : World) : Prop where
  sz : act.tmps.size = 120
  s0 : act.tmps.getD 0 undef = .pointer (some ⟨b, 0, none⟩)
  s2 : act.tmps.getD 2 undef = .bool false
  df : act.defers = []
  st : StM w0 b rc a0 R Z r lab w
theorem jm_mk {u1 u3 u4 u5 u6 u7 u8 u9 u10 u11 u12 u13 u14 u15 u16 u17 u18 u19 u20 u21 u22 u23 u24 u25 u26 u27 u28 u29 u30 u31 u32 u33 u34 u35 u36 u37 u38 u39 u40 u41 u42 u43 u44 u45 u46 u47 u48 u49 u50 u51 u52 u53 u54 u55 u56 u57 u58 u59 u60 u61 u62 u63 u64 u65 u66 u67 u68 u69 u70 u71 u72 u73 u74 u75 u76 u77 u78 u79 u80 u81 u82 u83 u84 u85 u86 u87 u88 u89 u90 u91 u92 u93 u94 u95 u96 u97 u98 u99 u100 u101 u102 u103 u104 u105 u106 u107 u108 u109 u110 u111 u112 u113 u114 u115 u116 u117 u118 u119 : Value} {r' lab : Nat} (hr : r' < r) (h : StM w0 b rc a0 R Z r' lab w) : ∃ r', r' < r ∧ JM w0 b rc a0 R Z r' lab { tmps := #[.pointer (some ⟨b, 0, none⟩), u1, .bool false, u3, u4, u5, u6, u7, u8, u9, u10, u11, u12, u13, u14, u15, u16, u17, u18, u19, u20, u21, u22, u23, u24, u25, u26, u27, u28, u29, u30, u31, u32, u33, u34, u35, u36, u37, u38, u39, u40, u41, u42, u43, u44, u45, u46, u47, u48, u49, u50, u51, u52, u53, u54, u55, u56, u57, u58, u59, u60, u61, u62, u63, u64, u65, u66, u67, u68, u69, u70, u71, u72, u73, u74, u75, u76, u77, u78, u79, u80, u81, u82, u83, u84, u85, u86, u87, u88, u89, u90, u91, u92, u93, u94, u95, u96, u97, u98, u99, u100, u101, u102, u103, u104, u105, u106, u107, u108, u109, u110, u111, u112, u113, u114, u115, u116, u117, u118, u119], defers := [] } w := ⟨r', hr, rfl, rfl, rfl, rfl, h⟩
theorem jm_elim {Pp : Act → World → Prop} {act : Act} {lab : Nat} (hJ : JM w0 b rc a0 R Z r lab act w) (h : ∀ (u1 u3 u4 u5 u6 u7 u8 u9 u10 u11 u12 u13 u14 u15 u16 u17 u18 u19 u20 u21 u22 u23 u24 u25 u26 u27 u28 u29 u30 u31 u32 u33 u34 u35 u36 u37 u38 u39 u40 u41 u42 u43 u44 u45 u46 u47 u48 u49 u50 u51 u52 u53 u54 u55 u56 u57 u58 u59 u60 u61 u62 u63 u64 u65 u66 u67 u68 u69 u70 u71 u72 u73 u74 u75 u76 u77 u78 u79 u80 u81 u82 u83 u84 u85 u86 u87 u88 u89 u90 u91 u92 u93 u94 u95 u96 u97 u98 u99 u100 u101 u102 u103 u104 u105 u106 u107 u108 u109 u110 u111 u112 u113 u114 u115 u116 u117 u118 u119 : Value), StM w0 b rc a0 R Z r lab w → Pp { tmps := #[.pointer (some ⟨b, 0, none⟩), u1, .bool false, u3, u4, u5, u6, u7, u8, u9, u10, u11, u12, u13, u14, u15, u16, u17, u18, u19, u20, u21, u22, u23, u24, u25, u26, u27, u28, u29, u30, u31, u32, u33, u34, u35, u36, u37, u38, u39, u40, u41, u42, u43, u44, u45, u46, u47, u48, u49, u50, u51, u52, u53, u54, u55, u56, u57, u58, u59, u60, u61, u62, u63, u64, u65, u66, u67, u68, u69, u70, u71, u72, u73, u74, u75, u76, u77, u78, u79, u80, u81, u82, u83, u84, u85, u86, u87, u88, u89, u90, u91, u92, u93, u94, u95, u96, u97, u98, u99, u100, u101, u102, u103, u104, u105, u106, u107, u108, u109, u110, u111, u112, u113, u114, u115, u116, u117, u118, u119], defers := [] } w) : Pp act w := by
  obtain ⟨A, D⟩ := act
  have e := arr120 A hJ.sz
  have s0 : A.getD 0 undef = .pointer (some ⟨b, 0, none⟩) := hJ.s0
  have s2 : A.getD 2 undef = .bool false := hJ.s2
  have df : D = [] := hJ.df
  rw [s0, s2] at e
  rw [e, df]
  exact h _ _ _ _ _ _ _ _ _ _ _ _ _ _ _ _ _ _ _ _ _ _ _ _ _ _ _ _ _ _ _ _ _ _ _ _ _ _ _ _ _ _ _ _ _ _ _ _ _ _ _ _ _ _ _ _ _ _ _ _ _ _ _ _ _ _ _ _ _ _ _ _ _ _ _ _ _ _ _ _ _ _ _ _ _ _ _ _ _ _ _ _ _ _ _ _ _ _ _ _ _ _ _ _ _ _ _ _ _ _ _ _ _ _ _ _ _ _ hJ.st
set_option maxRecDepth 40000 in
theorem wp_scope_run {c : Code} {act : Act} {Q : Exit → Act → World → Prop} (r0 : Nat) (h0 : StM w0 b rc a0 R Z r0 0 w) (hc : ∀ (X : Code) (Q : Exit → Act → World → Prop), findLabel c 0 = some (Code.skip.seq X) → X.wp Tryd.prog Q { tmps := #[.pointer (some ⟨b, 0, none⟩), undef, .bool false, undef, undef, undef, undef, undef, undef, undef, undef, undef, undef, undef, undef, undef, undef, undef, undef, undef, undef, undef, undef, undef, undef, undef, undef, undef, undef, undef, undef, undef, undef, undef, undef, undef, undef, undef, undef, undef, undef, undef, undef, undef, undef, undef, undef, undef, undef, undef, undef, undef, undef, undef, undef, undef, undef, undef, undef, undef, undef, undef, undef, undef, undef, undef, undef, undef, undef, undef, undef, undef, undef, undef, undef, undef, undef, undef, undef, undef, undef, undef, undef, undef, undef, undef, undef, undef, undef, undef, undef, undef, undef, undef, undef, undef, undef, undef, undef, undef, undef, undef, undef, undef, undef, undef, undef, undef, undef, undef, undef, undef, undef, undef, undef, undef, undef, undef, undef, undef], defers := [] } w → c.wp Tryd.prog Q act w)
    (pass : ∀ (r lab : Nat) (W : World) (u1 u3 u4 u5 u6 u7 u8 u9 u10 u11 u12 u13 u14 u15 u16 u17 u18 u19 u20 u21 u22 u23 u24 u25 u26 u27 u28 u29 u30 u31 u32 u33 u34 u35 u36 u37 u38 u39 u40 u41 u42 u43 u44 u45 u46 u47 u48 u49 u50 u51 u52 u53 u54 u55 u56 u57 u58 u59 u60 u61 u62 u63 u64 u65 u66 u67 u68 u69 u70 u71 u72 u73 u74 u75 u76 u77 u78 u79 u80 u81 u82 u83 u84 u85 u86 u87 u88 u89 u90 u91 u92 u93 u94 u95 u96 u97 u98 u99 u100 u101 u102 u103 u104 u105 u106 u107 u108 u109 u110 u111 u112 u113 u114 u115 u116 u117 u118 u119 : Value), StM w0 b rc a0 R Z r lab W → ∃ X, findLabel c lab = some (Code.skip.seq X) ∧ X.wp Tryd.prog (jumpsL (fun l' a' w' => ∃ r', r' < r ∧ JM w0 b rc a0 R Z r' l' a' w') Q) { tmps := #[.pointer (some ⟨b, 0, none⟩), u1, .bool false, u3, u4, u5, u6, u7, u8, u9, u10, u11, u12, u13, u14, u15, u16, u17, u18, u19, u20, u21, u22, u23, u24, u25, u26, u27, u28, u29, u30, u31, u32, u33, u34, u35, u36, u37, u38, u39, u40, u41, u42, u43, u44, u45, u46, u47, u48, u49, u50, u51, u52, u53, u54, u55, u56, u57, u58, u59, u60, u61, u62, u63, u64, u65, u66, u67, u68, u69, u70, u71, u72, u73, u74, u75, u76, u77, u78, u79, u80, u81, u82, u83, u84, u85, u86, u87, u88, u89, u90, u91, u92, u93, u94, u95, u96, u97, u98, u99, u100, u101, u102, u103, u104, u105, u106, u107, u108, u109, u110, u111, u112, u113, u114, u115, u116, u117, u118, u119], defers := [] } W) : (Code.scope c).wp Tryd.prog Q act w :=
  wp_scope_labels (JM w0 b rc a0 R Z) r0 0 ⟨rfl, rfl, rfl, rfl, h0⟩ hc (fun r lab _ W hJ => jm_elim (Pp := fun a W => ∃ X, findLabel c lab = some (Code.skip.seq X) ∧ X.wp Tryd.prog (jumpsL (fun l' a' w' => ∃ r', r' < r ∧ JM w0 b rc a0 R Z r' l' a' w') Q) a W) hJ (pass r lab W))
end Go.Proofs.YtiemiphlfbaojaaDoor
