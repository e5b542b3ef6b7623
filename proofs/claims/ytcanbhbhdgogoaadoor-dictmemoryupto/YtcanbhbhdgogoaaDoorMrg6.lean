import Derived.Test.YtcanbhbhdgogoaaDoorMrg5
import Derived.Lib.AppendStr
import Derived.Deep.DeepCutAuto
import Derived.Test.YtcanbhbhdgogoaaDoorAnyz
namespace Go.Proofs.YtcanbhbhdgogoaaDoor
open Go.ChangeShapes Go.WideShapes Go.ChangeAt Go.RowKit

/-- The document's take: a number of at most k bytes, and how many it has. -/
def tkr : Nat → List Int → Option (Nat × Nat)
  | 0, _ => none
  | _ + 1, [] => none
  | k + 1, x :: r => if x < 128 then some (x.toNat, 1) else match tkr k r with
    | none => none
    | some (v, c) => some ((x % 128).toNat + 128 * v, c + 1)
theorem tkr_len : ∀ {k : Nat} {xs : List Int} {v c : Nat}, tkr k xs = some (v, c) → c ≤ xs.length ∧ 0 < c
  | 0, _, _, _, h => by cases h
  | k + 1, [], _, _, h => by cases h
  | k + 1, x :: r, v, c, h => by
    rw [tkr] at h
    split at h
    · cases h; simp
    · cases hr : tkr k r with
      | none => rw [hr] at h; cases h
      | some y =>
        obtain ⟨v', c'⟩ := y
        rw [hr] at h
        cases h
        have := tkr_len hr
        simp
        omega
theorem tkr_small : ∀ {k : Nat} {xs : List Int} {v c : Nat}, IsBytes xs → tkr k xs = some (v, c) → v < 128 ^ k
  | 0, _, _, _, _, h => by cases h
  | k + 1, [], _, _, _, h => by cases h
  | k + 1, x :: r, v, c, hI, h => by
    have hp : 0 < 128 ^ k := Nat.pos_of_ne_zero (by simp)
    rw [tkr] at h
    split at h
    · cases h
      rw [Nat.pow_succ]
      omega
    · cases hr : tkr k r with
      | none => rw [hr] at h; cases h
      | some y =>
        obtain ⟨v', c'⟩ := y
        rw [hr] at h
        cases h
        have := tkr_small (fun y hy => hI y (List.mem_cons_of_mem _ hy)) hr
        rw [Nat.pow_succ]
        omega
theorem tkr_uvb : ∀ (k : Nat) (x : Nat) (R : List Int), x < 128 ^ (k + 1) → tkr (k + 1) (uvb x ++ R) = some (x, (uvb x).length)
  | 0, x, R, h => by
    have h1 : x < 128 := by simpa using h
    rw [uvb_small h1]
    simp only [List.singleton_append, tkr]
    rw [if_pos (by omega)]
    simp
  | k + 1, x, R, h => by
    by_cases h1 : x < 128
    · rw [uvb_small h1]
      simp only [List.singleton_append, tkr]
      rw [if_pos (by omega)]
      simp
    · rw [uvb_big h1, List.cons_append]
      have hx : x / 128 < 128 ^ (k + 1) := by
        rw [Nat.pow_succ] at h
        exact Nat.div_lt_of_lt_mul (by rw [Nat.mul_comm]; exact h)
      rw [tkr.eq_def]
      simp only
      rw [if_neg (by omega), tkr_uvb k (x / 128) R hx]
      simp only [List.length_cons, Option.some.injEq, Prod.mk.injEq, and_true]
      omega
/-- The entries one behind the other: c is the place in the block, b the key ahead. -/
def ebs : Nat → ByteArray → List En → List Int
  | _, _, [] => []
  | c, b, e :: r => een (if c = 0 then ByteArray.empty else b) e ++ ebs ((c + 1) % 16) e.k r
theorem ebs_run : ∀ (F G : List En) (c : Nat) (b : ByteArray), 0 < c → c + F.length ≤ 16 → ebs (c % 16) b (F ++ G) = (if c = 16 then ebs 0 b G else ebl b F ++ ebs ((c + F.length) % 16) (lastk b F) G)
  | [], G, c, b, hc, hl => by
    by_cases e : c = 16
    · subst e; simp
    · rw [if_neg e]
      simp [ebl, lastk]
  | e :: F, G, c, b, hc, hl => by
    have h16 : c ≠ 16 := by simp at hl; omega
    have hm : c % 16 = c := Nat.mod_eq_of_lt (by simp at hl; omega)
    rw [if_neg h16, List.cons_append, ebs, hm, if_neg (by omega), ebl, lastk, List.append_assoc]
    congr 1
    have ih := ebs_run F G (c + 1) e.k (by omega) (by simp at hl; omega)
    rw [ih]
    by_cases e2 : c + 1 = 16
    · have hF : F = [] := by
        cases F with
        | nil => rfl
        | cons y r => simp at hl; omega
      subst hF
      rw [if_pos e2]
      simp [ebl, lastk, e2]
    · rw [if_neg e2]
      simp only [List.length_cons]
      rw [show c + 1 + F.length = c + (F.length + 1) by omega]
theorem ebs_block (F G : List En) (b : ByteArray) (hF : F ≠ []) (hl : F.length ≤ 16) : ebs 0 b (F ++ G) = ebl ByteArray.empty F ++ ebs (F.length % 16) (lastk b F) G := by
  match F, hF with
  | e :: F, _ =>
    rw [List.cons_append, ebs, if_pos rfl, ebl, lastk, List.append_assoc]
    congr 1
    have ih := ebs_run F G 1 e.k (by decide) (by simp at hl; omega)
    rw [show (0 + 1) % 16 = 1 % 16 from rfl, ih, if_neg (by decide), List.length_cons, Nat.add_comm 1]
theorem bdL_ebs : ∀ (m : Nat) (E : List En) (b : ByteArray), m = nbk E.length → bdL (chs m E) = ebs 0 b E
  | 0, E, b, h => by
    have : E = [] := List.eq_nil_of_length_eq_zero (by unfold nbk at h; omega)
    subst this
    rfl
  | m + 1, E, b, h => by
    have hE : E ≠ [] := by rintro rfl; simp [nbk] at h
    have hT : E.take 16 ≠ [] := by
      intro e
      have h2 : (E.take 16).length = 0 := by rw [e]; rfl
      rw [List.length_take] at h2
      have h1 := List.length_pos_iff.2 hE
      omega
    have ih := bdL_ebs m (E.drop 16) (lastk b (E.take 16)) (by rw [List.length_drop]; unfold nbk at h ⊢; omega)
    have e1 : bdL (chs (m + 1) E) = ebl ByteArray.empty (E.take 16) ++ bdL (chs m (E.drop 16)) := by rw [chs]; simp [bdL]
    have e2 := ebs_block (E.take 16) (E.drop 16) b hT (by rw [List.length_take]; omega)
    rw [List.take_append_drop] at e2
    rw [e1, ih, e2]
    congr 1
    rw [List.length_take]
    by_cases q : 16 ≤ E.length
    · rw [Nat.min_eq_left q]
    · have hd : E.drop 16 = [] := List.drop_eq_nil_of_le (by omega)
      rw [hd]
      simp [ebs]
end Go.Proofs.YtcanbhbhdgogoaaDoor
namespace Go.Proofs.YtcanbhbhdgogoaaDoor
open Go.ChangeShapes Go.WideShapes Go.ChangeAt Go.RowKit

theorem strCells_bs (s : ByteArray) : Lib.strCells s = bs (sb s) := by
  unfold Lib.strCells bs sb
  rw [List.map_map]
  rfl
/-- A list of bytes that grows in memory of its own. -/
structure Gb (w W : World) (v : Value) (xs : List Int) : Prop where
  own : W.ownsRow w.heap.size 5 1 v xs.length (bs xs)
  kept : Kept (fun _ => False) w W
theorem Gb.step {w W W' : World} {v v' : Value} {xs ys : List Int} (h : Gb w W v xs) (ho : W'.ownsRow w.heap.size 5 1 v' ys.length (bs ys)) (s : RStep W W' v v') : Gb w W' v' ys :=
  ⟨ho, h.kept.trans s.kept (fun i hi => .inr (h.own.lt i hi).1)⟩
theorem Gb.later {w W W' : World} {v : Value} {xs : List Int} (h : Gb w W v xs) (k : Kept (fun _ => False) W W') : Gb w W' v xs := ⟨k.row h.own (fun _ _ f => f), h.kept.trans k (fun _ f => f.elim)⟩
theorem gb_uv {w W : World} {v : Value} {xs : List Int} (n : Nat) (h : Gb w W v xs) (hn : n ≤ 4611686018427387904) (hx : xs.length ≤ 70368744177664) :
    Calls Tryd.prog 23 #[v, .int .i64 n] W fun e w' => ∃ v', e = .returned v' ∧ Gb w w' v' (xs ++ uvb n) := by
  refine (ruvD_any w.heap.size v xs n W h.own h.kept.size hn hx).mono ?_
  rintro e w' ⟨v', rfl, ho, s⟩
  exact ⟨v', rfl, h.step ho s⟩
set_option maxRecDepth 20000 in
set_option maxHeartbeats 16000000 in
/-- The document's block. -/
theorem rblock_any (E : List En) (a : Option Addr) (n c lo hi : Nat) (w : World) (hn : n = E.length) (hE : EsAt w a E) (hg : ∀ e ∈ E, Gen e) (hlo : lo ≤ hi) (hhi : hi ≤ n) (h16 : hi ≤ lo + 16) (hl : n ≤ 1099511627776) :
    Calls Tryd.prog 24 #[.slice a n c, .int .i64 lo, .int .i64 hi] w fun e w' => ∃ v, e = .returned v ∧ Gb w w' v (ebl ByteArray.empty ((E.drop lo).take (hi - lo))) := by
  have HE := hideQ hE
  have HG := hideQ hg
  have HN := hideQ hn
  have HB0 : Hid (Gb w w (.slice none 0 0) (ebl ByteArray.empty ((E.drop lo).take 0))) := hideQ (by
    rw [List.take_zero]
    exact ⟨⟨rfl, .inl ⟨rfl, rfl⟩⟩, Kept.refl _ _⟩)
  clear hE hg hn
  go_enter Tryd.func24, Tryd.ntmps24
  go_wp2
  go_loopw [7, 8] (fun s7 s8 wr => ∃ (i j : Nat) (va : Value), s7 = va ∧ s8 = .int .i64 i ∧ i ≤ hi ∧ i = lo + j ∧ Hid (Gb w wr va (ebl ByteArray.empty ((E.drop lo).take j)))) (fun _ s8 _ => hi - (intOf s8).toNat)
  case atStart => exact ⟨lo, 0, _, rfl, rfl, hlo, rfl, HB0⟩
  case round =>
  obtain ⟨i, j, va, h7, rfl, hi1, hij, HB⟩ := hrel
  subst h7
  clear HB0
  by_cases hlt : i < hi
  · have hiE : i < E.length := by rw [← HN.out]; omega
    obtain ⟨b, off, rfl, hc⟩ := HE.out (by rintro rfl; simp at hiE)
    have HEc : Hid (∀ V, Kept (fun _ => False) w V → V.cell? ⟨b, off + i * 5, none⟩ = some (.string E[i].k) ∧ V.cell? ⟨b, off + i * 5 + 1, none⟩ = some (.int .i64 E[i].d) ∧ V.cell? ⟨b, off + i * 5 + 2, none⟩ = some (.int .i64 E[i].t) ∧ V.cell? ⟨b, off + i * 5 + 3, none⟩ = some (.int .i64 E[i].p) ∧ V.cell? ⟨b, off + i * 5 + 4, none⟩ = some (.int .i64 E[i].s)) := hideQ (fun V k => by
      obtain ⟨x0, x1, x2, x3, x4⟩ := hc i hiE
      exact ⟨k.cell x0 (fun f => f), k.cell x1 (fun f => f), k.cell x2 (fun f => f), k.cell x3 (fun f => f), k.cell x4 (fun f => f)⟩)
    have hge := HG.out _ (List.getElem_mem hiE)
    have g2 := hge.k2
    obtain ⟨dd, hdd⟩ : ∃ dd : Nat, E[i].d = (dd : Int) := ⟨E[i].d.toNat, by have := hge.d; omega⟩
    obtain ⟨td, htd⟩ : ∃ td : Nat, E[i].t = (td : Int) := ⟨E[i].t.toNat, by have := hge.t; omega⟩
    obtain ⟨pd, hpd⟩ : ∃ pd : Nat, E[i].p = (pd : Int) := ⟨E[i].p.toNat, by have := hge.p; omega⟩
    obtain ⟨sd, hsd⟩ : ∃ sd : Nat, E[i].s = (sd : Int) := ⟨E[i].s.toNat, by have := hge.s; omega⟩
    have nb : dd ≤ 2147483647 ∧ td ≤ 2147483647 ∧ pd ≤ 2147483647 ∧ sd ≤ 2147483647 := by
      have := hge.d; have := hge.t; have := hge.p; have := hge.s
      omega
    rw [hdd, htd, hpd, hsd] at HEc
    have hjD : j < (E.drop lo).length := by rw [List.length_drop]; omega
    obtain ⟨st1, -⟩ := ebl_step (l := E.drop lo) hjD
    have hDj : (E.drop lo)[j] = E[i] := by rw [List.getElem_drop]; congr 1; exact hij.symm
    rw [hDj] at st1
    obtain ⟨bk, hbk⟩ : ∃ bk, bk = lastk ByteArray.empty ((E.drop lo).take j) := ⟨_, rfl⟩
    rw [← hbk] at st1
    obtain ⟨s, hs⟩ : ∃ s, s = shr bk.data.toList E[i].k.data.toList := ⟨_, rfl⟩
    have hsk : s ≤ E[i].k.size := by
      have := (shr_le bk.data.toList E[i].k.data.toList).2
      rw [hs, ← bsz]
      exact this
    have hee : een bk E[i] = uvb s ++ ((uvb (E[i].k.size - s) ++ (sb E[i].k).drop s) ++ (uvb dd ++ (uvb td ++ (uvb pd ++ uvb sd)))) := by
      rw [een, ← hs, hdd, htd, hpd, hsd]
      rfl
    have hbl : (ebl ByteArray.empty ((E.drop lo).take j)).length ≤ 125 * 16 := by
      have h1 := ebl_le (F := (E.drop lo).take j) (b := ByteArray.empty) (fun e he => HG.out e (List.mem_of_mem_drop (List.mem_of_mem_take he)))
      rw [List.length_take] at h1
      omega
    have HNX : Hid (((((((ebl ByteArray.empty ((E.drop lo).take j) ++ uvb s) ++ uvb (E[i].k.size - s)) ++ (sb E[i].k).drop s) ++ uvb dd) ++ uvb td) ++ uvb pd) ++ uvb sd = ebl ByteArray.empty ((E.drop lo).take (j + 1))) := hideQ (by
      rw [st1, hee]
      simp only [List.append_assoc])
    have u1 := uvb_le10 s (by omega)
    have u2 := uvb_le10 (E[i].k.size - s) (by omega)
    have u3 := uvb_le10 dd (by omega)
    have u4 := uvb_le10 td (by omega)
    have u5 := uvb_le10 pd (by omega)
    have kl : ((sb E[i].k).drop s).length ≤ 65 := by rw [List.length_drop, sb_length]; omega
    obtain ⟨X0, hX0⟩ : ∃ X0, X0 = ebl ByteArray.empty ((E.drop lo).take j) := ⟨_, rfl⟩
    obtain ⟨XN, hXN⟩ : ∃ XN, XN = ebl ByteArray.empty ((E.drop lo).take (j + 1)) := ⟨_, rfl⟩
    rw [← hX0] at HB HNX hbl
    rw [← hXN] at HNX
    have HXN := hideQ hXN
    obtain ⟨ky, hky⟩ : ∃ ky, ky = E[i].k := ⟨_, rfl⟩
    rw [← hky] at HEc HNX hsk u2 kl g2 hs
    have hpre : i ≠ lo → ∃ i1 : Nat, i = i1 + 1 ∧ ∃ h1 : i1 < E.length, bk = (E[i1]'h1).k := fun hne => by
      obtain ⟨j1, rfl⟩ : ∃ j1, j = j1 + 1 := ⟨j - 1, by omega⟩
      refine ⟨lo + j1, by omega, by omega, ?_⟩
      rw [hbk, (ebl_step (l := E.drop lo) (j := j1) (by omega)).2, List.getElem_drop]
    have h0 : i = lo → s = 0 := fun e => by
      obtain rfl : j = 0 := by omega
      rw [hs, hbk, List.take_zero]
      exact shr_nil _
    have HSE : Hid (sb (ky.extract s ky.size) = (sb ky).drop s) := hideQ (sb_ext ky s)
    have HKz : Hid ((ky.extract s ky.size).size = ky.size - s) := hideQ (by rw [ByteArray.size_extract]; omega)
    clear hdd htd hpd hsd st1 hDj hee hX0 hXN hky hge
    have iv : (i : Int) < (hi : Int) := by omega
    obtain ⟨i0, hI0, hz0, hz1, hz2⟩ := info_parts Tryd.infoB
    have HIJ := hideQ hij
    have hE5 : i < n := by have := HN.out; omega
    have hli : lo ≤ i := by omega
    clear hij
    go_upto_if 18 with fail
    go_cut [9] (fun c9 wx => c9 = .int .i64 (s : Nat) ∧ Hid (Gb w wx u7 X0))
    case first =>
      by_cases hfst : i = lo
      · have hs0 := h0 hfst
        have iz : ¬ (lo : Int) < (i : Int) := by omega
        have HS0 : Hid ((s : Int) = 0) := hideQ (by omega)
        clear hpre h0 hs hbk hs0 hfst
        go_wp2
        go_meet
        case rel => exact ⟨by rw [HS0.out], HB⟩
      obtain ⟨i1, hi1e, hi1l, hbk1⟩ := hpre hfst
      have iz : (lo : Int) < (i : Int) := by omega
      have HEp : Hid (∀ V, Kept (fun _ => False) w V → V.cell? ⟨b, off + i1 * 5, none⟩ = some (.string bk)) := hideQ (fun V k => by rw [hbk1]; exact k.cell (hc i1 hi1l).1 (fun f => f))
      have i1e : (i : Int) - 1 = (i1 : Int) := by omega
      have i1w : IntKind.i64.wrap ((i : Int) - 1) = (i1 : Int) := by rw [IntKind.wrap_i64]; omega
      have i1v : IntKind.i64.wrap (i1 : Int) = (i1 : Int) := by rw [IntKind.wrap_i64]; omega
      have i1n : (i1 : Int) < (n : Int) := by omega
      have i2n : (i : Int) < (n : Int) := by omega
      have i1nn : i1 < n := by omega
      have hbks : bk.size ≤ 65 := by rw [hbk1]; exact (HG.out _ (List.getElem_mem hi1l)).k2
      have HDr : Kept (fun _ => False) w wr.drew := HB.out.kept.trans (Kept.drew wr) (fun _ f => f.elim)
      have HBd := hideQ (HB.out.later (Kept.drew wr))
      have CSh := hideQ (rshared_any bk ky wr.drew (by omega))
      rw [← hs] at CSh
      clear hpre h0 hs hbk HB hbk1 hc hi1e hfst
      go_wp2_with fail
      refine wp_region_held (S := fun V => Kept (fun _ => False) w V) (by kernel_rfl) ?_
      change wpAnyH _ _ _ _ _ _ _ _ (World.drew _)
      refine takeZ (i := 0) (d := 19) (v := .slice (some ⟨b, off, none⟩) n c) rfl rfl (by kernel_rfl) (by kernel_rfl) (by kernel_rfl) (fun _ _ _ h => h) (Or.inl ⟨by rfl, fun W hW => ?_⟩) HDr ?_
      · (go_simp)
      simp only [Act.put, List.setIfInBounds_toArray, List.set_cons_zero, List.set_cons_succ]
      refine takeZ (i := 1) (d := 20) (v := .int .i64 i) rfl rfl (by kernel_rfl) (by kernel_rfl) (by kernel_rfl) (fun _ _ _ h => h) (Or.inl ⟨by rfl, fun W hW => ?_⟩) HDr ?_
      · (go_simp)
      simp only [Act.put, List.setIfInBounds_toArray, List.set_cons_zero, List.set_cons_succ]
      refine takeZ (i := 6) (d := 25) (v := .slice (some ⟨b, off, none⟩) n c) rfl rfl (by kernel_rfl) (by kernel_rfl) (by kernel_rfl) (fun _ _ _ h => h) (Or.inl ⟨by rfl, fun W hW => ?_⟩) HDr ?_
      · (go_simp)
      simp only [Act.put, List.setIfInBounds_toArray, List.set_cons_zero, List.set_cons_succ]
      refine takeZ (i := 7) (d := 26) (v := .int .i64 i) rfl rfl (by kernel_rfl) (by kernel_rfl) (by kernel_rfl) (fun _ _ _ h => h) (Or.inl ⟨by rfl, fun W hW => ?_⟩) HDr ?_
      · (go_simp)
      simp only [Act.put, List.setIfInBounds_toArray, List.set_cons_zero, List.set_cons_succ]
      refine takeZ (i := 2) (d := 21) (v := .int .i64 i1) rfl rfl (by kernel_rfl) (by kernel_rfl) (by kernel_rfl) (fun _ _ _ h => h) (Or.inl ⟨by rfl, fun W hW => ?_⟩) HDr ?_
      · (go_simp)
      simp only [Act.put, List.setIfInBounds_toArray, List.set_cons_zero, List.set_cons_succ]
      refine takeZ (i := 3) (d := 22) (v := .pointer (some ⟨b, off + i1 * 5, none⟩)) rfl rfl (by kernel_rfl) (by kernel_rfl) (by kernel_rfl) (fun _ _ _ h => h) (Or.inl ⟨by rfl, fun W hW => ?_⟩) HDr ?_
      · (go_simp)
      simp only [Act.put, List.setIfInBounds_toArray, List.set_cons_zero, List.set_cons_succ]
      refine takeZ (i := 8) (d := 27) (v := .pointer (some ⟨b, off + i * 5, none⟩)) rfl rfl (by kernel_rfl) (by kernel_rfl) (by kernel_rfl) (fun _ _ _ h => h) (Or.inl ⟨by rfl, fun W hW => ?_⟩) HDr ?_
      · (go_simp)
      simp only [Act.put, List.setIfInBounds_toArray, List.set_cons_zero, List.set_cons_succ]
      refine takeZ (i := 4) (d := 23) (v := .pointer (some ⟨b, off + i1 * 5, none⟩)) rfl rfl (by kernel_rfl) (by kernel_rfl) (by kernel_rfl) (fun _ _ _ h => h) (Or.inl ⟨by rfl, fun W hW => ?_⟩) HDr ?_
      · (go_simp)
      simp only [Act.put, List.setIfInBounds_toArray, List.set_cons_zero, List.set_cons_succ]
      refine takeZ (i := 9) (d := 28) (v := .pointer (some ⟨b, off + i * 5, none⟩)) rfl rfl (by kernel_rfl) (by kernel_rfl) (by kernel_rfl) (fun _ _ _ h => h) (Or.inl ⟨by rfl, fun W hW => ?_⟩) HDr ?_
      · (go_simp)
      simp only [Act.put, List.setIfInBounds_toArray, List.set_cons_zero, List.set_cons_succ]
      refine takeZ (i := 5) (d := 24) (v := .string bk) rfl rfl (by kernel_rfl) (by kernel_rfl) (by kernel_rfl) (fun _ _ _ h => h) (Or.inl ⟨by rfl, fun W hW => ?_⟩) HDr ?_
      · (have q9 := HEp.out W hW; go_simp)
      simp only [Act.put, List.setIfInBounds_toArray, List.set_cons_zero, List.set_cons_succ]
      refine takeZ (i := 10) (d := 29) (v := .string ky) rfl rfl (by kernel_rfl) (by kernel_rfl) (by kernel_rfl) (fun _ _ _ h => h) (Or.inl ⟨by rfl, fun W hW => ?_⟩) HDr ?_
      · (obtain ⟨q9, -, -, -, -⟩ := HEc.out W hW; go_simp)
      simp only [Act.put, List.setIfInBounds_toArray, List.set_cons_zero, List.set_cons_succ]
      refine wpAnyH_all (rs := [11]) (by kernel_rfl) (by simp) ?_
      intro i' hi'
      obtain rfl : i' = 11 := by simpa using hi'
      unfold wpOp
      go_simp
      first | refine CSh.out.mono ?_ | refine Or.inl (CSh.out.mono ?_)
      clear CSh
      rintro e V1 ⟨rfl, q1, hq1⟩
      have HDv : Kept (fun _ => False) w V1 := by rw [hq1]; exact HDr.trans (Kept.drewN _ _) (fun _ f => f.elim)
      have HBw : Hid (Gb w V1 u7 X0) := hideQ (by rw [hq1]; exact HBd.out.later (Kept.drewN _ _))
      refine ⟨HDv, ?_⟩
      clear hq1 HBd
      refine takeZ (i := 12) (d := 9) (v := .int .i64 s) rfl rfl (by kernel_rfl) (by kernel_rfl) (by kernel_rfl) (fun _ _ _ h => h) (Or.inl ⟨by rfl, fun W hW => ?_⟩) HDv ?_
      · (go_simp)
      simp only [Act.put, List.setIfInBounds_toArray, List.set_cons_zero, List.set_cons_succ]
      refine wpAnyH_done (by kernel_rfl) ?_ _
      go_wp2
      go_meet
      case rel => exact ⟨rfl, HBw⟩
    case rest =>
    obtain ⟨rfl, HBw⟩ := hcut
    clear hpre h0 hs hbk HB hc
    have C1 := hideQ (gb_uv s HBw.out (by omega) (by omega))
    go_wp2_with (go_at_call 23; refine Stp.go ?_)
    refine ⟨?_⟩
    refine C1.out.mono ?_
    clear C1
    rintro e W1 ⟨v1, rfl, hb1⟩
    have HB1 := hideQ hb1
    obtain ⟨c0, -, -, -, -⟩ := HEc.out W1 hb1.kept
    have C2 := hideQ (gb_uv (ky.size - s) hb1 (by omega) (by simp only [List.length_append]; omega))
    clear hb1
    obtain ⟨ms, hms⟩ : ∃ ms, ms = ky.size - s := ⟨_, rfl⟩
    rw [← hms] at C2
    have HMS := hideQ hms
    have e1 : (ky.size : Int) - (s : Int) = (ms : Int) := by omega
    have e2 : IntKind.i64.wrap ((ky.size : Int) - (s : Int)) = (ms : Int) := by rw [IntKind.wrap_i64]; omega
    have e3 : IntKind.i64.wrap (ms : Int) = (ms : Int) := by rw [IntKind.wrap_i64]; omega
    clear hms
    go_wp2_with (go_at_call 23; refine Stp.go ?_)
    refine ⟨?_⟩
    refine C2.out.mono ?_
    clear C2
    rintro e W2 ⟨v2, rfl, hb2⟩
    rw [HMS.out] at hb2
    have HB2 := hideQ hb2
    obtain ⟨d0, -, -, -, -⟩ := HEc.out W2 hb2.kept
    have sl1 : (s : Int) ≤ (ky.size : Int) := by omega
    clear hb2 c0 e1 e2 e3 HMS HB1
    go_wp2_with (at_builtin; refine Stp.go ?_)
    refine ⟨?_⟩
    refine Lib.wpList_append_own_string _ rfl _ _ 25 9 rfl w.heap.size 5 i0 Tryd.underlying25 Tryd.underlying9 hI0 hz0 hz1 hz2 v2 _ _ rfl HB2.out.own (ky.extract s ky.size) rfl (by rw [HKz.out]; simp only [List.length_append]; unfold maxLen; omega) (by rw [HKz.out]; simp only [List.length_append]; omega) HB2.out.kept.size ?_
    intro v3 W3 ho3 hg3 _
    have hb3 : Gb w W3 v3 (((X0 ++ uvb s) ++ uvb (ky.size - s)) ++ (sb ky).drop s) := ⟨by
      rw [List.length_append, bs_append]
      have h := ho3
      rw [strCells_bs, HSE.out, HKz.out] at h
      have hkl : ((sb ky).drop s).length = ky.size - s := by rw [List.length_drop, sb_length]
      rw [hkl]
      exact h, HB2.out.kept.trans (Kept.grown hg3) (fun k hk => .inr (HB2.out.own.lt k hk).1)⟩
    have HB3 := hideQ hb3
    obtain ⟨-, d1, -, -, -⟩ := HEc.out W3 hb3.kept
    have C3 := hideQ (gb_uv dd hb3 (by omega) (by simp only [List.length_append]; omega))
    clear hb3 ho3 hg3 d0 HB2
    go_wp2_with (go_at_call 23; refine Stp.go ?_)
    refine ⟨?_⟩
    refine C3.out.mono ?_
    clear C3
    rintro e W4 ⟨v4, rfl, hb4⟩
    obtain ⟨-, -, d2, -, -⟩ := HEc.out W4 hb4.kept
    have C4 := hideQ (gb_uv td hb4 (by omega) (by simp only [List.length_append]; omega))
    clear hb4 d1 HB3
    go_wp2_with (go_at_call 23; refine Stp.go ?_)
    refine ⟨?_⟩
    refine C4.out.mono ?_
    clear C4
    rintro e W5 ⟨v5, rfl, hb5⟩
    obtain ⟨-, -, -, d3, -⟩ := HEc.out W5 hb5.kept
    have C5 := hideQ (gb_uv pd hb5 (by omega) (by simp only [List.length_append]; omega))
    clear hb5 d2
    go_wp2_with (go_at_call 23; refine Stp.go ?_)
    refine ⟨?_⟩
    refine C5.out.mono ?_
    clear C5
    rintro e W6 ⟨v6, rfl, hb6⟩
    obtain ⟨-, -, -, -, d4⟩ := HEc.out W6 hb6.kept
    have C6 := hideQ (gb_uv sd hb6 (by omega) (by simp only [List.length_append]; omega))
    clear hb6 d3
    go_wp2_with (go_at_call 23; refine Stp.go ?_)
    refine ⟨?_⟩
    refine C6.out.mono ?_
    clear C6
    rintro e W7 ⟨v7, rfl, hb7⟩
    rw [HNX.out] at hb7
    have HB7 := hideQ hb7
    clear hb7 d4
    go_wp2
    go_roundw
    case rel => exact ⟨i + 1, j + 1, v7, rfl, by go_num, by omega, by have := HIJ.out; omega, by rw [← HXN.out]; exact HB7⟩
    case measure => simp [intOf]; omega
  obtain rfl : i = hi := by omega
  have hjj : j = i - lo := by omega
  rw [hjj] at HB
  have iz : ¬ (i : Int) < (i : Int) := by omega
  clear hij hjj hlt hi1
  go_wp2
  go_ret
  exact ⟨_, rfl, HB.out⟩
end Go.Proofs.YtcanbhbhdgogoaaDoor
namespace Go.Proofs.YtcanbhbhdgogoaaDoor
open Go.ChangeShapes Go.WideShapes Go.ChangeAt Go.RowKit

theorem gb_at {w W : World} {v : Value} {xs : List Int} (h : Gb w W v xs) : ∃ a c, v = .slice a xs.length c ∧ BytesAt W a xs ∧ (a = none → c = 0) ∧ xs.length ≤ c := by
  rcases h.own.2 with ⟨e1, e2⟩ | ⟨g, cap, cur, e1, hg, hh, hnc, _⟩
  · refine ⟨none, 0, by rw [e1, e2], fun hne => absurd (List.eq_nil_of_length_eq_zero e2) hne, fun _ => rfl, by omega⟩
  · refine ⟨some ⟨g, 0, none⟩, cap, e1, fun _ => ⟨g, 0, rfl, fun k hk => ?_⟩, fun e => (by cases e), hnc⟩
    have ho := h.own
    rw [e1] at ho
    have q0 := ho.cells (g := g) rfl k (.int .u8 (xs[k]?.getD 0)) (by unfold bs; rw [List.getElem?_map, List.getElem?_eq_getElem hk]; simp)
    rw [Go.WideShapes.add_plain] at q0
    exact q0
/-- 'append(s, x...)' of bytes that lie anywhere. -/
theorem gb_cat {w W : World} {ops : Array Oper} {rest : List Oper} {o : Oper} {act : Act} {Q : Exit → Act → World → Prop} (hgd : o.guard = none) (s x : Operand)
    (ho : o.op = .call { callee := .builtin .append, args := #[s, x], argTypes := #[25, 25] }) (v : Value) (xs ys : List Int) (hs : act.eval s = v) (hG : Hid (Gb w W v xs)) (a : Option Addr) (m c : Nat) (hx : act.eval x = .slice a m c) (hm : Hid (m = ys.length)) (hB : Hid (BytesAt W a ys)) (h0 : Hid (a = none → c = 0)) (hb : xs.length + m ≤ 70368744177664)
    (h : ∀ v' W', Hid (Gb w W' v' (xs ++ ys)) → Hid (RStep W W' v v') → wpList Tryd.prog ops Q rest (act.put o.dst v') W') : wpList Tryd.prog ops Q (o :: rest) act W := by
  obtain ⟨i0, hi0, hz0, hz1, hz2⟩ := info_parts Tryd.infoB
  have hm' := hm.out
  cases a with
  | none =>
    obtain rfl : ys = [] := by
      cases ys with
      | nil => rfl
      | cons y r => obtain ⟨b, off, e, _⟩ := hB.out (by simp); cases e
    obtain rfl := h0.out rfl
    obtain rfl : m = 0 := by simpa using hm'
    refine wpList_append_own_none hgd s x 25 ho w.heap.size 5 i0 1 Tryd.underlying25 hi0 v xs.length (bs xs) hs hG.out.own hx ?_
    have := h v W (hideQ (by rw [List.append_nil]; exact hG.out)) (hideQ (RStep.refl _ _))
    exact this
  | some p =>
    have hcl : ∀ j u, (bs ys)[j]? = some u → W.cell? (p.add j) = some u := by
      by_cases hl : ys = []
      · subst hl; intro j u hu; simp [bs] at hu
      · obtain ⟨b, off, e, hcc⟩ := hB.out hl
        cases e
        exact BytesAt.cells hcc
    refine wpList_append_own_at W hgd s x 25 ho w.heap.size 5 i0 (.int .u8 0) 1 1 Tryd.underlying25 hi0 hz0 hz1 hz2 rfl (by decide) v xs.length (bs xs) hs hG.out.own p m c (bs ys) hx (by rw [bs_length]; omega) hcl (bs_one ys) (by unfold maxLen; omega) (by omega) hG.out.kept.size ?_
    intro v' W' ho1 hg1 _ hat
    have sR : RStep W W' v v' := ⟨Kept.grown hg1, fun k hk => by
      rcases hat with q | q
      · exact .inl (by rw [← q]; exact hk)
      · rw [q] at hk
        exact .inr (by simp only [Option.some.injEq] at hk; omega)⟩
    refine h v' W' (hideQ (hG.out.step ?_ sR)) (hideQ sR)
    rw [List.length_append, bs_append, ← hm']
    exact ho1
theorem gb_uv2 {w W : World} {v : Value} {xs : List Int} (n : Nat) (h : Gb w W v xs) (hn : n ≤ 4611686018427387904) (hx : xs.length ≤ 70368744177664) :
    Calls Tryd.prog 23 #[v, .int .i64 n] W fun e w' => ∃ v', e = .returned v' ∧ Gb w w' v' (xs ++ uvb n) ∧ RStep W w' v v' := by
  refine (ruvD_any w.heap.size v xs n W h.own h.kept.size hn hx).mono ?_
  rintro e w' ⟨v', rfl, ho, s⟩
  exact ⟨v', rfl, h.step ho s, s⟩
/-- A list of bytes stays where another one grows. -/
theorem Gb.other {w W W' : World} {u v v' : Value} {xs ys : List Int} (h : Gb w W u ys) (g : Gb w W v xs) (s : RStep W W' v v') (ap : ∀ k, v.ownBlock = some k → u.ownBlock ≠ some k) : Gb w W' u ys ∧ ∀ k, v'.ownBlock = some k → u.ownBlock ≠ some k :=
  ⟨⟨s.kept.row h.own (fun j hj f => ap j f hj), h.kept.trans s.kept (fun i hi => .inr (g.own.lt i hi).1)⟩, fun k hk hu => (s.new k hk).elim (fun q => ap k q hu) (fun q => by have := (h.own.lt k hu).2; omega)⟩
/-- What the document's Build leaves. -/
def bdPost (E : List En) (w : World) (e : Ending) (w' : World) : Prop :=
  (Good E ∧ ∃ v, e = .returned (.tuple #[v, .int .i64 0]) ∧ Gb w w' v (img E)) ∨ (¬ Good E ∧ ∃ k : Int, k ≠ 0 ∧ e = .returned (.tuple #[.slice none 0 0, .int .i64 k]) ∧ Kept (fun _ => False) w w')
theorem hb_le {E : List En} (hg : ∀ e ∈ E, Gen e) : ∀ k, (hdL (chs k E)).length ≤ 10 * k ∧ (bdL (chs k E)).length ≤ 2000 * k
  | 0 => ⟨Nat.le_refl _, Nat.le_refl _⟩
  | k + 1 => by
    obtain ⟨h1, h2⟩ := hb_le hg k
    have h3 := ebl_le (F := (E.drop (16 * k)).take 16) (b := ByteArray.empty) (fun e he => hg e (List.mem_of_mem_drop (List.mem_of_mem_take he)))
    have h4 : ((E.drop (16 * k)).take 16).length ≤ 16 := by rw [List.length_take]; omega
    have h5 := uvb_le10 (ebl ByteArray.empty ((E.drop (16 * k)).take 16)).length (by omega)
    rw [chs_snoc, hdL_snoc, bdL_snoc, List.length_append, List.length_append]
    omega
set_option maxRecDepth 20000 in
set_option maxHeartbeats 8000000 in
/-- The document's Build. -/
theorem rbuild_any (E : List En) (a : Option Addr) (n c : Nat) (w : World) (hn : n = E.length) (hE : EsAt w a E) (hl : n ≤ 1073741824) :
    Calls Tryd.prog 7 #[.slice a n c] w (bdPost E w) := by
  have CC : Hid (Calls Tryd.prog 22 #[.slice a n c] w fun e w' => ckPost E e ∧ Kept (fun _ => False) w w') := hideQ (by rw [hn]; exact rcheck_any E a c w hE (by omega))
  have HE := hideQ hE
  have HN := hideQ hn
  clear hE hn
  unfold bdPost
  go_enter Tryd.func7, Tryd.ntmps7
  go_wp2_with (go_at_call 22; refine Stp.go ?_)
  refine ⟨?_⟩
  refine CC.out.mono ?_
  clear CC
  rintro e W1 ⟨hck, k1⟩
  have HK1 := hideQ k1
  clear k1
  rcases hck with ⟨h1, rfl⟩ | ⟨h1, h2, rfl⟩ | ⟨h1, h2, rfl⟩
  · have HNG : Hid (¬ Good E) := hideQ (fun g => by
      have := all_gen.2 g.gen
      rw [h1] at this
      cases this)
    clear h1
    go_wp2
    go_ret2
    exact .inr ⟨HNG.out, 3, by decide, rfl, HK1.out⟩
  · have HNG : Hid (¬ Good E) := hideQ (fun g => h2 (chn_rises E _ g.chn))
    clear h1 h2
    go_wp2
    go_ret2
    exact .inr ⟨HNG.out, 4, by decide, rfl, HK1.out⟩
  · have hge := all_gen.1 h1
    have HGG := hideQ (good_of hge h2)
    have HG := hideQ hge
    have HL := hideQ (hb_le hge)
    have HG0 : Hid (Gb w W1 (.slice none 0 0) []) := hideQ ⟨⟨rfl, .inl ⟨rfl, rfl⟩⟩, HK1.out⟩
    have CU := hideQ (gb_uv n HG0.out (by omega) (by simp))
    have hu10 := uvb_le10 n (by omega)
    clear h1 h2 hge
    go_wp2_with (go_at_call 23; refine Stp.go ?_)
    refine ⟨?_⟩
    refine CU.out.mono ?_
    clear CU
    rintro e W2 ⟨vh, rfl, hh⟩
    rw [List.nil_append] at hh
    have HH : Hid (Gb w W2 vh (uvb n ++ hdL (chs 0 E))) := hideQ (by
      have e : hdL (chs 0 E) = [] := rfl
      rw [e, List.append_nil]
      exact hh)
    have HD : Hid (Gb w W2 (.slice none 0 0) (bdL (chs 0 E))) := hideQ ⟨⟨rfl, .inl ⟨rfl, rfl⟩⟩, hh.kept⟩
    clear hh HG0
    go_wp2
    go_loopw [5, 6, 7] (fun s5 s6 s7 wr => ∃ (k q : Nat) (vh vb : Value), s5 = vh ∧ s6 = vb ∧ s7 = .int .i64 q ∧ k ≤ nbk n ∧ Hid (q = 16 * k) ∧ Hid (Gb w wr vh (uvb n ++ hdL (chs k E))) ∧ Hid (Gb w wr vb (bdL (chs k E))) ∧ Hid (∀ j, vh.ownBlock = some j → vb.ownBlock ≠ some j)) (fun _ _ s7 _ => n + 16 - (intOf s7).toNat)
    case atStart => exact ⟨0, 0, vh, _, rfl, rfl, rfl, Nat.zero_le _, hideQ rfl, HH, HD, hideQ (fun j hj e => by simp [Value.ownBlock] at e)⟩
    case round =>
    obtain ⟨k, q, vh', vb, h5, h6, rfl, hk, HQ, HHk, HDk, HA⟩ := hrel
    subst h5 h6
    clear HH HD
    have hqk := HQ.out
    have hkb : k ≤ 67108865 := by unfold nbk at hk; omega
    obtain ⟨l1, l2⟩ := HL.out k
    by_cases hlt : q < n
    · have hk1 : k + 1 ≤ nbk n := by unfold nbk; omega
      obtain ⟨hi, hhi⟩ : ∃ hi, hi = min (q + 16) n := ⟨_, rfl⟩
      obtain ⟨F, hF⟩ : ∃ F, F = (E.drop (16 * k)).take 16 := ⟨_, rfl⟩
      have hFe : (E.drop q).take (hi - q) = F := by
        rw [hF, hqk, hhi]
        by_cases e : q + 16 ≤ n
        · rw [Nat.min_eq_left e, ← hqk]
          congr 1
          omega
        · rw [Nat.min_eq_right (by omega)]
          rw [List.take_of_length_le (by rw [List.length_drop]; have := HN.out; omega), List.take_of_length_le (by rw [List.length_drop]; have := HN.out; omega)]
      have hFl : (ebl ByteArray.empty F).length ≤ 2000 := by
        have h3 := ebl_le (F := F) (b := ByteArray.empty) (fun e he => HG.out e (by rw [hF] at he; exact List.mem_of_mem_drop (List.mem_of_mem_take he)))
        have h4 : F.length ≤ 16 := by rw [hF, List.length_take]; omega
        omega
      have CB := hideQ (rblock_any E a n c q hi wr HN.out (HE.out.kept HHk.out.kept) HG.out (by omega) (by omega) (by omega) (by omega))
      rw [hFe] at CB
      obtain ⟨Z, hZ⟩ : ∃ Z, Z = ebl ByteArray.empty F := ⟨_, rfl⟩
      rw [← hZ] at CB hFl
      have HS1 : Hid (hdL (chs (k + 1) E) = hdL (chs k E) ++ uvb Z.length) := hideQ (by rw [chs_snoc, hdL_snoc, ← hF, ← hZ])
      have HS2 : Hid (bdL (chs (k + 1) E) = bdL (chs k E) ++ Z) := hideQ (by rw [chs_snoc, bdL_snoc, ← hF, ← hZ])
      have HHi : Hid ((q + 16 ≤ n → hi = q + 16) ∧ (n < q + 16 → hi = n)) := hideQ ⟨fun _ => by omega, fun _ => by omega⟩
      have HQ2 : Hid (q + 16 = 16 * (k + 1)) := hideQ (by omega)
      have i1 : (q : Int) < (n : Int) := by omega
      clear hF hFe hZ hhi hqk
      by_cases h16 : q + 16 ≤ n
      · have e16 := HHi.out.1 h16
        have i2 : ¬ (n : Int) < (q : Int) + 16 := by omega
        rw [e16, Int.natCast_add] at CB
        have hc16 : ((16 : Nat) : Int) = 16 := rfl
        rw [hc16] at CB
        clear e16 HHi hc16
        go_wp2_with (go_at_call 24; refine Stp.go ?_)
        refine ⟨?_⟩
        refine CB.out.mono ?_
        clear CB
        rintro e W3 ⟨v3, rfl, hb3⟩
        obtain ⟨za, zc, hv3, hzB, hz0, -⟩ := gb_at hb3
        subst hv3
        have HNew : Hid (∀ b off, za = some ⟨b, off, none⟩ → wr.heap.size ≤ b) := hideQ (fun b off e => (hb3.own.lt b (by rw [e]; rfl)).1)
        have HH3 := hideQ (HHk.out.later hb3.kept)
        have HD3 := hideQ (HDk.out.later hb3.kept)
        have HVH : Hid (∀ j, u5.ownBlock = some j → j < wr.heap.size) := hideQ (fun j hj => (HHk.out.own.lt j hj).2)
        have HZB := hideQ hzB
        have HZ0 := hideQ hz0
        obtain ⟨zn, hzn⟩ : ∃ zn, zn = Z.length := ⟨_, rfl⟩
        rw [← hzn] at hFl HS1 ⊢
        have HZN := hideQ hzn
        have CU := hideQ (gb_uv2 zn HH3.out (by omega) (by rw [List.length_append]; omega))
        clear hb3 hzB hz0 hzn HHk HDk
        go_wp2_with (go_at_call 23; refine Stp.go ?_)
        refine ⟨?_⟩
        refine CU.out.mono ?_
        clear CU
        rintro e W4 ⟨v4, rfl, hb4, s4⟩
        obtain ⟨hd4, ap4⟩ := HD3.out.other HH3.out s4 HA.out
        have HZB4 : Hid (BytesAt W4 za Z) := hideQ (fun hne => by
          obtain ⟨b, off, e, hc⟩ := HZB.out hne
          exact ⟨b, off, e, fun j hj => s4.kept.cell (hc j hj) (fun f => by
            have h1 := HNew.out b off e
            have h2 := HVH.out b f
            omega)⟩)
        have HH4 := hideQ hb4
        have HD4 := hideQ hd4
        have HA4 := hideQ ap4
        clear hb4 s4 hd4 ap4 HH3 HD3 HZB HNew HVH
        go_wp2_with (at_builtin; refine Stp.go ?_)
        refine ⟨?_⟩
        refine gb_cat rfl _ _ rfl u6 (bdL (chs k E)) Z rfl HD4 za zn zc rfl HZN HZB4 HZ0 (by omega) ?_
        intro v5 W5 HD5 s5
        obtain ⟨hh5, ap5⟩ := HH4.out.other HD4.out s5.out (fun j hj e => HA4.out j e hj)
        have HH5 : Hid (Gb w W5 v4 (uvb n ++ hdL (chs (k + 1) E))) := hideQ (by rw [HS1.out, ← List.append_assoc]; exact hh5)
        have HD6 : Hid (Gb w W5 v5 (bdL (chs (k + 1) E))) := hideQ (by rw [HS2.out]; exact HD5.out)
        have HA5 : Hid (∀ j, v4.ownBlock = some j → v5.ownBlock ≠ some j) := hideQ (fun j hj e => ap5 j e hj)
        clear hh5 ap5 s5 HD5 HH4 HD4 HA4 HZB4
        go_wp2
        go_roundw
        case rel => exact ⟨k + 1, q + 16, v4, v5, rfl, rfl, by go_num, hk1, HQ2, HH5, HD6, HA5⟩
        case measure => simp [intOf]; omega
      · have e16 := HHi.out.2 (by omega)
        have i2 : (n : Int) < (q : Int) + 16 := by omega
        rw [e16] at CB
        clear e16 HHi
        go_wp2_with (go_at_call 24; refine Stp.go ?_)
        refine ⟨?_⟩
        refine CB.out.mono ?_
        clear CB
        rintro e W3 ⟨v3, rfl, hb3⟩
        obtain ⟨za, zc, hv3, hzB, hz0, -⟩ := gb_at hb3
        subst hv3
        have HNew : Hid (∀ b off, za = some ⟨b, off, none⟩ → wr.heap.size ≤ b) := hideQ (fun b off e => (hb3.own.lt b (by rw [e]; rfl)).1)
        have HH3 := hideQ (HHk.out.later hb3.kept)
        have HD3 := hideQ (HDk.out.later hb3.kept)
        have HVH : Hid (∀ j, u5.ownBlock = some j → j < wr.heap.size) := hideQ (fun j hj => (HHk.out.own.lt j hj).2)
        have HZB := hideQ hzB
        have HZ0 := hideQ hz0
        obtain ⟨zn, hzn⟩ : ∃ zn, zn = Z.length := ⟨_, rfl⟩
        rw [← hzn] at hFl HS1 ⊢
        have HZN := hideQ hzn
        have CU := hideQ (gb_uv2 zn HH3.out (by omega) (by rw [List.length_append]; omega))
        clear hb3 hzB hz0 hzn HHk HDk
        go_wp2_with (go_at_call 23; refine Stp.go ?_)
        refine ⟨?_⟩
        refine CU.out.mono ?_
        clear CU
        rintro e W4 ⟨v4, rfl, hb4, s4⟩
        obtain ⟨hd4, ap4⟩ := HD3.out.other HH3.out s4 HA.out
        have HZB4 : Hid (BytesAt W4 za Z) := hideQ (fun hne => by
          obtain ⟨b, off, e, hc⟩ := HZB.out hne
          exact ⟨b, off, e, fun j hj => s4.kept.cell (hc j hj) (fun f => by
            have h1 := HNew.out b off e
            have h2 := HVH.out b f
            omega)⟩)
        have HH4 := hideQ hb4
        have HD4 := hideQ hd4
        have HA4 := hideQ ap4
        clear hb4 s4 hd4 ap4 HH3 HD3 HZB HNew HVH
        go_wp2_with (at_builtin; refine Stp.go ?_)
        refine ⟨?_⟩
        refine gb_cat rfl _ _ rfl u6 (bdL (chs k E)) Z rfl HD4 za zn zc rfl HZN HZB4 HZ0 (by omega) ?_
        intro v5 W5 HD5 s5
        obtain ⟨hh5, ap5⟩ := HH4.out.other HD4.out s5.out (fun j hj e => HA4.out j e hj)
        have HH5 : Hid (Gb w W5 v4 (uvb n ++ hdL (chs (k + 1) E))) := hideQ (by rw [HS1.out, ← List.append_assoc]; exact hh5)
        have HD6 : Hid (Gb w W5 v5 (bdL (chs (k + 1) E))) := hideQ (by rw [HS2.out]; exact HD5.out)
        have HA5 : Hid (∀ j, v4.ownBlock = some j → v5.ownBlock ≠ some j) := hideQ (fun j hj e => ap5 j e hj)
        clear hh5 ap5 s5 HD5 HH4 HD4 HA4 HZB4
        go_wp2
        go_roundw
        case rel => exact ⟨k + 1, q + 16, v4, v5, rfl, rfl, by go_num, hk1, HQ2, HH5, HD6, HA5⟩
        case measure => simp [intOf]; omega
    · have hkn : k = nbk n := by unfold nbk at hk ⊢; omega
      obtain ⟨ba, bc, hvb, hbB, hb0, -⟩ := gb_at HDk.out
      subst hvb
      have HBB := hideQ hbB
      have HB0 := hideQ hb0
      obtain ⟨bn, hbn⟩ : ∃ bn, bn = (bdL (chs k E)).length := ⟨_, rfl⟩
      rw [← hbn] at l2 ⊢
      have HBN := hideQ hbn
      have HIM : Hid ((uvb n ++ hdL (chs k E)) ++ bdL (chs k E) = img E) := hideQ (by rw [img, ← HN.out, hkn])
      have i1 : ¬ (q : Int) < (n : Int) := by omega
      clear hbB hb0 hbn hqk hkn
      go_wp2_with (at_builtin; refine Stp.go ?_)
      refine ⟨?_⟩
      refine gb_cat rfl _ _ rfl u5 (uvb n ++ hdL (chs k E)) (bdL (chs k E)) rfl HHk ba bn bc rfl HBN HBB HB0 (by rw [List.length_append]; omega) ?_
      intro v5 W5 HD5 _
      rw [HIM.out] at HD5
      go_wp2
      go_ret2
      exact .inl ⟨HGG.out, v5, rfl, HD5.out⟩
end Go.Proofs.YtcanbhbhdgogoaaDoor
namespace Go.Proofs.YtcanbhbhdgogoaaDoor
open Go.ChangeShapes Go.WideShapes Go.ChangeAt Go.RowKit

def tkv (l : List Int) (p : Int) : Nat := if p < 0 then 0 else match tkr 5 (l.drop p.toNat) with
  | none => 0
  | some y => y.1
def tkp (l : List Int) (p : Int) : Int := if p < 0 then -1 else match tkr 5 (l.drop p.toNat) with
  | none => -1
  | some y => p + y.2
theorem tkp_bnd (l : List Int) (p : Int) (_h : p ≤ l.length) : -1 ≤ tkp l p ∧ tkp l p ≤ l.length := by
  unfold tkp
  split
  · omega
  · cases hr : tkr 5 (l.drop p.toNat) with
    | none => simp only; omega
    | some y =>
      obtain ⟨v, c⟩ := y
      have := tkr_len hr
      rw [List.length_drop] at this
      simp only
      omega
theorem tkv_bnd (l : List Int) (p : Int) (hI : IsBytes l) : tkv l p < 34359738368 := by
  unfold tkv
  split
  · omega
  · cases hr : tkr 5 (l.drop p.toNat) with
    | none => simp only; omega
    | some y =>
      obtain ⟨v, c⟩ := y
      have := tkr_small (isb_drop hI _) hr
      simpa using this
theorem tk_uvb {l R : List Int} {P x : Nat} (h : l.drop P = uvb x ++ R) (hx : x < 34359738368) : tkv l (P : Int) = x ∧ tkp l (P : Int) = ((P + (uvb x).length : Nat) : Int) := by
  unfold tkv tkp
  rw [if_neg (by omega), if_neg (by omega), Int.toNat_natCast, h, tkr_uvb 4 x R (by simpa using hx)]
  simp only
  refine ⟨by first | rfl | trivial, ?_⟩
  omega
/-- The number so far, and what is still to be read. -/
def tkc (l : List Int) (P j n f : Nat) : Option (Nat × Nat) := match tkr (5 - j) (l.drop (P + j)) with
  | none => none
  | some y => some (n + f * y.1, j + y.2)
theorem tkc_zero (l : List Int) (P : Nat) : tkc l P 0 0 1 = tkr 5 (l.drop P) := by
  show (match tkr 5 (l.drop P) with | none => none | some y => some (0 + 1 * y.1, 0 + y.2)) = tkr 5 (l.drop P)
  cases tkr 5 (l.drop P) with
  | none => rfl
  | some y => simp
theorem tkc_end (l : List Int) (P j n f : Nat) (h : 5 ≤ j ∨ l.length ≤ P + j) : tkc l P j n f = none := by
  unfold tkc
  rcases h with h | h
  · rw [show 5 - j = 0 by omega]; rfl
  · rw [List.drop_eq_nil_of_le h]
    cases 5 - j <;> rfl
theorem tkc_last {l : List Int} {P j n f : Nat} (hj : j < 5) (hp : P + j < l.length) (hx : l[P + j] < 128) : tkc l P j n f = some (n + f * (l[P + j]).toNat, j + 1) := by
  unfold tkc
  rw [List.drop_eq_getElem_cons hp, show 5 - j = (4 - j) + 1 by omega, tkr, if_pos hx]
theorem tkc_more {l : List Int} {P j n f : Nat} (hj : j < 5) (hp : P + j < l.length) (hx : ¬ l[P + j] < 128) : tkc l P j n f = tkc l P (j + 1) (n + f * (l[P + j] % 128).toNat) (f * 128) := by
  unfold tkc
  rw [List.drop_eq_getElem_cons hp, show 5 - j = (4 - j) + 1 by omega, tkr, if_neg hx, show 5 - (j + 1) = 4 - j by omega, show P + (j + 1) = P + j + 1 by omega]
  cases tkr (4 - j) (l.drop (P + j + 1)) with
  | none => rfl
  | some y =>
    simp only [Option.some.injEq, Prod.mk.injEq]
    constructor
    · rw [Nat.mul_add, Nat.mul_assoc, Nat.add_assoc]
    · omega
end Go.Proofs.YtcanbhbhdgogoaaDoor
namespace Go.Proofs.YtcanbhbhdgogoaaDoor
open Go.ChangeShapes Go.WideShapes Go.ChangeAt Go.RowKit

theorem wrap64_ok {n : Int} (h0 : 0 ≤ n) (h1 : n ≤ 9223372036854775807) : wrap64 n = n := by unfold wrap64; omega
theorem tk_facts {x : Int} {ff nn : Nat} (hx : 0 ≤ x ∧ x ≤ 255) (hfb : ff ≤ 268435456) (hnb : nn < 268435456) : ∃ r m n2 f2 : Nat, r < 128 ∧ r = (x % 128).toNat ∧ m = ff * r ∧ n2 = nn + m ∧ f2 = ff * 128 ∧ x.tmod 128 = (r : Int) ∧ x % 128 = (r : Int) ∧ wrap64 ((r : Int) * (ff : Int)) = (m : Int) ∧ wrap64 ((nn : Int) + (m : Int)) = (n2 : Int) ∧ wrap64 ((ff : Int) * 128) = (f2 : Int) := by
  obtain ⟨r, hr⟩ : ∃ r, r = (x % 128).toNat := ⟨_, rfl⟩
  have hr2 : r < 128 := by omega
  have hm : ff * r ≤ 268435456 * 127 := Nat.mul_le_mul hfb (by omega)
  have t1 : x % 128 = (r : Int) := by omega
  refine ⟨r, ff * r, nn + ff * r, ff * 128, hr2, hr, rfl, rfl, rfl, ?_, t1, ?_, ?_, ?_⟩
  · rw [Int.tmod_eq_emod_of_nonneg hx.1]
    exact t1
  · rw [Int.mul_comm, ← Int.natCast_mul]
    generalize ff * r = m at *
    exact wrap64_ok (by omega) (by omega)
  · generalize ff * r = m at *
    rw [← Int.natCast_add]
    exact wrap64_ok (by omega) (by omega)
  · rw [show (ff : Int) * 128 = ((ff * 128 : Nat) : Int) by omega]
    exact wrap64_ok (by omega) (by omega)
theorem tk_pow {j ff nn : Nat} (h : ff = 128 ^ j ∧ nn < 128 ^ j) (hj : j < 5) : ff ≤ 268435456 ∧ nn < 268435456 := by
  have h4 : 128 ^ j ≤ 268435456 := by
    have : j = 0 ∨ j = 1 ∨ j = 2 ∨ j = 3 ∨ j = 4 := by omega
    rcases this with rfl | rfl | rfl | rfl | rfl <;> decide
  exact ⟨by rw [h.1]; exact h4, Nat.lt_of_lt_of_le h.2 h4⟩
theorem tk_pow2 {j ff nn r : Nat} (h : ff = 128 ^ j ∧ nn < 128 ^ j) (hr : r < 128) : ff * 128 = 128 ^ (j + 1) ∧ nn + ff * r < 128 ^ (j + 1) := by
  obtain ⟨h1, h2⟩ := h
  rw [Nat.pow_succ, ← h1]
  rw [← h1] at h2
  refine ⟨rfl, ?_⟩
  have h3 : ff * r ≤ ff * 127 := Nat.mul_le_mul_left _ (by omega)
  omega
set_option maxRecDepth 20000 in
set_option maxHeartbeats 4000000 in
/-- The document's take. -/
theorem take_any (l : List Int) (a : Option Addr) (n c : Nat) (p : Int) (w : World) (hn : n = l.length) (hB : BytesAt w a l) (hI : IsBytes l) (hl : n ≤ 1099511627776) (hp : -1 ≤ p ∧ p ≤ n) :
    Calls Tryd.prog 32 #[.slice a n c, .int .i64 p] w fun e w' => e = .returned (.tuple #[.int .i64 (tkv l p : Nat), .int .i64 (tkp l p)]) ∧ w' = w := by
  by_cases hp0 : p < 0
  · have e1 : tkv l p = 0 := by unfold tkv; rw [if_pos hp0]
    have e2 : tkp l p = -1 := by unfold tkp; rw [if_pos hp0]
    rw [e1, e2]
    have d1 : decide ((0 : Int) ≤ p) = false := decide_eq_false (by omega)
    have d2 : ¬ (0 : Int) ≤ p := by omega
    clear e1 e2 hn hB hI
    go_enter Tryd.func32, Tryd.ntmps32
    go_wp2
    go_loopw [8] (fun s8 wr => s8 = .int .i64 p ∧ wr = w) (fun _ _ => 0)
    case atStart => exact ⟨rfl, rfl⟩
    case round =>
    obtain ⟨rfl, rfl⟩ := hrel
    go_wp2
    go_ret2
    exact ⟨rfl, rfl⟩
  · obtain ⟨P, rfl⟩ : ∃ P : Nat, p = (P : Int) := ⟨p.toNat, by omega⟩
    have e1 : tkv l (P : Int) = (match tkr 5 (l.drop P) with | none => 0 | some y => y.1) := by unfold tkv; rw [if_neg hp0, Int.toNat_natCast] <;> rfl
    have e2 : tkp l (P : Int) = (match tkr 5 (l.drop P) with | none => -1 | some y => (P : Int) + y.2) := by unfold tkp; rw [if_neg hp0, Int.toNat_natCast] <;> rfl
    have HT := hideQ (tkc_zero l P).symm
    obtain ⟨T, hT⟩ : ∃ T, T = tkr 5 (l.drop P) := ⟨_, rfl⟩
    rw [← hT] at HT e1 e2
    obtain ⟨rv, hrv⟩ : ∃ rv, rv = tkv l (P : Int) := ⟨_, rfl⟩
    obtain ⟨rp, hrp⟩ : ∃ rp, rp = tkp l (P : Int) := ⟨_, rfl⟩
    rw [← hrv] at e1 ⊢
    rw [← hrp] at e2 ⊢
    have HRN : Hid (T = none → rv = 0 ∧ rp = -1) := hideQ (fun e => by rw [e] at e1 e2; exact ⟨e1, e2⟩)
    have HRS : Hid (∀ v c, T = some (v, c) → rv = v ∧ rp = (P : Int) + c) := hideQ (fun v c e => by rw [e] at e1 e2; exact ⟨e1, e2⟩)
    clear hrv hrp
    have HN := hideQ hn
    have HB := hideQ hB
    have HI := hideQ hI
    have hPn : P ≤ n := by omega
    have w5 : IntKind.i64.wrap ((P : Int) + 5) = (P : Int) + 5 := by rw [IntKind.wrap_i64]; omega
    clear e1 e2 hT hn hB hI hp0 hp
    go_enter Tryd.func32, Tryd.ntmps32
    go_wp2
    go_loopw [6, 7, 8] (fun s6 s7 s8 wr => ∃ (j q nn ff : Nat), j ≤ 5 ∧ s6 = .int .i64 nn ∧ s7 = .int .i64 ff ∧ s8 = .int .i64 q ∧ Hid (q = P + j) ∧ Hid (ff = 128 ^ j ∧ nn < 128 ^ j) ∧ Hid (T = tkc l P j nn ff) ∧ wr = w) (fun _ _ s8 _ => P + 5 - (intOf s8).toNat)
    case atStart => exact ⟨0, P, 0, 1, by omega, rfl, rfl, rfl, hideQ rfl, hideQ ⟨rfl, by decide⟩, HT, rfl⟩
    case round =>
    obtain ⟨j, q, nn, ff, hj, rfl, rfl, rfl, HQ, HF, HC, rfl⟩ := hrel
    clear HT
    have hq := HQ.out
    have dq0 : decide ((0 : Int) ≤ (q : Int)) = true := decide_eq_true (by omega)
    have dq0' : (0 : Int) ≤ (q : Int) := by omega
    by_cases hin : q < n ∧ j < 5
    · have hql : P + j < l.length := by rw [← HN.out, ← hq]; exact hin.1
      obtain ⟨b, off, rfl, hc⟩ := HB.out (by rintro rfl; simp at hql)
      have y0 := hc (P + j) hql
      rw [← hq, List.getElem?_eq_getElem (by rw [hq]; exact hql)] at y0
      simp only [Option.getD_some] at y0
      have hx := HI.out _ (List.getElem_mem (show q < l.length by rw [hq]; exact hql))
      have hlast := fun h => tkc_last (n := nn) (f := ff) hin.2 hql h
      have hmore := fun h => tkc_more (n := nn) (f := ff) hin.2 hql h
      have hxe : l[P + j] = l[q]'(by rw [hq]; exact hql) := by congr 1; exact hq.symm
      rw [hxe] at hlast hmore
      generalize l[q]'(by rw [hq]; exact hql) = x at *
      obtain ⟨hfb, hnb⟩ := tk_pow HF.out hin.2
      obtain ⟨r, m, n2, f2, hr2, hr, hm, hn2, hf3, t1, t1', t3', t4', t5'⟩ := tk_facts hx hfb hnb
      have t6 : IntKind.i64.wrap ((q : Int) + 1) = (q : Int) + 1 := by rw [IntKind.wrap_i64]; omega
      have dq1 : decide ((q : Int) < (n : Int)) = true := decide_eq_true (by omega)
      have dq2 : decide ((q : Int) < (P : Int) + 5) = true := decide_eq_true (by omega)
      have iq1 : (q : Int) < (n : Int) := by omega
      have iq2 : (q : Int) < (P : Int) + 5 := by omega
      have iq3 : q < n := hin.1
      by_cases hx128 : x < 128
      · have HL := hideQ (hlast hx128)
        have hxr : x.toNat = r := by omega
        have dx : decide (x < 128) = true := decide_eq_true hx128
        have HO : Hid (T = some (n2, j + 1)) := hideQ (by rw [HC.out, HL.out, hn2, hm, hxr])
        have HQ3 : Hid ((q : Int) + 1 = (P : Int) + ((j + 1 : Nat) : Int)) := hideQ (by omega)
        clear hlast hmore hxe hc hq hr hm hn2 hf3 hxr
        go_wp2
        go_ret2
        obtain ⟨r1, r2⟩ := HRS.out _ _ HO.out
        have hq3 := HQ3.out
        rw [r1, r2, ← hq3]
        refine ⟨?_, rfl⟩
        first | rfl | (rw [t4']; rfl) | (simp only [t4']; rfl)
      · have HL := hideQ (hmore hx128)
        have dx : decide (x < 128) = false := decide_eq_false hx128
        have HO : Hid (T = tkc l P (j + 1) n2 f2) := hideQ (by rw [HC.out, HL.out, hn2, hm, hr, hf3])
        have HF2 : Hid (f2 = 128 ^ (j + 1) ∧ n2 < 128 ^ (j + 1)) := hideQ (by
          rw [hf3, hn2, hm]
          exact tk_pow2 HF.out hr2)
        have HQ2 : Hid (q + 1 = P + (j + 1)) := hideQ (by omega)
        have HE5 : Hid ((ff : Int) * 128 = (f2 : Int)) := hideQ (by omega)
        have hj2 : j + 1 ≤ 5 := by omega
        clear hlast hmore hxe hc hr hm hn2 hf3 hq
        go_wp2
        go_roundw
        case rel => exact ⟨j + 1, q + 1, n2, f2, hj2, by first | rfl | rw [t4'], by first | rfl | rw [HE5.out], by go_num, HQ2, HF2, HO, by first | rfl | trivial⟩
        case measure => have := HQ.out; simp [intOf]; omega
    · have HO : Hid (T = none) := hideQ (by
        rw [HC.out]
        refine tkc_end l P j nn ff ?_
        have := HN.out
        omega)
      by_cases h1 : q < n
      · have dq1 : decide ((q : Int) < (n : Int)) = true := decide_eq_true (by omega)
        have iq1 : (q : Int) < (n : Int) := by omega
        have dq2 : decide ((q : Int) < (P : Int) + 5) = false := decide_eq_false (by omega)
        have iq2 : ¬ (q : Int) < (P : Int) + 5 := by omega
        clear hq
        go_wp2
        go_ret2
        obtain ⟨r1, r2⟩ := HRN.out HO.out
        rw [r1, r2]
        exact ⟨rfl, rfl⟩
      · have dq1 : decide ((q : Int) < (n : Int)) = false := decide_eq_false (by omega)
        have iq1 : ¬ (q : Int) < (n : Int) := by omega
        clear hq
        go_wp2
        go_ret2
        obtain ⟨r1, r2⟩ := HRN.out HO.out
        rw [r1, r2]
        exact ⟨rfl, rfl⟩
end Go.Proofs.YtcanbhbhdgogoaaDoor
