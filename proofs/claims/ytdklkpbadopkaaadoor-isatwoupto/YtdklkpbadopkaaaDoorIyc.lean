import Derived.Test.YtdklkpbadopkaaaDoorIyb
namespace Go.Proofs.YtdklkpbadopkaaaDoor
open Go.ChangeShapes Go.WideShapes Go.ChangeAt Go.RowKit

def cuW : List UInt8 := [99, 117, 114, 115, 111, 114]
def nrW : List UInt8 := [110, 101, 97, 114]
/-- The lines, without what ends them. -/
def wdLn (wd : List UInt8) (ns : List Nat) : List UInt8 := wd ++ ptB 32 (ns.map Lib.decDigits)
def quB (t : List UInt8) : List UInt8 := 34 :: ((t.map ltB).flatten ++ [34])
def cuLn (c : Lf) : List UInt8 := cuW ++ 32 :: (Lib.decDigits c.f.toNat ++ 32 :: quB c.t.data.toList)
def pyB (c o : Nat) : List UInt8 := Lib.decDigits c ++ 43 :: Lib.decDigits o
def nrLn (n : Nr) : List UInt8 := nrW ++ 32 :: (Lib.decDigits n.sl.toNat ++ ptB 32 (List.zipWith pyB (tnl n.cs) (tnl n.os)))
def cdLn (x : In) : List UInt8 := wdLn (nmN x.op) (opsI x)
theorem nu_pt (ns : List Nat) : (ns.map nuB).flatten = ptB 32 (ns.map Lib.decDigits) := by
  unfold ptB nuB
  rw [List.map_map]; rfl
theorem pr_pt : ∀ (cs os : List Nat), (List.zipWith prB cs os).flatten = ptB 32 (List.zipWith pyB cs os)
  | [], os => by simp [ptB]
  | c :: cs, [] => by simp [ptB]
  | c :: cs, o :: os => by
    have := pr_pt cs os
    simp only [List.zipWith_cons_cons, List.flatten_cons, this]
    simp [ptB, prB, pyB, nuB]
theorem lnB_ln (wd : List UInt8) (ns : List Nat) : lnB wd ns = wdLn wd ns ++ [10] := by rw [lnB, nu_pt, wdLn]
theorem cuB_ln (c : Lf) : cuB c.f.toNat c.t.data.toList = cuLn c ++ [10] := by simp [cuB, cuLn, cuW, nuB, quB]
theorem nrB_ln (n : Nr) : nrB n.sl.toNat (tnl n.cs) (tnl n.os) = nrLn n ++ [10] := by rw [nrB, pr_pt]; simp [nrLn, nrW, nuB]
theorem cdB_ln (x : In) : cdB x = cdLn x ++ [10] := by rw [cdB, lnB_ln, cdLn]
/-- The lines of a program. -/
def lns (p : Pg) (m : List In) : List (List UInt8) := [wdLn avW (tnl p.av)] ++ p.cu.map cuLn ++ p.nr.map nrLn ++ (if p.al then [evW] else []) ++ (if p.dr = [] then [] else [wdLn drW (tnl p.dr)]) ++ m.map cdLn
theorem jn_append (s : UInt8) (L M : List (List UInt8)) : jnB s (L ++ M) = jnB s L ++ jnB s M := by simp [jnB]
theorem jn_map {α : Type} (s : UInt8) (f g : α → List UInt8) (h : ∀ x, g x = f x ++ [s]) (l : List α) : (l.map g).flatten = jnB s (l.map f) := by
  unfold jnB
  rw [List.map_map]
  congr 1
  exact List.map_congr_left (fun x _ => h x)
theorem txt_lns (p : Pg) (m : List In) : txt p m = jnB 10 (lns p m) := by
  unfold txt lns
  simp only [jn_append]
  congr 1
  · congr 1
    · congr 1
      · congr 1
        · congr 1
          · rw [lnB_ln]; simp [jnB]
          · exact jn_map 10 cuLn _ (fun c => cuB_ln c) p.cu
        · exact jn_map 10 nrLn _ (fun n => nrB_ln n) p.nr
      · cases p.al
        · simp [evL, jnB]
        · simp [evL, jnB, lnB]
    · unfold drL
      split
      · simp [jnB]
      · rw [lnB_ln]; simp [jnB]
  · exact jn_map 10 cdLn _ (fun x => cdB_ln x) m
/-- No line has a line feed in it. -/
theorem pt_not {s t : UInt8} (h : s ≠ t) {L : List (List UInt8)} (hL : ∀ x ∈ L, s ∉ x) : s ∉ ptB t L := by
  simp only [ptB, List.mem_flatten, List.mem_map, not_exists, not_and]
  rintro x ⟨y, hy, rfl⟩ hs
  rcases List.mem_cons.1 hs with e | e
  · exact h e
  · exact hL y hy e
theorem dds_not {s : UInt8} (h : s.toNat < 48 ∨ 57 < s.toNat) (ns : List Nat) : ∀ x ∈ ns.map Lib.decDigits, s ∉ x := by
  intro x hx
  obtain ⟨n, _, rfl⟩ := List.mem_map.1 hx
  exact dd_not h
theorem pys_not {s : UInt8} (h : s.toNat < 43 ∨ 57 < s.toNat ∨ (43 < s.toNat ∧ s.toNat < 48)) : ∀ (cs os : List Nat), ∀ x ∈ List.zipWith pyB cs os, s ∉ x := by
  intro cs os x hx
  have h2 : s.toNat < 48 ∨ 57 < s.toNat := by omega
  have h3 : s ≠ 43 := by rintro rfl; revert h; decide
  obtain ⟨i, hi, rfl⟩ := List.mem_iff_getElem.1 hx
  rw [List.getElem_zipWith]
  unfold pyB
  simp only [List.mem_append, List.mem_cons, not_or]
  exact ⟨dd_not h2, h3, dd_not h2⟩
theorem lt_not (c : UInt8) : (10 : UInt8) ∉ ltB c := by
  unfold ltB
  split
  · rename_i h
    simp only [List.mem_cons, List.not_mem_nil, or_false]
    exact fun e => (plB_not h).2.2 e.symm
  · have q : ∀ k, k < 16 → hxB k ≠ 10 := fun k hk => by
      have q : ∀ k : Fin 16, hxB k.val ≠ 10 := by decide +kernel
      exact q ⟨k, hk⟩
    have hc := c.toNat_lt
    simp only [List.mem_cons, List.not_mem_nil, or_false, not_or]
    exact ⟨by decide, fun e => q _ (by omega) e.symm, fun e => q _ (Nat.mod_lt _ (by decide)) e.symm⟩
theorem nm_not (op : Int) (s : UInt8) (h : s.toNat < 97) : s ∉ nmN op := by
  unfold nmN
  by_cases hk : op.toNat < 17
  · have q : ∀ k : Fin 17, ∀ c ∈ nameL.getD k.val [], 97 ≤ c.toNat := by decide +kernel
    intro hc
    have := q ⟨op.toNat, hk⟩ s hc
    omega
  · rw [List.getD_eq_getElem?_getD, List.getElem?_eq_none (show nameL.length ≤ op.toNat by show 17 ≤ op.toNat; omega)]
    simp
theorem wd_not (wd : List UInt8) (ns : List Nat) (h : (10 : UInt8) ∉ wd) : (10 : UInt8) ∉ wdLn wd ns := by
  unfold wdLn
  rw [List.mem_append, not_or]
  exact ⟨h, pt_not (by decide) (dds_not (by decide) ns)⟩
theorem lns_not (p : Pg) (m : List In) : ∀ x ∈ lns p m, (10 : UInt8) ∉ x := by
  intro x hx
  unfold lns at hx
  simp only [List.mem_append] at hx
  rcases hx with ((((hx | hx) | hx) | hx) | hx) | hx
  · simp at hx; subst hx; exact wd_not _ _ (by decide)
  · obtain ⟨c, _, rfl⟩ := List.mem_map.1 hx
    unfold cuLn quB
    simp only [List.mem_append, List.mem_cons, not_or, List.not_mem_nil, or_false]
    refine ⟨by decide, by decide, dd_not (by decide), by decide, by decide, ?_, by decide⟩
    simp only [List.mem_flatten, List.mem_map, not_exists, not_and]
    rintro y ⟨d, _, rfl⟩
    exact lt_not d
  · obtain ⟨n, _, rfl⟩ := List.mem_map.1 hx
    unfold nrLn
    simp only [List.mem_append, List.mem_cons, not_or]
    exact ⟨by decide, by decide, dd_not (by decide), pt_not (by decide) (pys_not (by decide) _ _)⟩
  · split at hx
    · simp at hx; subst hx; decide
    · simp at hx
  · split at hx
    · simp at hx
    · simp at hx; subst hx; exact wd_not _ _ (by decide)
  · obtain ⟨y, _, rfl⟩ := List.mem_map.1 hx
    exact wd_not _ _ (nm_not _ _ (by decide))
theorem lns_inj {p q : Pg} {m n : List In} (h : txt p m = txt q n) : lns p m = lns q n := by
  rw [txt_lns, txt_lns] at h
  exact jn_inj _ _ (lns_not p m) (lns_not q n) h
end Go.Proofs.YtdklkpbadopkaaaDoor
