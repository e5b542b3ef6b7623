import Derived.Test.YtkgcafomlhfonaaTks
import Derived.Test.YtkgcafomlhfonaaTkm
namespace Go.Proofs.Ytkgcafomlhfonaa.Tk
open Go.ChangeShapes Go.WideShapes Go.ChangeAt Go.RowKit

theorem hits_tot {H : Type} : ∀ (S : List Hl) (ds : List (DataW H)), S.length = ds.length → (∀ i (h : i < S.length) (h' : i < ds.length), (S[i]).l.length + 1 ≤ Rows.uptoBulk ds[i]) → (allH S).length + S.length ≤ Rows.uptoBulkAll ds
  | [], ds, _, _ => Nat.zero_le _
  | o :: r, [], h, _ => by simp at h
  | o :: r, d :: ds, h, hp => by
    have h0 : o.l.length + 1 ≤ Rows.uptoBulk d := hp 0 (by simp) (by simp)
    have h1 := hits_tot r ds (by simpa using h) (fun i hi hi' => hp (i + 1) (by simp; omega) (by simp; omega))
    unfold allH at h1 ⊢
    simp only [List.flatMap_cons, List.length_append, Rows.uptoBulkAll, List.length_cons]
    omega
theorem cHits : Try.prog.cellsOf 26 = 1 := by kernel_rfl
/-- Lists of hits that came in. -/
theorem hlists_of {H : Type} {enc : TypeId × Value → H} {W : World} {fuel : Nat} {cs : List Value} {x : DataW H × List MemPlace} (hf : DataW.trod enc Try.prog W 0 (fun _ => true) true fuel 39 cs = some x) :
    ∃ (a : Option Addr) (c : Nat) (S : List Hl), cs = [.slice a S.length c] ∧ LsAt W a S ∧ (allH S).length + S.length < Rows.uptoBulk x.1 := by
  rcases DataW.trod_slice Try.underlying39 hf with ⟨rfl, rfl⟩ | ⟨a, len, cap, elems, rest, n, _, rfl, rfl, _, hl, hm, hlen, hel, _, _⟩
  · exact ⟨none, 0, [], rfl, fun e => (e rfl).elim, bulk_posT _⟩
  rw [cHits] at hel
  have hbk : Rows.uptoBulk (DataW.slice (H := H) (elems.map (·.1)) (rest.map (·.1))) = Rows.uptoBulkAll (elems.map (·.1)) + Rows.uptoBulkAll (rest.map (·.1)) + 1 := by simp only [Rows.uptoBulk]
  have each : ∀ i, i < len → ∃ o : Hl, (∀ j, j < 1 → W.cell? ((a.add (i * 1)).add j) = [Value.slice o.a o.l.length o.c][j]?) ∧ HsAt W o.a o.l ∧ ∀ (h : i < elems.length), o.l.length + 1 ≤ Rows.uptoBulk (elems[i]).1 := by
    intro i hi
    have h := hel i hi
    rw [List.getElem?_eq_getElem (by omega), Option.bind_eq_some_iff] at h
    obtain ⟨cs8, h1, h2⟩ := h
    obtain ⟨_, h3⟩ := (World.cells?_some h1).2
    obtain ⟨la, lc, B, rfl, k1, k2, k3⟩ := hits_of h2
    exact ⟨⟨la, lc, B⟩, h3, k1, fun _ => k2⟩
  obtain ⟨S, hS, hp⟩ := choose_listT len each
  refine ⟨some a, cap, S, by rw [hS], fun hne => ?_, ?_⟩
  · have hp0 : 0 < S.length := List.length_pos_iff.2 hne
    obtain ⟨b, off, spot⟩ := a
    have h00 := (hp 0 hp0).1 0 (by omega)
    have hspot : spot = none := by
      have e : [Value.slice (S[0]).a (S[0]).l.length (S[0]).c][0]? = some (.slice (S[0]).a (S[0]).l.length (S[0]).c) := rfl
      rw [e] at h00
      simpa [Addr.add] using World.cell?_spot h00
    subst hspot
    refine ⟨b, off, rfl, fun k hk => ?_⟩
    have t0 := (hp k hk).1 0 (by omega)
    rw [Go.WideShapes.add_plain, Go.WideShapes.add_plain, Nat.mul_one] at t0
    exact ⟨t0, (hp k hk).2.1⟩
  · have h1 := hits_tot S (elems.map (·.1)) (by rw [List.length_map]; omega) (fun i hi hi' => by
      rw [List.getElem_map]
      exact (hp i hi).2.2 (by omega))
    show (allH S).length + S.length < Rows.uptoBulk (DataW.slice (H := H) (elems.map (·.1)) (rest.map (·.1)))
    omega
/-- A list of lists of one's own. -/
def slv (S : List Hl) : List Value := S.map (fun x => .slice x.a x.l.length x.c)
def RowL (B : Nat) (w : World) (v : Value) (S : List Hl) : Prop := w.ownsRow B 26 1 v S.length (slv S)
/-- What TopkJoins has gathered: all hits, and the best of each list. -/
structure Jv (w W : World) (k : Nat) (va vs : Value) (A : List Ht) (S : List Hl) : Prop where
  ra : RowH w.heap.size W va A
  rs : RowL w.heap.size W vs S
  apart : ∀ i, va.ownBlock = some i → vs.ownBlock ≠ some i
  el : ∀ x ∈ S, HsAt W x.a x.l
  far : ∀ x ∈ S, ∀ b off, x.a = some ⟨b, off, none⟩ → va.ownBlock ≠ some b ∧ vs.ownBlock ≠ some b ∧ b < W.heap.size
  old : Kept (fun _ => False) w W
  eq : best k (allH S) = best k A
  le : (allH S).length ≤ A.length
theorem jv_start (w W : World) (k : Nat) (h : Kept (fun _ => False) w W) : Jv w W k (.slice none 0 0) (.slice none 0 0) [] [] :=
  ⟨⟨rfl, .inl ⟨rfl, rfl⟩⟩, ⟨rfl, .inl ⟨rfl, rfl⟩⟩, fun i e => (by cases e), fun x hx => (by cases hx), fun x hx => (by cases hx), h, rfl, Nat.le_refl _⟩
theorem RowL.ls {B : Nat} {w : World} {a : Option Addr} {n c : Nat} {S : List Hl} (h : RowL B w (.slice a n c) S) (he : ∀ x ∈ S, HsAt w x.a x.l) : LsAt w a S := by
  intro hne
  rcases h.2 with ⟨_, e⟩ | ⟨g, cap, cur, e1, _⟩
  · exact absurd (List.eq_nil_of_length_eq_zero e) hne
  · simp only [Value.slice.injEq] at e1
    obtain ⟨rfl, rfl, rfl⟩ := e1
    refine ⟨g, 0, rfl, fun k hk => ⟨?_, he _ (List.getElem_mem hk)⟩⟩
    have c1 := World.ownsRow.cells h (g := g) rfl k _ (show (slv S)[k]? = some (.slice S[k].a S[k].l.length S[k].c) by unfold slv; rw [List.getElem?_map, List.getElem?_eq_getElem hk]; rfl)
    rw [Addr.add_mid] at c1
    exact c1
/-- All hits grow by a list. -/
theorem Jv.stepA {w W W' : World} {k : Nat} {va vs va' : Value} {A Y : List Ht} {S : List Hl} (h : Jv w W k va vs A S) (hr : RowH w.heap.size W' va' (A ++ Y)) (hk : Kept (fun i => va.ownBlock = some i) W W') (hg : ∀ i, va'.ownBlock = some i → va.ownBlock = some i ∨ W.heap.size ≤ i) :
    RowH w.heap.size W' va' (A ++ Y) ∧ RowL w.heap.size W' vs S ∧ (∀ i, va'.ownBlock = some i → vs.ownBlock ≠ some i) ∧ (∀ x ∈ S, HsAt W' x.a x.l) ∧ (∀ x ∈ S, ∀ b off, x.a = some ⟨b, off, none⟩ → va'.ownBlock ≠ some b ∧ vs.ownBlock ≠ some b ∧ b < W'.heap.size) ∧ Kept (fun _ => False) w W' := by
  refine ⟨hr, hk.row h.rs (fun i hi e => h.apart i e hi), fun i hi e => ?_, fun x hx => (h.el x hx).kept hk (fun b off e => (h.far x hx b off e).1), fun x hx b off e => ⟨fun e2 => ?_, (h.far x hx b off e).2.1, Nat.lt_of_lt_of_le (h.far x hx b off e).2.2 hk.size⟩, h.old.trans hk (fun i hi => .inr (World.ownsRow.lt h.ra i hi).1)⟩
  · rcases hg i hi with q | q
    · exact h.apart i q e
    · have := (World.ownsRow.lt h.rs i e).2; omega
  · rcases hg b e2 with q | q
    · exact (h.far x hx b off e).1 q
    · have := (h.far x hx b off e).2.2; omega
theorem infoLs : (Try.prog.info? 26).map (fun i => (i.zero, i.size, i.bytes)) = some (some (.slice none 0 0), 1, 24) := by kernel_rfl
/-- 'append(s, x)' of one list of hits. -/
theorem wpList_pushLs {B : Nat} {W : World} {ops : Array Oper} {rest : List Oper} {o : Oper} {act : Act} {Q : Exit → Act → World → Prop} (hgd : o.guard = none) (s x : Operand)
    (ho : o.op = .call { callee := .builtin .append, args := #[s, x], argTypes := #[39, 39] }) (v : Value) (S : List Hl) (y : Hl) (ya : Option Addr) (yn yc : Nat) (hs : act.eval s = v) (hR : Hid (RowL B W v S)) (b : Nat) (hbb : b = W.heap.size) (hx : act.eval x = .slice (some ⟨b, 0, none⟩) 1 1) (hy : Hid (y = ⟨ya, yc, y.l⟩ ∧ yn = y.l.length)) (hB : Hid (B ≤ W.heap.size)) (hb : Hid (S.length ≤ 1099511627776))
    (h : ∀ g c' W', Hid (RowL B W' (.slice (some ⟨g, 0, none⟩) (S.length + 1) c') (S ++ [y])) → Hid (Kept (fun i => v.ownBlock = some i) W W') → Hid (v.ownBlock = some g ∨ W.heap.size ≤ g) → wpList Try.prog ops Q rest (act.put o.dst (.slice (some ⟨g, 0, none⟩) (S.length + 1) c')) W') : wpList Try.prog ops Q (o :: rest) act (W.alloc (.cells #[.slice ya yn yc] 26)) := by
  subst hbb
  obtain ⟨i0, hi0, hz0, hz1, hz2⟩ := info_partsT infoLs
  obtain ⟨ey, en⟩ := hy.out
  have ka := Kept.alloc W (.cells #[.slice ya yn yc] 26)
  have hbo := hb.out
  refine wpList_append_lies _ hgd s x 39 ho B 26 i0 _ 1 24 Try.underlying39 hi0 hz0 hz1 hz2 rfl (by decide) v S.length (slv S) hs (ka.row hR.out (fun _ _ f => f)) ⟨W.heap.size, 0, none⟩ 1 1 [.slice ya yn yc] hx rfl (row_newT W [.slice ya yn yc] 26) (by intro u hu; simp at hu; subst hu; rfl) (by decide) (by unfold maxLen; omega) (by omega) (Nat.le_trans hB.out ka.size) _ rfl ?_
  intro g c' W' ho2 hg2 hat _
  refine h g c' W' (hideT ?_) (hideT ((ka.mono (fun _ f => f.elim)).trans (Kept.grown hg2) (fun i e => .inl e))) (hideT (hat.imp id (fun e => by rw [e]; exact ka.size)))
  unfold RowL
  have e1 : slv (S ++ [y]) = slv S ++ [.slice ya yn yc] := by
    unfold slv
    rw [List.map_append, en]
    congr 1
    rw [ey]
    rfl
  rw [e1, List.length_append]
  exact ho2
theorem best_step (k : Nat) (T A y : List Ht) (h : best k T = best k A) : best k (T ++ best k y) = best k (A ++ y) := by
  rw [← best_left k T, h, best_both]
end Go.Proofs.Ytkgcafomlhfonaa.Tk
