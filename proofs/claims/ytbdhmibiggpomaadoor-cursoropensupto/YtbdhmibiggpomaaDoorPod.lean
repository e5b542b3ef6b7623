import Derived.Test.YtbdhmibiggpomaaDoorPoc
namespace Go.Proofs.YtbdhmibiggpomaaDoor
open Go.ChangeShapes Go.WideShapes Go.ChangeAt Go.RowKit

theorem is_app (L : List Int) (x : Int) : is (L ++ [x]) = is L ++ [.int .i64 x] := by unfold is; simp
theorem info_partsP {e : TypeId} {z : Value} {s b : Nat} (h : (Tryd.prog.info? e).map (fun i => (i.zero, i.size, i.bytes)) = some (some z, s, b)) : ∃ i, Tryd.prog.info? e = some i ∧ i.zero = some z ∧ i.size = s ∧ i.bytes = b := by
  cases hx : Tryd.prog.info? e with
  | none => rw [hx] at h; cases h
  | some i =>
    rw [hx] at h
    simp only [Option.map_some, Option.some.injEq, Prod.mk.injEq] at h
    exact ⟨i, rfl, h.1, h.2.1, h.2.2⟩
/-- 'append' of one number; what else lies stays; where the list lies then. -/
theorem wpList_pushD {base : Nat} {W : World} {ops : Array Oper} {rest : List Oper} {o : Oper} {act : Act} {Q : Exit → Act → World → Prop} (hgd : o.guard = none) (s x : Operand)
    (ho : o.op = .call { callee := .builtin .append, args := #[s, x], argTypes := #[40, 40] }) (v : Value) (n : Nat) (L : List Int) (y : Int) (hs : act.eval s = v) (hG : Hid (W.ownsRow base 3 1 v n (is L))) (hb0 : base ≤ W.heap.size) (b : Nat) (hb : b = W.heap.size) (hx : act.eval x = .slice (some ⟨b, 0, none⟩) 1 1) (hn : n ≤ 1099511627776)
    (h : ∀ g c' W', Hid (W'.ownsRow base 3 1 (.slice (some ⟨g, 0, none⟩) (n + 1) c') (n + 1) (is (L ++ [y]))) → Hid (Kept (fun k => v.ownBlock = some k) W W') → Hid (v.ownBlock = some g ∨ W.heap.size ≤ g) → wpList Tryd.prog ops Q rest (act.put o.dst (.slice (some ⟨g, 0, none⟩) (n + 1) c')) W') : wpList Tryd.prog ops Q (o :: rest) act (W.alloc (.cells #[.int .i64 y] 3)) := by
  subst hb
  obtain ⟨i0, hi, hz0, hz1, hz2⟩ := info_partsP Tryd.infoI
  rw [is_app] at h
  refine wpList_append_lies _ hgd s x 40 ho base 3 i0 (.int .i64 0) 1 8 Tryd.underlying40 hi hz0 hz1 hz2 rfl (by decide) v n (is L) hs (hG.out.alloc _) ⟨W.heap.size, 0, none⟩ 1 1 [.int .i64 y] hx (by simp) (row_news W [.int .i64 y] 3) (by intro u hu; simp at hu; subst hu; rfl) (by decide) (by unfold maxLen; omega) (by omega) (by simp; omega) _ rfl ?_
  intro g c' W' ho2 hg2 hat _
  refine h g c' W' ho2 (hideP (((Kept.alloc W _).mono (fun _ f => f.elim)).trans (Kept.grown hg2) (fun i hi => .inl hi))) (hideP (hat.imp id (fun e => by rw [e]; simp)))
/-- Two lists that grow side by side. -/
structure Duo (w0 W : World) (v1 v2 : Value) (n1 n2 : Nat) (X Y : List Int) : Prop where
  o1 : W.ownsRow w0.heap.size 3 1 v1 n1 (is X)
  o2 : W.ownsRow w0.heap.size 3 1 v2 n2 (is Y)
  ne : ∀ k, v1.ownBlock = some k → v2.ownBlock ≠ some k
  kept : Kept (fun _ => False) w0 W
theorem Duo.start (w : World) : Duo w w (.slice none 0 0) (.slice none 0 0) 0 0 [] [] := ⟨(gro_nil w _ 1).own, (gro_nil w _ 1).own, fun k h => by simp [Value.ownBlock] at h, Kept.refl _ _⟩
theorem Duo.later {w0 W W' : World} {v1 v2 : Value} {n1 n2 : Nat} {X Y : List Int} (h : Duo w0 W v1 v2 n1 n2 X Y) (k : Kept (fun _ => False) W W') : Duo w0 W' v1 v2 n1 n2 X Y :=
  ⟨k.row h.o1 (fun _ _ f => f), k.row h.o2 (fun _ _ f => f), h.ne, h.kept.trans k (fun _ f => f.elim)⟩
theorem Duo.push1 {w0 W W' : World} {v1 v2 : Value} {n1 n2 g c : Nat} {X Y X' : List Int} (h : Duo w0 W v1 v2 n1 n2 X Y) {n : Nat} (o : W'.ownsRow w0.heap.size 3 1 (.slice (some ⟨g, 0, none⟩) n c) n (is X')) (k : Kept (fun k => v1.ownBlock = some k) W W') (hat : v1.ownBlock = some g ∨ W.heap.size ≤ g) :
    Duo w0 W' (.slice (some ⟨g, 0, none⟩) n c) v2 n n2 X' Y := by
  refine ⟨o, k.row h.o2 (fun j hj f => h.ne j f hj), fun j hj e => ?_, h.kept.trans k (fun i hi => .inr (h.o1.lt i hi).1)⟩
  simp [Value.ownBlock] at hj
  subst hj
  rcases hat with q | q
  · exact h.ne g q e
  · have := (h.o2.lt g e).2
    omega
theorem Duo.push2 {w0 W W' : World} {v1 v2 : Value} {n1 n2 g c : Nat} {X Y Y' : List Int} (h : Duo w0 W v1 v2 n1 n2 X Y) {n : Nat} (o : W'.ownsRow w0.heap.size 3 1 (.slice (some ⟨g, 0, none⟩) n c) n (is Y')) (k : Kept (fun k => v2.ownBlock = some k) W W') (hat : v2.ownBlock = some g ∨ W.heap.size ≤ g) :
    Duo w0 W' v1 (.slice (some ⟨g, 0, none⟩) n c) n1 n X Y' := by
  refine ⟨k.row h.o1 (fun j hj f => h.ne j hj f), o, fun j hj e => ?_, h.kept.trans k (fun i hi => .inr (h.o2.lt i hi).1)⟩
  simp [Value.ownBlock] at e
  subst e
  rcases hat with q | q
  · exact h.ne g hj q
  · have := (h.o1.lt g hj).2
    omega
theorem between_any (b x : Int) (w : World) (h1 : -1 ≤ b) (h2 : b < x) (h3 : x ≤ 9223372036854775807) : Calls Tryd.prog 62 #[.int .i64 b, .int .i64 x] w fun e w' => e = .returned (.int .u64 (x - 1 - b)) ∧ w' = w := by
  go_enter Tryd.func62, Tryd.ntmps62
  go_wp2
  go_ret
  exact ⟨rfl, rfl⟩
/-- What was there when the postings came in lies as it lay. -/
abbrev Old (w0 w : World) : Prop := Kept (fun i => w0.heap.size ≤ i) w0 w
theorem IntsAt.old {w w' : World} {a : Option Addr} {l : List Int} (h : IntsAt w a l) (k : Old w w') : IntsAt w' a l := h.of_same (fun p v hc _ => k.cell hc (fun f => by have := World.block_lt_of_cell? w _ hc; omega))
theorem PsAt.old {w w' : World} {a : Option Addr} {L : List Pg} (h : PsAt w a L) (k : Old w w') : PsAt w' a L := by
  intro hne
  obtain ⟨b, off, e, hc⟩ := h hne
  refine ⟨b, off, e, fun j hj => ?_⟩
  obtain ⟨x0, x1, x2⟩ := hc j hj
  exact ⟨k.cell x0 (fun f => by have := World.block_lt_of_cell? w _ x0; omega), k.cell x1 (fun f => by have := World.block_lt_of_cell? w _ x1; omega), x2.old k⟩
theorem Old.step {w0 w w' : World} {bw : Nat} {v v' : Value} (h : Old w0 w) (s : WStep w w' bw v v') (hb : w0.heap.size ≤ bw) (hv : ∀ k, v.ownBlock = some k → w0.heap.size ≤ k) : Old w0 w' ∧ ∀ k, v'.ownBlock = some k → w0.heap.size ≤ k :=
  ⟨h.trans s.kept (fun i hi => .inr (hi.elim (fun e => by omega) (fun e => hv i e))), fun k hk => (s.new k hk).elim (hv k) (fun e => Nat.le_trans h.size e)⟩
set_option maxRecDepth 20000 in
set_option maxHeartbeats 2000000 in
theorem putPositions_any (bw : Nat) (v : Value) (xs : List Int) (l : List Int) (a : Option Addr) (c : Nat) (w0 w : World) (h : Wr w bw v xs) (hA : IntsAt w0 a l) (hO : Old w0 w) (hb : w0.heap.size ≤ bw) (hv : ∀ k, v.ownBlock = some k → w0.heap.size ≤ k)
    (hri : Ris l 0) (_hl : l.length ≤ 17592186044416) (hr : xs.length + 10 * (l.length + 1) ≤ 140737488355328) :
    Calls Tryd.prog 87 #[.pointer (some ⟨bw, 0, none⟩), .slice a l.length c] w fun e w' => e = .returned (.tuple #[]) ∧ ∃ v', Wr w' bw v' (xs ++ risb l 0) ∧ WStep w w' bw v v' := by
  have hI : IsInts l := fun x hx => by have := hri.mem x hx; omega
  have H0 : Hid (∀ x ∈ l, 0 ≤ x) := hideP (fun x hx => by have := hri.mem x hx; omega)
  have HI := hideP hI
  have HR := hideP hri.rise
  have HF := hideP hA
  have HH := hideP h
  have HO := hideP hO
  have HV := hideP hv
  clear hI hri hA h hO hv
  go_enter Tryd.func87, Tryd.ntmps87
  go_wp2
  go_loopw [4, 9] (fun ls i wr => ∃ (k : Nat) (z : Int) (v2 : Value), k ≤ l.length ∧ i = .int .i64 k ∧ ls = .int .i64 z ∧ Hid (z = (nxt (l.take k) 0 : Int) - 1) ∧ Hid (Wr wr bw v2 (xs ++ risb (l.take k) 0)) ∧ Hid (WStep w wr bw v v2))
    (fun _ i _ => l.length - (intOf i).toNat)
  case atStart => exact ⟨0, -1, v, Nat.zero_le _, rfl, rfl, hideP rfl, hideP (by simpa [risb] using HH.out), hideP (WStep.refl _ _ _)⟩
  case round =>
    clear HH
    obtain ⟨k, z, v2, hk, rfl, rfl, HZ, HW, HS⟩ := hrel
    by_cases hlt : k < l.length
    · obtain ⟨b, off, rfl, hc⟩ := (HF.out.old (HO.out.step HS.out hb HV.out).1).get hlt
      have hm : l[k] ∈ l := List.getElem_mem hlt
      have hle := nxt_le H0.out HR.out hlt
      have hx0 := H0.out _ hm
      have hxm := (HI.out _ hm).2
      obtain ⟨x, hx⟩ : ∃ x : Nat, l[k] = x := ⟨l[k].toNat, by omega⟩
      have hc' : wr.cell? ⟨b, off + k, none⟩ = some (.int .i64 (x : Int)) := by rw [hc, List.getElem?_eq_getElem hlt]; simp [hx]
      rw [hx] at hle hxm
      have hb : Hid (risb (l.take (k + 1)) 0 = risb (l.take k) 0 ++ uvb (x - nxt (l.take k) 0)) := hideP (by
        rw [List.take_succ_eq_append_getElem hlt, risb_snoc, hx]; rfl)
      have hn1 : Hid ((x : Int) = (nxt (l.take (k + 1)) 0 : Int) - 1) := hideP (by
        rw [List.take_succ_eq_append_getElem hlt, nxt_snoc, hx]; simp)
      have HLn : Hid ((xs ++ risb (l.take k) 0).length + 10 ≤ 140737488355328) := hideP (by
        have h1 := risb_length (l.take k) 0 (fun y hy => (HI.out y (List.mem_of_mem_take hy)).2)
        have h2 : (l.take k).length = k := by rw [List.length_take]; omega
        rw [h2] at h1
        rw [List.length_append]
        omega)
      have hz := HZ.out
      obtain ⟨s, hs⟩ : ∃ s, s = nxt (l.take k) 0 := ⟨_, rfl⟩
      rw [← hs] at hle hz hb
      have c0 : Calls Tryd.prog 62 #[.int .i64 z, .int .i64 (x : Int)] wr fun e w' => e = .returned (.int .u64 ((x - s : Nat) : Int)) ∧ w' = wr := by
        refine (between_any z x wr (by omega) (by omega) (by omega)).mono ?_
        rintro e w' ⟨rfl, rfl⟩
        exact ⟨by rw [show (x : Int) - 1 - z = ((x - s : Nat) : Int) by omega], rfl⟩
      have c1 := wuv_any bw v2 _ (x - s) wr HW.out (by omega) HLn.out
      obtain ⟨y, hy⟩ : ∃ y, y = x - s := ⟨_, rfl⟩
      rw [← hy] at c0 c1 hb
      have C0 := hideP c0
      have C1 := hideP c1
      clear hc hx hm hx0 hz hs c0 c1 HZ hy HLn HW
      go_wp2_with (first | (go_at_call 62; refine C0.out.mono ?_; clear C0; rintro e w2 ⟨rfl, rfl⟩) | (go_at_call 58; refine C1.out.mono ?_; clear C1; rintro e w3 ⟨rfl, v3, hW3, hS3⟩))
      go_roundw
      case rel =>
        refine ⟨k + 1, _, v3, by omega, by go_num, rfl, hn1, ?_, hideP (HS.out.trans hS3)⟩
        refine hideP ?_
        rw [hb.out, ← List.append_assoc]; exact hW3
      case measure => simp [intOf]; omega
    · have hkl : k = l.length := by omega
      subst hkl
      have q := HW.out
      rw [List.take_length] at q
      have HQ := hideP q
      clear q
      go_wp2
      go_end0
      exact ⟨rfl, v2, HQ.out, HS.out⟩
end Go.Proofs.YtbdhmibiggpomaaDoor
