import Derived.Test.YtiebmmpnmklpnaaDoorMrg7
import Derived.OrdersHeld
namespace Go.Proofs.YtiebmmpnmklpnaaDoor
open Go.ChangeShapes Go.WideShapes Go.ChangeAt Go.RowKit

theorem takeV {P : Program} {ops : Array Oper} {Q : Exit → Act → World → Prop} {md : Region.Mode} {S : World → Prop} {i d : Nat} {oi : Oper} {v : Value} {fuel : Nat} {listed : Array Bool} {a : Act} {w : World} (hi : ops[i]? = some oi) (hd : oi.dst = some d)
    (hs : Region.noSelect ops = true) (hf : Region.free md ops listed i = true) (hr : (Region.ready md ops listed).contains i = true)
    (hQ : ∀ c a w, Q (.panic c) (a.put (some d) v) w → Q (.panic c) a w) (hy : YieldsIf P ops S oi v a) (hS : S w)
    (h : wpAnyH P md ops Q S fuel (listed.setIfInBounds i true) (a.put (some d) v) w) : wpAnyH P md ops Q S (fuel + 1) listed a w := by
  rw [← hd] at hQ h
  exact wpAnyH_take hi hs hf hr hQ hy hS h
def slN (v : Value) : Nat := match v with | .slice _ n _ => n | _ => 0
theorem slN_eq (a : Option Addr) (n c : Nat) : slN (.slice a n c) = n := rfl
/-- What 'ways' answers. -/
def wyP (w : World) (p : Pg) (L : List In) (e : Ending) (w' : World) : Prop :=
  (Gd p L → ∃ a c, e = .returned (.tuple #[.slice a L.length c, .bool true]) ∧ IntsAt w' a (hL L)) ∧ (¬ Gd p L → e = .returned (.tuple #[.slice none 0 0, .bool false])) ∧ Kept (fun _ => False) w w'
theorem wyP_bad {w : World} {p : Pg} {L : List In} {e : Ending} {w' : World} (h : ¬ Gd p L) (he : e = .returned (.tuple #[.slice none 0 0, .bool false])) (k : Kept (fun _ => False) w w') : wyP w p L e w' := ⟨fun g => absurd g h, fun _ => he, k⟩
theorem wyP_good {w : World} {p : Pg} {L : List In} {e : Ending} {w' : World} {a : Option Addr} {c n : Nat} (h : Gd p L) (hn : n = L.length) (he : e = .returned (.tuple #[.slice a n c, .bool true])) (hi : IntsAt w' a (hL L)) (k : Kept (fun _ => False) w w') : wyP w p L e w' := by
  subst hn
  exact ⟨fun _ => ⟨a, c, he, hi⟩, fun g => absurd h g, k⟩
theorem WyM.ints {w wr : World} {gH gS : Nat} {Hs : List Int} {Sn : List Bool} {v : Value} {D : List Int} (m : WyM w wr gH gS Hs Sn v D) : IntsAt wr (some ⟨gH, 0, none⟩) Hs := fun _ => ⟨gH, 0, rfl, fun k hk => by
  have q := (m.hat hk).1
  unfold hs at q
  rw [Nat.zero_add]
  exact q⟩
theorem bls_set (Sn : List Bool) (t : Nat) : (bls Sn).toArray.setIfInBounds t (.bool true) = (bls (Sn.set t true)).toArray := by simp [bls, List.map_set]
theorem one_cellV (W : World) (x : Int) : ∀ j u, (isH [x])[j]? = some u → (W.alloc (.cells #[.int .i64 x] 3)).cell? ((⟨W.heap.size, 0, none⟩ : Addr).add j) = some u := by
  intro j u hu
  have hplain : (⟨W.heap.size, 0, none⟩ : Addr).add j = ⟨W.heap.size, j, none⟩ := by unfold Addr.add; split <;> simp_all
  rw [hplain]
  simpa [isH] using hu
theorem LibI.addr {W : World} {a : Option Addr} {n c : Nat} {l : List Int} (h : LibI W (.slice a n c) l) (hn : 0 < n) : ∃ b, a = some ⟨b, 0, none⟩ ∧ b < W.heap.size ∧ n = l.length := by
  rcases h with ⟨e, _⟩ | ⟨b, c', cur, e, hb, _⟩
  · simp only [Value.slice.injEq] at e; omega
  · simp only [Value.slice.injEq] at e
    exact ⟨b, e.1, lt_of_block hb, e.2.1⟩
def tI (T : List Nat) : List Int := T.map fun t : Nat => (t : Int)
theorem tI_at {T : List Nat} {m : Nat} (h : m < T.length) : (tI T)[m]?.getD 0 = (T[m] : Int) := by simp [tI, h]
theorem tI_len (T : List Nat) : (tI T).length = T.length := by simp [tI]
theorem WyM.far {F : Nat → Prop} {w wr wr' : World} {gH gS : Nat} {Hs : List Int} {Sn : List Bool} {v : Value} {D : List Int} (m : WyM w wr gH gS Hs Sn v D) (k : Kept F wr wr') (h1 : ¬ F gH) (h2 : ¬ F gS) (h3 : ∀ i, v.ownBlock = some i → ¬ F i) (h4 : ∀ i, F i → w.heap.size ≤ i) : WyM w wr' gH gS Hs Sn v D :=
  ⟨k.heap m.h h1, k.heap m.s h2, m.d.kept k h3, m.o, m.k.trans k (fun i f => .inr (h4 i f))⟩
theorem lastI {D : List Int} (h : 0 < D.length) : ∃ D' d, D = D' ++ [d] := ⟨D.dropLast, D.getLast (by intro e; rw [e] at h; simp at h), (List.dropLast_concat_getLast _).symm⟩
end Go.Proofs.YtiebmmpnmklpnaaDoor
