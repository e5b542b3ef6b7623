import Derived.Test.YtakjaablankipaaDoorLxh
namespace Go.Proofs.YtakjaablankipaaDoor
open Go.ChangeShapes Go.WideShapes Go.ChangeAt Go.RowKit

/-- Only rows of the type e have been written (and new blocks may have come). -/
def KT (e : TypeId) (W W' : World) : Prop := Kept (fun k => ∃ c fz, W.heap[k]? = some (.cells c e fz)) W W'
theorem KT.trans {e : TypeId} {a b c : World} (h : KT e a b) (k : KT e b c) : KT e a c := by
  refine Kept.trans h k (fun i hi => ?_)
  obtain ⟨cs, fz, hc⟩ := hi
  by_cases hlt : i < a.heap.size
  · by_cases hF : ∃ c fz, a.heap[i]? = some (.cells c e fz)
    · exact .inl hF
    · rw [h.block i hlt hF] at hc
      exact .inl ⟨_, _, hc⟩
  · exact .inr (by omega)
theorem KT.of {e : TypeId} {a b : World} (h : Kept (fun _ => False) a b) : KT e a b := h.mono (fun _ f => f.elim)
theorem KT.heap {e : TypeId} {a b : World} (h : KT e a b) {k : Nat} {cs : Array Value} {t : TypeId} {fz : Nat × Nat} (hc : a.heap[k]? = some (.cells cs t fz)) (ht : t ≠ e) : b.heap[k]? = some (.cells cs t fz) :=
  Kept.heap h hc (fun ⟨c, f, x⟩ => by
    rw [hc] at x
    simp only [Option.some.injEq, Obj.cells.injEq] at x
    exact ht x.2.1)
/-- A grown list of another type stays. -/
theorem Gro.other {w0 w w' : World} {e e' : TypeId} {sz : Nat} {v : Value} {n : Nat} {xs : List Value} (h : Gro w0 w e sz v n xs) (k : KT e' w w') (k0 : Kept (fun _ => False) w0 w') (hne : e ≠ e') : Gro w0 w' e sz v n xs := by
  refine ⟨⟨h.own.1, ?_⟩, k0⟩
  rcases h.own.2 with hn | ⟨g, cap, cur, rfl, hb, hgg, rest⟩
  · exact .inl hn
  · exact .inr ⟨g, cap, cur, rfl, hb, k.heap hgg hne, rest⟩
/-- 'append(s, x)' as wpList_push; it tells besides that only rows of the type have been written. -/
theorem wpList_pushT {w0 W : World} {ops : Array Oper} {rest : List Oper} {o : Oper} {act : Act} {Q : Exit → Act → World → Prop} (hgd : o.guard = none) (s x : Operand) (t : TypeId)
    (ho : o.op = .call { callee := .builtin .append, args := #[s, x], argTypes := #[t, t] }) (e : TypeId) (i : TypeInfo) (z : Value) (size bytes : Nat)
    (ht : Tryd.prog.underlying t = some (.slice e)) (hi : Tryd.prog.info? e = some i) (hz : i.zero = some z) (hsize : i.size = size) (hby : i.bytes = bytes) (hzs : z.cells.size = size) (hsz : 0 < size)
    (v : Value) (n : Nat) (xs news : List Value) (hs : act.eval s = v) (hG : Hid (Gro w0 W e size v n xs)) (hx : act.eval x = .slice (some ⟨W.heap.size, 0, none⟩) 1 1)
    (hl : news.length = size) (h1 : ∀ u ∈ news, u.oneCell' = true) (hb : Hid ((n + 1) * bytes ≤ 140737488355328)) (h63 : Hid (n + 1 ≤ maxLen))
    (h : ∀ a' c' W', Hid (Gro w0 W' e size (.slice a' (n + 1) c') (n + 1) (xs ++ news)) → Hid (KT e W W') → wpList Tryd.prog ops Q rest (act.put o.dst (.slice a' (n + 1) c')) W') : wpList Tryd.prog ops Q (o :: rest) act (W.alloc (.cells news.toArray e)) := by
  refine wpList_append_own _ hgd s x t ho w0.heap.size e i z size bytes ht hi hz hsize hby hzs hsz v n xs hs (hG.out.own.alloc _) ⟨W.heap.size, 0, none⟩ 1 1 news hx (by omega) (row_news W news e) h1 h63.out hb.out (by have := hG.out.kept.size; simp; omega) ?_
  intro v' W' ho2 hg2 _
  have q : Gro w0 W' e size v' (n + 1) (xs ++ news) := ⟨ho2, (hG.out.kept.trans (Kept.alloc _ _) (fun _ f => f.elim)).trans (Kept.grown hg2) (fun i hi => .inr (hG.out.own.lt i hi).1)⟩
  obtain ⟨a', c', rfl⟩ := q.shape
  refine h a' c' W' q ?_
  refine Kept.trans (KT.of (Kept.alloc W _) : KT e W _) (Kept.grown hg2) (fun k hk => ?_)
  rcases hG.out.own.2 with ⟨hn, _⟩ | ⟨g, cap, cur, rfl, _, hgg, _⟩
  · rw [hn] at hk; simp [Value.ownBlock] at hk
  · simp [Value.ownBlock] at hk
    subst hk
    exact .inl ⟨_, _, hgg⟩
/-- 'append(b, x)' of bytes, beside lists of other types. -/
theorem wpList_pushC {w0 W : World} {ops : Array Oper} {rest : List Oper} {o : Oper} {act : Act} {Q : Exit → Act → World → Prop} (hgd : o.guard = none) (s x : Operand)
    (ho : o.op = .call { callee := .builtin .append, args := #[s, x], argTypes := #[37, 37] }) (a : Option Addr) (c0 n : Nat) (l : List UInt8) (c : UInt8) (z : Int) (hs : act.eval s = .slice a n c0) (hG : Hid (Gb w0 W a c0 n l)) (b : Nat) (hb : b = W.heap.size) (hx : act.eval x = .slice (some ⟨b, 0, none⟩) 1 1)
    (hc : Hid (z = (c.toNat : Int))) (hn : n ≤ 1099511627776)
    (h : ∀ a' c' W', Hid (Gb w0 W' a' c' (n + 1) (l ++ [c])) → Hid (KT 5 W W') → wpList Tryd.prog ops Q rest (act.put o.dst (.slice a' (n + 1) c')) W') : wpList Tryd.prog ops Q (o :: rest) act (W.alloc (.cells #[.int .u8 z] 5)) := by
  subst hb
  obtain ⟨i0, hi, hz0, hz1, hz2⟩ := info_partsL Tryd.infoB
  have e2 := hc.out
  subst e2
  refine wpList_pushT hgd s x 37 ho 5 i0 (.int .u8 0) 1 1 Tryd.underlying37 hi hz0 hz1 hz2 rfl (by decide) (.slice a n c0) n (bu l) [.int .u8 (c.toNat : Int)] hs (hideL hG.out.gro) hx rfl (by intro u hu; simp at hu; subst hu; rfl) (hideL (by omega)) (hideL (by unfold maxLen; omega)) ?_
  intro a' c' W' g k
  refine h a' c' W' ⟨?_, by rw [List.length_append, hG.out.len]; rfl⟩ k
  rw [bu_append]
  exact g.out
/-- 'append(s, p...)' of bytes, beside lists of other types. -/
theorem wpList_pushQ {w0 W : World} {ops : Array Oper} {rest : List Oper} {o : Oper} {act : Act} {Q : Exit → Act → World → Prop} (hgd : o.guard = none) (s x : Operand)
    (ho : o.op = .call { callee := .builtin .append, args := #[s, x], argTypes := #[37, 37] }) (a : Option Addr) (c0 n : Nat) (l p : List UInt8) (q g : Nat) (hs : act.eval s = .slice a n c0) (hG : Hid (Gb w0 W a c0 n l)) (hx : act.eval x = .slice (some ⟨g, 0, none⟩) q q) (hq : Hid (q = p.length)) (hR : Hid (Rb W g p))
    (hn : n + q ≤ 1099511627776)
    (h : ∀ a' c' W', Hid (Gb w0 W' a' c' (n + q) (l ++ p)) → Hid (KT 5 W W') → wpList Tryd.prog ops Q rest (act.put o.dst (.slice a' (n + q) c')) W') : wpList Tryd.prog ops Q (o :: rest) act W := by
  obtain ⟨i0, hi, hz0, hz1, hz2⟩ := info_partsL Tryd.infoB
  have e1 := hq.out
  subst e1
  have hplain : ∀ j, (⟨g, 0, none⟩ : Addr).add j = ⟨g, j, none⟩ := fun j => by unfold Addr.add; split <;> simp_all
  refine wpList_append_own _ hgd s x 37 ho w0.heap.size 5 i0 (.int .u8 0) 1 1 Tryd.underlying37 hi hz0 hz1 hz2 rfl (by decide) (.slice a n c0) n (bu l) hs hG.out.gro.own ⟨g, 0, none⟩ p.length p.length (bu p) hx (by rw [bu_len, Nat.mul_one]) (fun j u hu => by rw [hplain]; exact hR.out.at' j u hu) ?_ (by unfold maxLen; omega) (by omega) hG.out.gro.kept.size ?_
  · intro u hu
    obtain ⟨x, _, rfl⟩ := List.mem_map.1 hu
    rfl
  · intro v' W' ho2 hg2 _
    have q : Gro w0 W' 5 1 v' (n + p.length) (bu l ++ bu p) := ⟨ho2, hG.out.gro.kept.trans (Kept.grown hg2) (fun i hi => .inr (hG.out.gro.own.lt i hi).1)⟩
    obtain ⟨a', c', rfl⟩ := q.shape
    rw [← bu_append] at q
    refine h a' c' W' ⟨q, by rw [List.length_append, hG.out.len]⟩ ?_
    refine Kept.mono (Kept.grown hg2) (fun k hk => ?_)
    rcases hG.out.gro.own.2 with ⟨hn, _⟩ | ⟨g, cap, cur, e, _, hgg, _⟩
    · rw [hn] at hk; simp [Value.ownBlock] at hk
    · rw [e] at hk
      simp [Value.ownBlock] at hk
      subst hk
      exact .inl ⟨_, _, hgg⟩
theorem Gs13.other {w0 w w' : World} {a : Option Addr} {c n : Nat} {G : List Sg} (h : Gs13 w0 w a c n G) (k : KT 5 w w') (k0 : Kept (fun _ => False) w0 w') : Gs13 w0 w' a c n G := ⟨h.gro.other k k0 (by decide), h.len⟩
theorem any_map (G : List Sg) (f : UInt8 × Bool → Bool) : (G.map sgB).any f = G.any (fun x => f (sgB x)) := List.any_map
theorem sgp_any (l : List UInt8) (f : UInt8 × Bool → Bool) : (sgn l).any f = (sgp 0 l).any (fun x => f (sgB x)) := by rw [← sgp_sgn l.length 0 l (Nat.le_refl _), any_map]
/-- Beside a list of signs: bytes that grow. -/
structure Bs13 (w wr : World) (a : Option Addr) (c m : Nat) (o : List UInt8) (a9 : Option Addr) (c9 N : Nat) (G : List Sg) : Prop where
  b : Gb w wr a c m o
  g : Gs13 w wr a9 c9 N G
theorem Bs13.later {w wr w' : World} {a : Option Addr} {c m : Nat} {o : List UInt8} {a9 : Option Addr} {c9 N : Nat} {G : List Sg} (h : Bs13 w wr a c m o a9 c9 N G) (k : Kept (fun _ => False) wr w') : Bs13 w w' a c m o a9 c9 N G := ⟨h.b.later k, h.g.later k⟩
theorem Bs13.push {w wr w' : World} {a a' : Option Addr} {c m c' m' : Nat} {o o' : List UInt8} {a9 : Option Addr} {c9 N : Nat} {G : List Sg} (h : Bs13 w wr a c m o a9 c9 N G) (hb : Gb w w' a' c' m' o') (k : KT 5 wr w') : Bs13 w w' a' c' m' o' a9 c9 N G := ⟨hb, h.g.other k hb.gro.kept⟩
theorem drop_any (G : List Sg) (f : Sg → Bool) (k : Nat) (h : k < G.length) : (G.drop k).any f = (f G[k] || (G.drop (k + 1)).any f) := by
  rw [List.drop_eq_getElem_cons h, List.any_cons]
end Go.Proofs.YtakjaablankipaaDoor
