import Derived.Test.YtpopfgablgnalaaHnf
import Derived.Test.YtpopfgablgnalaaCca
namespace Go.Proofs.Ytpopfgablgnalaa
open Go.ChangeShapes Go.WideShapes Go.ChangeAt Go.RowKit

/-- A list that was handed in: its blocks, its length, what it holds. -/
structure HR where
  hb : Nat
  f : Nat
  cf : Nat
  q : Nat
  cq : Nat
  n : Nat
  l : List Int
def HR.ptr (h : HR) : Value := .pointer (some ⟨h.hb, 0, none⟩)
def HR.gv (h : HR) : Value := .slice (some ⟨h.f, 0, none⟩) h.n h.cf
def HR.cut (h : HR) : Value := .slice (some ⟨h.f, 0, none⟩) h.n h.n
def HR.sp (h : HR) : HR := { h with l := spl h.n h.l }
def HR.part (h : HR) : PartH := (some ⟨h.f, 0, none⟩, h.cf, h.l.take h.n)
def HR.At (W : World) (h : HR) : Prop := Hd W h.hb h.f h.cf h.q h.cq h.n h.l
theorem HR.At.part_len {W : World} {h : HR} (a : h.At W) : (h.l.take h.n).length = h.n := by
  have := a.len
  rw [List.length_take]
  omega
theorem HR.At.part_val {W : World} {h : HR} (a : h.At W) : h.part.val = h.gv := by
  show Value.slice _ (h.l.take h.n).length _ = _
  rw [a.part_len]
  rfl
theorem HR.At.bytes {W : World} {h : HR} (a : h.At W) : BytesAt W h.part.1 h.part.2.2 := by
  intro hne
  refine ⟨h.f, 0, rfl, fun k hk => ?_⟩
  have hk1 : k < h.n := by rw [← a.part_len]; exact hk
  have hk2 : k < h.l.length := by have := a.len; omega
  obtain ⟨b, c, e, hc, -⟩ := a.full.cells hk2
  simp only [Value.slice.injEq, Option.some.injEq, Addr.mk.injEq, and_true] at e
  obtain ⟨e1, -, -⟩ := e
  subst e1
  rw [Nat.zero_add, hc]
  show some (Value.int .u8 _) = some (Value.int .u8 ((h.l.take h.n)[k]?.getD 0))
  rw [List.getElem?_take, if_pos hk1]
theorem Lib.cut {W : World} {f m c n : Nat} {l : List Int} (h : Lib W (.slice (some ⟨f, 0, none⟩) m c) l) (hn : n ≤ l.length) : Lib W (.slice (some ⟨f, 0, none⟩) n n) (l.take n) := by
  rcases h with ⟨e, _⟩ | ⟨b, c', cur, e, hb, h1, h2, h3⟩
  · cases e
  · simp only [Value.slice.injEq, Option.some.injEq, Addr.mk.injEq, and_true] at e
    obtain ⟨rfl, -, -⟩ := e
    have hl : (l.take n).length = n := by rw [List.length_take]; omega
    refine .inr ⟨f, n, cur, by rw [hl], hb, by omega, by omega, ?_⟩
    rw [hl]
    have := congrArg (List.take n) h3
    rw [List.take_take, Nat.min_eq_left hn] at this
    rw [this]
    simp [bs, List.map_take]
/-- The lists that were handed in, and the two lists that hold them. -/
structure Lw (base N : Nat) (W : World) (o : Nat → Nat) (H : List HR) (vh vg : Value) : Prop where
  hd : ∀ t (h : t < H.length), H[t].At W
  own : ∀ t (h : t < H.length), o H[t].hb = t ∧ o H[t].f = t ∧ o H[t].q = t
  lt : ∀ t (h : t < H.length), H[t].hb < W.heap.size ∧ H[t].f < W.heap.size ∧ H[t].q < W.heap.size
  rh : W.ownsRow base 26 1 vh H.length (H.map HR.ptr)
  rg : W.ownsRow base 23 1 vg H.length (H.map HR.gv)
  oh : ∀ k, vh.ownBlock = some k → o k = N
  og : ∀ k, vg.ownBlock = some k → o k = N + 1
  le : H.length ≤ N
theorem Lw.kept {F : Nat → Prop} {base N : Nat} {W W' : World} {o : Nat → Nat} {H : List HR} {vh vg : Value} (h : Lw base N W o H vh vg) (k : Kept F W W') (h1 : ∀ t (ht : t < H.length), ¬ F H[t].hb ∧ ¬ F H[t].f ∧ ¬ F H[t].q) (h2 : ∀ i, vh.ownBlock = some i → ¬ F i) (h3 : ∀ i, vg.ownBlock = some i → ¬ F i) : Lw base N W' o H vh vg :=
  ⟨fun t ht => Hd.kept (h.hd t ht) k (h1 t ht).1 (h1 t ht).2.1 (h1 t ht).2.2, h.own, fun t ht => by have := h.lt t ht; have := k.size; omega, k.row h.rh h2, k.row h.rg h3, h.oh, h.og, h.le⟩
theorem Lw.later {base N : Nat} {W W' : World} {o : Nat → Nat} {H : List HR} {vh vg : Value} (h : Lw base N W o H vh vg) (k : Kept (fun _ => False) W W') : Lw base N W' o H vh vg :=
  h.kept k (fun _ _ => ⟨fun f => f, fun f => f, fun f => f⟩) (fun _ _ f => f) (fun _ _ f => f)
theorem hd_lt {W : World} {h : HR} (a : h.At W) : h.hb < W.heap.size ∧ h.f < W.heap.size ∧ h.q < W.heap.size :=
  ⟨lt_of_block a.obj, a.full.lt rfl, a.want.lt rfl⟩
/-- One list more is handed in. -/
theorem Lw.push {base N : Nat} {W W1 W2 W3 : World} {o : Nat → Nat} {H : List HR} {vh vg vh' vg' : Value} {r : HR} (h : Lw base N W o H vh vg) (hlt : H.length < N) (k1 : Kept (fun _ => False) W W1) (ha : r.At W1) (hn : W.heap.size ≤ r.hb ∧ W.heap.size ≤ r.f ∧ W.heap.size ≤ r.q)
    (k2 : Kept (fun k => vh.ownBlock = some k) W1 W2) (r2 : W2.ownsRow base 26 1 vh' (H.length + 1) (H.map HR.ptr ++ [r.ptr])) (n2 : ∀ k, vh'.ownBlock = some k → vh.ownBlock = some k ∨ W1.heap.size ≤ k)
    (k3 : Kept (fun k => vg.ownBlock = some k) W2 W3) (r3 : W3.ownsRow base 23 1 vg' (H.length + 1) (H.map HR.gv ++ [r.gv])) (n3 : ∀ k, vg'.ownBlock = some k → vg.ownBlock = some k ∨ W2.heap.size ≤ k) : ∃ o', Lw base N W3 o' (H ++ [r]) vh' vg' ∧ ∀ k, k < W.heap.size → o' k = o k := by
  have s1 := k1.size
  have s2 := k2.size
  have s3 := k3.size
  have hl := hd_lt ha
  have vhl : ∀ k, vh.ownBlock = some k → k < W.heap.size := fun k e => (h.rh.lt k e).2
  have vgl : ∀ k, vg.ownBlock = some k → k < W.heap.size := fun k e => (h.rg.lt k e).2
  have key : ∀ k, k < W.heap.size → (if W2.heap.size ≤ k then N + 1 else if W1.heap.size ≤ k then N else if W.heap.size ≤ k then H.length else o k) = o k := fun k hk => by
    rw [if_neg (by omega), if_neg (by omega), if_neg (by omega)]
  have key1 : ∀ k, W.heap.size ≤ k → k < W1.heap.size → (if W2.heap.size ≤ k then N + 1 else if W1.heap.size ≤ k then N else if W.heap.size ≤ k then H.length else o k) = H.length := fun k h1 h2 => by
    rw [if_neg (by omega), if_neg (by omega), if_pos h1]
  have far : ∀ t (ht : t < H.length), (∀ k, vh.ownBlock = some k → k ≠ H[t].hb ∧ k ≠ H[t].f ∧ k ≠ H[t].q) ∧ (∀ k, vg.ownBlock = some k → k ≠ H[t].hb ∧ k ≠ H[t].f ∧ k ≠ H[t].q) := by
    intro t ht
    have ho := h.own t ht
    have hle := h.le
    refine ⟨fun k e => ?_, fun k e => ?_⟩
    · have := h.oh k e
      refine ⟨fun q => ?_, fun q => ?_, fun q => ?_⟩ <;> rw [q] at this <;> omega
    · have := h.og k e
      refine ⟨fun q => ?_, fun q => ?_, fun q => ?_⟩ <;> rw [q] at this <;> omega
  have hget : ∀ t (ht : t < (H ++ [r]).length), (∃ h2 : t < H.length, (H ++ [r])[t] = H[t]) ∨ (t = H.length ∧ (H ++ [r])[t] = r) := by
    intro t ht
    rw [List.length_append, List.length_singleton] at ht
    by_cases q : t < H.length
    · exact .inl ⟨q, List.getElem_append_left q⟩
    · refine .inr ⟨by omega, ?_⟩
      rw [List.getElem_append_right (by omega)]
      simp
  have rk : ∀ {F : Nat → Prop} {A B : World}, Kept F A B → r.At A → (∀ k, F k → k < W.heap.size) → r.At B := fun k a hF =>
    Hd.kept a k (fun f => by have := hF _ f; omega) (fun f => by have := hF _ f; omega) (fun f => by have := hF _ f; omega)
  have ra3 : r.At W3 := rk k3 (rk k2 ha vhl) vgl
  have hd3 : ∀ t (ht : t < (H ++ [r]).length), (H ++ [r])[t].At W3 := by
    intro t ht
    rcases hget t ht with ⟨q, e⟩ | ⟨q, e⟩
    · rw [e]
      obtain ⟨f1, f2⟩ := far t q
      refine Hd.kept (Hd.kept (Hd.kept (h.hd t q) k1 (fun f => f) (fun f => f) (fun f => f)) k2 ?_ ?_ ?_) k3 ?_ ?_ ?_
      · exact fun e => (f1 _ e).1 rfl
      · exact fun e => (f1 _ e).2.1 rfl
      · exact fun e => (f1 _ e).2.2 rfl
      · exact fun e => (f2 _ e).1 rfl
      · exact fun e => (f2 _ e).2.1 rfl
      · exact fun e => (f2 _ e).2.2 rfl
    · rw [e]
      exact ra3
  have hlen : (H ++ [r]).length = H.length + 1 := by rw [List.length_append, List.length_singleton]
  refine ⟨fun k => if W2.heap.size ≤ k then N + 1 else if W1.heap.size ≤ k then N else if W.heap.size ≤ k then H.length else o k, ⟨hd3, fun t ht => ?_, fun t ht => hd_lt (hd3 t ht), ?_, ?_, fun k e => ?_, fun k e => ?_, by omega⟩, key⟩
  · rcases hget t ht with ⟨q, e⟩ | ⟨q, e⟩
    · rw [e]
      have := h.lt t q
      have ho := h.own t q
      exact ⟨(key _ this.1).trans ho.1, (key _ this.2.1).trans ho.2.1, (key _ this.2.2).trans ho.2.2⟩
    · rw [e, q]
      exact ⟨key1 _ hn.1 hl.1, key1 _ hn.2.1 hl.2.1, key1 _ hn.2.2 hl.2.2⟩
  · rw [hlen, List.map_append, List.map_singleton]
    refine k3.row r2 (fun k e1 e2 => ?_)
    have h2 := h.og k e2
    have h3 := vgl k e2
    rcases n2 k e1 with q | q
    · have := h.oh k q
      omega
    · omega
  · rw [hlen, List.map_append, List.map_singleton]
    exact r3
  · rcases n2 k e with q | q
    · exact (key k (vhl k q)).trans (h.oh k q)
    · have hk2 := (r2.lt k e).2
      show (if W2.heap.size ≤ k then N + 1 else if W1.heap.size ≤ k then N else _) = N
      rw [if_neg (by omega), if_pos q]
  · rcases n3 k e with q | q
    · exact (key k (vgl k q)).trans (h.og k q)
    · show (if W2.heap.size ≤ k then N + 1 else _) = N + 1
      rw [if_pos q]
/-- The first i lists spoilt. -/
def spH (i : Nat) (H : List HR) : List HR := (H.take i).map HR.sp ++ H.drop i
theorem spH_len (i : Nat) (H : List HR) : (spH i H).length = H.length := by
  unfold spH
  rw [List.length_append, List.length_map, List.length_take, List.length_drop]
  omega
theorem spH_zero (H : List HR) : spH 0 H = H := by simp [spH]
theorem spH_all (H : List HR) : spH H.length H = H.map HR.sp := by simp [spH]
theorem spH_at {i : Nat} {H : List HR} (h : i < H.length) : (spH i H)[i]'(by rw [spH_len]; exact h) = H[i] := by
  have e : ((H.take i).map HR.sp).length = i := by rw [List.length_map, List.length_take]; omega
  have : (spH i H)[i]? = some H[i] := by
    unfold spH
    rw [List.getElem?_append_right (by omega), e, Nat.sub_self, List.drop_eq_getElem_cons h]
    rfl
  rw [List.getElem?_eq_getElem (by rw [spH_len]; exact h)] at this
  exact Option.some.inj this
theorem spH_set {i : Nat} {H : List HR} (h : i < H.length) : (spH i H).set i H[i].sp = spH (i + 1) H := by
  have e : ((H.take i).map HR.sp).length = i := by rw [List.length_map, List.length_take]; omega
  unfold spH
  rw [List.set_append_right _ _ (by omega), e, Nat.sub_self, List.drop_eq_getElem_cons h, List.take_succ_eq_append_getElem h, List.map_append, List.append_assoc]
  rfl
theorem map_set_same {α β : Type} (g : α → β) (L : List α) (i : Nat) (x : α) (h : ∀ y, L[i]? = some y → g x = g y) : (L.set i x).map g = L.map g := by
  apply List.ext_getElem?
  intro j
  rw [List.getElem?_map, List.getElem?_map, List.getElem?_set]
  by_cases e : i = j
  · subst e
    rw [if_pos rfl]
    by_cases hl : i < L.length
    · rw [if_pos hl, List.getElem?_eq_getElem hl]
      simp only [Option.map_some, Option.some.injEq]
      exact h _ (List.getElem?_eq_getElem hl)
    · rw [if_neg hl, List.getElem?_eq_none (by omega)]
  · rw [if_neg e]
theorem Lw.spoil {base N : Nat} {W W' : World} {o : Nat → Nat} {H : List HR} {vh vg : Value} {i : Nat} (h : Lw base N W o H vh vg) (hi : i < H.length) (hs : H[i].sp.At W') (k : Kept (fun k => k = H[i].f ∨ k = H[i].q) W W') : Lw base N W' o (H.set i H[i].sp) vh vg := by
  have hle := h.le
  have hown := h.own i hi
  have hlen : (H.set i H[i].sp).length = H.length := List.length_set ..
  have hget : ∀ t (ht : t < (H.set i H[i].sp).length), (t = i ∧ (H.set i H[i].sp)[t] = H[i].sp) ∨ (t ≠ i ∧ ∃ h2 : t < H.length, (H.set i H[i].sp)[t] = H[t]) := by
    intro t ht
    rw [List.getElem_set]
    by_cases e : i = t
    · exact .inl ⟨e.symm, by rw [if_pos e]⟩
    · exact .inr ⟨fun e2 => e e2.symm, by rw [hlen] at ht; exact ht, by rw [if_neg e]⟩
  have mp : (H.set i H[i].sp).map HR.ptr = H.map HR.ptr := map_set_same _ _ _ _ (fun y hy => by rw [List.getElem?_eq_getElem hi] at hy; rw [← Option.some.inj hy]; rfl)
  have mg : (H.set i H[i].sp).map HR.gv = H.map HR.gv := map_set_same _ _ _ _ (fun y hy => by rw [List.getElem?_eq_getElem hi] at hy; rw [← Option.some.inj hy]; rfl)
  have hd' : ∀ t (ht : t < (H.set i H[i].sp).length), (H.set i H[i].sp)[t].At W' := by
    intro t ht
    rcases hget t ht with ⟨q, e⟩ | ⟨q, h2, e⟩
    · rw [e]; exact hs
    · rw [e]
      have ho := h.own t h2
      refine Hd.kept (h.hd t h2) k ?_ ?_ ?_
      · rintro (f | f)
        · rw [f] at ho; omega
        · rw [f] at ho; omega
      · rintro (f | f)
        · rw [f] at ho; omega
        · rw [f] at ho; omega
      · rintro (f | f)
        · rw [f] at ho; omega
        · rw [f] at ho; omega
  refine ⟨hd', fun t ht => ?_, fun t ht => hd_lt (hd' t ht), ?_, ?_, h.oh, h.og, by omega⟩
  · rcases hget t ht with ⟨q, e⟩ | ⟨q, h2, e⟩
    · rw [e, q]; exact hown
    · rw [e]; exact h.own t h2
  · rw [hlen, mp]
    refine k.row h.rh (fun j e f => ?_)
    have := h.oh j e
    rcases f with f | f <;> rw [f] at this <;> omega
  · rw [hlen, mg]
    refine k.row h.rg (fun j e f => ?_)
    have := h.og j e
    rcases f with f | f <;> rw [f] at this <;> omega
/-- What was handed in, as Concat asks it. -/
def gps (H : List HR) : List PartH := H.map HR.part
theorem Lw.parts {base N : Nat} {W : World} {o : Nat → Nat} {H : List HR} {vh : Value} {a : Option Addr} {n c : Nat} (h : Lw base N W o H vh (.slice a n c)) : PartsAtH W a (gps H) ∧ (∀ p ∈ gps H, BytesAt W p.1 p.2.2) := by
  constructor
  · intro hne
    have hpos : 0 < H.length := by
      unfold gps at hne
      cases H with
      | nil => simp at hne
      | cons x r => simp
    rcases h.rg.2 with ⟨e, e2⟩ | ⟨g, cap, cur, e, _⟩
    · omega
    · simp only [Value.slice.injEq] at e
      obtain ⟨rfl, -, -⟩ := e
      refine ⟨g, 0, rfl, fun k hk => ?_⟩
      have hkH : k < H.length := by unfold gps at hk; rw [List.length_map] at hk; exact hk
      have hr := h.rg
      have hc := hr.cells (g := g) rfl k H[k].gv (by rw [List.getElem?_map, List.getElem?_eq_getElem hkH]; rfl)
      rw [Go.WideShapes.add_plain] at hc
      rw [hc]
      have e4 : (gps H)[k]? = some H[k].part := by
        unfold gps
        rw [List.getElem?_map, List.getElem?_eq_getElem hkH]
        rfl
      have e3 : (gps H)[k] = H[k].part := (List.getElem?_eq_some_iff.1 e4).2
      rw [e3, (h.hd k hkH).part_val]
  · intro p hp
    unfold gps at hp
    obtain ⟨x, hx, rfl⟩ := List.mem_map.1 hp
    obtain ⟨t, ht, rfl⟩ := List.mem_iff_getElem.1 hx
    exact (h.hd t ht).bytes
theorem strOfNums_app (A B : List Int) : strOfNums A ++ strOfNums B = strOfNums (A ++ B) := by
  unfold strOfNums
  apply ByteArray.ext
  simp
theorem strOfNums_len (t : List Int) : (strOfNums t).size = t.length := by
  unfold strOfNums
  simp [ByteArray.size]
theorem flatH_snoc (P : List PartH) (p : PartH) : flatH (P ++ [p]) = flatH P ++ p.2.2 := by simp [flatH]
theorem Lw.start (base N : Nat) (W : World) (hb : base ≤ W.heap.size) : Lw base N ((W.alloc (.cells #[] 26)).alloc (.cells #[] 23)) (fun k => if k = W.heap.size then N else N + 1) [] (.slice (some ⟨W.heap.size, 0, none⟩) 0 0) (.slice (some ⟨W.heap.size + 1, 0, none⟩) 0 0) := by
  have e1 : (W.alloc (.cells #[] 26)).heap.size = W.heap.size + 1 := by simp
  have h1 := heap_alloc_new W (.cells #[] 26)
  have h2 := heap_alloc_new (W.alloc (.cells #[] 26)) (.cells #[] 23)
  rw [e1] at h2
  have h1' := (Kept.alloc (W.alloc (.cells #[] 26)) (.cells #[] 23)).heap h1 (fun f => f)
  refine ⟨fun t ht => by simp at ht, fun t ht => by simp at ht, fun t ht => by simp at ht, ⟨rfl, .inr ⟨W.heap.size, 0, #[], rfl, hb, h1', Nat.le_refl _, Nat.zero_le _, rfl, rfl⟩⟩, ⟨rfl, .inr ⟨W.heap.size + 1, 0, #[], rfl, by omega, h2, Nat.le_refl _, Nat.zero_le _, rfl, rfl⟩⟩, fun k e => ?_, fun k e => ?_, Nat.zero_le _⟩
  · have e2 : W.heap.size = k := Option.some.inj e
    exact if_pos e2.symm
  · have e2 : W.heap.size + 1 = k := Option.some.inj e
    exact if_neg (by omega)
theorem flat_lenH (X : List HR) (h : ∀ r ∈ X, r.n ≤ r.l.length) : (flatH (gps X)).length = (X.map HR.n).sum := by
  induction X with
  | nil => rfl
  | cons x r ih =>
    have e : flatH (gps (x :: r)) = x.l.take x.n ++ flatH (gps r) := by simp [flatH, gps, HR.part]
    rw [e, List.length_append, ih (fun y hy => h y (List.mem_cons_of_mem _ hy)), List.length_take, Nat.min_eq_left (h x List.mem_cons_self)]
    simp
theorem gps_sp (H : List HR) (i : Nat) (h : i < H.length) : i < (gps (H.map HR.sp)).length ∧ (gps (H.map HR.sp))[i]? = some H[i].sp.part := by
  unfold gps
  refine ⟨by rw [List.length_map, List.length_map]; exact h, ?_⟩
  rw [List.getElem?_map, List.getElem?_map, List.getElem?_eq_getElem h]
  rfl
theorem flat_spH (H : List HR) (h : ∀ r ∈ H, r.l.length = r.n + 80) : (flatH (gps (H.map HR.sp))).length = (flatH (gps H)).length := by
  rw [flat_lenH, flat_lenH]
  · rw [List.map_map]
    rfl
  · exact fun r hr => by have := h r hr; omega
  · intro r hr
    obtain ⟨x, hx, rfl⟩ := List.mem_map.1 hr
    have := h x hx
    show x.n ≤ (spl x.n x.l).length
    rw [spl_length]
    omega
/-- The lists that the book holds at the end. -/
theorem bkv_all {base N s0 ga gb gc LA LB LC : Nat} {W : World} {o : Nat → Nat} {H : List HR} {vh vg : Value} {A B C : List Int} (h : Lw base N W o H vh vg) (ha : Lib W (.slice (some ⟨ga, 0, none⟩) LA LA) A) (hb : Lib W (.slice (some ⟨gb, 0, none⟩) LB LB) B) (hc : Lib W (.slice (some ⟨gc, 0, none⟩) LC LC) C) (hs : ∀ t (ht : t < H.length), H[t].f < s0) (h1 : s0 ≤ ga ∧ s0 ≤ gb ∧ s0 ≤ gc) (h2 : ga ≠ gb ∧ ga ≠ gc ∧ gb ≠ gc) (M : Nat) :
    Bkv W (fun k => if k = ga then 0 else if k = gb then 1 else if k = gc then 2 else if k < s0 then o k + 3 else M) (.slice (some ⟨ga, 0, none⟩) LA LA :: .slice (some ⟨gb, 0, none⟩) LB LB :: .slice (some ⟨gc, 0, none⟩) LC LC :: H.map HR.cut) (fun t => if t = 0 then A else if t = 1 then B else if t = 2 then C else ((H[t - 3]?).map (fun r => r.l.take r.n)).getD []) := by
  refine ⟨fun t ht => ?_, fun t ht k hk => ?_⟩
  · match t, ht with
    | 0, _ => exact ha
    | 1, _ => exact hb
    | 2, _ => exact hc
    | t + 3, ht =>
      have htH : t < H.length := by simp at ht; omega
      have e1 : (Value.slice (some ⟨ga, 0, none⟩) LA LA :: Value.slice (some ⟨gb, 0, none⟩) LB LB :: Value.slice (some ⟨gc, 0, none⟩) LC LC :: H.map HR.cut)[t + 3] = H[t].cut := by
        show (H.map HR.cut)[t]'(by rw [List.length_map]; exact htH) = _
        simp
      rw [e1]
      have e2 : (if t + 3 = 0 then A else if t + 3 = 1 then B else if t + 3 = 2 then C else ((H[t + 3 - 3]?).map (fun r => r.l.take r.n)).getD []) = H[t].l.take H[t].n := by
        rw [if_neg (by omega), if_neg (by omega), if_neg (by omega), Nat.add_sub_cancel, List.getElem?_eq_getElem htH]
        rfl
      rw [e2]
      have hd := h.hd t htH
      exact hd.full.cut (by have := hd.len; omega)
  · match t, ht, hk with
    | 0, _, hk =>
      have e : ga = k := Option.some.inj hk
      exact if_pos e.symm
    | 1, _, hk =>
      have e : gb = k := Option.some.inj hk
      show (if k = ga then 0 else if k = gb then 1 else _) = 1
      rw [if_neg (by omega), if_pos e.symm]
    | 2, _, hk =>
      have e : gc = k := Option.some.inj hk
      show (if k = ga then 0 else if k = gb then 1 else if k = gc then 2 else _) = 2
      rw [if_neg (by omega), if_neg (by omega), if_pos e.symm]
    | t + 3, ht, hk =>
      have htH : t < H.length := by simp at ht; omega
      have e1 : (Value.slice (some ⟨ga, 0, none⟩) LA LA :: Value.slice (some ⟨gb, 0, none⟩) LB LB :: Value.slice (some ⟨gc, 0, none⟩) LC LC :: H.map HR.cut)[t + 3] = H[t].cut := by
        show (H.map HR.cut)[t]'(by rw [List.length_map]; exact htH) = _
        simp
      rw [e1] at hk
      have e : H[t].f = k := Option.some.inj hk
      have hlt := hs t htH
      have ho := (h.own t htH).2.1
      show (if k = ga then 0 else if k = gb then 1 else if k = gc then 2 else if k < s0 then o k + 3 else M) = t + 3
      rw [if_neg (by omega), if_neg (by omega), if_neg (by omega), if_pos (by omega), ← e, ho]
theorem vat_row {W : World} {base n : Nat} {a : Option Addr} {c : Nat} {V : List Value} (h : W.ownsRow base 23 1 (.slice a n c) V.length V) : VAt W a V := by
  intro hne
  have hpos : 0 < V.length := List.length_pos_iff.2 hne
  rcases h.2 with ⟨e, e2⟩ | ⟨g, cap, cur, e, _⟩
  · omega
  · simp only [Value.slice.injEq] at e
    obtain ⟨rfl, rfl, rfl⟩ := e
    refine ⟨g, 0, rfl, fun k hk => ?_⟩
    have hc := h.cells (g := g) rfl k V[k] (List.getElem?_eq_getElem hk)
    rw [Go.WideShapes.add_plain] at hc
    exact hc
theorem row_cell {W : World} {base n : Nat} {e : TypeId} {a : Option Addr} {c : Nat} {V : List Value} (h : W.ownsRow base e 1 (.slice a n c) n V) {j : Nat} {u : Value} (hj : V[j]? = some u) : ∃ g, a = some ⟨g, 0, none⟩ ∧ W.cell? ⟨g, j, none⟩ = some u := by
  have hl := h.1
  rw [Nat.mul_one] at hl
  have hjl : j < V.length := (List.getElem?_eq_some_iff.1 hj).1
  rcases h.2 with ⟨e1, e2⟩ | ⟨g, cap, cur, e1, _⟩
  · omega
  · simp only [Value.slice.injEq] at e1
    obtain ⟨rfl, -, -⟩ := e1
    have hc := h.cells (g := g) rfl j u hj
    rw [Go.WideShapes.add_plain, Nat.zero_add] at hc
    exact ⟨g, rfl, hc⟩
end Go.Proofs.Ytpopfgablgnalaa
