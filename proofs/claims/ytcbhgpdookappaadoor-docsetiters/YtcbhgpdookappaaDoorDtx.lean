import Derived.Test.YtcbhgpdookappaaDoorDtv
import Derived.Test.YtcbhgpdookappaaDoorDtw
import Derived.Sort.CutIn
namespace Go.Proofs.YtcbhgpdookappaaDoor.Ds
open Go.ChangeShapes Go.WideShapes Go.ChangeAt Go.RowKit Go.Shelf
attribute [local go_sem] Oper.semAt_some

/-- Where the law's boxes lie. -/
structure ItO (b p rb bs g bw bk cb bat : Nat) : Prop where
  p0 : b + 3 ≤ p
  p1 : p < bs
  r0 : b + 3 ≤ rb
  r1 : rb < bs
  g0 : bs < g
  g1 : g < bw
  k0 : bw < bk
  k1 : bk < bat
  c0 : bw < cb
  c1 : cb < bat
/-- What lies there between two steps of the law, at being k. -/
structure ItI (w : World) (p rb n cap bs g C bw bk cb c bat : Nat) (ws : Nat → Nat) (M : List Nat) (vp : Value) (stop : Int) (k : Nat) (A : World) : Prop where
  set : ∃ ws', SetAt A p rb n cap ws'
  it : MsK bk cb (nbOf n) c ws A
  cp : A.heap[w.heap.size]? = some (.cells #[vp] 38 (0, 0))
  cst : A.heap[w.heap.size + 1]? = some (.cells #[.int .i64 stop] 3 (0, 0))
  cr : A.heap[w.heap.size + 1 + 1]? = some (.cells #[.bool false] 4 (0, 0))
  cs : A.heap[bs]? = some (.cells #[.pointer (some ⟨p, 0, none⟩)] 24 (0, 0))
  cw : A.heap[bw]? = some (.cells #[.slice (some ⟨g, 0, none⟩) C C] 38 (0, 0))
  cat : A.heap[bat]? = some (.cells #[.int .i64 (k : Nat)] 3 (0, 0))
  want : IntsAt A (some ⟨g, 0, none⟩) (M.map (fun (x : Nat) => (x : Int)))
  k : Kept (fun _ => False) w A
theorem IntsAt.keptRow {F : Nat → Prop} {A B : World} {g : Nat} {l : List Int} (h : IntsAt A (some ⟨g, 0, none⟩) l) (k : Kept F A B) (hF : ¬ F g) : IntsAt B (some ⟨g, 0, none⟩) l := fun hn => by
  obtain ⟨b, off, e, hc⟩ := h hn
  simp only [Option.some.injEq, Addr.mk.injEq, and_true] at e
  obtain ⟨rfl, rfl⟩ := e
  exact ⟨_, _, rfl, fun i hi => k.cell (hc i hi) hF⟩
theorem IntsAt.keptNI {s : Nat} {A B : World} {a : Option Addr} {l : List Int} (h : IntsAt A a l) (k : KeptN s A B) : IntsAt B a l := fun hn => by
  obtain ⟨b, off, e, hc⟩ := h hn
  exact ⟨b, off, e, fun i hi => k.cell (hc i hi)⟩
theorem MsK.keptF {F : Nat → Prop} {A B : World} {bk rb nb cap : Nat} {ws : Nat → Nat} (h : MsK bk rb nb cap ws A) (k : Kept F A B) (h0 : ¬ F 24) (h1 : ¬ F bk) (h2 : ¬ F rb) : MsK bk rb nb cap ws B :=
  ⟨DbAt.keptW h.db k h0, k.heap h.box h1, h.row.kept k h2⟩
theorem MsK.keptNM {s : Nat} {A B : World} {bk rb nb cap : Nat} {ws : Nat → Nat} (h : MsK bk rb nb cap ws A) (k : KeptN s A B) : MsK bk rb nb cap ws B :=
  ⟨fun i x hx => k.cell (h.db i x hx), k.cells h.box, h.row.keptN k⟩
section
variable {w : World} {p rb n cap bs g C bw bk cb c bat : Nat} {ws : Nat → Nat} {M : List Nat} {vp : Value} {stop : Int} {k : Nat}
theorem ItI.keptN {A B : World} {s : Nat} (h : ItI w p rb n cap bs g C bw bk cb c bat ws M vp stop k A) (q : KeptN s A B) (hs : w.heap.size ≤ s) : ItI w p rb n cap bs g C bw bk cb c bat ws M vp stop k B :=
  ⟨by obtain ⟨ws', h1⟩ := h.set; exact ⟨ws', h1.keptN2 q⟩, h.it.keptNM q, q.cells h.cp, q.cells h.cst, q.cells h.cr, q.cells h.cs, q.cells h.cw, q.cells h.cat, IntsAt.keptNI h.want q, kept_keptN h.k q hs⟩
theorem ItI.same {A B : World} (h : ItI w p rb n cap bs g C bw bk cb c bat ws M vp stop k A) (q : Kept (fun _ => False) A B) : ItI w p rb n cap bs g C bw bk cb c bat ws M vp stop k B := h.keptN (.of_kept q) (Nat.le_refl _)
theorem ItI.chg {A B : World} (h : ItI w p rb n cap bs g C bw bk cb c bat ws M vp stop k A) (o : ItO w.heap.size p rb bs g bw bk cb bat) (hd : 24 < w.heap.size) {ws' : Nat → Nat} (hS : SetAt B p rb n cap ws') (q : Kept (fun j => j = rb) A B) : ItI w p rb n cap bs g C bw bk cb c bat ws M vp stop k B := by
  obtain ⟨o1, o2, o3, o4, o5, o6, o7, o8, o9, o10⟩ := o
  exact ⟨⟨ws', hS⟩, h.it.keptF q (by omega) (by omega) (by omega), q.heap h.cp (by omega), q.heap h.cst (by omega), q.heap h.cr (by omega), q.heap h.cs (by omega), q.heap h.cw (by omega), q.heap h.cat (by omega), IntsAt.keptRow h.want q (by omega), h.k.trans q (fun i e => .inr (by omega))⟩
theorem ItI.tick {A : World} (h : ItI w p rb n cap bs g C bw bk cb c bat ws M vp stop k A) (o : ItO w.heap.size p rb bs g bw bk cb bat) (hd : 24 < w.heap.size) (k' : Nat) : ItI w p rb n cap bs g C bw bk cb c bat ws M vp stop k' (A.setCell ⟨bat, 0, none⟩ (.int .i64 (k' : Nat))) := by
  obtain ⟨o1, o2, o3, o4, o5, o6, o7, o8, o9, o10⟩ := o
  have q : Kept (fun j => j = bat) A (A.setCell ⟨bat, 0, none⟩ (.int .i64 (k' : Nat))) := (Kept.setCell A ⟨bat, 0, none⟩ _).mono (fun i e => .inl e)
  obtain ⟨ws', hS⟩ := h.set
  exact ⟨⟨ws', hS.kept q (by omega) (by omega)⟩, h.it.keptF q (by omega) (by omega) (by omega), q.heap h.cp (by omega), q.heap h.cst (by omega), q.heap h.cr (by omega), q.heap h.cs (by omega), q.heap h.cw (by omega), one_setCell h.cat, IntsAt.keptRow h.want q (by omega), h.k.trans q (fun i e => .inr (by omega))⟩
theorem ItI.rem {A : World} {ad : Nat → Addr} (h : ItI w p rb n cap bs g C bw bk cb c bat ws M vp stop k A) (o : ItO w.heap.size p rb bs g bw bk cb bat) (hd : 24 < w.heap.size) (hE : Errs14 w ad) (i : Int) :
    Calls Tryd.prog 15 #[.pointer (some ⟨p, 0, none⟩), .int .i64 i] A fun e W' => (∃ v, e = .returned v) ∧ Hid (ItI w p rb n cap bs g C bw bk cb c bat ws M vp stop k W') ∧ Hid (Kept (fun j => j = rb) A W') := by
  obtain ⟨ws', hS⟩ := h.set
  refine (remove_all p rb n cap ws' i A hS (hE.kept h.k)).mono ?_
  rintro e W' ⟨hv, ws2, hS2, hK⟩
  exact ⟨hv, hideD (h.chg o hd hS2 hK), hideD hK⟩
theorem ItI.add {A : World} {ad : Nat → Addr} (h : ItI w p rb n cap bs g C bw bk cb c bat ws M vp stop k A) (o : ItO w.heap.size p rb bs g bw bk cb bat) (hd : 24 < w.heap.size) (hE : Errs14 w ad) (i : Int) :
    Calls Tryd.prog 16 #[.pointer (some ⟨p, 0, none⟩), .int .i64 i] A fun e W' => (∃ v, e = .returned v) ∧ Hid (ItI w p rb n cap bs g C bw bk cb c bat ws M vp stop k W') ∧ Hid (Kept (fun j => j = rb) A W') := by
  obtain ⟨ws', hS⟩ := h.set
  refine (add_all p rb n cap ws' i A hS (hE.kept h.k)).mono ?_
  rintro e W' ⟨hv, ws2, hS2, hK⟩
  exact ⟨hv, hideD (h.chg o hd hS2 hK), hideD hK⟩
theorem ItI.at {A : World} (h : ItI w p rb n cap bs g C bw bk cb c bat ws M vp stop k A) {i x : Nat} (hx : M[i]? = some x) : A.cell? ⟨g, i, none⟩ = some (.int .i64 (x : Nat)) := by
  have hi : i < M.length := (List.getElem?_eq_some_iff.1 hx).1
  obtain ⟨b, off, e, hc⟩ := h.want (by intro e; simp at e; subst e; simp at hi)
  simp only [Option.some.injEq, Addr.mk.injEq, and_true] at e
  obtain ⟨rfl, rfl⟩ := e
  have := hc i (by simpa using hi)
  rw [Nat.zero_add, List.getElem?_map, hx] at this
  exact this
end
end Go.Proofs.YtcbhgpdookappaaDoor.Ds
