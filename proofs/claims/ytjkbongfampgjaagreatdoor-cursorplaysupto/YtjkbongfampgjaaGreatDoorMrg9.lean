import Derived.Test.YtjkbongfampgjaaGreatDoorMrg7
import Derived.Test.YtjkbongfampgjaaGreatDoorOcs
import Derived.Test.YtjkbongfampgjaaGreatDoorMrg8
namespace Go.Proofs.YtjkbongfampgjaaGreatDoor
open Go.ChangeShapes Go.WideShapes Go.ChangeAt Go.RowKit

/-- Where a cursor stands, its moves, and whether its positions have been asked for. -/
structure Cs where
  u : Nat
  m : Nat
  a : Bool
def nxs (P : List Po) (s : Cs) : Cs := if s.u ≤ P.length then ⟨s.u + 1, s.m + 1, false⟩ else s
def ads (P : List Po) (t : Int) (s : Cs) : Cs := if docU P s.u < t ∧ s.u ≤ P.length then ⟨plc P t + 1, s.m + mvU P.length s.u (plc P t), false⟩ else s
def pss (P : List Po) (s : Cs) : Cs := if s.a then s else ⟨s.u, s.m + (posU P s.u).length, true⟩
/-- A state that can come. -/
def Gs (P : List Po) (s : Cs) : Prop := Bnd P s.u s.m s.a ∧ s.u ≤ P.length + 1
theorem Gs.nxs {P : List Po} {s : Cs} (h : Gs P s) : Gs P (nxs P s) := by
  unfold Go.Proofs.YtjkbongfampgjaaGreatDoor.nxs
  split
  · rename_i hu
    have hB := h.1.adv (Nat.le_refl s.u)
    rw [mvU_next] at hB
    exact ⟨hB, by simp only; omega⟩
  · exact h
theorem Gs.ads {P : List Po} {s : Cs} {t : Int} (hg : gdl (-1) P) (h : Gs P s) : Gs P (ads P t s) := by
  unfold Go.Proofs.YtjkbongfampgjaaGreatDoor.ads
  split
  · rename_i hu
    have hl := plc_le P t
    exact ⟨h.1.adv (plc_ge hu.2 (below_doc hg hu.2 hu.1)), by simp only; omega⟩
  · exact h
theorem Gs.pss {P : List Po} {s : Cs} (h : Gs P s) : Gs P (pss P s) := by
  obtain ⟨u, m, a⟩ := s
  unfold Go.Proofs.YtjkbongfampgjaaGreatDoor.pss
  cases a with
  | true => exact h
  | false => exact ⟨h.1.pos, h.2⟩
/-- What the walk of a call leans on. -/
structure StC (W4 : World) (X : Bs) (P : List Po) (FL : List Pg) (la : Option Addr) (ad : Nat → Addr) : Prop where
  ps : PsAt W4 la FL
  pp : pol FL = P
  ok : Okp P
  er : ErQ W4 ad
  kx : Kept (fun _ => False) W4 X.w
/-- A cursor and the document's, side by side, beside a call of the script. -/
structure StQ (W4 Ws : World) (X : Bs) (cb bl rb ob : Nat) (P : List Po) (la : Option Addr) (lc : Nat) (o : Oc) (V : World) (c r : Cs) : Prop where
  cu : CuS X V cb bl P c.u c.m c.a
  rf : RfAt V rb la P.length lc r.u r.m r.a
  ow : V.heap[ob]? = some (.cells #[.int .i64 o.k, .int .i64 o.w, .int .i64 o.n] 38 (0, 0))
  kp : Kept (fun i => i = cb ∨ i = rb) Ws V
  old : Kept (fun _ => False) W4 V
  up : W4.heap.size ≤ cb ∧ cb < rb ∧ rb < ob ∧ rb < X.lo
variable {W4 Ws : World} {X : Bs} {cb bl rb ob : Nat} {P : List Po} {la : Option Addr} {lc : Nat} {o : Oc} {V V' : World} {c c' r : Cs} {FL : List Pg} {ad : Nat → Addr}
theorem StQ.later (h : StQ W4 Ws X cb bl rb ob P la lc o V c r) (k : Kept (fun _ => False) V V') : StQ W4 Ws X cb bl rb ob P la lc o V' c r :=
  ⟨h.cu.later k, k.heap h.rf (fun f => f), k.heap h.ow (fun f => f), h.kp.trans k (fun _ f => f.elim), h.old.trans k (fun _ f => f.elim), h.up⟩
theorem StQ.cur (h : StQ W4 Ws X cb bl rb ob P la lc o V c r) (hS : CuS X V' cb bl P c'.u c'.m c'.a) (k : Kept (fun i => i = cb) V V') : StQ W4 Ws X cb bl rb ob P la lc o V' c' r := by
  obtain ⟨o1, o2, o3, o4⟩ := h.up
  exact ⟨hS, k.heap h.rf (by omega), k.heap h.ow (by omega), h.kp.trans k (fun i hi => .inl (.inl hi)), h.old.trans k (fun i hi => .inr (by omega)), h.up⟩
theorem StQ.put (h : StQ W4 Ws X cb bl rb ob P la lc o V c r) (u' m' : Nat) (a' : Bool) (x : Int) (hx : x = (u' : Int) - 1) : StQ W4 Ws X cb bl rb ob P la lc o (putR V rb (.slice la P.length lc) (.int .i64 x) (.int .i64 (m' : Nat)) (.bool a')) c ⟨u', m', a'⟩ := by
  obtain ⟨o1, o2, o3, o4⟩ := h.up
  subst hx
  have k := putR_kept V rb (.slice la P.length lc) (.int .i64 ((u' : Int) - 1)) (.int .i64 (m' : Nat)) (.bool a')
  exact ⟨h.cu.young k (fun i g => by have e : i = rb := g; omega), putR_heap h.rf _ _ _ _, k.heap h.ow (by omega), h.kp.trans k (fun i hi => .inl (.inr hi)), h.old.trans k (fun i hi => .inr (by have e : i = rb := hi; omega)), h.up⟩
theorem StQ.cells (h : StQ W4 Ws X cb bl rb ob P la lc o V c r) : V.cell? ⟨ob, 0, none⟩ = some (.int .i64 o.k) ∧ V.cell? ⟨ob, 1, none⟩ = some (.int .i64 o.w) ∧ V.cell? ⟨ob, 2, none⟩ = some (.int .i64 o.n) := by
  have hc := fun j => cell_of_row V ob j _ _ _ h.ow
  refine ⟨?_, ?_, ?_⟩ <;> (rw [hc]; rfl)
theorem StQ.ps (h : StQ W4 Ws X cb bl rb ob P la lc o V c r) (k : StC W4 X P FL la ad) : PsAt V la FL := k.ps.kept h.old
theorem st_next (V : World) (k : StC W4 X P FL la ad) (g : Gs P c) (h : StQ W4 Ws X cb bl rb ob P la lc o V c r) :
    Calls Tryz.prog 14 #[.pointer (some ⟨cb, 0, none⟩)] V fun e w' => e = .returned (.int .i64 (docU P (nxs P c).u)) ∧ StQ W4 Ws X cb bl rb ob P la lc o w' (nxs P c) r := by
  have hm := g.1.small g.2 k.ok
  have hn := k.ok.hn
  unfold nxs
  split
  · rename_i hu
    refine (cnext_in V ad h.cu hu (by omega) (by omega) k.ok.hg k.ok.hl (k.er.kept k.kx)).mono ?_
    rintro e w' ⟨rfl, hS, kk⟩
    exact ⟨rfl, h.cur hS kk⟩
  · rename_i hu
    have hu2 := g.2
    refine (cnext_end V h.cu (by omega) (by omega)).mono ?_
    rintro e w' ⟨rfl, hS, kk⟩
    exact ⟨by rw [docU_last (by omega)], h.later kk⟩
theorem st_adv (V : World) (t : Int) (k : StC W4 X P FL la ad) (g : Gs P c) (h : StQ W4 Ws X cb bl rb ob P la lc o V c r) :
    Calls Tryz.prog 15 #[.pointer (some ⟨cb, 0, none⟩), .int .i64 t] V fun e w' => e = .returned (.int .i64 (docU P (ads P t c).u)) ∧ StQ W4 Ws X cb bl rb ob P la lc o w' (ads P t c) r := by
  have hm := g.1.small g.2 k.ok
  have hn := k.ok.hn
  unfold ads
  split
  · rename_i hu
    refine (cadv_in V t ad h.cu hu.2 hu.1 (by omega) (by omega) k.ok.hg k.ok.hl (k.er.kept k.kx)).mono ?_
    rintro e w' ⟨rfl, hS, kk⟩
    exact ⟨rfl, h.cur hS kk⟩
  · rename_i hu
    have hu2 := g.2
    refine (cadv_no V t h.cu (by omega) g.2 ?_).mono ?_
    · rcases Nat.lt_or_ge P.length c.u with q | q
      · exact .inr (by omega)
      · exact .inl (fun e => hu ⟨e, q⟩)
    · rintro e w' ⟨rfl, hS, kk⟩
      exact ⟨rfl, h.later kk⟩
/-- What Positions leaves beside the document's. -/
def psPost (W4 Ws : World) (X : Bs) (cb bl rb ob : Nat) (P : List Po) (la : Option Addr) (lc : Nat) (o : Oc) (V : World) (c r : Cs) (e : Ending) (w' : World) : Prop := ∃ (a : Option Addr) (cc : Nat), e = .returned (.slice a (posU P c.u).length cc) ∧ IntsAt w' a (posU P c.u) ∧ Kept (fun i => i = cb) V w' ∧ StQ W4 Ws X cb bl rb ob P la lc o w' (pss P c) r
theorem st_pos (V : World) (k : StC W4 X P FL la ad) (g : Gs P c) (h : StQ W4 Ws X cb bl rb ob P la lc o V c r) :
    Calls Tryz.prog 28 #[.pointer (some ⟨cb, 0, none⟩)] V (psPost W4 Ws X cb bl rb ob P la lc o V c r) := by
  have hm := g.1.small g.2 k.ok
  have ht := k.ok.ht
  have hp := posU_le P c.u
  obtain ⟨u, m, a⟩ := c
  simp only at hp hm
  cases a with
  | true =>
    refine (cpos_true V h.cu (by simp only; omega)).mono ?_
    rintro e w' ⟨a, cc, rfl, hI, -, hS, kk⟩
    exact ⟨a, cc, rfl, hI, kk, h.cur (c' := ⟨u, m, true⟩) hS kk⟩
  | false =>
    refine (cpos_false V h.cu (by simp only; omega) (by simp only; omega)).mono ?_
    rintro e w' ⟨a, cc, rfl, hI, -, hS, kk⟩
    exact ⟨a, cc, rfl, hI, kk, h.cur (c' := ⟨u, m + (posU P u).length, true⟩) hS kk⟩
theorem st_doc (V : World) (h : StQ W4 Ws X cb bl rb ob P la lc o V c r) : Calls Tryz.prog 11 #[.pointer (some ⟨cb, 0, none⟩)] V fun e w' => e = .returned (.int .i64 (docU P c.u)) ∧ StQ W4 Ws X cb bl rb ob P la lc o w' c r :=
  (cdocS V h.cu).mono (fun _ _ q => ⟨q.1, by rw [q.2]; exact h⟩)
theorem st_freq (V : World) (h : StQ W4 Ws X cb bl rb ob P la lc o V c r) : Calls Tryz.prog 16 #[.pointer (some ⟨cb, 0, none⟩)] V fun e w' => e = .returned (.int .i64 (((posU P c.u).length : Nat) : Int)) ∧ StQ W4 Ws X cb bl rb ob P la lc o w' c r :=
  (cfreqS V h.cu).mono (fun _ _ q => ⟨q.1, by rw [q.2]; exact h⟩)
theorem st_moves (V : World) (h : StQ W4 Ws X cb bl rb ob P la lc o V c r) : Calls Tryz.prog 10 #[.pointer (some ⟨cb, 0, none⟩)] V fun e w' => e = .returned (.int .i64 (c.m : Nat)) ∧ w' = V := cmovesS V h.cu
theorem st_docs (V : World) (h : StQ W4 Ws X cb bl rb ob P la lc o V c r) : Calls Tryz.prog 29 #[.pointer (some ⟨cb, 0, none⟩)] V fun e w' => e = .returned (.int .i64 ((P.length : Nat) : Int)) ∧ StQ W4 Ws X cb bl rb ob P la lc o w' c r := by
  obtain ⟨nb, bv, pa, pc, hh, -, -⟩ := h.cu
  exact (cdocs_any V hh).mono (fun _ _ q => ⟨q.1, by rw [q.2]; exact h⟩)
theorem ctotal_any {W0 : Bs} (W : World) {cb bl : Nat} {P : List Po} {u : Nat} {mv nb : Int} {bv : Value} {pa : Option Addr} {pc : Nat} {ask : Bool} (h : CuAt W0 W cb bl P u mv nb bv pa pc ask) : Calls Tryz.prog 31 #[.pointer (some ⟨cb, 0, none⟩)] W fun e w' => e = .returned (.int .i64 ((tot P : Nat) : Int)) ∧ w' = W := by
  have CD := hideP (total_of bl P W h.opn)
  obtain ⟨-, -, -, c3, -, -, -, -⟩ := h.cells
  clear h
  generalize tot P = n at *
  go_enter Tryz.func31, Tryz.ntmps31
  go_wp2_with (go_at_call 50; refine CD.out.mono ?_; clear CD; rintro e W1 ⟨rfl, rfl⟩)
  go_ret
  exact ⟨rfl, rfl⟩
theorem st_total (V : World) (h : StQ W4 Ws X cb bl rb ob P la lc o V c r) : Calls Tryz.prog 31 #[.pointer (some ⟨cb, 0, none⟩)] V fun e w' => e = .returned (.int .i64 ((tot P : Nat) : Int)) ∧ StQ W4 Ws X cb bl rb ob P la lc o w' c r := by
  obtain ⟨nb, bv, pa, pc, hh, -, -⟩ := h.cu
  exact (ctotal_any V hh).mono (fun _ _ q => ⟨q.1, by rw [q.2]; exact h⟩)
theorem sr_doc (V : World) (k : StC W4 X P FL la ad) (h : StQ W4 Ws X cb bl rb ob P la lc o V c r) : Calls Tryz.prog 12 #[.agg #[.slice la P.length lc, .int .i64 ((r.u : Int) - 1), .int .i64 ((r.m : Nat) : Int), .bool r.a]] V fun e w' => e = .returned (.int .i64 (docU P r.u)) ∧ StQ W4 Ws X cb bl rb ob P la lc o w' c r :=
  (rdoc_any V la lc P.length r.u r.m r.a (h.ps k) k.pp rfl).mono (fun _ _ q => ⟨q.1, h.later q.2⟩)
theorem sr_docs (V : World) (h : StQ W4 Ws X cb bl rb ob P la lc o V c r) : Calls Tryz.prog 30 #[.agg #[.slice la P.length lc, .int .i64 ((r.u : Int) - 1), .int .i64 ((r.m : Nat) : Int), .bool r.a]] V fun e w' => e = .returned (.int .i64 ((P.length : Nat) : Int)) ∧ StQ W4 Ws X cb bl rb ob P la lc o w' c r :=
  (rdocs_any V la lc P.length r.u r.m r.a).mono (fun _ _ q => ⟨q.1, h.later q.2⟩)
theorem sr_total (V : World) (k : StC W4 X P FL la ad) (h : StQ W4 Ws X cb bl rb ob P la lc o V c r) : Calls Tryz.prog 32 #[.agg #[.slice la P.length lc, .int .i64 ((r.u : Int) - 1), .int .i64 ((r.m : Nat) : Int), .bool r.a]] V fun e w' => e = .returned (.int .i64 ((tot P : Nat) : Int)) ∧ StQ W4 Ws X cb bl rb ob P la lc o w' c r :=
  (rtotal_any V la lc P.length r.u r.m r.a (h.ps k) k.pp rfl (by have := k.ok.hn; omega) (by have := k.ok.ht; omega)).mono (fun _ _ q => ⟨q.1, h.later q.2⟩)
/-- What Here leaves beside a cursor. -/
def srPost (W4 Ws : World) (X : Bs) (cb bl rb ob : Nat) (P : List Po) (la : Option Addr) (lc : Nat) (o : Oc) (c r : Cs) (e : Ending) (w' : World) : Prop := ∃ ga gc, e = .returned (.slice ga (posU P r.u).length gc) ∧ IntsAt W4 ga (posU P r.u) ∧ StQ W4 Ws X cb bl rb ob P la lc o w' c r
theorem sr_here (V : World) (k : StC W4 X P FL la ad) (h : StQ W4 Ws X cb bl rb ob P la lc o V c r) : Calls Tryz.prog 25 #[.agg #[.slice la P.length lc, .int .i64 ((r.u : Int) - 1), .int .i64 ((r.m : Nat) : Int), .bool r.a]] V (srPost W4 Ws X cb bl rb ob P la lc o c r) := by
  refine (rhere_any W4 V la lc P.length r.u r.m r.a k.ps k.pp rfl h.old).mono ?_
  rintro e w' ⟨ga, gc, h1, h2, h3⟩
  exact ⟨ga, gc, h1, h2, h.later h3⟩
theorem sr_next (V : World) (k : StC W4 X P FL la ad) (g : Gs P r) (h : StQ W4 Ws X cb bl rb ob P la lc o V c r) : Calls Tryz.prog 23 #[.agg #[.slice la P.length lc, .int .i64 ((r.u : Int) - 1), .int .i64 ((r.m : Nat) : Int), .bool r.a]] V fun e w' => e = .returned (rfv la P.length lc (nxs P r).u (nxs P r).m (nxs P r).a) ∧ StQ W4 Ws X cb bl rb ob P la lc o w' c r := by
  have hm := g.1.small g.2 k.ok
  have hn := k.ok.hn
  unfold nxs
  split
  · rename_i hu
    exact (rnext_in V la lc P.length r.u r.m r.a hu (by omega) (by omega)).mono (fun _ _ q => ⟨q.1, h.later q.2⟩)
  · rename_i hu
    exact (rnext_end V la lc P.length r.u r.m r.a (by omega)).mono (fun _ _ q => ⟨q.1, h.later q.2⟩)
theorem sr_adv (V : World) (t : Int) (k : StC W4 X P FL la ad) (g : Gs P r) (h : StQ W4 Ws X cb bl rb ob P la lc o V c r) : Calls Tryz.prog 24 #[.agg #[.slice la P.length lc, .int .i64 ((r.u : Int) - 1), .int .i64 ((r.m : Nat) : Int), .bool r.a], .int .i64 t] V fun e w' => e = .returned (rfv la P.length lc (ads P t r).u (ads P t r).m (ads P t r).a) ∧ StQ W4 Ws X cb bl rb ob P la lc o w' c r := by
  have hm := g.1.small g.2 k.ok
  have hn := k.ok.hn
  unfold ads
  split
  · rename_i hu
    exact (radv_in V la lc P.length r.u r.m r.a (h.ps k) k.pp rfl t k.ok.hg hu.2 hu.1 (by omega) (by omega)).mono (fun _ _ q => ⟨q.1, h.later q.2⟩)
  · rename_i hu
    refine (radv_no V la lc P.length r.u r.m r.a (h.ps k) k.pp rfl t ?_).mono (fun _ _ q => ⟨q.1, h.later q.2⟩)
    rcases Nat.lt_or_ge P.length r.u with q | q
    · exact .inr q
    · exact .inl (fun e => hu ⟨e, q⟩)
theorem sr_pos (V : World) (k : StC W4 X P FL la ad) (g : Gs P r) (h : StQ W4 Ws X cb bl rb ob P la lc o V c r) : Calls Tryz.prog 26 #[.agg #[.slice la P.length lc, .int .i64 ((r.u : Int) - 1), .int .i64 ((r.m : Nat) : Int), .bool r.a]] V fun e w' => e = .returned (rfv la P.length lc (pss P r).u (pss P r).m (pss P r).a) ∧ StQ W4 Ws X cb bl rb ob P la lc o w' c r := by
  have hm := g.1.small g.2 k.ok
  have ht := k.ok.ht
  have hp := posU_le P r.u
  obtain ⟨u, m, a⟩ := r
  simp only at hp hm
  cases a with
  | true => exact (rpos_true V la lc P.length u m).mono (fun _ _ q => ⟨q.1, h.later q.2⟩)
  | false => exact (rpos_false V la lc P.length u m (h.ps k) k.pp rfl (by omega) (by omega)).mono (fun _ _ q => ⟨q.1, h.later q.2⟩)
end Go.Proofs.YtjkbongfampgjaaGreatDoor
namespace Go.Proofs.YtjkbongfampgjaaGreatDoor
open Go.ChangeShapes Go.WideShapes Go.ChangeAt Go.RowKit

/-- What a call of the script leaves. -/
def stPost (Ws : World) (X : Bs) (cb bl rb : Nat) (P : List Po) (la : Option Addr) (lc : Nat) (e : Ending) (w' : World) : Prop := ∃ s : Cs, e = .returned (.bool true) ∧ Gs P s ∧ CuS X w' cb bl P s.u s.m s.a ∧ RfAt w' rb la P.length lc s.u s.m s.a ∧ Kept (fun i => i = cb ∨ i = rb) Ws w'
theorem st_start (W4 Ws : World) (X : Bs) (cb bl rb : Nat) (P : List Po) (la : Option Addr) (lc : Nat) (kk kw kn : Int) (u m : Nat) (a : Bool) (hcu : CuS X Ws cb bl P u m a) (hrf : RfAt Ws rb la P.length lc u m a) (old : Kept (fun _ => False) W4 Ws) (up : W4.heap.size ≤ cb ∧ cb < rb ∧ rb < X.lo) : StQ W4 Ws X cb bl rb Ws.heap.size P la lc ⟨kk, kw, kn⟩ (Ws.alloc (.cells #[.int .i64 kk, .int .i64 kw, .int .i64 kn] 38)) ⟨u, m, a⟩ ⟨u, m, a⟩ := by
  have kA := Kept.alloc Ws (.cells #[.int .i64 kk, .int .i64 kw, .int .i64 kn] 38)
  have hlt : rb < Ws.heap.size := lt_of_block hrf
  exact ⟨hcu.later kA, kA.heap hrf (fun f => f), heap_alloc_new Ws _, kA.mono (fun _ f => f.elim), old.trans kA (fun _ f => f.elim), up.1, up.2.1, hlt, up.2.2⟩
set_option maxRecDepth 20000 in
set_option maxHeartbeats 8000000 in
theorem step_next (W4 Ws : World) (X : Bs) (cb bl rb : Nat) (P : List Po) (FL : List Pg) (la : Option Addr) (lc : Nat) (ad : Nat → Addr) (kk kw kn : Int) (u m : Nat) (a : Bool) (k : StC W4 X P FL la ad) (g : Gs P ⟨u, m, a⟩) (hcu : CuS X Ws cb bl P u m a) (hrf : RfAt Ws rb la P.length lc u m a) (old : Kept (fun _ => False) W4 Ws) (up : W4.heap.size ≤ cb ∧ cb < rb ∧ rb < X.lo) (hk : kk = 1) : Calls Tryz.prog 9 #[.pointer (some ⟨cb, 0, none⟩), .pointer (some ⟨rb, 0, none⟩), .agg #[.int .i64 kk, .int .i64 kw, .int .i64 kn]] Ws (stPost Ws X cb bl rb P la lc) := by
  have hq := st_start W4 Ws X cb bl rb P la lc kk kw kn u m a hcu hrf old up
  obtain ⟨ob, hob⟩ : ∃ ob, ob = Ws.heap.size := ⟨_, rfl⟩
  rw [← hob] at hq
  have HOB := hideP hob
  have HQ := hideP hq
  have HC := hideP k
  have HG := hideP g
  obtain ⟨d0, d1, d2, d3⟩ := RfAt.cells hq.rf
  obtain ⟨b0, b1, b2⟩ := hq.cells
  simp only at d0 d1 d2 d3 b0 b1 b2
  clear hq hob hcu hrf old up k g
  subst hk
  obtain ⟨s1, hs1⟩ : ∃ s1, s1 = nxs P ⟨u, m, a⟩ := ⟨_, rfl⟩
  have HG1 := hideP (HG.out.nxs)
  have CN := hideP (sr_next _ HC.out HG.out HQ.out)
  have HA : Hid (∀ V, StQ W4 Ws X cb bl rb ob P la lc ⟨1, kw, kn⟩ V ⟨u, m, a⟩ s1 → Calls Tryz.prog 14 #[.pointer (some ⟨cb, 0, none⟩)] V fun e w' => e = .returned (.int .i64 (docU P s1.u)) ∧ StQ W4 Ws X cb bl rb ob P la lc ⟨1, kw, kn⟩ w' s1 s1) := hideP (fun V h => by rw [hs1] at h ⊢; exact st_next V HC.out HG.out h)
  have HB1 : Hid (∀ V, StQ W4 Ws X cb bl rb ob P la lc ⟨1, kw, kn⟩ V s1 s1 → _) := hideP (fun V h => sr_doc V HC.out h)
  rw [← hs1] at HG1 CN
  obtain ⟨u1, m1, a1⟩ := s1
  simp only [rfv] at CN HA HB1
  clear hs1
  generalize hdy : docU P u1 = dy at *
  clear hdy
  go_enter Tryz.func9, Tryz.ntmps9
  go_wp2_with (go_at_call 23; refine StpQ.go ?_)
  refine ⟨?_⟩
  refine CN.out.mono ?_
  clear CN
  rintro e V1 ⟨rfl, q1⟩
  obtain ⟨⟨z0, z1, z2, z3⟩, gz⟩ := row4 q1.rf
  simp only at z0 z1 z2 z3
  have g0 := gz 0
  have g1 := gz 1
  have g2 := gz 2
  have g3 := gz 3
  have hq2 := q1.put u1 m1 a1 ((u1 : Int) - 1) rfl
  clear gz q1 d0 d1 d2 d3 b0 b1 b2
  go_wp2_with fail
  change Code.wp _ _ _ _ (putR V1 rb (.slice la P.length lc) (.int .i64 ((u1 : Int) - 1)) (.int .i64 ((m1 : Nat) : Int)) (.bool a1))
  generalize putR V1 rb (.slice la P.length lc) (.int .i64 ((u1 : Int) - 1)) (.int .i64 ((m1 : Nat) : Int)) (.bool a1) = V2 at *
  clear z0 z1 z2 z3 g0 g1 g2 g3
  refine wp_region_held (S := fun V => RfAt V rb la P.length lc u1 m1 a1) (by kernel_rfl) ?_
  change wpAnyH _ _ _ _ _ _ _ _ (World.drew _)
  have hqd := hq2.later (Kept.drew V2)
  generalize V2.drew = V at *
  have HQd := hideP hqd
  have hS0 : (fun V => RfAt V rb la P.length lc u1 m1 a1) V := hqd.rf
  clear hqd hq2
  refine takeZ (i := 0) (d := 19) (v := .pointer (some ⟨cb, 0, none⟩)) rfl rfl (by kernel_rfl) (by kernel_rfl) (by kernel_rfl) (fun _ _ _ h => h) (Or.inl ⟨by rfl, fun W hW => ?_⟩) hS0 ?_
  · (go_simp)
  simp only [Act.put, List.setIfInBounds_toArray, List.set_cons_zero, List.set_cons_succ]
  refine takeZ (i := 2) (d := 21) (v := .pointer (some ⟨rb, 0, none⟩)) rfl rfl (by kernel_rfl) (by kernel_rfl) (by kernel_rfl) (fun _ _ _ h => h) (Or.inl ⟨by rfl, fun W hW => ?_⟩) hS0 ?_
  · (go_simp)
  simp only [Act.put, List.setIfInBounds_toArray, List.set_cons_zero, List.set_cons_succ]
  refine takeZ (i := 3) (d := 22) (v := .pointer (some ⟨rb, 0, none⟩)) rfl rfl (by kernel_rfl) (by kernel_rfl) (by kernel_rfl) (fun _ _ _ h => h) (Or.inl ⟨by rfl, fun W hW => ?_⟩) hS0 ?_
  · (go_simp)
  simp only [Act.put, List.setIfInBounds_toArray, List.set_cons_zero, List.set_cons_succ]
  refine takeZ (i := 4) (d := 23) (v := .agg #[.slice la P.length lc, .int .i64 ((u1 : Int) - 1), .int .i64 ((m1 : Nat) : Int), .bool a1]) rfl rfl (by kernel_rfl) (by kernel_rfl) (by kernel_rfl) (fun _ _ _ h => h) (Or.inl ⟨by rfl, fun W hW => ?_⟩) hS0 ?_
  · (obtain ⟨d0, d1, d2, d3⟩ := RfAt.cells hW; go_simp)
  simp only [Act.put, List.setIfInBounds_toArray, List.set_cons_zero, List.set_cons_succ]
  refine wpAnyH_all (rs := [1]) (by kernel_rfl) (by simp) ?_
  intro i hi
  obtain rfl : i = 1 := by simpa using hi
  unfold wpOp
  go_simp
  refine Or.inl ((HA.out V HQd.out).mono ?_)
  rintro e VA ⟨rfl, qA⟩
  have hVA : (fun V => RfAt V rb la P.length lc u1 m1 a1) VA := qA.rf
  refine ⟨hVA, ?_⟩
  refine wpAnyH_all (rs := [5]) (by kernel_rfl) (by simp) ?_
  intro i hi
  obtain rfl : i = 5 := by simpa using hi
  unfold wpOp
  go_simp
  refine Or.inl ((HB1.out VA qA).mono ?_)
  rintro e VB ⟨rfl, qB⟩
  have hVB : (fun V => RfAt V rb la P.length lc u1 m1 a1) VB := qB.rf
  refine ⟨hVB, ?_⟩
  refine takeZ (i := 6) (d := 25) (v := .bool true) rfl rfl (by kernel_rfl) (by kernel_rfl) (by kernel_rfl) (fun _ _ _ h => h) (Or.inl ⟨by rfl, fun W hW => ?_⟩) hVB ?_
  · (go_simp)
  simp only [Act.put, List.setIfInBounds_toArray, List.set_cons_zero, List.set_cons_succ]
  refine takeZ (i := 7) (d := 6) (v := .bool true) rfl rfl (by kernel_rfl) (by kernel_rfl) (by kernel_rfl) (fun _ _ _ h => h) (Or.inl ⟨by rfl, fun W hW => ?_⟩) hVB ?_
  · (go_simp)
  simp only [Act.put, List.setIfInBounds_toArray, List.set_cons_zero, List.set_cons_succ]
  refine wpAnyH_done (by kernel_rfl) ?_ _
  go_wp2
  go_ret
  exact ⟨⟨u1, m1, a1⟩, rfl, HG1.out, qB.cu, qB.rf, qB.kp⟩
end Go.Proofs.YtjkbongfampgjaaGreatDoor
namespace Go.Proofs.YtjkbongfampgjaaGreatDoor
open Go.ChangeShapes Go.WideShapes Go.ChangeAt Go.RowKit

set_option maxRecDepth 20000 in
set_option maxHeartbeats 8000000 in
theorem step_moves (W4 Ws : World) (X : Bs) (cb bl rb : Nat) (P : List Po) (FL : List Pg) (la : Option Addr) (lc : Nat) (ad : Nat → Addr) (kk kw kn : Int) (u m : Nat) (a : Bool) (k : StC W4 X P FL la ad) (g : Gs P ⟨u, m, a⟩) (hcu : CuS X Ws cb bl P u m a) (hrf : RfAt Ws rb la P.length lc u m a) (old : Kept (fun _ => False) W4 Ws) (up : W4.heap.size ≤ cb ∧ cb < rb ∧ rb < X.lo) (hk : kk = 6) : Calls Tryz.prog 9 #[.pointer (some ⟨cb, 0, none⟩), .pointer (some ⟨rb, 0, none⟩), .agg #[.int .i64 kk, .int .i64 kw, .int .i64 kn]] Ws (stPost Ws X cb bl rb P la lc) := by
  have hq := st_start W4 Ws X cb bl rb P la lc kk kw kn u m a hcu hrf old up
  obtain ⟨ob, hob⟩ : ∃ ob, ob = Ws.heap.size := ⟨_, rfl⟩
  rw [← hob] at hq
  have HOB := hideP hob
  have HQ := hideP hq
  have HC := hideP k
  have HG := hideP g
  obtain ⟨d0, d1, d2, d3⟩ := RfAt.cells hq.rf
  obtain ⟨b0, b1, b2⟩ := hq.cells
  simp only at d0 d1 d2 d3 b0 b1 b2
  clear hq hob hcu hrf old up k g
  subst hk
  have CM : Hid (∀ j, Calls Tryz.prog 10 #[.pointer (some ⟨cb, 0, none⟩)] ((Ws.alloc (.cells #[.int .i64 6, .int .i64 kw, .int .i64 kn] 38)).drewN j) fun e w'' => e = .returned (.int .i64 (m : Nat)) ∧ ∃ i, w'' = (Ws.alloc (.cells #[.int .i64 6, .int .i64 kw, .int .i64 kn] 38)).drewN i) := hideP (fun j => (st_moves _ (HQ.out.later (Kept.drewN _ j))).mono (fun _ _ q => ⟨q.1, j, q.2⟩))
  go_enter Tryz.func9, Tryz.ntmps9
  go_wp2_with fail
  go_quiet ((exact CM.out _))
  go_wp2
  go_ret
  have q := HQ.out.later (Kept.drewN _ nq)
  exact ⟨⟨u, m, a⟩, rfl, HG.out, q.cu, q.rf, q.kp⟩
set_option maxRecDepth 20000 in
set_option maxHeartbeats 8000000 in
theorem step_else (W4 Ws : World) (X : Bs) (cb bl rb : Nat) (P : List Po) (FL : List Pg) (la : Option Addr) (lc : Nat) (ad : Nat → Addr) (kk kw kn : Int) (u m : Nat) (a : Bool) (k : StC W4 X P FL la ad) (g : Gs P ⟨u, m, a⟩) (hcu : CuS X Ws cb bl P u m a) (hrf : RfAt Ws rb la P.length lc u m a) (old : Kept (fun _ => False) W4 Ws) (up : W4.heap.size ≤ cb ∧ cb < rb ∧ rb < X.lo) (h1 : kk ≠ 1) (h2 : kk ≠ 2) (h3 : kk ≠ 3) (h4 : kk ≠ 4) (h5 : kk ≠ 5) (h6 : kk ≠ 6) (h7 : kk ≠ 7) : Calls Tryz.prog 9 #[.pointer (some ⟨cb, 0, none⟩), .pointer (some ⟨rb, 0, none⟩), .agg #[.int .i64 kk, .int .i64 kw, .int .i64 kn]] Ws (stPost Ws X cb bl rb P la lc) := by
  have hq := st_start W4 Ws X cb bl rb P la lc kk kw kn u m a hcu hrf old up
  obtain ⟨ob, hob⟩ : ∃ ob, ob = Ws.heap.size := ⟨_, rfl⟩
  rw [← hob] at hq
  have HOB := hideP hob
  have HQ := hideP hq
  have HC := hideP k
  have HG := hideP g
  obtain ⟨d0, d1, d2, d3⟩ := RfAt.cells hq.rf
  obtain ⟨b0, b1, b2⟩ := hq.cells
  simp only at d0 d1 d2 d3 b0 b1 b2
  clear hq hob hcu hrf old up k g
  have e1 : (kk == 1) = false := by rw [beq_eq_false_iff_ne]; exact h1
  have e2 : (kk == 2) = false := by rw [beq_eq_false_iff_ne]; exact h2
  have e3 : (kk == 3) = false := by rw [beq_eq_false_iff_ne]; exact h3
  have e4 : (kk == 4) = false := by rw [beq_eq_false_iff_ne]; exact h4
  have e5 : (kk == 5) = false := by rw [beq_eq_false_iff_ne]; exact h5
  have e6 : (kk == 6) = false := by rw [beq_eq_false_iff_ne]; exact h6
  have e7 : (kk == 7) = false := by rw [beq_eq_false_iff_ne]; exact h7
  have HA : Hid (∀ V, StQ W4 Ws X cb bl rb ob P la lc ⟨kk, kw, kn⟩ V ⟨u, m, a⟩ ⟨u, m, a⟩ → _) := hideP (fun V h => st_doc V h)
  have HB1 : Hid (∀ V, StQ W4 Ws X cb bl rb ob P la lc ⟨kk, kw, kn⟩ V ⟨u, m, a⟩ ⟨u, m, a⟩ → _) := hideP (fun V h => sr_doc V HC.out h)
  simp only at HA HB1
  generalize hdy : docU P u = dy at *
  clear hdy
  go_enter Tryz.func9, Tryz.ntmps9
  go_wp2_with fail
  have hq2 := HQ.out
  generalize (Ws.alloc (.cells #[.int .i64 kk, .int .i64 kw, .int .i64 kn] 38)) = V2 at *
  clear d0 d1 d2 d3 b0 b1 b2
  refine wp_region_held (S := fun V => RfAt V rb la P.length lc u m a) (by kernel_rfl) ?_
  change wpAnyH _ _ _ _ _ _ _ _ (World.drew _)
  have hqd := hq2.later (Kept.drew V2)
  generalize V2.drew = V at *
  have HQd := hideP hqd
  have hS0 : (fun V => RfAt V rb la P.length lc u m a) V := hqd.rf
  clear hqd hq2
  refine takeZ (i := 0) (d := 125) (v := .pointer (some ⟨cb, 0, none⟩)) rfl rfl (by kernel_rfl) (by kernel_rfl) (by kernel_rfl) (fun _ _ _ h => h) (Or.inl ⟨by rfl, fun W hW => ?_⟩) hS0 ?_
  · (go_simp)
  simp only [Act.put, List.setIfInBounds_toArray, List.set_cons_zero, List.set_cons_succ]
  refine takeZ (i := 1) (d := 126) (v := .pointer (some ⟨cb, 0, none⟩)) rfl rfl (by kernel_rfl) (by kernel_rfl) (by kernel_rfl) (fun _ _ _ h => h) (Or.inl ⟨by rfl, fun W hW => ?_⟩) hS0 ?_
  · (go_simp)
  simp only [Act.put, List.setIfInBounds_toArray, List.set_cons_zero, List.set_cons_succ]
  refine takeZ (i := 2) (d := 127) (v := .pointer (some ⟨cb, 0, none⟩)) rfl rfl (by kernel_rfl) (by kernel_rfl) (by kernel_rfl) (fun _ _ _ h => h) (Or.inl ⟨by rfl, fun W hW => ?_⟩) hS0 ?_
  · (go_simp)
  simp only [Act.put, List.setIfInBounds_toArray, List.set_cons_zero, List.set_cons_succ]
  refine takeZ (i := 4) (d := 129) (v := .pointer (some ⟨rb, 0, none⟩)) rfl rfl (by kernel_rfl) (by kernel_rfl) (by kernel_rfl) (fun _ _ _ h => h) (Or.inl ⟨by rfl, fun W hW => ?_⟩) hS0 ?_
  · (go_simp)
  simp only [Act.put, List.setIfInBounds_toArray, List.set_cons_zero, List.set_cons_succ]
  refine takeZ (i := 5) (d := 130) (v := .pointer (some ⟨rb, 0, none⟩)) rfl rfl (by kernel_rfl) (by kernel_rfl) (by kernel_rfl) (fun _ _ _ h => h) (Or.inl ⟨by rfl, fun W hW => ?_⟩) hS0 ?_
  · (go_simp)
  simp only [Act.put, List.setIfInBounds_toArray, List.set_cons_zero, List.set_cons_succ]
  refine takeZ (i := 6) (d := 131) (v := .agg #[.slice la P.length lc, .int .i64 ((u : Int) - 1), .int .i64 ((m : Nat) : Int), .bool a]) rfl rfl (by kernel_rfl) (by kernel_rfl) (by kernel_rfl) (fun _ _ _ h => h) (Or.inl ⟨by rfl, fun W hW => ?_⟩) hS0 ?_
  · (obtain ⟨d0, d1, d2, d3⟩ := RfAt.cells hW; go_simp)
  simp only [Act.put, List.setIfInBounds_toArray, List.set_cons_zero, List.set_cons_succ]
  refine wpAnyH_all (rs := [3]) (by kernel_rfl) (by simp) ?_
  intro i hi
  obtain rfl : i = 3 := by simpa using hi
  unfold wpOp
  go_simp
  refine Or.inl ((HA.out V HQd.out).mono ?_)
  rintro e VA ⟨rfl, qA⟩
  have hVA : (fun V => RfAt V rb la P.length lc u m a) VA := qA.rf
  refine ⟨hVA, ?_⟩
  refine wpAnyH_all (rs := [7]) (by kernel_rfl) (by simp) ?_
  intro i hi
  obtain rfl : i = 7 := by simpa using hi
  unfold wpOp
  go_simp
  refine Or.inl ((HB1.out VA qA).mono ?_)
  rintro e VB ⟨rfl, qB⟩
  have hVB : (fun V => RfAt V rb la P.length lc u m a) VB := qB.rf
  refine ⟨hVB, ?_⟩
  refine takeZ (i := 8) (d := 133) (v := .bool true) rfl rfl (by kernel_rfl) (by kernel_rfl) (by kernel_rfl) (fun _ _ _ h => h) (Or.inl ⟨by rfl, fun W hW => ?_⟩) hVB ?_
  · (go_simp)
  simp only [Act.put, List.setIfInBounds_toArray, List.set_cons_zero, List.set_cons_succ]
  refine takeZ (i := 9) (d := 6) (v := .bool true) rfl rfl (by kernel_rfl) (by kernel_rfl) (by kernel_rfl) (fun _ _ _ h => h) (Or.inl ⟨by rfl, fun W hW => ?_⟩) hVB ?_
  · (go_simp)
  simp only [Act.put, List.setIfInBounds_toArray, List.set_cons_zero, List.set_cons_succ]
  refine wpAnyH_done (by kernel_rfl) ?_ _
  go_wp2
  go_ret
  exact ⟨⟨u, m, a⟩, rfl, HG.out, qB.cu, qB.rf, qB.kp⟩
end Go.Proofs.YtjkbongfampgjaaGreatDoor
namespace Go.Proofs.YtjkbongfampgjaaGreatDoor
open Go.ChangeShapes Go.WideShapes Go.ChangeAt Go.RowKit

set_option maxRecDepth 20000 in
set_option maxHeartbeats 8000000 in
theorem step_adv (W4 Ws : World) (X : Bs) (cb bl rb : Nat) (P : List Po) (FL : List Pg) (la : Option Addr) (lc : Nat) (ad : Nat → Addr) (kk kw kn : Int) (u m : Nat) (a : Bool) (k : StC W4 X P FL la ad) (g : Gs P ⟨u, m, a⟩) (hcu : CuS X Ws cb bl P u m a) (hrf : RfAt Ws rb la P.length lc u m a) (old : Kept (fun _ => False) W4 Ws) (up : W4.heap.size ≤ cb ∧ cb < rb ∧ rb < X.lo) (hk : kk = 2) : Calls Tryz.prog 9 #[.pointer (some ⟨cb, 0, none⟩), .pointer (some ⟨rb, 0, none⟩), .agg #[.int .i64 kk, .int .i64 kw, .int .i64 kn]] Ws (stPost Ws X cb bl rb P la lc) := by
  have hq := st_start W4 Ws X cb bl rb P la lc kk kw kn u m a hcu hrf old up
  obtain ⟨ob, hob⟩ : ∃ ob, ob = Ws.heap.size := ⟨_, rfl⟩
  rw [← hob] at hq
  have HOB := hideP hob
  have HQ := hideP hq
  have HC := hideP k
  have HG := hideP g
  obtain ⟨d0, d1, d2, d3⟩ := RfAt.cells hq.rf
  obtain ⟨b0, b1, b2⟩ := hq.cells
  simp only at d0 d1 d2 d3 b0 b1 b2
  clear hq hob hcu hrf old up k g
  subst hk
  obtain ⟨s1, hs1⟩ : ∃ s1, s1 = ads P kn ⟨u, m, a⟩ := ⟨_, rfl⟩
  have HG1 := hideP (HG.out.ads (t := kn) HC.out.ok.hg)
  have CA : Hid (∀ V, StQ W4 Ws X cb bl rb ob P la lc ⟨2, kw, kn⟩ V ⟨u, m, a⟩ ⟨u, m, a⟩ → _) := hideP (fun V h => sr_adv V kn HC.out HG.out h)
  have HA : Hid (∀ V, StQ W4 Ws X cb bl rb ob P la lc ⟨2, kw, kn⟩ V ⟨u, m, a⟩ s1 → Calls Tryz.prog 15 #[.pointer (some ⟨cb, 0, none⟩), .int .i64 kn] V fun e w' => e = .returned (.int .i64 (docU P s1.u)) ∧ StQ W4 Ws X cb bl rb ob P la lc ⟨2, kw, kn⟩ w' s1 s1) := hideP (fun V h => by rw [hs1] at h ⊢; exact st_adv V kn HC.out HG.out h)
  have HB1 : Hid (∀ V, StQ W4 Ws X cb bl rb ob P la lc ⟨2, kw, kn⟩ V s1 s1 → _) := hideP (fun V h => sr_doc V HC.out h)
  rw [← hs1] at HG1 CA
  obtain ⟨u1, m1, a1⟩ := s1
  simp only [rfv] at CA HA HB1
  clear hs1
  generalize hdy : docU P u1 = dy at *
  clear hdy
  go_enter Tryz.func9, Tryz.ntmps9
  go_wp2_with fail
  rw [← HOB.out]
  refine wp_region_held (S := fun V => V.cell? ⟨ob, 2, none⟩ = some (.int .i64 kn)) (by kernel_rfl) ?_
  change wpAnyH _ _ _ _ _ _ _ _ (World.drew _)
  have hqd := HQ.out.later (Kept.drew _)
  generalize (Ws.alloc (.cells #[.int .i64 2, .int .i64 kw, .int .i64 kn] 38)).drew = V at *
  clear d0 d1 d2 d3 b0 b1 b2
  have HQd := hideP hqd
  have hS0 : (fun V => V.cell? ⟨ob, 2, none⟩ = some (.int .i64 kn)) V := hqd.cells.2.2
  obtain ⟨d0, d1, d2, d3⟩ := RfAt.cells hqd.rf
  simp only at d0 d1 d2 d3
  clear hqd
  refine takeZ (i := 0) (d := 28) (v := .pointer (some ⟨rb, 0, none⟩)) rfl rfl (by kernel_rfl) (by kernel_rfl) (by kernel_rfl) (fun _ _ _ h => h) (Or.inl ⟨by rfl, fun W hW => ?_⟩) hS0 ?_
  · (go_simp)
  simp only [Act.put, List.setIfInBounds_toArray, List.set_cons_zero, List.set_cons_succ]
  refine takeZ (i := 1) (d := 29) (v := .pointer (some ⟨rb, 0, none⟩)) rfl rfl (by kernel_rfl) (by kernel_rfl) (by kernel_rfl) (fun _ _ _ h => h) (Or.inl ⟨by rfl, fun W hW => ?_⟩) hS0 ?_
  · (go_simp)
  simp only [Act.put, List.setIfInBounds_toArray, List.set_cons_zero, List.set_cons_succ]
  refine takeZ (i := 2) (d := 30) (v := .pointer (some ⟨rb, 0, none⟩)) rfl rfl (by kernel_rfl) (by kernel_rfl) (by kernel_rfl) (fun _ _ _ h => h) (Or.inl ⟨by rfl, fun W hW => ?_⟩) hS0 ?_
  · (go_simp)
  simp only [Act.put, List.setIfInBounds_toArray, List.set_cons_zero, List.set_cons_succ]
  refine takeZ (i := 4) (d := 32) (v := .pointer (some ⟨ob, 2, none⟩)) rfl rfl (by kernel_rfl) (by kernel_rfl) (by kernel_rfl) (fun _ _ _ h => h) (Or.inl ⟨by rfl, fun W hW => ?_⟩) hS0 ?_
  · (go_simp)
  simp only [Act.put, List.setIfInBounds_toArray, List.set_cons_zero, List.set_cons_succ]
  refine takeZ (i := 5) (d := 33) (v := .int .i64 kn) rfl rfl (by kernel_rfl) (by kernel_rfl) (by kernel_rfl) (fun _ _ _ h => h) (Or.inl ⟨by rfl, fun W hW => ?_⟩) hS0 ?_
  · (have h9 := hW; go_simp)
  simp only [Act.put, List.setIfInBounds_toArray, List.set_cons_zero, List.set_cons_succ]
  refine wpAnyH_all (rs := [3]) (by kernel_rfl) (by simp) ?_
  intro i hi
  obtain rfl : i = 3 := by simpa using hi
  unfold wpOp
  go_simp
  first | refine Or.inl ⟨hS0, ?_⟩ | refine ⟨hS0, ?_⟩ | (change wpAnyH _ _ _ _ _ _ _ _ _) | refine Or.inl ?_
  refine wpAnyH_all (rs := [6]) (by kernel_rfl) (by simp) ?_
  intro i hi
  obtain rfl : i = 6 := by simpa using hi
  unfold wpOp
  go_simp
  refine Or.inl ((CA.out V HQd.out).mono ?_)
  rintro e V1 ⟨rfl, q1⟩
  have hS1 : (fun V => V.cell? ⟨ob, 2, none⟩ = some (.int .i64 kn)) V1 := q1.cells.2.2
  refine ⟨hS1, ?_⟩
  obtain ⟨⟨z0, z1, z2, z3⟩, gz⟩ := row4 q1.rf
  simp only at z0 z1 z2 z3
  have g0 := gz 0
  have g1 := gz 1
  have g2 := gz 2
  have g3 := gz 3
  have hq2 := q1.put u1 m1 a1 ((u1 : Int) - 1) rfl
  have hS2 : (fun V => V.cell? ⟨ob, 2, none⟩ = some (.int .i64 kn)) (putR V1 rb (.slice la P.length lc) (.int .i64 ((u1 : Int) - 1)) (.int .i64 ((m1 : Nat) : Int)) (.bool a1)) := hq2.cells.2.2
  unfold putR at hS2
  clear gz q1 d0 d1 d2 d3 CA
  refine takeZ (i := 7) (d := 35) (v := .pointer (some ⟨rb, 0, none⟩)) rfl rfl (by kernel_rfl) (by kernel_rfl) (by kernel_rfl) (fun _ _ _ h => h) (Or.inl ⟨by rfl, fun W hW => ?_⟩) hS1 ?_
  · (go_simp)
  simp only [Act.put, List.setIfInBounds_toArray, List.set_cons_zero, List.set_cons_succ]
  refine wpAnyH_all (rs := [8]) (by kernel_rfl) (by simp) ?_
  intro i hi
  obtain rfl : i = 8 := by simpa using hi
  unfold wpOp
  go_simp
  first | refine Or.inl ⟨hS2, ?_⟩ | refine ⟨hS2, ?_⟩ | (change wpAnyH _ _ _ _ _ _ _ _ _) | refine Or.inl ?_
  refine wpAnyH_done (by kernel_rfl) ?_ _
  go_wp2_with fail
  change Code.wp _ _ _ _ (putR V1 rb (.slice la P.length lc) (.int .i64 ((u1 : Int) - 1)) (.int .i64 ((m1 : Nat) : Int)) (.bool a1))
  generalize putR V1 rb (.slice la P.length lc) (.int .i64 ((u1 : Int) - 1)) (.int .i64 ((m1 : Nat) : Int)) (.bool a1) = V2 at *
  clear z0 z1 z2 z3 g0 g1 g2 g3 hS0 hS1 hS2
  refine wp_region_held (S := fun V => RfAt V rb la P.length lc u1 m1 a1 ∧ V.cell? ⟨ob, 2, none⟩ = some (.int .i64 kn)) (by kernel_rfl) ?_
  change wpAnyH _ _ _ _ _ _ _ _ (World.drew _)
  have hqd := hq2.later (Kept.drew V2)
  generalize V2.drew = V at *
  have HQd := hideP hqd
  have hS0 : (fun V => RfAt V rb la P.length lc u1 m1 a1 ∧ V.cell? ⟨ob, 2, none⟩ = some (.int .i64 kn)) V := ⟨hqd.rf, hqd.cells.2.2⟩
  clear hqd hq2
  refine takeZ (i := 0) (d := 36) (v := .pointer (some ⟨cb, 0, none⟩)) rfl rfl (by kernel_rfl) (by kernel_rfl) (by kernel_rfl) (fun _ _ _ h => h) (Or.inl ⟨by rfl, fun W hW => ?_⟩) hS0 ?_
  · (go_simp)
  simp only [Act.put, List.setIfInBounds_toArray, List.set_cons_zero, List.set_cons_succ]
  refine takeZ (i := 1) (d := 37) (v := .pointer (some ⟨ob, 2, none⟩)) rfl rfl (by kernel_rfl) (by kernel_rfl) (by kernel_rfl) (fun _ _ _ h => h) (Or.inl ⟨by rfl, fun W hW => ?_⟩) hS0 ?_
  · (go_simp)
  simp only [Act.put, List.setIfInBounds_toArray, List.set_cons_zero, List.set_cons_succ]
  refine takeZ (i := 2) (d := 38) (v := .int .i64 kn) rfl rfl (by kernel_rfl) (by kernel_rfl) (by kernel_rfl) (fun _ _ _ h => h) (Or.inl ⟨by rfl, fun W hW => ?_⟩) hS0 ?_
  · (have h9 := hW.2; go_simp)
  simp only [Act.put, List.setIfInBounds_toArray, List.set_cons_zero, List.set_cons_succ]
  refine takeZ (i := 4) (d := 40) (v := .pointer (some ⟨rb, 0, none⟩)) rfl rfl (by kernel_rfl) (by kernel_rfl) (by kernel_rfl) (fun _ _ _ h => h) (Or.inl ⟨by rfl, fun W hW => ?_⟩) hS0 ?_
  · (go_simp)
  simp only [Act.put, List.setIfInBounds_toArray, List.set_cons_zero, List.set_cons_succ]
  refine takeZ (i := 5) (d := 41) (v := .pointer (some ⟨rb, 0, none⟩)) rfl rfl (by kernel_rfl) (by kernel_rfl) (by kernel_rfl) (fun _ _ _ h => h) (Or.inl ⟨by rfl, fun W hW => ?_⟩) hS0 ?_
  · (go_simp)
  simp only [Act.put, List.setIfInBounds_toArray, List.set_cons_zero, List.set_cons_succ]
  refine takeZ (i := 6) (d := 42) (v := .agg #[.slice la P.length lc, .int .i64 ((u1 : Int) - 1), .int .i64 ((m1 : Nat) : Int), .bool a1]) rfl rfl (by kernel_rfl) (by kernel_rfl) (by kernel_rfl) (fun _ _ _ h => h) (Or.inl ⟨by rfl, fun W hW => ?_⟩) hS0 ?_
  · (obtain ⟨d0, d1, d2, d3⟩ := RfAt.cells hW.1; go_simp)
  simp only [Act.put, List.setIfInBounds_toArray, List.set_cons_zero, List.set_cons_succ]
  refine wpAnyH_all (rs := [3]) (by kernel_rfl) (by simp) ?_
  intro i hi
  obtain rfl : i = 3 := by simpa using hi
  unfold wpOp
  go_simp
  refine Or.inl ((HA.out V HQd.out).mono ?_)
  rintro e VA ⟨rfl, qA⟩
  have hVA : (fun V => RfAt V rb la P.length lc u1 m1 a1 ∧ V.cell? ⟨ob, 2, none⟩ = some (.int .i64 kn)) VA := ⟨qA.rf, qA.cells.2.2⟩
  refine ⟨hVA, ?_⟩
  refine wpAnyH_all (rs := [7]) (by kernel_rfl) (by simp) ?_
  intro i hi
  obtain rfl : i = 7 := by simpa using hi
  unfold wpOp
  go_simp
  refine Or.inl ((HB1.out VA qA).mono ?_)
  rintro e VB ⟨rfl, qB⟩
  have hVB : (fun V => RfAt V rb la P.length lc u1 m1 a1 ∧ V.cell? ⟨ob, 2, none⟩ = some (.int .i64 kn)) VB := ⟨qB.rf, qB.cells.2.2⟩
  refine ⟨hVB, ?_⟩
  refine takeZ (i := 8) (d := 44) (v := .bool true) rfl rfl (by kernel_rfl) (by kernel_rfl) (by kernel_rfl) (fun _ _ _ h => h) (Or.inl ⟨by rfl, fun W hW => ?_⟩) hVB ?_
  · (go_simp)
  simp only [Act.put, List.setIfInBounds_toArray, List.set_cons_zero, List.set_cons_succ]
  refine takeZ (i := 9) (d := 6) (v := .bool true) rfl rfl (by kernel_rfl) (by kernel_rfl) (by kernel_rfl) (fun _ _ _ h => h) (Or.inl ⟨by rfl, fun W hW => ?_⟩) hVB ?_
  · (go_simp)
  simp only [Act.put, List.setIfInBounds_toArray, List.set_cons_zero, List.set_cons_succ]
  refine wpAnyH_done (by kernel_rfl) ?_ _
  go_wp2
  go_ret
  exact ⟨⟨u1, m1, a1⟩, rfl, HG1.out, qB.cu, qB.rf, qB.kp⟩
end Go.Proofs.YtjkbongfampgjaaGreatDoor
namespace Go.Proofs.YtjkbongfampgjaaGreatDoor
open Go.ChangeShapes Go.WideShapes Go.ChangeAt Go.RowKit

set_option maxRecDepth 20000 in
set_option maxHeartbeats 8000000 in
theorem step_step (W4 Ws : World) (X : Bs) (cb bl rb : Nat) (P : List Po) (FL : List Pg) (la : Option Addr) (lc : Nat) (ad : Nat → Addr) (kk kw kn : Int) (u m : Nat) (a : Bool) (k : StC W4 X P FL la ad) (g : Gs P ⟨u, m, a⟩) (hcu : CuS X Ws cb bl P u m a) (hrf : RfAt Ws rb la P.length lc u m a) (old : Kept (fun _ => False) W4 Ws) (up : W4.heap.size ≤ cb ∧ cb < rb ∧ rb < X.lo) (hk : kk = 3) : Calls Tryz.prog 9 #[.pointer (some ⟨cb, 0, none⟩), .pointer (some ⟨rb, 0, none⟩), .agg #[.int .i64 kk, .int .i64 kw, .int .i64 kn]] Ws (stPost Ws X cb bl rb P la lc) := by
  have hq := st_start W4 Ws X cb bl rb P la lc kk kw kn u m a hcu hrf old up
  obtain ⟨ob, hob⟩ : ∃ ob, ob = Ws.heap.size := ⟨_, rfl⟩
  rw [← hob] at hq
  have HOB := hideP hob
  have HQ := hideP hq
  have HC := hideP k
  have HG := hideP g
  obtain ⟨d0, d1, d2, d3⟩ := RfAt.cells hq.rf
  obtain ⟨b0, b1, b2⟩ := hq.cells
  simp only at d0 d1 d2 d3 b0 b1 b2
  clear hq hob hcu hrf old up k g
  subst hk
  obtain ⟨r, hr⟩ : ∃ r, r = kn.tmod 1000 := ⟨_, rfl⟩
  have r1 : -999 ≤ r ∧ r ≤ 999 := by
    rw [hr]
    by_cases q : kn < 0
    · have h1 : (-kn).tmod 1000 = (-kn) % 1000 := Int.tmod_eq_emod_of_nonneg (by omega)
      rw [Int.neg_tmod] at h1
      omega
    · rw [Int.tmod_eq_emod_of_nonneg (by omega)]
      omega
  obtain ⟨dA, hdA⟩ : ∃ d, d = docU P u := ⟨_, rfl⟩
  have hdb := docU_bd HC.out.ok.hg u
  rw [← hdA] at hdb
  obtain ⟨hdb1, hdb2, -⟩ := hdb
  obtain ⟨t2, ht2⟩ : ∃ t2, t2 = dA + r := ⟨_, rfl⟩
  have e3 : kn.tmod 1000 = r := hr.symm
  have e4 : dA + r = t2 := ht2.symm
  have CD : Hid (∀ V, StQ W4 Ws X cb bl rb ob P la lc ⟨3, kw, kn⟩ V ⟨u, m, a⟩ ⟨u, m, a⟩ → _) := hideP (fun V h => sr_doc V HC.out h)
  simp only [← hdA] at CD
  obtain ⟨s1, hs1⟩ : ∃ s1, s1 = ads P t2 ⟨u, m, a⟩ := ⟨_, rfl⟩
  have HG1 := hideP (HG.out.ads (t := t2) HC.out.ok.hg)
  have CA : Hid (∀ V, StQ W4 Ws X cb bl rb ob P la lc ⟨3, kw, kn⟩ V ⟨u, m, a⟩ ⟨u, m, a⟩ → _) := hideP (fun V h => sr_adv V t2 HC.out HG.out h)
  have HA : Hid (∀ V, StQ W4 Ws X cb bl rb ob P la lc ⟨3, kw, kn⟩ V ⟨u, m, a⟩ s1 → Calls Tryz.prog 15 #[.pointer (some ⟨cb, 0, none⟩), .int .i64 t2] V fun e w' => e = .returned (.int .i64 (docU P s1.u)) ∧ StQ W4 Ws X cb bl rb ob P la lc ⟨3, kw, kn⟩ w' s1 s1) := hideP (fun V h => by rw [hs1] at h ⊢; exact st_adv V t2 HC.out HG.out h)
  have HB1 : Hid (∀ V, StQ W4 Ws X cb bl rb ob P la lc ⟨3, kw, kn⟩ V s1 s1 → _) := hideP (fun V h => sr_doc V HC.out h)
  rw [← hs1] at HG1 CA
  obtain ⟨u1, m1, a1⟩ := s1
  simp only [rfv] at CA HA HB1
  clear hs1
  generalize hdy : docU P u1 = dy at *
  clear hdy hr ht2 hdA
  go_enter Tryz.func9, Tryz.ntmps9
  go_wp2_with fail
  rw [← HOB.out]
  refine wp_region_held (S := fun V => RfAt V rb la P.length lc u m a ∧ V.cell? ⟨ob, 2, none⟩ = some (.int .i64 kn)) (by kernel_rfl) ?_
  change wpAnyH _ _ _ _ _ _ _ _ (World.drew _)
  have hqd := HQ.out.later (Kept.drew _)
  generalize (Ws.alloc (.cells #[.int .i64 3, .int .i64 kw, .int .i64 kn] 38)).drew = V at *
  clear d0 d1 d2 d3 b0 b1 b2
  have HQd := hideP hqd
  have hS0 : (fun V => RfAt V rb la P.length lc u m a ∧ V.cell? ⟨ob, 2, none⟩ = some (.int .i64 kn)) V := ⟨hqd.rf, hqd.cells.2.2⟩
  clear hqd
  refine takeZ (i := 0) (d := 47) (v := .pointer (some ⟨rb, 0, none⟩)) rfl rfl (by kernel_rfl) (by kernel_rfl) (by kernel_rfl) (fun _ _ _ h => h) (Or.inl ⟨by rfl, fun W hW => ?_⟩) hS0 ?_
  · (go_simp)
  simp only [Act.put, List.setIfInBounds_toArray, List.set_cons_zero, List.set_cons_succ]
  refine takeZ (i := 1) (d := 48) (v := .pointer (some ⟨rb, 0, none⟩)) rfl rfl (by kernel_rfl) (by kernel_rfl) (by kernel_rfl) (fun _ _ _ h => h) (Or.inl ⟨by rfl, fun W hW => ?_⟩) hS0 ?_
  · (go_simp)
  simp only [Act.put, List.setIfInBounds_toArray, List.set_cons_zero, List.set_cons_succ]
  refine takeZ (i := 2) (d := 49) (v := .agg #[.slice la P.length lc, .int .i64 ((u : Int) - 1), .int .i64 ((m : Nat) : Int), .bool a]) rfl rfl (by kernel_rfl) (by kernel_rfl) (by kernel_rfl) (fun _ _ _ h => h) (Or.inl ⟨by rfl, fun W hW => ?_⟩) hS0 ?_
  · (obtain ⟨d0, d1, d2, d3⟩ := RfAt.cells hW.1; go_simp)
  simp only [Act.put, List.setIfInBounds_toArray, List.set_cons_zero, List.set_cons_succ]
  refine takeZ (i := 4) (d := 51) (v := .pointer (some ⟨ob, 2, none⟩)) rfl rfl (by kernel_rfl) (by kernel_rfl) (by kernel_rfl) (fun _ _ _ h => h) (Or.inl ⟨by rfl, fun W hW => ?_⟩) hS0 ?_
  · (go_simp)
  simp only [Act.put, List.setIfInBounds_toArray, List.set_cons_zero, List.set_cons_succ]
  refine takeZ (i := 5) (d := 52) (v := .int .i64 kn) rfl rfl (by kernel_rfl) (by kernel_rfl) (by kernel_rfl) (fun _ _ _ h => h) (Or.inl ⟨by rfl, fun W hW => ?_⟩) hS0 ?_
  · (have h9 := hW.2; go_simp)
  simp only [Act.put, List.setIfInBounds_toArray, List.set_cons_zero, List.set_cons_succ]
  refine takeZ (i := 6) (d := 53) (v := .int .i64 r) rfl rfl (by kernel_rfl) (by kernel_rfl) (by kernel_rfl) (fun _ _ _ h => h) (Or.inl ⟨by rfl, fun W hW => ?_⟩) hS0 ?_
  · (go_simp)
  simp only [Act.put, List.setIfInBounds_toArray, List.set_cons_zero, List.set_cons_succ]
  refine wpAnyH_all (rs := [3]) (by kernel_rfl) (by simp) ?_
  intro i hi
  obtain rfl : i = 3 := by simpa using hi
  unfold wpOp
  go_simp
  refine Or.inl ((CD.out V HQd.out).mono ?_)
  rintro e V0 ⟨rfl, q0⟩
  have hS1 : (fun V => RfAt V rb la P.length lc u m a ∧ V.cell? ⟨ob, 2, none⟩ = some (.int .i64 kn)) V0 := ⟨q0.rf, q0.cells.2.2⟩
  refine ⟨hS1, ?_⟩
  refine takeZ (i := 7) (d := 54) (v := .int .i64 t2) rfl rfl (by kernel_rfl) (by kernel_rfl) (by kernel_rfl) (fun _ _ _ h => h) (Or.inl ⟨by rfl, fun W hW => ?_⟩) hS1 ?_
  · (go_simp; first | done | (rw [e4, IntKind.wrap_i64]; omega) | (rw [IntKind.wrap_i64]; omega))
  simp only [Act.put, List.setIfInBounds_toArray, List.set_cons_zero, List.set_cons_succ]
  refine takeZ (i := 8) (d := 7) (v := .int .i64 t2) rfl rfl (by kernel_rfl) (by kernel_rfl) (by kernel_rfl) (fun _ _ _ h => h) (Or.inl ⟨by rfl, fun W hW => ?_⟩) hS1 ?_
  · (go_simp)
  simp only [Act.put, List.setIfInBounds_toArray, List.set_cons_zero, List.set_cons_succ]
  refine wpAnyH_done (by kernel_rfl) ?_ _
  obtain ⟨d0, d1, d2, d3⟩ := RfAt.cells q0.rf
  simp only at d0 d1 d2 d3
  have HQ0 := hideP q0
  clear hS0 hS1 q0 CD e3 e4
  go_wp2_with (go_at_call 24; refine StpQ.go ?_)
  refine ⟨?_⟩
  refine (CA.out V0 HQ0.out).mono ?_
  rintro e V1 ⟨rfl, q1⟩
  obtain ⟨⟨z0, z1, z2, z3⟩, gz⟩ := row4 q1.rf
  simp only at z0 z1 z2 z3
  have g0 := gz 0
  have g1 := gz 1
  have g2 := gz 2
  have g3 := gz 3
  have hq2 := q1.put u1 m1 a1 ((u1 : Int) - 1) rfl
  clear gz q1 d0 d1 d2 d3
  go_wp2_with fail
  change Code.wp _ _ _ _ (putR V1 rb (.slice la P.length lc) (.int .i64 ((u1 : Int) - 1)) (.int .i64 ((m1 : Nat) : Int)) (.bool a1))
  generalize putR V1 rb (.slice la P.length lc) (.int .i64 ((u1 : Int) - 1)) (.int .i64 ((m1 : Nat) : Int)) (.bool a1) = V2 at *
  clear z0 z1 z2 z3 g0 g1 g2 g3
  refine wp_region_held (S := fun V => RfAt V rb la P.length lc u1 m1 a1) (by kernel_rfl) ?_
  change wpAnyH _ _ _ _ _ _ _ _ (World.drew _)
  have hqd := hq2.later (Kept.drew V2)
  generalize V2.drew = V at *
  have HQd := hideP hqd
  have hS0 : (fun V => RfAt V rb la P.length lc u1 m1 a1) V := hqd.rf
  clear hqd hq2
  refine takeZ (i := 0) (d := 62) (v := .pointer (some ⟨cb, 0, none⟩)) rfl rfl (by kernel_rfl) (by kernel_rfl) (by kernel_rfl) (fun _ _ _ h => h) (Or.inl ⟨by rfl, fun W hW => ?_⟩) hS0 ?_
  · (go_simp)
  simp only [Act.put, List.setIfInBounds_toArray, List.set_cons_zero, List.set_cons_succ]
  refine takeZ (i := 1) (d := 63) (v := .int .i64 t2) rfl rfl (by kernel_rfl) (by kernel_rfl) (by kernel_rfl) (fun _ _ _ h => h) (Or.inl ⟨by rfl, fun W hW => ?_⟩) hS0 ?_
  · (go_simp)
  simp only [Act.put, List.setIfInBounds_toArray, List.set_cons_zero, List.set_cons_succ]
  refine takeZ (i := 3) (d := 65) (v := .pointer (some ⟨rb, 0, none⟩)) rfl rfl (by kernel_rfl) (by kernel_rfl) (by kernel_rfl) (fun _ _ _ h => h) (Or.inl ⟨by rfl, fun W hW => ?_⟩) hS0 ?_
  · (go_simp)
  simp only [Act.put, List.setIfInBounds_toArray, List.set_cons_zero, List.set_cons_succ]
  refine takeZ (i := 4) (d := 66) (v := .pointer (some ⟨rb, 0, none⟩)) rfl rfl (by kernel_rfl) (by kernel_rfl) (by kernel_rfl) (fun _ _ _ h => h) (Or.inl ⟨by rfl, fun W hW => ?_⟩) hS0 ?_
  · (go_simp)
  simp only [Act.put, List.setIfInBounds_toArray, List.set_cons_zero, List.set_cons_succ]
  refine takeZ (i := 5) (d := 67) (v := .agg #[.slice la P.length lc, .int .i64 ((u1 : Int) - 1), .int .i64 ((m1 : Nat) : Int), .bool a1]) rfl rfl (by kernel_rfl) (by kernel_rfl) (by kernel_rfl) (fun _ _ _ h => h) (Or.inl ⟨by rfl, fun W hW => ?_⟩) hS0 ?_
  · (obtain ⟨d0, d1, d2, d3⟩ := RfAt.cells hW; go_simp)
  simp only [Act.put, List.setIfInBounds_toArray, List.set_cons_zero, List.set_cons_succ]
  refine wpAnyH_all (rs := [2]) (by kernel_rfl) (by simp) ?_
  intro i hi
  obtain rfl : i = 2 := by simpa using hi
  unfold wpOp
  go_simp
  refine Or.inl ((HA.out V HQd.out).mono ?_)
  rintro e VA ⟨rfl, qA⟩
  have hVA : (fun V => RfAt V rb la P.length lc u1 m1 a1) VA := qA.rf
  refine ⟨hVA, ?_⟩
  refine wpAnyH_all (rs := [6]) (by kernel_rfl) (by simp) ?_
  intro i hi
  obtain rfl : i = 6 := by simpa using hi
  unfold wpOp
  go_simp
  refine Or.inl ((HB1.out VA qA).mono ?_)
  rintro e VB ⟨rfl, qB⟩
  have hVB : (fun V => RfAt V rb la P.length lc u1 m1 a1) VB := qB.rf
  refine ⟨hVB, ?_⟩
  refine takeZ (i := 7) (d := 69) (v := .bool true) rfl rfl (by kernel_rfl) (by kernel_rfl) (by kernel_rfl) (fun _ _ _ h => h) (Or.inl ⟨by rfl, fun W hW => ?_⟩) hVB ?_
  · (go_simp)
  simp only [Act.put, List.setIfInBounds_toArray, List.set_cons_zero, List.set_cons_succ]
  refine takeZ (i := 8) (d := 6) (v := .bool true) rfl rfl (by kernel_rfl) (by kernel_rfl) (by kernel_rfl) (fun _ _ _ h => h) (Or.inl ⟨by rfl, fun W hW => ?_⟩) hVB ?_
  · (go_simp)
  simp only [Act.put, List.setIfInBounds_toArray, List.set_cons_zero, List.set_cons_succ]
  refine wpAnyH_done (by kernel_rfl) ?_ _
  go_wp2
  go_ret
  exact ⟨⟨u1, m1, a1⟩, rfl, HG1.out, qB.cu, qB.rf, qB.kp⟩
end Go.Proofs.YtjkbongfampgjaaGreatDoor
namespace Go.Proofs.YtjkbongfampgjaaGreatDoor
open Go.ChangeShapes Go.WideShapes Go.ChangeAt Go.RowKit

set_option maxRecDepth 20000 in
set_option maxHeartbeats 8000000 in
theorem step_freq (W4 Ws : World) (X : Bs) (cb bl rb : Nat) (P : List Po) (FL : List Pg) (la : Option Addr) (lc : Nat) (ad : Nat → Addr) (kk kw kn : Int) (u m : Nat) (a : Bool) (k : StC W4 X P FL la ad) (g : Gs P ⟨u, m, a⟩) (hcu : CuS X Ws cb bl P u m a) (hrf : RfAt Ws rb la P.length lc u m a) (old : Kept (fun _ => False) W4 Ws) (up : W4.heap.size ≤ cb ∧ cb < rb ∧ rb < X.lo) (hk : kk = 4) : Calls Tryz.prog 9 #[.pointer (some ⟨cb, 0, none⟩), .pointer (some ⟨rb, 0, none⟩), .agg #[.int .i64 kk, .int .i64 kw, .int .i64 kn]] Ws (stPost Ws X cb bl rb P la lc) := by
  have hq := st_start W4 Ws X cb bl rb P la lc kk kw kn u m a hcu hrf old up
  obtain ⟨ob, hob⟩ : ∃ ob, ob = Ws.heap.size := ⟨_, rfl⟩
  rw [← hob] at hq
  have HOB := hideP hob
  have HQ := hideP hq
  have HC := hideP k
  have HG := hideP g
  obtain ⟨d0, d1, d2, d3⟩ := RfAt.cells hq.rf
  obtain ⟨b0, b1, b2⟩ := hq.cells
  simp only at d0 d1 d2 d3 b0 b1 b2
  clear hq hob hcu hrf old up k g
  subst hk
  have HA : Hid (∀ V, StQ W4 Ws X cb bl rb ob P la lc ⟨4, kw, kn⟩ V ⟨u, m, a⟩ ⟨u, m, a⟩ → _) := hideP (fun V h => st_freq V h)
  have HH : Hid (∀ V, StQ W4 Ws X cb bl rb ob P la lc ⟨4, kw, kn⟩ V ⟨u, m, a⟩ ⟨u, m, a⟩ → Calls Tryz.prog 25 #[.agg #[.slice la P.length lc, .int .i64 ((u : Int) - 1), .int .i64 ((m : Nat) : Int), .bool a]] V fun e w' => ∃ ga gc, e = .returned (.slice ga (posU P u).length gc) ∧ IntsAt W4 ga (posU P u) ∧ StQ W4 Ws X cb bl rb ob P la lc ⟨4, kw, kn⟩ w' ⟨u, m, a⟩ ⟨u, m, a⟩) := hideP (fun V h => sr_here V HC.out h)
  simp only at HA
  generalize hpl : (posU P u).length = pl at *
  clear hpl
  go_enter Tryz.func9, Tryz.ntmps9
  go_wp2_with fail
  rw [← HOB.out]
  refine wp_region_held (S := fun V => RfAt V rb la P.length lc u m a) (by kernel_rfl) ?_
  change wpAnyH _ _ _ _ _ _ _ _ (World.drew _)
  have hqd := HQ.out.later (Kept.drew _)
  generalize (Ws.alloc (.cells #[.int .i64 4, .int .i64 kw, .int .i64 kn] 38)).drew = V at *
  clear d0 d1 d2 d3 b0 b1 b2
  have HQd := hideP hqd
  have hS0 : (fun V => RfAt V rb la P.length lc u m a) V := hqd.rf
  clear hqd
  refine takeZ (i := 0) (d := 72) (v := .pointer (some ⟨cb, 0, none⟩)) rfl rfl (by kernel_rfl) (by kernel_rfl) (by kernel_rfl) (fun _ _ _ h => h) (Or.inl ⟨by rfl, fun W hW => ?_⟩) hS0 ?_
  · (go_simp)
  simp only [Act.put, List.setIfInBounds_toArray, List.set_cons_zero, List.set_cons_succ]
  refine takeZ (i := 2) (d := 74) (v := .pointer (some ⟨rb, 0, none⟩)) rfl rfl (by kernel_rfl) (by kernel_rfl) (by kernel_rfl) (fun _ _ _ h => h) (Or.inl ⟨by rfl, fun W hW => ?_⟩) hS0 ?_
  · (go_simp)
  simp only [Act.put, List.setIfInBounds_toArray, List.set_cons_zero, List.set_cons_succ]
  refine takeZ (i := 3) (d := 75) (v := .pointer (some ⟨rb, 0, none⟩)) rfl rfl (by kernel_rfl) (by kernel_rfl) (by kernel_rfl) (fun _ _ _ h => h) (Or.inl ⟨by rfl, fun W hW => ?_⟩) hS0 ?_
  · (go_simp)
  simp only [Act.put, List.setIfInBounds_toArray, List.set_cons_zero, List.set_cons_succ]
  refine takeZ (i := 4) (d := 76) (v := .agg #[.slice la P.length lc, .int .i64 ((u : Int) - 1), .int .i64 ((m : Nat) : Int), .bool a]) rfl rfl (by kernel_rfl) (by kernel_rfl) (by kernel_rfl) (fun _ _ _ h => h) (Or.inl ⟨by rfl, fun W hW => ?_⟩) hS0 ?_
  · (obtain ⟨d0, d1, d2, d3⟩ := RfAt.cells hW; go_simp)
  simp only [Act.put, List.setIfInBounds_toArray, List.set_cons_zero, List.set_cons_succ]
  refine wpAnyH_all (rs := [1]) (by kernel_rfl) (by simp) ?_
  intro i hi
  obtain rfl : i = 1 := by simpa using hi
  unfold wpOp
  go_simp
  refine Or.inl ((HA.out V HQd.out).mono ?_)
  rintro e VA ⟨rfl, qA⟩
  have hSA : (fun V => RfAt V rb la P.length lc u m a) VA := qA.rf
  refine ⟨hSA, ?_⟩
  refine wpAnyH_all (rs := [5]) (by kernel_rfl) (by simp) ?_
  intro i hi
  obtain rfl : i = 5 := by simpa using hi
  unfold wpOp
  go_simp
  refine Or.inl ((HH.out VA qA).mono ?_)
  rintro e VB ⟨ga, gc, rfl, hI, qB⟩
  have hSB : (fun V => RfAt V rb la P.length lc u m a) VB := qB.rf
  refine ⟨hSB, ?_⟩
  refine takeZ (i := 6) (d := 78) (v := .int .i64 (pl : Nat)) rfl rfl (by kernel_rfl) (by kernel_rfl) (by kernel_rfl) (fun _ _ _ h => h) (Or.inl ⟨by rfl, fun W hW => ?_⟩) hSB ?_
  · (go_simp)
  simp only [Act.put, List.setIfInBounds_toArray, List.set_cons_zero, List.set_cons_succ]
  refine takeZ (i := 7) (d := 79) (v := .bool true) rfl rfl (by kernel_rfl) (by kernel_rfl) (by kernel_rfl) (fun _ _ _ h => h) (Or.inl ⟨by rfl, fun W hW => ?_⟩) hSB ?_
  · (go_simp)
  simp only [Act.put, List.setIfInBounds_toArray, List.set_cons_zero, List.set_cons_succ]
  refine takeZ (i := 8) (d := 6) (v := .bool true) rfl rfl (by kernel_rfl) (by kernel_rfl) (by kernel_rfl) (fun _ _ _ h => h) (Or.inl ⟨by rfl, fun W hW => ?_⟩) hSB ?_
  · (go_simp)
  simp only [Act.put, List.setIfInBounds_toArray, List.set_cons_zero, List.set_cons_succ]
  refine wpAnyH_done (by kernel_rfl) ?_ _
  go_wp2
  go_ret
  exact ⟨⟨u, m, a⟩, rfl, HG.out, qB.cu, qB.rf, qB.kp⟩
end Go.Proofs.YtjkbongfampgjaaGreatDoor
namespace Go.Proofs.YtjkbongfampgjaaGreatDoor
open Go.ChangeShapes Go.WideShapes Go.ChangeAt Go.RowKit

set_option maxRecDepth 20000 in
set_option maxHeartbeats 8000000 in
theorem step_pos (W4 Ws : World) (X : Bs) (cb bl rb : Nat) (P : List Po) (FL : List Pg) (la : Option Addr) (lc : Nat) (ad : Nat → Addr) (kk kw kn : Int) (u m : Nat) (a : Bool) (k : StC W4 X P FL la ad) (g : Gs P ⟨u, m, a⟩) (hcu : CuS X Ws cb bl P u m a) (hrf : RfAt Ws rb la P.length lc u m a) (old : Kept (fun _ => False) W4 Ws) (up : W4.heap.size ≤ cb ∧ cb < rb ∧ rb < X.lo) (hk : kk = 5) : Calls Tryz.prog 9 #[.pointer (some ⟨cb, 0, none⟩), .pointer (some ⟨rb, 0, none⟩), .agg #[.int .i64 kk, .int .i64 kw, .int .i64 kn]] Ws (stPost Ws X cb bl rb P la lc) := by
  have hq := st_start W4 Ws X cb bl rb P la lc kk kw kn u m a hcu hrf old up
  obtain ⟨ob, hob⟩ : ∃ ob, ob = Ws.heap.size := ⟨_, rfl⟩
  rw [← hob] at hq
  have HOB := hideP hob
  have HQ := hideP hq
  have HC := hideP k
  have HG := hideP g
  obtain ⟨d0, d1, d2, d3⟩ := RfAt.cells hq.rf
  obtain ⟨b0, b1, b2⟩ := hq.cells
  simp only at d0 d1 d2 d3 b0 b1 b2
  clear hq hob hcu hrf old up k g
  subst hk
  obtain ⟨s1, hs1⟩ : ∃ s1, s1 = pss P ⟨u, m, a⟩ := ⟨_, rfl⟩
  have HG1 := hideP (HG.out.pss)
  have CH : Hid (Calls Tryz.prog 25 #[.agg #[.slice la P.length lc, .int .i64 ((u : Int) - 1), .int .i64 ((m : Nat) : Int), .bool a]] (Ws.alloc (.cells #[.int .i64 5, .int .i64 kw, .int .i64 kn] 38)) fun e w' => ∃ ga gc, e = .returned (.slice ga (posU P u).length gc) ∧ IntsAt W4 ga (posU P u) ∧ StQ W4 Ws X cb bl rb ob P la lc ⟨5, kw, kn⟩ w' ⟨u, m, a⟩ ⟨u, m, a⟩) := hideP (sr_here _ HC.out HQ.out)
  have CP : Hid (∀ V, StQ W4 Ws X cb bl rb ob P la lc ⟨5, kw, kn⟩ V ⟨u, m, a⟩ ⟨u, m, a⟩ → _) := hideP (fun V h => sr_pos V HC.out HG.out h)
  have CQ : Hid (∀ V, StQ W4 Ws X cb bl rb ob P la lc ⟨5, kw, kn⟩ V ⟨u, m, a⟩ s1 → Calls Tryz.prog 28 #[.pointer (some ⟨cb, 0, none⟩)] V fun e w' => ∃ (a' : Option Addr) (cc : Nat), e = .returned (.slice a' (posU P u).length cc) ∧ IntsAt w' a' (posU P u) ∧ Kept (fun i => i = cb) V w' ∧ StQ W4 Ws X cb bl rb ob P la lc ⟨5, kw, kn⟩ w' s1 s1) := hideP (fun V h => by rw [hs1] at h ⊢; exact st_pos V HC.out HG.out h)
  rw [← hs1] at HG1 CP
  obtain ⟨u1, m1, a1⟩ := s1
  simp only [rfv] at CP
  obtain ⟨l, hl⟩ : ∃ l, l = posU P u := ⟨_, rfl⟩
  have hlb : l.length ≤ 5242880 := by
    rw [hl]
    have h1 := posU_le P u
    have h2 := HC.out.ok.ht
    omega
  simp only [← hl] at CH CQ
  clear hs1 hl
  obtain ⟨pl, hpl⟩ : ∃ pl, pl = l.length := ⟨_, rfl⟩
  simp only [← hpl] at CH CQ
  have HPL := hideP hpl
  clear hpl
  go_enter Tryz.func9, Tryz.ntmps9
  go_wp2_with (go_at_call 25; refine StpQ.go ?_)
  refine ⟨?_⟩
  refine CH.out.mono ?_
  clear CH d0 d1 d2 d3 b0 b1 b2
  rintro e V0 ⟨ga, gc, rfl, hI, q0⟩
  obtain ⟨d0, d1, d2, d3⟩ := RfAt.cells q0.rf
  simp only at d0 d1 d2 d3
  have HI := hideP hI
  have HQ0 := hideP q0
  clear hI q0
  go_wp2_with (go_at_call 26; refine StpQ.go ?_)
  refine ⟨?_⟩
  refine (CP.out V0 HQ0.out).mono ?_
  rintro e V1 ⟨rfl, q1⟩
  obtain ⟨⟨z0, z1, z2, z3⟩, gz⟩ := row4 q1.rf
  simp only at z0 z1 z2 z3
  have g0 := gz 0
  have g1 := gz 1
  have g2 := gz 2
  have g3 := gz 3
  have hq2 := q1.put u1 m1 a1 ((u1 : Int) - 1) rfl
  have HQ2 := hideP hq2
  clear gz q1 d0 d1 d2 d3 hq2
  go_wp2_with (go_at_call 28; refine StpQ.go ?_)
  refine ⟨?_⟩
  refine (CQ.out _ HQ2.out).mono ?_
  rintro e V3 ⟨xa, xc, rfl, hIx, k3, q3⟩
  have CS := hideP (sameInts_true l xa ga xc gc V3 hIx (HI.out.kept q3.old) (by omega))
  rw [← HPL.out] at CS
  have HQ3 := hideP q3
  clear hIx k3 q3 z0 z1 z2 z3 g0 g1 g2 g3
  go_wp2_with (go_at_call 27; refine StpQ.go ?_)
  refine ⟨?_⟩
  refine CS.out.mono ?_
  rintro e V4 ⟨rfl, n4, rfl⟩
  go_wp2
  go_ret
  have q4 := HQ3.out.later (Kept.drewN V3 n4)
  exact ⟨⟨u1, m1, a1⟩, rfl, HG1.out, q4.cu, q4.rf, q4.kp⟩
end Go.Proofs.YtjkbongfampgjaaGreatDoor
namespace Go.Proofs.YtjkbongfampgjaaGreatDoor
open Go.ChangeShapes Go.WideShapes Go.ChangeAt Go.RowKit

set_option maxRecDepth 20000 in
set_option maxHeartbeats 8000000 in
theorem step_size (W4 Ws : World) (X : Bs) (cb bl rb : Nat) (P : List Po) (FL : List Pg) (la : Option Addr) (lc : Nat) (ad : Nat → Addr) (kk kw kn : Int) (u m : Nat) (a : Bool) (k : StC W4 X P FL la ad) (g : Gs P ⟨u, m, a⟩) (hcu : CuS X Ws cb bl P u m a) (hrf : RfAt Ws rb la P.length lc u m a) (old : Kept (fun _ => False) W4 Ws) (up : W4.heap.size ≤ cb ∧ cb < rb ∧ rb < X.lo) (hk : kk = 7) : Calls Tryz.prog 9 #[.pointer (some ⟨cb, 0, none⟩), .pointer (some ⟨rb, 0, none⟩), .agg #[.int .i64 kk, .int .i64 kw, .int .i64 kn]] Ws (stPost Ws X cb bl rb P la lc) := by
  have hq := st_start W4 Ws X cb bl rb P la lc kk kw kn u m a hcu hrf old up
  obtain ⟨ob, hob⟩ : ∃ ob, ob = Ws.heap.size := ⟨_, rfl⟩
  rw [← hob] at hq
  have HOB := hideP hob
  have HQ := hideP hq
  have HC := hideP k
  have HG := hideP g
  obtain ⟨d0, d1, d2, d3⟩ := RfAt.cells hq.rf
  obtain ⟨b0, b1, b2⟩ := hq.cells
  simp only at d0 d1 d2 d3 b0 b1 b2
  clear hq hob hcu hrf old up k g
  subst hk
  have H1 : Hid (∀ V, StQ W4 Ws X cb bl rb ob P la lc ⟨7, kw, kn⟩ V ⟨u, m, a⟩ ⟨u, m, a⟩ → _) := hideP (fun V h => st_docs V h)
  have H2 : Hid (∀ V, StQ W4 Ws X cb bl rb ob P la lc ⟨7, kw, kn⟩ V ⟨u, m, a⟩ ⟨u, m, a⟩ → _) := hideP (fun V h => sr_docs V h)
  have H3 : Hid (∀ V, StQ W4 Ws X cb bl rb ob P la lc ⟨7, kw, kn⟩ V ⟨u, m, a⟩ ⟨u, m, a⟩ → _) := hideP (fun V h => st_total V h)
  have H4 : Hid (∀ V, StQ W4 Ws X cb bl rb ob P la lc ⟨7, kw, kn⟩ V ⟨u, m, a⟩ ⟨u, m, a⟩ → _) := hideP (fun V h => sr_total V HC.out h)
  simp only at H1 H2 H3 H4
  go_enter Tryz.func9, Tryz.ntmps9
  go_wp2_with fail
  rw [← HOB.out]
  refine wp_region_held (S := fun V => RfAt V rb la P.length lc u m a) (by kernel_rfl) ?_
  change wpAnyH _ _ _ _ _ _ _ _ (World.drew _)
  have hqd := HQ.out.later (Kept.drew _)
  generalize (Ws.alloc (.cells #[.int .i64 7, .int .i64 kw, .int .i64 kn] 38)).drew = V at *
  clear d0 d1 d2 d3 b0 b1 b2
  have HQd := hideP hqd
  have hS0 : (fun V => RfAt V rb la P.length lc u m a) V := hqd.rf
  clear hqd
  refine takeZ (i := 0) (d := 109) (v := .pointer (some ⟨cb, 0, none⟩)) rfl rfl (by kernel_rfl) (by kernel_rfl) (by kernel_rfl) (fun _ _ _ h => h) (Or.inl ⟨by rfl, fun W hW => ?_⟩) hS0 ?_
  · (go_simp)
  simp only [Act.put, List.setIfInBounds_toArray, List.set_cons_zero, List.set_cons_succ]
  refine takeZ (i := 2) (d := 111) (v := .pointer (some ⟨rb, 0, none⟩)) rfl rfl (by kernel_rfl) (by kernel_rfl) (by kernel_rfl) (fun _ _ _ h => h) (Or.inl ⟨by rfl, fun W hW => ?_⟩) hS0 ?_
  · (go_simp)
  simp only [Act.put, List.setIfInBounds_toArray, List.set_cons_zero, List.set_cons_succ]
  refine takeZ (i := 3) (d := 112) (v := .pointer (some ⟨rb, 0, none⟩)) rfl rfl (by kernel_rfl) (by kernel_rfl) (by kernel_rfl) (fun _ _ _ h => h) (Or.inl ⟨by rfl, fun W hW => ?_⟩) hS0 ?_
  · (go_simp)
  simp only [Act.put, List.setIfInBounds_toArray, List.set_cons_zero, List.set_cons_succ]
  refine takeZ (i := 4) (d := 113) (v := .agg #[.slice la P.length lc, .int .i64 ((u : Int) - 1), .int .i64 ((m : Nat) : Int), .bool a]) rfl rfl (by kernel_rfl) (by kernel_rfl) (by kernel_rfl) (fun _ _ _ h => h) (Or.inl ⟨by rfl, fun W hW => ?_⟩) hS0 ?_
  · (obtain ⟨d0, d1, d2, d3⟩ := RfAt.cells hW; go_simp)
  simp only [Act.put, List.setIfInBounds_toArray, List.set_cons_zero, List.set_cons_succ]
  refine wpAnyH_all (rs := [1]) (by kernel_rfl) (by simp) ?_
  intro i hi
  obtain rfl : i = 1 := by simpa using hi
  unfold wpOp
  go_simp
  refine Or.inl ((H1.out V HQd.out).mono ?_)
  rintro e VA ⟨rfl, qA⟩
  have hVA : (fun V => RfAt V rb la P.length lc u m a) VA := qA.rf
  refine ⟨hVA, ?_⟩
  refine wpAnyH_all (rs := [5]) (by kernel_rfl) (by simp) ?_
  intro i hi
  obtain rfl : i = 5 := by simpa using hi
  unfold wpOp
  go_simp
  refine Or.inl ((H2.out VA qA).mono ?_)
  rintro e VB ⟨rfl, qB⟩
  have hVB : (fun V => RfAt V rb la P.length lc u m a) VB := qB.rf
  refine ⟨hVB, ?_⟩
  refine takeZ (i := 6) (d := 115) (v := .bool true) rfl rfl (by kernel_rfl) (by kernel_rfl) (by kernel_rfl) (fun _ _ _ h => h) (Or.inl ⟨by rfl, fun W hW => ?_⟩) hVB ?_
  · (go_simp)
  simp only [Act.put, List.setIfInBounds_toArray, List.set_cons_zero, List.set_cons_succ]
  refine takeZ (i := 7) (d := 116) (v := .bool true) rfl rfl (by kernel_rfl) (by kernel_rfl) (by kernel_rfl) (fun _ _ _ h => h) (Or.inl ⟨by rfl, fun W hW => ?_⟩) hVB ?_
  · (go_simp)
  simp only [Act.put, List.setIfInBounds_toArray, List.set_cons_zero, List.set_cons_succ]
  refine takeZ (i := 8) (d := 117) (v := .pointer (some ⟨cb, 0, none⟩)) rfl rfl (by kernel_rfl) (by kernel_rfl) (by kernel_rfl) (fun _ _ _ h => h) (Or.inl ⟨by rfl, fun W hW => ?_⟩) hVB ?_
  · (go_simp)
  simp only [Act.put, List.setIfInBounds_toArray, List.set_cons_zero, List.set_cons_succ]
  refine takeZ (i := 10) (d := 119) (v := .pointer (some ⟨rb, 0, none⟩)) rfl rfl (by kernel_rfl) (by kernel_rfl) (by kernel_rfl) (fun _ _ _ h => h) (Or.inl ⟨by rfl, fun W hW => ?_⟩) hVB ?_
  · (go_simp)
  simp only [Act.put, List.setIfInBounds_toArray, List.set_cons_zero, List.set_cons_succ]
  refine takeZ (i := 11) (d := 120) (v := .pointer (some ⟨rb, 0, none⟩)) rfl rfl (by kernel_rfl) (by kernel_rfl) (by kernel_rfl) (fun _ _ _ h => h) (Or.inl ⟨by rfl, fun W hW => ?_⟩) hVB ?_
  · (go_simp)
  simp only [Act.put, List.setIfInBounds_toArray, List.set_cons_zero, List.set_cons_succ]
  refine takeZ (i := 12) (d := 121) (v := .agg #[.slice la P.length lc, .int .i64 ((u : Int) - 1), .int .i64 ((m : Nat) : Int), .bool a]) rfl rfl (by kernel_rfl) (by kernel_rfl) (by kernel_rfl) (fun _ _ _ h => h) (Or.inl ⟨by rfl, fun W hW => ?_⟩) hVB ?_
  · (obtain ⟨d0, d1, d2, d3⟩ := RfAt.cells hW; go_simp)
  simp only [Act.put, List.setIfInBounds_toArray, List.set_cons_zero, List.set_cons_succ]
  refine wpAnyH_all (rs := [9]) (by kernel_rfl) (by simp) ?_
  intro i hi
  obtain rfl : i = 9 := by simpa using hi
  unfold wpOp
  go_simp
  refine Or.inl ((H3.out VB qB).mono ?_)
  rintro e VC ⟨rfl, qC⟩
  have hVC : (fun V => RfAt V rb la P.length lc u m a) VC := qC.rf
  refine ⟨hVC, ?_⟩
  refine wpAnyH_all (rs := [13]) (by kernel_rfl) (by simp) ?_
  intro i hi
  obtain rfl : i = 13 := by simpa using hi
  unfold wpOp
  go_simp
  refine Or.inl ((H4.out VC qC).mono ?_)
  rintro e VD ⟨rfl, qD⟩
  have hVD : (fun V => RfAt V rb la P.length lc u m a) VD := qD.rf
  refine ⟨hVD, ?_⟩
  refine takeZ (i := 14) (d := 123) (v := .bool true) rfl rfl (by kernel_rfl) (by kernel_rfl) (by kernel_rfl) (fun _ _ _ h => h) (Or.inl ⟨by rfl, fun W hW => ?_⟩) hVD ?_
  · (go_simp)
  simp only [Act.put, List.setIfInBounds_toArray, List.set_cons_zero, List.set_cons_succ]
  refine takeZ (i := 15) (d := 124) (v := .bool true) rfl rfl (by kernel_rfl) (by kernel_rfl) (by kernel_rfl) (fun _ _ _ h => h) (Or.inl ⟨by rfl, fun W hW => ?_⟩) hVD ?_
  · (go_simp)
  simp only [Act.put, List.setIfInBounds_toArray, List.set_cons_zero, List.set_cons_succ]
  refine takeZ (i := 16) (d := 6) (v := .bool true) rfl rfl (by kernel_rfl) (by kernel_rfl) (by kernel_rfl) (fun _ _ _ h => h) (Or.inl ⟨by rfl, fun W hW => ?_⟩) hVD ?_
  · (go_simp)
  simp only [Act.put, List.setIfInBounds_toArray, List.set_cons_zero, List.set_cons_succ]
  refine wpAnyH_done (by kernel_rfl) ?_ _
  go_wp2
  go_ret
  exact ⟨⟨u, m, a⟩, rfl, HG.out, qD.cu, qD.rf, qD.kp⟩
end Go.Proofs.YtjkbongfampgjaaGreatDoor
namespace Go.Proofs.YtjkbongfampgjaaGreatDoor
open Go.ChangeShapes Go.WideShapes Go.ChangeAt Go.RowKit

/-- Every call of the script. -/
theorem step_any (W4 Ws : World) (X : Bs) (cb bl rb : Nat) (P : List Po) (FL : List Pg) (la : Option Addr) (lc : Nat) (ad : Nat → Addr) (kk kw kn : Int) (u m : Nat) (a : Bool) (k : StC W4 X P FL la ad) (g : Gs P ⟨u, m, a⟩) (hcu : CuS X Ws cb bl P u m a) (hrf : RfAt Ws rb la P.length lc u m a) (old : Kept (fun _ => False) W4 Ws) (up : W4.heap.size ≤ cb ∧ cb < rb ∧ rb < X.lo) : Calls Tryz.prog 9 #[.pointer (some ⟨cb, 0, none⟩), .pointer (some ⟨rb, 0, none⟩), .agg #[.int .i64 kk, .int .i64 kw, .int .i64 kn]] Ws (stPost Ws X cb bl rb P la lc) := by
  by_cases h1 : kk = 1
  · exact step_next W4 Ws X cb bl rb P FL la lc ad kk kw kn u m a k g hcu hrf old up h1
  by_cases h2 : kk = 2
  · exact step_adv W4 Ws X cb bl rb P FL la lc ad kk kw kn u m a k g hcu hrf old up h2
  by_cases h3 : kk = 3
  · exact step_step W4 Ws X cb bl rb P FL la lc ad kk kw kn u m a k g hcu hrf old up h3
  by_cases h4 : kk = 4
  · exact step_freq W4 Ws X cb bl rb P FL la lc ad kk kw kn u m a k g hcu hrf old up h4
  by_cases h5 : kk = 5
  · exact step_pos W4 Ws X cb bl rb P FL la lc ad kk kw kn u m a k g hcu hrf old up h5
  by_cases h6 : kk = 6
  · exact step_moves W4 Ws X cb bl rb P FL la lc ad kk kw kn u m a k g hcu hrf old up h6
  by_cases h7 : kk = 7
  · exact step_size W4 Ws X cb bl rb P FL la lc ad kk kw kn u m a k g hcu hrf old up h7
  exact step_else W4 Ws X cb bl rb P FL la lc ad kk kw kn u m a k g hcu hrf old up h1 h2 h3 h4 h5 h6 h7
theorem okp_nil : Okp [] := ⟨trivial, by have := img_leS (L := []) trivial (by simp) (by simp [tot]); exact this, by simp, by simp [tot]⟩
set_option maxRecDepth 20000 in
set_option maxHeartbeats 2000000 in
theorem cempty_any (ad : Nat → Addr) (W : World) (hE : ErQ W ad) : Calls Tryz.prog 7 #[] W fun e w' => ∃ cb bl W0, e = .returned (.pointer (some ⟨cb, 0, none⟩)) ∧ CuAt ⟨W0, 0⟩ w' cb bl [] 0 0 (-1) (.slice none 0 0) none 0 false ∧ W.heap.size ≤ cb ∧ Kept (fun _ => False) W W0 ∧ Kept (fun _ => False) W w' := by
  have CE := hideP (encode_good [] none 0 ad W (fun e => (e rfl).elim) trivial (by simp) (by simp) (by simp [tot, pol]) hE)
  have HE := hideP hE
  have HIL := hideP okp_nil.hl
  have e0 : pol [] = [] := rfl
  rw [e0] at CE
  obtain ⟨il, hil⟩ : ∃ il, il = (img []).length := ⟨_, rfl⟩
  rw [← hil] at CE
  simp only [List.length_nil] at CE
  have HL := hideP hil
  clear hil e0 hE
  go_enter Tryz.func7, Tryz.ntmps7
  go_wp2_with (go_at_call 22; refine StpQ.go ?_)
  refine ⟨?_⟩
  refine CE.out.mono ?_
  clear CE
  rintro e W4 ⟨gb, hgb, rfl, hrow, k4⟩
  have hB4 : BytesAt W4 (some ⟨gb, 0, none⟩) (img []) := by
    have h := hrow
    rw [HL.out] at h
    exact bytesAt_own h
  have CO := hideP (copen_good [] (some ⟨gb, 0, none⟩) il ad W4 hB4 trivial HIL.out (HE.out.kept k4))
  rw [← HL.out] at CO
  have HK4 := hideP k4
  clear hrow hB4 k4 hgb
  go_wp2_with (go_at_call 6; refine StpQ.go ?_)
  refine ⟨?_⟩
  refine CO.out.mono ?_
  clear CO
  rintro e W5 ⟨ca, la, X0, rfl, hA5, hca, kx5, k5⟩
  have HA := hideP hA5
  have HX := hideP kx5
  have HK5 := hideP k5
  have HC := hideP hca
  clear hA5 hca kx5 k5
  go_wp2
  go_ret
  exact ⟨ca, la, X0, rfl, HA.out, by have := HK4.out.size; have := HC.out; omega, HK4.out.trans HX.out (fun _ f => f.elim), HK4.out.trans HK5.out (fun _ f => f.elim)⟩
theorem tri_start {W4 W5 W6 W7 X Y Z V : World} {ca ka cc kc cd kd rb sb tb : Nat} {P : List Po} {la : Option Addr} {lc : Nat} (hA : CuAt ⟨X, 0⟩ W5 ca ka P 0 0 (-1) (.slice none 0 0) none 0 false) (hca : W4.heap.size ≤ ca) (kx : Kept (fun _ => False) W4 X) (k5 : Kept (fun _ => False) W4 W5) (hC : CuAt ⟨Y, 0⟩ W6 cc kc P 0 0 (-1) (.slice none 0 0) none 0 false) (hcc : W5.heap.size ≤ cc) (ky : Kept (fun _ => False) W5 Y) (k6 : Kept (fun _ => False) W5 W6) (hD : CuAt ⟨Z, 0⟩ W7 cd kd [] 0 0 (-1) (.slice none 0 0) none 0 false) (hcd : W6.heap.size ≤ cd) (kz : Kept (fun _ => False) W6 Z) (k7 : Kept (fun _ => False) W6 W7) (kV : Kept (fun _ => False) W7 V) (hrb : W7.heap.size ≤ rb ∧ rb < sb ∧ sb < tb) (rr : RfAt V rb la P.length lc 0 0 false) (rs : RfAt V sb la P.length lc 0 0 false) (rt : RfAt V tb none 0 0 0 0 false) : TriC W4 ca ka cc kc cd kd rb sb tb P la lc V 0 0 false 0 0 false 0 0 false := by
  have hal : ca < W5.heap.size := hA.raw.lt
  have hcl : cc < W6.heap.size := hC.raw.lt
  have hdl : cd < W7.heap.size := hD.raw.lt
  have k67 := k6.trans k7 (fun _ f => f.elim)
  have s6 := k6.size
  have s7 := k7.size
  have hB : Bnd P 0 0 false := by unfold Bnd; omega
  have hB0 : Bnd [] 0 0 false := by unfold Bnd; omega
  have htl : tb < V.heap.size := lt_of_block rt
  have hy : CuB Y ca := (hA.later ky).toS.cub
  have hz : CuB Z ca := (hA.later (k6.trans kz (fun _ f => f.elim))).toS.cub
  have hz2 : CuB Z cc := (hC.later kz).toS.cub
  exact ⟨⟨X, Y, Z, V.heap.size, ((hA.later (k67.trans kV (fun _ f => f.elim))).raise (Nat.le_refl _)).toS, ((hC.later (k7.trans kV (fun _ f => f.elim))).raise (Nat.le_refl _)).toS, ((hD.later kV).raise (Nat.le_refl _)).toS, hy, hz, hz2, kx, k5.trans ky (fun _ f => f.elim), (k5.trans k6 (fun _ f => f.elim)).trans kz (fun _ f => f.elim), htl⟩, by omega, (k5.trans k67 (fun _ f => f.elim)).trans kV (fun _ f => f.elim), rr, rs, rt, ⟨hB, by omega⟩, ⟨hB, by omega⟩, ⟨hB0, by omega⟩⟩
end Go.Proofs.YtjkbongfampgjaaGreatDoor
