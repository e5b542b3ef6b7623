import Derived.Test.YtidgofpmnlddaaaGreatDoorPbb
import Derived.Test.YtidgofpmnlddaaaGreatDoorMrg4
import Derived.Test.YtidgofpmnlddaaaGreatDoorMrg7
import Derived.Test.YtidgofpmnlddaaaGreatDoorPda
import Derived.Lib.SliceRun
namespace Go.Proofs.YtidgofpmnlddaaaGreatDoor
open Go.ChangeShapes Go.WideShapes Go.ChangeAt Go.RowKit

/-- The document and the positions at the place u - 1. -/
def docU (P : List Po) : Nat → Int
  | 0 => -1
  | q + 1 => match P[q]? with | some x => x.d | none => 2147483647
def posU (P : List Po) : Nat → List Int
  | 0 => []
  | q + 1 => match P[q]? with | some x => x.ps | none => []
/-- The moves from the place u - 1 to the place q. -/
def mvU (n u q : Nat) : Nat := if q = u then 1 else if q = n then nbp n - u / 16 + 1 else if u / 16 = q / 16 then q + 1 - u else q / 16 - u / 16 + q % 16 + 1
/-- Every block. -/
def allB : Nat → Prop := fun _ => True
/-- The world that a cursor's list lies in, and the blocks that it may have read. -/
structure Bs where
  w : World
  lo : Nat → Prop
/-- A cursor at the place u - 1, as it lies at cb. -/
structure CuAt (W0 : Bs) (W : World) (cb bl : Nat) (P : List Po) (u : Nat) (mv nb : Int) (bv : Value) (pa : Option Addr) (pc : Nat) (ask : Bool) : Prop where
  new : W0.w.heap.size ≤ cb
  kept : Kept (fun _ => False) W0.w W
  opd : Opd W0.w bl P
  obj : W.heap[cb]? = some (.cells #[.int .i64 ((u : Int) - 1), .int .i64 (docU P u), .int .i64 mv, .pointer (some ⟨bl, 0, none⟩), .int .i64 nb, bv, .slice pa (posU P u).length pc, .bool ask] 53 (0, 0))
  pos : IntsAt W pa (posU P u)
  far : posU P u ≠ [] → ∃ b off, pa = some ⟨b, off, none⟩ ∧ b ≠ cb ∧ W0.lo b
  low : ∀ k, W.heap.size ≤ k → W0.lo k
theorem far_ne {pa : Option Addr} {cb : Nat} {lo : Nat → Prop} (h : ∃ b off, pa = some ⟨b, off, none⟩ ∧ b ≠ cb ∧ lo b) : ∃ b off, pa = some ⟨b, off, none⟩ ∧ ¬ (b = cb) := by
  obtain ⟨b, off, e, h1, _⟩ := h
  exact ⟨b, off, e, h1⟩
theorem CuAt.opn {W0 : Bs} {W : World} {cb bl : Nat} {P : List Po} {u : Nat} {mv nb : Int} {bv : Value} {pa : Option Addr} {pc : Nat} {ask : Bool} (h : CuAt W0 W cb bl P u mv nb bv pa pc ask) : Opd W bl P := h.opd.kept h.kept
theorem CuAt.cells {W0 : Bs} {W : World} {cb bl : Nat} {P : List Po} {u : Nat} {mv nb : Int} {bv : Value} {pa : Option Addr} {pc : Nat} {ask : Bool} (h : CuAt W0 W cb bl P u mv nb bv pa pc ask) :
    W.cell? ⟨cb, 0, none⟩ = some (.int .i64 ((u : Int) - 1)) ∧ W.cell? ⟨cb, 1, none⟩ = some (.int .i64 (docU P u)) ∧ W.cell? ⟨cb, 2, none⟩ = some (.int .i64 mv) ∧ W.cell? ⟨cb, 3, none⟩ = some (.pointer (some ⟨bl, 0, none⟩)) ∧ W.cell? ⟨cb, 4, none⟩ = some (.int .i64 nb) ∧ W.cell? ⟨cb, 5, none⟩ = some bv ∧ W.cell? ⟨cb, 6, none⟩ = some (.slice pa (posU P u).length pc) ∧ W.cell? ⟨cb, 7, none⟩ = some (.bool ask) := by
  have hc := fun j => cell_of_row W cb j _ _ _ h.obj
  refine ⟨?_, ?_, ?_, ?_, ?_, ?_, ?_, ?_⟩ <;> (rw [hc]; rfl)
theorem CuAt.later {W0 : Bs} {W W' : World} {cb bl : Nat} {P : List Po} {u : Nat} {mv nb : Int} {bv : Value} {pa : Option Addr} {pc : Nat} {ask : Bool} (h : CuAt W0 W cb bl P u mv nb bv pa pc ask) (k : Kept (fun _ => False) W W') : CuAt W0 W' cb bl P u mv nb bv pa pc ask :=
  ⟨h.new, h.kept.trans k (fun _ f => f.elim), h.opd, k.heap h.obj (fun f => f), h.pos.kept k, h.far, fun j hj => h.low j (Nat.le_trans k.size hj)⟩
/-- Nothing is read yet: the bound may be raised. -/
theorem CuAt.raise {X : World} {l lo : Nat → Prop} {W : World} {cb bl : Nat} {P : List Po} {nb : Int} {bv : Value} {pa : Option Addr} {pc : Nat} {mv : Int} {ask : Bool} (h : CuAt ⟨X, l⟩ W cb bl P 0 mv nb bv pa pc ask) (hlo : ∀ k, W.heap.size ≤ k → lo k) : CuAt ⟨X, lo⟩ W cb bl P 0 mv nb bv pa pc ask :=
  ⟨h.new, h.kept, h.opd, h.obj, h.pos, fun e => (e rfl).elim, hlo⟩
set_option maxRecDepth 20000 in
set_option maxHeartbeats 2000000 in
theorem copen_good (P : List Po) (a : Option Addr) (c : Nat) (ad : Nat → Addr) (w : World) (hA : BytesAt w a (img P)) (hg : gdl (-1) P) (hl : (img P).length ≤ 1073741824) (hE : ErQ w ad) :
    Calls Tryz.prog 7 #[.slice a (img P).length c] w fun e w' => ∃ cb bl W0, e = .returned (.tuple #[.pointer (some ⟨cb, 0, none⟩), .nilIface]) ∧ CuAt ⟨W0, allB⟩ w' cb bl P 0 0 (-1) (.slice none 0 0) none 0 false ∧ w.heap.size ≤ cb ∧ Kept (fun _ => False) w W0 ∧ Kept (fun _ => False) w w' := by
  have CO := hideP (popen_good P a c ad w hA hg hl hE)
  generalize (img P).length = N at *
  clear hA hg hl hE
  go_enter Tryz.func7, Tryz.ntmps7
  go_wp2_with (go_at_call 26; refine CO.out.mono ?_; clear CO; rintro e W1 ⟨bl, rfl, ho, k1⟩; have HO := hideP ho; have HK1 := hideP k1; clear ho k1)
  go_ret2
  have kA := Kept.alloc W1 (.cells #[.int .i64 (-1), .int .i64 (-1), .int .i64 0] 50)
  have kB := Kept.alloc (W1.alloc (.cells #[.int .i64 (-1), .int .i64 (-1), .int .i64 0] 50)) (.cells #[.int .i64 (-1), .int .i64 (-1), .int .i64 0, .pointer (some ⟨bl, 0, none⟩), .int .i64 (-1), .slice none 0 0, .slice none 0 0, .bool false] 53)
  have gB := heap_alloc_new (W1.alloc (.cells #[.int .i64 (-1), .int .i64 (-1), .int .i64 0] 50)) (.cells #[.int .i64 (-1), .int .i64 (-1), .int .i64 0, .pointer (some ⟨bl, 0, none⟩), .int .i64 (-1), .slice none 0 0, .slice none 0 0, .bool false] 53)
  have z1 : (W1.alloc (.cells #[.int .i64 (-1), .int .i64 (-1), .int .i64 0] 50)).heap.size = W1.heap.size + 1 := by simp
  rw [z1] at gB
  have hs := HK1.out.size
  exact ⟨W1.heap.size + 1, bl, _, rfl, ⟨Nat.le_of_eq z1, kB, HO.out.kept kA, gB, fun e => (e rfl).elim, fun e => (e rfl).elim, fun _ _ => trivial⟩, by omega, HK1.out.trans kA (fun _ f => f.elim), (HK1.out.trans kA (fun _ f => f.elim)).trans kB (fun _ f => f.elim)⟩
theorem cdocs_any {W0 : Bs} (W : World) {cb bl : Nat} {P : List Po} {u : Nat} {mv nb : Int} {bv : Value} {pa : Option Addr} {pc : Nat} {ask : Bool} (h : CuAt W0 W cb bl P u mv nb bv pa pc ask) : Calls Tryz.prog 27 #[.pointer (some ⟨cb, 0, none⟩)] W fun e w' => e = .returned (.int .i64 ((P.length : Nat) : Int)) ∧ w' = W := by
  have CD := hideP (docs_of bl P W h.opn)
  obtain ⟨-, -, -, c3, -, -, -, -⟩ := h.cells
  clear h
  generalize P.length = n at *
  go_enter Tryz.func27, Tryz.ntmps27
  go_wp2_with (go_at_call 47; refine CD.out.mono ?_; clear CD; rintro e W1 ⟨rfl, rfl⟩)
  go_ret
  exact ⟨rfl, rfl⟩
theorem cdoc_any {W0 : Bs} (W : World) {cb bl : Nat} {P : List Po} {u : Nat} {mv nb : Int} {bv : Value} {pa : Option Addr} {pc : Nat} {ask : Bool} (h : CuAt W0 W cb bl P u mv nb bv pa pc ask) : Calls Tryz.prog 17 #[.pointer (some ⟨cb, 0, none⟩)] W fun e w' => e = .returned (.int .i64 (docU P u)) ∧ w' = W := by
  obtain ⟨-, c1, -, -, -, -, -, -⟩ := h.cells
  clear h
  generalize docU P u = d at *
  go_enter Tryz.func17, Tryz.ntmps17
  go_wp2
  go_ret
  exact ⟨rfl, rfl⟩
theorem cmoves_any {W0 : Bs} (W : World) {cb bl : Nat} {P : List Po} {u : Nat} {mv nb : Int} {bv : Value} {pa : Option Addr} {pc : Nat} {ask : Bool} (h : CuAt W0 W cb bl P u mv nb bv pa pc ask) : Calls Tryz.prog 19 #[.pointer (some ⟨cb, 0, none⟩)] W fun e w' => e = .returned (.int .i64 mv) ∧ w' = W := by
  obtain ⟨-, -, c2, -, -, -, -, -⟩ := h.cells
  clear h
  go_enter Tryz.func19, Tryz.ntmps19
  go_wp2
  go_ret
  exact ⟨rfl, rfl⟩
theorem cfreq_any {W0 : Bs} (W : World) {cb bl : Nat} {P : List Po} {u : Nat} {mv nb : Int} {bv : Value} {pa : Option Addr} {pc : Nat} {ask : Bool} (h : CuAt W0 W cb bl P u mv nb bv pa pc ask) : Calls Tryz.prog 20 #[.pointer (some ⟨cb, 0, none⟩)] W fun e w' => e = .returned (.int .i64 (((posU P u).length : Nat) : Int)) ∧ w' = W := by
  obtain ⟨-, -, -, -, -, -, c6, -⟩ := h.cells
  clear h
  generalize (posU P u).length = d at *
  go_enter Tryz.func20, Tryz.ntmps20
  go_wp2
  go_ret
  exact ⟨rfl, rfl⟩
set_option maxRecDepth 20000 in
set_option maxHeartbeats 2000000 in
theorem cmovesTo_any {W0 : Bs} (W : World) {cb bl : Nat} {P : List Po} {u : Nat} {mv nb : Int} {bv : Value} {pa : Option Addr} {pc : Nat} {ask : Bool} (h : CuAt W0 W cb bl P u mv nb bv pa pc ask) (q : Nat) (hu : u ≤ q) (hq : q ≤ P.length) (hl : P.length ≤ 1099511627776) : Calls Tryz.prog 48 #[.pointer (some ⟨cb, 0, none⟩), .int .i64 q] W fun e w' => e = .returned (.int .i64 ((mvU P.length u q : Nat) : Int)) ∧ w' = W := by
  have CD := hideP (cdocs_any W h)
  have CB := hideP (blocks_of bl P W h.opn)
  obtain ⟨c0, -, -, c3, -, -, -, -⟩ := h.cells
  clear h
  obtain ⟨V, hV⟩ : ∃ V, V = mvU P.length u q := ⟨_, rfl⟩
  rw [← hV]
  generalize P.length = n at *
  obtain ⟨u1, hu1⟩ : ∃ u1, u1 = u / 16 := ⟨_, rfl⟩
  obtain ⟨q1, hq1⟩ : ∃ q1, q1 = q / 16 := ⟨_, rfl⟩
  obtain ⟨q2, hq2⟩ : ∃ q2, q2 = q % 16 := ⟨_, rfl⟩
  obtain ⟨m, hm⟩ : ∃ m, m = nbp n := ⟨_, rfl⟩
  rw [← hm] at CB
  have t1 : (u : Int).tdiv 16 = (u1 : Int) := by rw [Int.tdiv_eq_ediv_of_nonneg (by omega)]; omega
  have t2 : (q : Int).tdiv 16 = (q1 : Int) := by rw [Int.tdiv_eq_ediv_of_nonneg (by omega)]; omega
  have t3 : (q : Int).tmod 16 = (q2 : Int) := by rw [Int.tmod_eq_emod_of_nonneg (by omega)]; omega
  have s1 : (u : Int) / 16 = (u1 : Int) := by omega
  have s2 : (q : Int) / 16 = (q1 : Int) := by omega
  have s3 : (q : Int) % 16 = (q2 : Int) := by omega
  have hmu : u1 ≤ m := by rw [hm, hu1]; unfold nbp; omega
  have hml : m ≤ 1099511627776 := by rw [hm]; unfold nbp; omega
  unfold mvU at hV
  rw [← hm, ← hu1, ← hq1, ← hq2] at hV
  have huq : u1 ≤ q1 := by omega
  have b1 : q1 ≤ 1099511627776 := by omega
  have b2 : q2 ≤ 16 := by omega
  clear hu1 hq1 hq2 hm
  by_cases h1 : q = u
  · rw [if_pos h1] at hV
    subst h1 hV
    go_enter Tryz.func48, Tryz.ntmps48
    go_wp2
    go_ret
    exact ⟨rfl, rfl⟩
  rw [if_neg h1] at hV
  have e1 : ((q : Int) == (u : Int)) = false := by rw [beq_eq_false_iff_ne]; omega
  by_cases h2 : q = n
  · rw [if_pos h2] at hV
    have HV : Hid ((V : Int) = (m : Int) - (u1 : Int) + 1) := hideP (by omega)
    have e2 : ((q : Int) == (n : Int)) = true := by rw [beq_iff_eq]; omega
    clear hV h2
    go_enter Tryz.func48, Tryz.ntmps48
    go_wp2_with (first
      | (go_at_call 27; refine CD.out.mono ?_; clear CD; rintro e W1 ⟨rfl, rfl⟩)
      | (go_at_call 55; refine CB.out.mono ?_; clear CB; rintro e W1 ⟨rfl, rfl⟩))
    go_ret
    exact ⟨by rw [HV.out]; rfl, rfl⟩
  rw [if_neg h2] at hV
  have e2 : ((q : Int) == (n : Int)) = false := by rw [beq_eq_false_iff_ne]; omega
  by_cases h3 : u1 = q1
  · rw [if_pos h3] at hV
    have HV : Hid ((V : Int) = (q : Int) - ((u : Int) - 1)) := hideP (by omega)
    have e3 : ((u1 : Int) == (q1 : Int)) = true := by rw [beq_iff_eq]; omega
    clear hV h3
    go_enter Tryz.func48, Tryz.ntmps48
    go_wp2_with (go_at_call 27; refine CD.out.mono ?_; clear CD; rintro e W1 ⟨rfl, rfl⟩)
    go_ret
    exact ⟨by rw [HV.out]; rfl, rfl⟩
  rw [if_neg h3] at hV
  have HV : Hid ((V : Int) = (q1 : Int) - (u1 : Int) + (q2 : Int) + 1) := hideP (by omega)
  have e3 : ((u1 : Int) == (q1 : Int)) = false := by rw [beq_eq_false_iff_ne]; omega
  clear hV h3
  go_enter Tryz.func48, Tryz.ntmps48
  go_wp2_with (go_at_call 27; refine CD.out.mono ?_; clear CD; rintro e W1 ⟨rfl, rfl⟩)
  go_ret
  exact ⟨by rw [HV.out]; rfl, rfl⟩
end Go.Proofs.YtidgofpmnlddaaaGreatDoor
namespace Go.Proofs.YtidgofpmnlddaaaGreatDoor
open Go.ChangeShapes Go.WideShapes Go.ChangeAt Go.RowKit

/-- A cursor's cells, whatever they are. -/
structure CuR (W0 : Bs) (W : World) (cb bl : Nat) (P : List Po) (cs : Array Value) : Prop where
  new : W0.w.heap.size ≤ cb
  kept : Kept (fun _ => False) W0.w W
  opd : Opd W0.w bl P
  obj : W.heap[cb]? = some (.cells cs 53 (0, 0))
  low : ∀ k, W.heap.size ≤ k → W0.lo k
theorem CuAt.raw {W0 : Bs} {W : World} {cb bl : Nat} {P : List Po} {u : Nat} {mv nb : Int} {bv : Value} {pa : Option Addr} {pc : Nat} {ask : Bool} (h : CuAt W0 W cb bl P u mv nb bv pa pc ask) : CuR W0 W cb bl P #[.int .i64 ((u : Int) - 1), .int .i64 (docU P u), .int .i64 mv, .pointer (some ⟨bl, 0, none⟩), .int .i64 nb, bv, .slice pa (posU P u).length pc, .bool ask] := ⟨h.new, h.kept, h.opd, h.obj, h.low⟩
theorem CuR.cell {W0 : Bs} {W : World} {cb bl : Nat} {P : List Po} {cs : Array Value} (h : CuR W0 W cb bl P cs) (j : Nat) : W.cell? ⟨cb, j, none⟩ = cs[j]? := cell_of_row W cb j _ _ _ h.obj
theorem CuR.frozen {W0 : Bs} {W : World} {cb bl : Nat} {P : List Po} {cs : Array Value} (h : CuR W0 W cb bl P cs) (j : Nat) : W.frozen? ⟨cb, j, none⟩ = false := by simp [World.frozen?, h.obj]
theorem CuR.later {W0 : Bs} {W W' : World} {cb bl : Nat} {P : List Po} {cs : Array Value} (h : CuR W0 W cb bl P cs) (k : Kept (fun _ => False) W W') : CuR W0 W' cb bl P cs := ⟨h.new, h.kept.trans k (fun _ f => f.elim), h.opd, k.heap h.obj (fun f => f), fun j hj => h.low j (Nat.le_trans k.size hj)⟩
theorem CuR.set {W0 : Bs} {W : World} {cb bl : Nat} {P : List Po} {cs : Array Value} (h : CuR W0 W cb bl P cs) (j : Nat) (v : Value) : CuR W0 (W.setCell ⟨cb, j, none⟩ v) cb bl P (cs.setIfInBounds j v) :=
  ⟨h.new, h.kept.trans (Kept.setCell W ⟨cb, j, none⟩ v) (fun i hi => .inr (by have := h.new; simp only at hi; omega)), h.opd, heap_setCell_same W cb j cs _ v h.obj, fun i hi => h.low i (Nat.le_trans (Kept.setCell W ⟨cb, j, none⟩ v).size hi)⟩
theorem CuR.lt {W0 : Bs} {W : World} {cb bl : Nat} {P : List Po} {cs : Array Value} (h : CuR W0 W cb bl P cs) : cb < W.heap.size := by
  rcases Nat.lt_or_ge cb W.heap.size with q | q
  · exact q
  · have := h.obj
    rw [Array.getElem?_eq_none q] at this
    cases this
/-- Postings that lie in no cell of the cursor. -/
def FarB (lo : Nat → Prop) (cb : Nat) (a : Option Addr) (FL : List Pg) : Prop := (∀ g ∈ FL, g.ps ≠ [] → ∃ b off, g.a = some ⟨b, off, none⟩ ∧ b ≠ cb ∧ lo b) ∧ (FL ≠ [] → ∃ b, a = some ⟨b, 0, none⟩ ∧ b ≠ cb ∧ lo b)
theorem Far.farB {w w' : World} {a : Option Addr} {FL : List Pg} {lo : Nat → Prop} {cb : Nat} (h : Far w w' a FL) (hc : cb < w.heap.size) (hlo : ∀ k, w.heap.size ≤ k → lo k) : FarB lo cb a FL :=
  ⟨fun g hg hne => by
    obtain ⟨b, off, e, h1, _⟩ := h.1 g hg hne
    exact ⟨b, off, e, by omega, hlo b (by omega)⟩, fun hne => by
    obtain ⟨b, e, h1⟩ := h.2 hne
    exact ⟨b, e, by omega, hlo b (by omega)⟩⟩
theorem PsAt.keptB {W W' : World} {lo : Nat → Prop} {cb : Nat} {a : Option Addr} {FL : List Pg} (h : PsAt W a FL) (f : FarB lo cb a FL) (k : Kept (fun i => i = cb) W W') : PsAt W' a FL := by
  intro hne
  obtain ⟨b, off, e, hc⟩ := h hne
  obtain ⟨b', e', hb, _⟩ := f.2 hne
  rw [e] at e'
  injection e' with e'
  injection e' with e1 e2
  subst e1
  refine ⟨b, off, e, fun j hj => ?_⟩
  obtain ⟨x0, x1, x2⟩ := hc j hj
  exact ⟨k.cell x0 hb, k.cell x1 hb, ints_step x2 k (fun hn => far_ne (f.1 _ (List.getElem_mem hj) hn))⟩
/-- The block that is kept is the one that its number tells. -/
def BkOk (W : World) (lo : Nat → Prop) (cb : Nat) (P : List Po) (nb : Int) (bv : Value) : Prop := ∀ k : Nat, nb = (k : Int) → ∃ (FL : List Pg) (a : Option Addr) (c : Nat), bv = .slice a FL.length c ∧ pol FL = blN P k ∧ PsAt W a FL ∧ FarB lo cb a FL
theorem BkOk.keptB {W W' : World} {lo : Nat → Prop} {cb : Nat} {P : List Po} {nb : Int} {bv : Value} (h : BkOk W lo cb P nb bv) (k : Kept (fun i => i = cb) W W') : BkOk W' lo cb P nb bv := fun j hj => by
  obtain ⟨FL, a, c, e1, e2, e3, e4⟩ := h j hj
  exact ⟨FL, a, c, e1, e2, e3.keptB e4 k, e4⟩
set_option maxRecDepth 20000 in
set_option maxHeartbeats 2000000 in
theorem creadBlock_any {W0 : Bs} (W : World) {cb bl : Nat} {P : List Po} {c0 c1 c2 c6 c7 bv : Value} {nb : Int} (k : Nat) (ad : Nat → Addr) (h : CuR W0 W cb bl P #[c0, c1, c2, .pointer (some ⟨bl, 0, none⟩), .int .i64 nb, bv, c6, c7]) (hb : BkOk W W0.lo cb P nb bv) (hk : k < nbp P.length) (hg : gdl (-1) P) (hl : (img P).length ≤ 1073741824) (hE : ErQ W ad) :
    Calls Tryz.prog 49 #[.pointer (some ⟨cb, 0, none⟩), .int .i64 k] W fun e w' => e = .returned (.tuple #[]) ∧ ∃ bv', CuR W0 w' cb bl P #[c0, c1, c2, .pointer (some ⟨bl, 0, none⟩), .int .i64 k, bv', c6, c7] ∧ BkOk w' W0.lo cb P k bv' ∧ Kept (fun i => i = cb) W w' := by
  have q3 := h.cell 3
  have q4 := h.cell 4
  simp only [List.getElem?_toArray, List.getElem?_cons_zero, List.getElem?_cons_succ] at q3 q4
  have HR := hideP h
  have HB := hideP hb
  by_cases hn : nb = (k : Int)
  · subst hn
    clear h hb
    go_enter Tryz.func49, Tryz.ntmps49
    go_wp2
    go_end0
    exact ⟨rfl, bv, HR.out, HB.out, Kept.refl _ _⟩
  · have hn1 : (nb != (k : Int)) = true := by rw [bne_iff_ne]; exact hn
    have CB := hideP (block_in bl P k ad W (h.opd.kept h.kept) hg hl hk hE)
    have hlt := h.lt
    have hlow := h.low
    clear h hb hE
    go_enter Tryz.func49, Tryz.ntmps49
    go_wp2_with (go_at_call 70; refine StpQ.go ?_)
    refine ⟨?_⟩
    refine CB.out.mono ?_
    clear CB
    rintro e W1 ⟨FL, pa, pc, hFL, rfl, hPs, hpc, hfar, k1⟩
    have hF := hfar.farB hlt hlow
    have hR1 := HR.out.later k1
    have f4 := hR1.frozen 4
    have f5 := hR1.frozen 5
    have p4 := hR1.cell 4
    have p5 := hR1.cell 5
    simp only [List.getElem?_toArray, List.getElem?_cons_zero, List.getElem?_cons_succ] at p4 p5
    have hR2 := (hR1.set 4 (.int .i64 (k : Int))).set 5 (.slice pa FL.length pc)
    have ks := (Kept.setCell W1 ⟨cb, 4, none⟩ (.int .i64 (k : Int))).trans (Kept.setCell (W1.setCell ⟨cb, 4, none⟩ (.int .i64 (k : Int))) ⟨cb, 5, none⟩ (.slice pa FL.length pc)) (fun _ h => .inl h)
    have HR2 := hideP hR2
    have HB2 : Hid (BkOk ((W1.setCell ⟨cb, 4, none⟩ (.int .i64 (k : Int))).setCell ⟨cb, 5, none⟩ (.slice pa FL.length pc)) W0.lo cb P k (.slice pa FL.length pc)) := hideP (fun j hj => by
      obtain rfl : k = j := by omega
      exact ⟨FL, pa, pc, rfl, hFL, hPs.keptB hF ks, hF⟩)
    have HK2 := hideP ((k1.mono (fun _ f => f.elim)).trans ks (fun _ h => .inl h))
    clear hR1 hR2 ks hFL hPs hpc hfar hF k1 q3 q4
    generalize FL.length = fl at *
    go_wp2
    go_end0
    exact ⟨rfl, _, HR2.out, HB2.out, HK2.out⟩
end Go.Proofs.YtidgofpmnlddaaaGreatDoor
namespace Go.Proofs.YtidgofpmnlddaaaGreatDoor
open Go.ChangeShapes Go.WideShapes Go.ChangeAt Go.RowKit

theorem CuR.drew {W0 : Bs} {W : World} {cb bl : Nat} {P : List Po} {cs : Array Value} (h : CuR W0 W cb bl P cs) : CuR W0 W.drew cb bl P cs := h.later (Kept.drew W)
theorem CuR.toAt {W0 : Bs} {W : World} {cb bl : Nat} {P : List Po} {u : Nat} {x0 d mv nb : Int} {bv : Value} {pa : Option Addr} {n pc : Nat} {ask : Bool} (h : CuR W0 W cb bl P #[.int .i64 x0, .int .i64 d, .int .i64 mv, .pointer (some ⟨bl, 0, none⟩), .int .i64 nb, bv, .slice pa n pc, .bool ask]) (h0 : x0 = (u : Int) - 1) (hd : d = docU P u) (hn : n = (posU P u).length) (hp : IntsAt W pa (posU P u)) (hf : posU P u ≠ [] → ∃ b off, pa = some ⟨b, off, none⟩ ∧ b ≠ cb ∧ W0.lo b) : CuAt W0 W cb bl P u mv nb bv pa pc ask := by
  subst h0 hd hn
  exact ⟨h.new, h.kept, h.opd, h.obj, hp, hf, h.low⟩
theorem docU_end (P : List Po) : docU P (P.length + 1) = 2147483647 := by simp [docU]
theorem posU_end (P : List Po) : posU P (P.length + 1) = [] := by simp [posU]
theorem blk_here (P : List Po) (FL : List Pg) (q q1 q2 : Nat) (h : pol FL = blN P q1) (hq : q < P.length) (h1 : q1 = q / 16) (h2 : q2 = q % 16) : ∃ hl : q2 < FL.length, P[q]? = some (FL[q2]).po := by
  have e : 16 * q1 + q2 = q := by omega
  have hlen : FL.length = (blN P q1).length := by rw [← h, pol_len]
  have hb : (blN P q1)[q2]? = P[q]? := by
    unfold blN
    rw [List.getElem?_take, if_pos (by omega), List.getElem?_drop, e]
  have hl : q2 < FL.length := by
    rw [hlen]; unfold blN; rw [List.length_take, List.length_drop]; omega
  refine ⟨hl, ?_⟩
  rw [← hb, ← h]
  simp [pol, List.getElem?_eq_getElem hl]
theorem docU_at (P : List Po) (q : Nat) (g : Pg) (h : P[q]? = some g.po) : docU P (q + 1) = g.d := by simp [docU, h, Pg.po]
theorem posU_at (P : List Po) (q : Nat) (g : Pg) (h : P[q]? = some g.po) : posU P (q + 1) = g.ps := by simp [posU, h, Pg.po]
/-- What the posting that was loaded holds. -/
def Sh (hb : Nat) (d : Int) (ga : Option Addr) (pn gc : Nat) (W : World) : Prop := W.cell? ⟨hb, 0, none⟩ = some (.int .i64 d) ∧ W.cell? ⟨hb, 1, none⟩ = some (.slice ga pn gc)
theorem Sh.of_row {W : World} {hb : Nat} {d : Int} {ga : Option Addr} {pn gc : Nat} {t : TypeId} {x : Nat × Nat} (h : W.heap[hb]? = some (.cells #[.int .i64 d, .slice ga pn gc] t x)) : Sh hb d ga pn gc W := by
  constructor <;> (rw [cell_of_row W hb _ _ _ _ h]; rfl)
theorem Sh.kept {W W' : World} {hb cb : Nat} {d : Int} {ga : Option Addr} {pn gc : Nat} (h : Sh hb d ga pn gc W) (k : Kept (fun i => i = cb) W W') (hne : hb ≠ cb) : Sh hb d ga pn gc W' := ⟨k.cell h.1 hne, k.cell h.2 hne⟩
theorem cdocsR_any {W0 : Bs} (W : World) {cb bl : Nat} {P : List Po} {c0 c1 c2 c4 c5 c6 c7 : Value} (h : CuR W0 W cb bl P #[c0, c1, c2, .pointer (some ⟨bl, 0, none⟩), c4, c5, c6, c7]) : Calls Tryz.prog 27 #[.pointer (some ⟨cb, 0, none⟩)] W fun e w' => e = .returned (.int .i64 ((P.length : Nat) : Int)) ∧ w' = W := by
  have CD := hideP (docs_of bl P W (h.opd.kept h.kept))
  have q3 := h.cell 3
  simp only [List.getElem?_toArray, List.getElem?_cons_zero, List.getElem?_cons_succ] at q3
  clear h
  generalize P.length = n at *
  go_enter Tryz.func27, Tryz.ntmps27
  go_wp2_with (go_at_call 47; refine CD.out.mono ?_; clear CD; rintro e W1 ⟨rfl, rfl⟩)
  go_ret
  exact ⟨rfl, rfl⟩
set_option maxRecDepth 20000 in
set_option maxHeartbeats 4000000 in
theorem cgoTo_any {W0 : Bs} (W : World) {cb bl : Nat} {P : List Po} {u : Nat} {mv : Nat} {nb : Int} {bv : Value} {pa : Option Addr} {pc : Nat} {ask : Bool} (q : Nat) (ad : Nat → Addr) (h : CuAt W0 W cb bl P u mv nb bv pa pc ask) (hb : BkOk W W0.lo cb P nb bv) (hu : u ≤ q) (hq : q ≤ P.length) (hmv : mv ≤ 2305843009213693952) (hln : P.length ≤ 1099511627776) (hg : gdl (-1) P) (hl : (img P).length ≤ 1073741824) (hE : ErQ W0.w ad) :
    Calls Tryz.prog 28 #[.pointer (some ⟨cb, 0, none⟩), .int .i64 q] W fun e w' => e = .returned (.tuple #[]) ∧ ∃ nb' bv' pa' pc', CuAt W0 w' cb bl P (q + 1) ((mv + mvU P.length u q : Nat) : Int) nb' bv' pa' pc' false ∧ (q < P.length → BkOk w' W0.lo cb P nb' bv') ∧ (posU P (q + 1) = [] → pa' = none) ∧ Kept (fun i => i = cb) W w' := by
  have hM : mvU P.length u q ≤ 2199023255552 := by
    unfold mvU nbp
    split
    · omega
    split
    · omega
    split <;> omega
  have CM := hideP (cmovesTo_any W.drew (h.later (Kept.drew W)) q hu hq hln)
  obtain ⟨X, hX⟩ : ∃ X, X = mvU P.length u q := ⟨_, rfl⟩
  rw [← hX] at CM hM ⊢
  obtain ⟨M, hMM⟩ : ∃ M : Nat, M = mv + X := ⟨_, rfl⟩
  rw [← hMM]
  have HE2 : Hid ((mv : Int) + (X : Int) = (M : Int)) := hideP (by omega)
  have hM2 : (M : Int) ≤ 4611686018427387904 := by omega
  have HEW : Hid (IntKind.i64.wrap ((mv : Int) + (X : Int)) = (M : Int)) := hideP (by rw [IntKind.wrap_i64]; omega)
  have hR := h.raw.drew
  have q2 := hR.cell 2
  have f2 := hR.frozen 2
  simp only [List.getElem?_toArray, List.getElem?_cons_zero, List.getElem?_cons_succ] at q2
  have HP := hideP h
  have HB := hideP hb
  clear h hb
  have HR1 := hideP (hR.set 2 (.int .i64 (M : Int)))
  simp only [List.setIfInBounds_toArray, List.set_cons_zero, List.set_cons_succ] at HR1
  have HK1 := hideP (((Kept.drew W).mono (G := fun i => i = cb) (fun _ f => f.elim)).trans (Kept.setCell W.drew ⟨cb, 2, none⟩ (.int .i64 (M : Int))) (fun _ h => .inl h))
  clear hR hX hMM
  go_enter Tryz.func28, Tryz.ntmps28
  go_wp2_with fail
  refine wp_region_held (S := AnyZ) (by kernel_rfl) ?_
  change wpAnyH _ _ _ _ _ _ _ _ (World.drew _)
  refine takeZ (i := 0) (d := 5) (v := .pointer (some ⟨cb, 0, none⟩)) rfl rfl (by kernel_rfl) (by kernel_rfl) (by kernel_rfl) (fun _ _ _ h => h) (Or.inl ⟨by rfl, fun W hW => ?_⟩) (anyZ _) ?_
  · (go_simp)
  simp only [Act.put, List.setIfInBounds_toArray, List.set_cons_zero, List.set_cons_succ]
  refine takeZ (i := 1) (d := 6) (v := .pointer (some ⟨cb, 0, none⟩)) rfl rfl (by kernel_rfl) (by kernel_rfl) (by kernel_rfl) (fun _ _ _ h => h) (Or.inl ⟨by rfl, fun W hW => ?_⟩) (anyZ _) ?_
  · (go_simp)
  simp only [Act.put, List.setIfInBounds_toArray, List.set_cons_zero, List.set_cons_succ]
  refine takeZ (i := 2) (d := 7) (v := .pointer (some ⟨cb, 0, none⟩)) rfl rfl (by kernel_rfl) (by kernel_rfl) (by kernel_rfl) (fun _ _ _ h => h) (Or.inl ⟨by rfl, fun W hW => ?_⟩) (anyZ _) ?_
  · (go_simp)
  simp only [Act.put, List.setIfInBounds_toArray, List.set_cons_zero, List.set_cons_succ]
  refine takeZ (i := 3) (d := 8) (v := .pointer (some ⟨cb, 2, none⟩)) rfl rfl (by kernel_rfl) (by kernel_rfl) (by kernel_rfl) (fun _ _ _ h => h) (Or.inl ⟨by rfl, fun W hW => ?_⟩) (anyZ _) ?_
  · (go_simp)
  simp only [Act.put, List.setIfInBounds_toArray, List.set_cons_zero, List.set_cons_succ]
  refine takeZ (i := 5) (d := 10) (v := .pointer (some ⟨cb, 0, none⟩)) rfl rfl (by kernel_rfl) (by kernel_rfl) (by kernel_rfl) (fun _ _ _ h => h) (Or.inl ⟨by rfl, fun W hW => ?_⟩) (anyZ _) ?_
  · (go_simp)
  simp only [Act.put, List.setIfInBounds_toArray, List.set_cons_zero, List.set_cons_succ]
  refine takeZ (i := 6) (d := 11) (v := .int .i64 q) rfl rfl (by kernel_rfl) (by kernel_rfl) (by kernel_rfl) (fun _ _ _ h => h) (Or.inl ⟨by rfl, fun W hW => ?_⟩) (anyZ _) ?_
  · (go_simp)
  simp only [Act.put, List.setIfInBounds_toArray, List.set_cons_zero, List.set_cons_succ]
  generalize W.drew = V at *
  refine wpAnyH_all (rs := [4, 7]) (by kernel_rfl) (by simp) ?_
  intro i hi
  obtain rfl | rfl : i = 4 ∨ i = 7 := by simpa using hi
  · unfold wpOp
    go_simp
    first | refine Or.inl ⟨(anyZ _), ?_⟩ | refine ⟨(anyZ _), ?_⟩ | (change wpAnyH _ _ _ _ _ _ _ _ _) | refine Or.inl ?_
    refine wpAnyH_all (rs := [7]) (by kernel_rfl) (by simp) ?_
    intro i hi
    obtain rfl : i = 7 := by simpa using hi
    unfold wpOp
    go_simp
    refine Or.inl (CM.out.mono ?_)
    rintro e V ⟨rfl, rfl⟩
    refine ⟨anyZ _, ?_⟩
    refine takeZ (i := 8) (d := 13) (v := .int .i64 M) rfl rfl (by kernel_rfl) (by kernel_rfl) (by kernel_rfl) (fun _ _ _ h => h) (Or.inl ⟨by rfl, fun W hW => ?_⟩) (anyZ _) ?_
    · (go_simp; first | exact HEW.out | (rw [HE2.out]) | (rw [HE2.out, IntKind.wrap_i64]; omega))
    simp only [Act.put, List.setIfInBounds_toArray, List.set_cons_zero, List.set_cons_succ]
    refine takeZ (i := 9) (d := 14) (v := .pointer (some ⟨cb, 0, none⟩)) rfl rfl (by kernel_rfl) (by kernel_rfl) (by kernel_rfl) (fun _ _ _ h => h) (Or.inl ⟨by rfl, fun W hW => ?_⟩) (anyZ _) ?_
    · (go_simp)
    simp only [Act.put, List.setIfInBounds_toArray, List.set_cons_zero, List.set_cons_succ]
    refine takeZ (i := 10) (d := 15) (v := .pointer (some ⟨cb, 0, none⟩)) rfl rfl (by kernel_rfl) (by kernel_rfl) (by kernel_rfl) (fun _ _ _ h => h) (Or.inl ⟨by rfl, fun W hW => ?_⟩) (anyZ _) ?_
    · (go_simp)
    simp only [Act.put, List.setIfInBounds_toArray, List.set_cons_zero, List.set_cons_succ]
    refine takeZ (i := 11) (d := 16) (v := .pointer (some ⟨cb, 2, none⟩)) rfl rfl (by kernel_rfl) (by kernel_rfl) (by kernel_rfl) (fun _ _ _ h => h) (Or.inl ⟨by rfl, fun W hW => ?_⟩) (anyZ _) ?_
    · (go_simp)
    simp only [Act.put, List.setIfInBounds_toArray, List.set_cons_zero, List.set_cons_succ]
    refine wpAnyH_all (rs := [12]) (by kernel_rfl) (by simp) ?_
    intro i hi
    obtain rfl : i = 12 := by simpa using hi
    unfold wpOp
    go_simp
    first | refine Or.inl ⟨(anyZ _), ?_⟩ | refine ⟨(anyZ _), ?_⟩ | (change wpAnyH _ _ _ _ _ _ _ _ _) | refine Or.inl ?_
    refine wpAnyH_done (by kernel_rfl) ?_ _
    generalize V.setCell ⟨cb, 2, none⟩ (.int .i64 (M : Int)) = V1 at *
    have p0 := HR1.out.cell 0
    have p7 := HR1.out.cell 7
    have f0 := HR1.out.frozen 0
    have f7 := HR1.out.frozen 7
    simp only [List.getElem?_toArray, List.getElem?_cons_zero, List.getElem?_cons_succ] at p0 p7
    have HR2 := hideP ((HR1.out.set 0 (.int .i64 (q : Int))).set 7 (.bool false))
    simp only [List.setIfInBounds_toArray, List.set_cons_zero, List.set_cons_succ] at HR2
    have HK2 := hideP (HK1.out.trans ((Kept.setCell V1 ⟨cb, 0, none⟩ (.int .i64 (q : Int))).trans (Kept.setCell (V1.setCell ⟨cb, 0, none⟩ (.int .i64 (q : Int))) ⟨cb, 7, none⟩ (.bool false)) (fun _ h => .inl h)) (fun _ h => .inl h))
    have HB2 := hideP (HB.out.keptB HK2.out)
    clear HB HR1 HK1 CM HP q2 f2
    go_wp2_with (go_at_call 27; refine StpQ.go ?_)
    refine ⟨?_⟩
    generalize (V1.setCell ⟨cb, 0, none⟩ (.int .i64 (q : Int))).setCell ⟨cb, 7, none⟩ (.bool false) = V2 at *
    clear p0 p7 f0 f7
    refine (cdocsR_any V2 HR2.out).mono ?_
    rintro e V3 ⟨rfl, rfl⟩
    by_cases hqn : q = P.length
    · have e2 : ((q : Int) == ((P.length : Nat) : Int)) = true := by rw [beq_iff_eq]; omega
      have p1 := HR2.out.cell 1
      have p5 := HR2.out.cell 5
      have p6 := HR2.out.cell 6
      have f1 := HR2.out.frozen 1
      have f5 := HR2.out.frozen 5
      have f6 := HR2.out.frozen 6
      simp only [List.getElem?_toArray, List.getElem?_cons_zero, List.getElem?_cons_succ] at p1 p5 p6
      have HR3 := hideP (((HR2.out.set 1 (.int .i64 2147483647)).set 6 (.slice none 0 0)).set 5 (.slice none 0 0))
      simp only [List.setIfInBounds_toArray, List.set_cons_zero, List.set_cons_succ] at HR3
      have HK3 := hideP (HK2.out.trans (((Kept.setCell V3 ⟨cb, 1, none⟩ (.int .i64 2147483647)).trans (Kept.setCell _ ⟨cb, 6, none⟩ (.slice none 0 0)) (fun _ h => .inl h)).trans (Kept.setCell _ ⟨cb, 5, none⟩ (.slice none 0 0)) (fun _ h => .inl h)) (fun _ h => .inl h))
      have HQN := hideP hqn
      clear HR2 HK2 HB2 hqn hg hl hE hu hq hmv hln hM hM2
      have hd := hideP (docU_end P)
      have hp := hideP (posU_end P)
      rw [← HQN.out] at hd hp
      go_wp2
      (try simp only [Exit.inBlock, Exit.then])
      refine bodyPost_ret (results_none rfl _ _ _) rfl ?_
      exact ⟨rfl, nb, .slice none 0 0, none, 0, HR3.out.toAt (by omega) hd.out.symm (by rw [hp.out]; rfl) (by rw [hp.out]; exact fun e => (e rfl).elim) (by rw [hp.out]; exact fun e => (e rfl).elim), fun h => absurd HQN.out (by omega), fun _ => rfl, HK3.out⟩
    have hlt : q < P.length := by omega
    have e2 : ((q : Int) == ((P.length : Nat) : Int)) = false := by rw [beq_eq_false_iff_ne]; omega
    obtain ⟨q1, hq1⟩ : ∃ q1, q1 = q / 16 := ⟨_, rfl⟩
    obtain ⟨q2, hq2⟩ : ∃ q2, q2 = q % 16 := ⟨_, rfl⟩
    have t2 : (q : Int).tdiv 16 = (q1 : Int) := by rw [Int.tdiv_eq_ediv_of_nonneg (by omega)]; omega
    have t3 : (q : Int).tmod 16 = (q2 : Int) := by rw [Int.tmod_eq_emod_of_nonneg (by omega)]; omega
    have s2 : (q : Int) / 16 = (q1 : Int) := by omega
    have s3 : (q : Int) % 16 = (q2 : Int) := by omega
    have hk1 : q1 < nbp P.length := by unfold nbp; omega
    have CR := hideP (creadBlock_any V3 q1 ad HR2.out HB2.out hk1 hg hl (hE.kept HR2.out.kept))
    have HLT := hideP hlt
    have HG := hideP hg
    have b1 : q1 ≤ 1099511627776 := by omega
    have b2 : q2 < 16 := by omega
    have HQ1 := hideP hq1
    have HQ2 := hideP hq2
    clear hq1 hq2 hlt hqn HR2 HB2 hg hl hE hu hq hmv hln hM hM2 hk1
    go_wp2_with (go_at_call 49; refine StpQ.go ?_)
    refine ⟨?_⟩
    refine CR.out.mono ?_
    clear CR
    rintro e V4 ⟨rfl, bv4, hR4, hB4, k4⟩
    obtain ⟨FL, a4, c4, hbv, hFL, hPs, hFar⟩ := hB4 q1 rfl
    subst hbv
    obtain ⟨hl4, hat⟩ := blk_here P FL q q1 q2 hFL HLT.out HQ1.out HQ2.out
    obtain ⟨b4, off4, ha4, hcl⟩ := hPs (fun e => by rw [e] at hl4; exact absurd hl4 (by simp))
    obtain ⟨x0, x1, x2⟩ := hcl q2 hl4
    obtain ⟨g, hgg⟩ : ∃ g, g = FL[q2] := ⟨_, rfl⟩
    have hfg := hFar.1 g (by rw [hgg]; exact List.getElem_mem hl4)
    rw [← hgg] at x0 x1 x2 hat
    have hd := docU_at P q g hat
    have hp := posU_at P q g hat
    have HNE : Hid (posU P (q + 1) ≠ []) := hideP (by rw [hp]; exact (gdl_pos HG.out g.po (List.mem_of_getElem? hat)).1)
    have HX2 := hideP x2
    have HFG := hideP hfg
    have HD := hideP hd
    have HPP := hideP hp
    have HR4 := hideP hR4
    have HB4 := hideP hB4
    have HK4 := hideP (HK2.out.trans k4 (fun _ h => .inl h))
    have p5 := hR4.cell 5
    simp only [List.getElem?_toArray, List.getElem?_cons_zero, List.getElem?_cons_succ] at p5
    clear hR4 hB4 hFL hPs hFar hcl hgg hfg hat hd hp x2 k4 HK2
    subst ha4
    have hq2l : (q2 : Int) < (FL.length : Int) := by omega
    generalize FL.length = fl at *
    obtain ⟨d, hd⟩ : ∃ d, d = g.d := ⟨_, rfl⟩
    obtain ⟨pn, hpn⟩ : ∃ pn, pn = g.ps.length := ⟨_, rfl⟩
    obtain ⟨ga, hga⟩ : ∃ ga, ga = g.a := ⟨_, rfl⟩
    obtain ⟨gc, hgc⟩ : ∃ gc, gc = g.c := ⟨_, rfl⟩
    rw [← hd] at x0 HD
    rw [← hpn, ← hga, ← hgc] at x1
    have HPN := hideP hpn
    have HGA := hideP hga
    clear hd hpn hga hgc
    have HRh := hideP (HR4.out.later (Kept.alloc V4 (.cells #[.int .i64 d, .slice ga pn gc] 38)))
    have HKh := hideP (HK4.out.trans (Kept.alloc V4 (.cells #[.int .i64 d, .slice ga pn gc] 38)) (fun _ f => f.elim))
    have gh := heap_alloc_new V4 (.cells #[.int .i64 d, .slice ga pn gc] 38)
    have HX5 := hideP (HX2.out.kept (Kept.alloc V4 (.cells #[.int .i64 d, .slice ga pn gc] 38)))
    have HB5 := hideP (HB4.out.keptB ((Kept.alloc V4 (.cells #[.int .i64 d, .slice ga pn gc] 38)).mono (fun _ f => f.elim)))
    have hne : V4.heap.size ≠ cb := Nat.ne_of_gt HR4.out.lt
    go_wp2_with fail
    generalize V4.heap.size = hb at *
    generalize V4.alloc (.cells #[.int .i64 d, .slice ga pn gc] 38) = V5 at *
    have hS5 : Sh hb d ga pn gc V5.drew := (Sh.of_row gh).kept ((Kept.drew V5).mono (fun _ f => f.elim)) hne
    have HR6 := hideP HRh.out.drew
    have HK6 := hideP (HKh.out.trans (Kept.drew V5) (fun _ f => f.elim))
    have HX6 := hideP (HX5.out.kept (Kept.drew V5))
    have HB6 := hideP (HB5.out.keptB ((Kept.drew V5).mono (fun _ f => f.elim)))
    clear HR4 HK4 HB4 HX2 HRh HKh HX5 HB5 gh x0 x1 p5
    refine wp_region_held (S := Sh hb d ga pn gc) (by kernel_rfl) ?_
    change wpAnyH _ _ _ _ _ _ _ _ (World.drew _)
    generalize V5.drew = V6 at *
    have p1 := HR6.out.cell 1
    have p6 := HR6.out.cell 6
    have f1 := HR6.out.frozen 1
    have f6 := HR6.out.frozen 6
    simp only [List.getElem?_toArray, List.getElem?_cons_zero, List.getElem?_cons_succ] at p1 p6
    have HR7 := hideP ((HR6.out.set 1 (.int .i64 d)).set 6 (.slice ga pn gc))
    simp only [List.setIfInBounds_toArray, List.set_cons_zero, List.set_cons_succ] at HR7
    have ks1 := Kept.setCell V6 ⟨cb, 1, none⟩ (.int .i64 d)
    have ks2 := ks1.trans (Kept.setCell (V6.setCell ⟨cb, 1, none⟩ (.int .i64 d)) ⟨cb, 6, none⟩ (.slice ga pn gc)) (fun _ h => .inl h)
    have hS6 := hS5.kept ks1 hne
    have hS7 := hS5.kept ks2 hne
    have HK7 := hideP (HK6.out.trans ks2 (fun _ h => .inl h))
    have HB7 := hideP (HB6.out.keptB ks2)
    have HX7 := hideP (ints_step HX6.out ks2 (fun hn => far_ne (HFG.out hn)))
    clear HR6 HK6 HB6 HX6 ks1 ks2
    refine takeZ (i := 0) (d := 51) (v := .pointer (some ⟨cb, 0, none⟩)) rfl rfl (by kernel_rfl) (by kernel_rfl) (by kernel_rfl) (fun _ _ _ h => h) (Or.inl ⟨by rfl, fun W hW => ?_⟩) hS5 ?_
    · (go_simp)
    simp only [Act.put, List.setIfInBounds_toArray, List.set_cons_zero, List.set_cons_succ]
    refine takeZ (i := 1) (d := 52) (v := .pointer (some ⟨cb, 0, none⟩)) rfl rfl (by kernel_rfl) (by kernel_rfl) (by kernel_rfl) (fun _ _ _ h => h) (Or.inl ⟨by rfl, fun W hW => ?_⟩) hS5 ?_
    · (go_simp)
    simp only [Act.put, List.setIfInBounds_toArray, List.set_cons_zero, List.set_cons_succ]
    refine takeZ (i := 2) (d := 53) (v := .pointer (some ⟨hb, 0, none⟩)) rfl rfl (by kernel_rfl) (by kernel_rfl) (by kernel_rfl) (fun _ _ _ h => h) (Or.inl ⟨by rfl, fun W hW => ?_⟩) hS5 ?_
    · (go_simp)
    simp only [Act.put, List.setIfInBounds_toArray, List.set_cons_zero, List.set_cons_succ]
    refine takeZ (i := 3) (d := 54) (v := .int .i64 d) rfl rfl (by kernel_rfl) (by kernel_rfl) (by kernel_rfl) (fun _ _ _ h => h) (Or.inl ⟨by rfl, fun W hW => ?_⟩) hS5 ?_
    · (obtain ⟨h0, h1⟩ := hW; go_simp)
    simp only [Act.put, List.setIfInBounds_toArray, List.set_cons_zero, List.set_cons_succ]
    refine takeZ (i := 4) (d := 55) (v := .pointer (some ⟨hb, 1, none⟩)) rfl rfl (by kernel_rfl) (by kernel_rfl) (by kernel_rfl) (fun _ _ _ h => h) (Or.inl ⟨by rfl, fun W hW => ?_⟩) hS5 ?_
    · (go_simp)
    simp only [Act.put, List.setIfInBounds_toArray, List.set_cons_zero, List.set_cons_succ]
    refine takeZ (i := 5) (d := 56) (v := .slice ga pn gc) rfl rfl (by kernel_rfl) (by kernel_rfl) (by kernel_rfl) (fun _ _ _ h => h) (Or.inl ⟨by rfl, fun W hW => ?_⟩) hS5 ?_
    · (obtain ⟨h0, h1⟩ := hW; go_simp)
    simp only [Act.put, List.setIfInBounds_toArray, List.set_cons_zero, List.set_cons_succ]
    refine takeZ (i := 6) (d := 57) (v := .pointer (some ⟨cb, 0, none⟩)) rfl rfl (by kernel_rfl) (by kernel_rfl) (by kernel_rfl) (fun _ _ _ h => h) (Or.inl ⟨by rfl, fun W hW => ?_⟩) hS5 ?_
    · (go_simp)
    simp only [Act.put, List.setIfInBounds_toArray, List.set_cons_zero, List.set_cons_succ]
    refine takeZ (i := 7) (d := 58) (v := .pointer (some ⟨cb, 0, none⟩)) rfl rfl (by kernel_rfl) (by kernel_rfl) (by kernel_rfl) (fun _ _ _ h => h) (Or.inl ⟨by rfl, fun W hW => ?_⟩) hS5 ?_
    · (go_simp)
    simp only [Act.put, List.setIfInBounds_toArray, List.set_cons_zero, List.set_cons_succ]
    refine takeZ (i := 8) (d := 59) (v := .pointer (some ⟨cb, 1, none⟩)) rfl rfl (by kernel_rfl) (by kernel_rfl) (by kernel_rfl) (fun _ _ _ h => h) (Or.inl ⟨by rfl, fun W hW => ?_⟩) hS5 ?_
    · (go_simp)
    simp only [Act.put, List.setIfInBounds_toArray, List.set_cons_zero, List.set_cons_succ]
    refine wpAnyH_all (rs := [9]) (by kernel_rfl) (by simp) ?_
    intro i hi
    obtain rfl : i = 9 := by simpa using hi
    unfold wpOp
    go_simp
    first | refine Or.inl ⟨hS6, ?_⟩ | refine ⟨hS6, ?_⟩ | (change wpAnyH _ _ _ _ _ _ _ _ _) | refine Or.inl ?_
    refine takeZ (i := 10) (d := 60) (v := .pointer (some ⟨cb, 0, none⟩)) rfl rfl (by kernel_rfl) (by kernel_rfl) (by kernel_rfl) (fun _ _ _ h => h) (Or.inl ⟨by rfl, fun W hW => ?_⟩) hS6 ?_
    · (go_simp)
    simp only [Act.put, List.setIfInBounds_toArray, List.set_cons_zero, List.set_cons_succ]
    refine takeZ (i := 11) (d := 61) (v := .pointer (some ⟨cb, 6, none⟩)) rfl rfl (by kernel_rfl) (by kernel_rfl) (by kernel_rfl) (fun _ _ _ h => h) (Or.inl ⟨by rfl, fun W hW => ?_⟩) hS6 ?_
    · (go_simp)
    simp only [Act.put, List.setIfInBounds_toArray, List.set_cons_zero, List.set_cons_succ]
    refine wpAnyH_all (rs := [12]) (by kernel_rfl) (by simp) ?_
    intro i hi
    obtain rfl : i = 12 := by simpa using hi
    unfold wpOp
    go_simp
    first | refine Or.inl ⟨hS7, ?_⟩ | refine ⟨hS7, ?_⟩ | (change wpAnyH _ _ _ _ _ _ _ _ _) | refine Or.inl ?_
    refine wpAnyH_done (by kernel_rfl) ?_ _
    go_end0
    exact ⟨rfl, q1, _, ga, gc, HR7.out.toAt (by omega) HD.out.symm (by rw [HPP.out]; exact HPN.out) (by rw [HPP.out]; have h := HX7.out; rw [← HGA.out] at h; exact h) (by rw [HPP.out, HGA.out]; exact HFG.out), fun _ => HB7.out, fun e => absurd e HNE.out, HK7.out⟩
  · unfold wpOp
    go_simp
    refine Or.inl (CM.out.mono ?_)
    rintro e V ⟨rfl, rfl⟩
    refine ⟨anyZ _, ?_⟩
    refine wpAnyH_all (rs := [4]) (by kernel_rfl) (by simp) ?_
    intro i hi
    obtain rfl : i = 4 := by simpa using hi
    unfold wpOp
    go_simp
    first | refine Or.inl ⟨(anyZ _), ?_⟩ | refine ⟨(anyZ _), ?_⟩ | (change wpAnyH _ _ _ _ _ _ _ _ _) | refine Or.inl ?_
    refine takeZ (i := 8) (d := 13) (v := .int .i64 M) rfl rfl (by kernel_rfl) (by kernel_rfl) (by kernel_rfl) (fun _ _ _ h => h) (Or.inl ⟨by rfl, fun W hW => ?_⟩) (anyZ _) ?_
    · (go_simp; first | exact HEW.out | (rw [HE2.out]) | (rw [HE2.out, IntKind.wrap_i64]; omega))
    simp only [Act.put, List.setIfInBounds_toArray, List.set_cons_zero, List.set_cons_succ]
    refine takeZ (i := 9) (d := 14) (v := .pointer (some ⟨cb, 0, none⟩)) rfl rfl (by kernel_rfl) (by kernel_rfl) (by kernel_rfl) (fun _ _ _ h => h) (Or.inl ⟨by rfl, fun W hW => ?_⟩) (anyZ _) ?_
    · (go_simp)
    simp only [Act.put, List.setIfInBounds_toArray, List.set_cons_zero, List.set_cons_succ]
    refine takeZ (i := 10) (d := 15) (v := .pointer (some ⟨cb, 0, none⟩)) rfl rfl (by kernel_rfl) (by kernel_rfl) (by kernel_rfl) (fun _ _ _ h => h) (Or.inl ⟨by rfl, fun W hW => ?_⟩) (anyZ _) ?_
    · (go_simp)
    simp only [Act.put, List.setIfInBounds_toArray, List.set_cons_zero, List.set_cons_succ]
    refine takeZ (i := 11) (d := 16) (v := .pointer (some ⟨cb, 2, none⟩)) rfl rfl (by kernel_rfl) (by kernel_rfl) (by kernel_rfl) (fun _ _ _ h => h) (Or.inl ⟨by rfl, fun W hW => ?_⟩) (anyZ _) ?_
    · (go_simp)
    simp only [Act.put, List.setIfInBounds_toArray, List.set_cons_zero, List.set_cons_succ]
    refine wpAnyH_all (rs := [12]) (by kernel_rfl) (by simp) ?_
    intro i hi
    obtain rfl : i = 12 := by simpa using hi
    unfold wpOp
    go_simp
    first | refine Or.inl ⟨(anyZ _), ?_⟩ | refine ⟨(anyZ _), ?_⟩ | (change wpAnyH _ _ _ _ _ _ _ _ _) | refine Or.inl ?_
    refine wpAnyH_done (by kernel_rfl) ?_ _
    generalize V.setCell ⟨cb, 2, none⟩ (.int .i64 (M : Int)) = V1 at *
    have p0 := HR1.out.cell 0
    have p7 := HR1.out.cell 7
    have f0 := HR1.out.frozen 0
    have f7 := HR1.out.frozen 7
    simp only [List.getElem?_toArray, List.getElem?_cons_zero, List.getElem?_cons_succ] at p0 p7
    have HR2 := hideP ((HR1.out.set 0 (.int .i64 (q : Int))).set 7 (.bool false))
    simp only [List.setIfInBounds_toArray, List.set_cons_zero, List.set_cons_succ] at HR2
    have HK2 := hideP (HK1.out.trans ((Kept.setCell V1 ⟨cb, 0, none⟩ (.int .i64 (q : Int))).trans (Kept.setCell (V1.setCell ⟨cb, 0, none⟩ (.int .i64 (q : Int))) ⟨cb, 7, none⟩ (.bool false)) (fun _ h => .inl h)) (fun _ h => .inl h))
    have HB2 := hideP (HB.out.keptB HK2.out)
    clear HB HR1 HK1 CM HP q2 f2
    go_wp2_with (go_at_call 27; refine StpQ.go ?_)
    refine ⟨?_⟩
    generalize (V1.setCell ⟨cb, 0, none⟩ (.int .i64 (q : Int))).setCell ⟨cb, 7, none⟩ (.bool false) = V2 at *
    clear p0 p7 f0 f7
    refine (cdocsR_any V2 HR2.out).mono ?_
    rintro e V3 ⟨rfl, rfl⟩
    by_cases hqn : q = P.length
    · have e2 : ((q : Int) == ((P.length : Nat) : Int)) = true := by rw [beq_iff_eq]; omega
      have p1 := HR2.out.cell 1
      have p5 := HR2.out.cell 5
      have p6 := HR2.out.cell 6
      have f1 := HR2.out.frozen 1
      have f5 := HR2.out.frozen 5
      have f6 := HR2.out.frozen 6
      simp only [List.getElem?_toArray, List.getElem?_cons_zero, List.getElem?_cons_succ] at p1 p5 p6
      have HR3 := hideP (((HR2.out.set 1 (.int .i64 2147483647)).set 6 (.slice none 0 0)).set 5 (.slice none 0 0))
      simp only [List.setIfInBounds_toArray, List.set_cons_zero, List.set_cons_succ] at HR3
      have HK3 := hideP (HK2.out.trans (((Kept.setCell V3 ⟨cb, 1, none⟩ (.int .i64 2147483647)).trans (Kept.setCell _ ⟨cb, 6, none⟩ (.slice none 0 0)) (fun _ h => .inl h)).trans (Kept.setCell _ ⟨cb, 5, none⟩ (.slice none 0 0)) (fun _ h => .inl h)) (fun _ h => .inl h))
      have HQN := hideP hqn
      clear HR2 HK2 HB2 hqn hg hl hE hu hq hmv hln hM hM2
      have hd := hideP (docU_end P)
      have hp := hideP (posU_end P)
      rw [← HQN.out] at hd hp
      go_wp2
      (try simp only [Exit.inBlock, Exit.then])
      refine bodyPost_ret (results_none rfl _ _ _) rfl ?_
      exact ⟨rfl, nb, .slice none 0 0, none, 0, HR3.out.toAt (by omega) hd.out.symm (by rw [hp.out]; rfl) (by rw [hp.out]; exact fun e => (e rfl).elim) (by rw [hp.out]; exact fun e => (e rfl).elim), fun h => absurd HQN.out (by omega), fun _ => rfl, HK3.out⟩
    have hlt : q < P.length := by omega
    have e2 : ((q : Int) == ((P.length : Nat) : Int)) = false := by rw [beq_eq_false_iff_ne]; omega
    obtain ⟨q1, hq1⟩ : ∃ q1, q1 = q / 16 := ⟨_, rfl⟩
    obtain ⟨q2, hq2⟩ : ∃ q2, q2 = q % 16 := ⟨_, rfl⟩
    have t2 : (q : Int).tdiv 16 = (q1 : Int) := by rw [Int.tdiv_eq_ediv_of_nonneg (by omega)]; omega
    have t3 : (q : Int).tmod 16 = (q2 : Int) := by rw [Int.tmod_eq_emod_of_nonneg (by omega)]; omega
    have s2 : (q : Int) / 16 = (q1 : Int) := by omega
    have s3 : (q : Int) % 16 = (q2 : Int) := by omega
    have hk1 : q1 < nbp P.length := by unfold nbp; omega
    have CR := hideP (creadBlock_any V3 q1 ad HR2.out HB2.out hk1 hg hl (hE.kept HR2.out.kept))
    have HLT := hideP hlt
    have HG := hideP hg
    have b1 : q1 ≤ 1099511627776 := by omega
    have b2 : q2 < 16 := by omega
    have HQ1 := hideP hq1
    have HQ2 := hideP hq2
    clear hq1 hq2 hlt hqn HR2 HB2 hg hl hE hu hq hmv hln hM hM2 hk1
    go_wp2_with (go_at_call 49; refine StpQ.go ?_)
    refine ⟨?_⟩
    refine CR.out.mono ?_
    clear CR
    rintro e V4 ⟨rfl, bv4, hR4, hB4, k4⟩
    obtain ⟨FL, a4, c4, hbv, hFL, hPs, hFar⟩ := hB4 q1 rfl
    subst hbv
    obtain ⟨hl4, hat⟩ := blk_here P FL q q1 q2 hFL HLT.out HQ1.out HQ2.out
    obtain ⟨b4, off4, ha4, hcl⟩ := hPs (fun e => by rw [e] at hl4; exact absurd hl4 (by simp))
    obtain ⟨x0, x1, x2⟩ := hcl q2 hl4
    obtain ⟨g, hgg⟩ : ∃ g, g = FL[q2] := ⟨_, rfl⟩
    have hfg := hFar.1 g (by rw [hgg]; exact List.getElem_mem hl4)
    rw [← hgg] at x0 x1 x2 hat
    have hd := docU_at P q g hat
    have hp := posU_at P q g hat
    have HNE : Hid (posU P (q + 1) ≠ []) := hideP (by rw [hp]; exact (gdl_pos HG.out g.po (List.mem_of_getElem? hat)).1)
    have HX2 := hideP x2
    have HFG := hideP hfg
    have HD := hideP hd
    have HPP := hideP hp
    have HR4 := hideP hR4
    have HB4 := hideP hB4
    have HK4 := hideP (HK2.out.trans k4 (fun _ h => .inl h))
    have p5 := hR4.cell 5
    simp only [List.getElem?_toArray, List.getElem?_cons_zero, List.getElem?_cons_succ] at p5
    clear hR4 hB4 hFL hPs hFar hcl hgg hfg hat hd hp x2 k4 HK2
    subst ha4
    have hq2l : (q2 : Int) < (FL.length : Int) := by omega
    generalize FL.length = fl at *
    obtain ⟨d, hd⟩ : ∃ d, d = g.d := ⟨_, rfl⟩
    obtain ⟨pn, hpn⟩ : ∃ pn, pn = g.ps.length := ⟨_, rfl⟩
    obtain ⟨ga, hga⟩ : ∃ ga, ga = g.a := ⟨_, rfl⟩
    obtain ⟨gc, hgc⟩ : ∃ gc, gc = g.c := ⟨_, rfl⟩
    rw [← hd] at x0 HD
    rw [← hpn, ← hga, ← hgc] at x1
    have HPN := hideP hpn
    have HGA := hideP hga
    clear hd hpn hga hgc
    have HRh := hideP (HR4.out.later (Kept.alloc V4 (.cells #[.int .i64 d, .slice ga pn gc] 38)))
    have HKh := hideP (HK4.out.trans (Kept.alloc V4 (.cells #[.int .i64 d, .slice ga pn gc] 38)) (fun _ f => f.elim))
    have gh := heap_alloc_new V4 (.cells #[.int .i64 d, .slice ga pn gc] 38)
    have HX5 := hideP (HX2.out.kept (Kept.alloc V4 (.cells #[.int .i64 d, .slice ga pn gc] 38)))
    have HB5 := hideP (HB4.out.keptB ((Kept.alloc V4 (.cells #[.int .i64 d, .slice ga pn gc] 38)).mono (fun _ f => f.elim)))
    have hne : V4.heap.size ≠ cb := Nat.ne_of_gt HR4.out.lt
    go_wp2_with fail
    generalize V4.heap.size = hb at *
    generalize V4.alloc (.cells #[.int .i64 d, .slice ga pn gc] 38) = V5 at *
    have hS5 : Sh hb d ga pn gc V5.drew := (Sh.of_row gh).kept ((Kept.drew V5).mono (fun _ f => f.elim)) hne
    have HR6 := hideP HRh.out.drew
    have HK6 := hideP (HKh.out.trans (Kept.drew V5) (fun _ f => f.elim))
    have HX6 := hideP (HX5.out.kept (Kept.drew V5))
    have HB6 := hideP (HB5.out.keptB ((Kept.drew V5).mono (fun _ f => f.elim)))
    clear HR4 HK4 HB4 HX2 HRh HKh HX5 HB5 gh x0 x1 p5
    refine wp_region_held (S := Sh hb d ga pn gc) (by kernel_rfl) ?_
    change wpAnyH _ _ _ _ _ _ _ _ (World.drew _)
    generalize V5.drew = V6 at *
    have p1 := HR6.out.cell 1
    have p6 := HR6.out.cell 6
    have f1 := HR6.out.frozen 1
    have f6 := HR6.out.frozen 6
    simp only [List.getElem?_toArray, List.getElem?_cons_zero, List.getElem?_cons_succ] at p1 p6
    have HR7 := hideP ((HR6.out.set 1 (.int .i64 d)).set 6 (.slice ga pn gc))
    simp only [List.setIfInBounds_toArray, List.set_cons_zero, List.set_cons_succ] at HR7
    have ks1 := Kept.setCell V6 ⟨cb, 1, none⟩ (.int .i64 d)
    have ks2 := ks1.trans (Kept.setCell (V6.setCell ⟨cb, 1, none⟩ (.int .i64 d)) ⟨cb, 6, none⟩ (.slice ga pn gc)) (fun _ h => .inl h)
    have hS6 := hS5.kept ks1 hne
    have hS7 := hS5.kept ks2 hne
    have HK7 := hideP (HK6.out.trans ks2 (fun _ h => .inl h))
    have HB7 := hideP (HB6.out.keptB ks2)
    have HX7 := hideP (ints_step HX6.out ks2 (fun hn => far_ne (HFG.out hn)))
    clear HR6 HK6 HB6 HX6 ks1 ks2
    refine takeZ (i := 0) (d := 51) (v := .pointer (some ⟨cb, 0, none⟩)) rfl rfl (by kernel_rfl) (by kernel_rfl) (by kernel_rfl) (fun _ _ _ h => h) (Or.inl ⟨by rfl, fun W hW => ?_⟩) hS5 ?_
    · (go_simp)
    simp only [Act.put, List.setIfInBounds_toArray, List.set_cons_zero, List.set_cons_succ]
    refine takeZ (i := 1) (d := 52) (v := .pointer (some ⟨cb, 0, none⟩)) rfl rfl (by kernel_rfl) (by kernel_rfl) (by kernel_rfl) (fun _ _ _ h => h) (Or.inl ⟨by rfl, fun W hW => ?_⟩) hS5 ?_
    · (go_simp)
    simp only [Act.put, List.setIfInBounds_toArray, List.set_cons_zero, List.set_cons_succ]
    refine takeZ (i := 2) (d := 53) (v := .pointer (some ⟨hb, 0, none⟩)) rfl rfl (by kernel_rfl) (by kernel_rfl) (by kernel_rfl) (fun _ _ _ h => h) (Or.inl ⟨by rfl, fun W hW => ?_⟩) hS5 ?_
    · (go_simp)
    simp only [Act.put, List.setIfInBounds_toArray, List.set_cons_zero, List.set_cons_succ]
    refine takeZ (i := 3) (d := 54) (v := .int .i64 d) rfl rfl (by kernel_rfl) (by kernel_rfl) (by kernel_rfl) (fun _ _ _ h => h) (Or.inl ⟨by rfl, fun W hW => ?_⟩) hS5 ?_
    · (obtain ⟨h0, h1⟩ := hW; go_simp)
    simp only [Act.put, List.setIfInBounds_toArray, List.set_cons_zero, List.set_cons_succ]
    refine takeZ (i := 4) (d := 55) (v := .pointer (some ⟨hb, 1, none⟩)) rfl rfl (by kernel_rfl) (by kernel_rfl) (by kernel_rfl) (fun _ _ _ h => h) (Or.inl ⟨by rfl, fun W hW => ?_⟩) hS5 ?_
    · (go_simp)
    simp only [Act.put, List.setIfInBounds_toArray, List.set_cons_zero, List.set_cons_succ]
    refine takeZ (i := 5) (d := 56) (v := .slice ga pn gc) rfl rfl (by kernel_rfl) (by kernel_rfl) (by kernel_rfl) (fun _ _ _ h => h) (Or.inl ⟨by rfl, fun W hW => ?_⟩) hS5 ?_
    · (obtain ⟨h0, h1⟩ := hW; go_simp)
    simp only [Act.put, List.setIfInBounds_toArray, List.set_cons_zero, List.set_cons_succ]
    refine takeZ (i := 6) (d := 57) (v := .pointer (some ⟨cb, 0, none⟩)) rfl rfl (by kernel_rfl) (by kernel_rfl) (by kernel_rfl) (fun _ _ _ h => h) (Or.inl ⟨by rfl, fun W hW => ?_⟩) hS5 ?_
    · (go_simp)
    simp only [Act.put, List.setIfInBounds_toArray, List.set_cons_zero, List.set_cons_succ]
    refine takeZ (i := 7) (d := 58) (v := .pointer (some ⟨cb, 0, none⟩)) rfl rfl (by kernel_rfl) (by kernel_rfl) (by kernel_rfl) (fun _ _ _ h => h) (Or.inl ⟨by rfl, fun W hW => ?_⟩) hS5 ?_
    · (go_simp)
    simp only [Act.put, List.setIfInBounds_toArray, List.set_cons_zero, List.set_cons_succ]
    refine takeZ (i := 8) (d := 59) (v := .pointer (some ⟨cb, 1, none⟩)) rfl rfl (by kernel_rfl) (by kernel_rfl) (by kernel_rfl) (fun _ _ _ h => h) (Or.inl ⟨by rfl, fun W hW => ?_⟩) hS5 ?_
    · (go_simp)
    simp only [Act.put, List.setIfInBounds_toArray, List.set_cons_zero, List.set_cons_succ]
    refine wpAnyH_all (rs := [9]) (by kernel_rfl) (by simp) ?_
    intro i hi
    obtain rfl : i = 9 := by simpa using hi
    unfold wpOp
    go_simp
    first | refine Or.inl ⟨hS6, ?_⟩ | refine ⟨hS6, ?_⟩ | (change wpAnyH _ _ _ _ _ _ _ _ _) | refine Or.inl ?_
    refine takeZ (i := 10) (d := 60) (v := .pointer (some ⟨cb, 0, none⟩)) rfl rfl (by kernel_rfl) (by kernel_rfl) (by kernel_rfl) (fun _ _ _ h => h) (Or.inl ⟨by rfl, fun W hW => ?_⟩) hS6 ?_
    · (go_simp)
    simp only [Act.put, List.setIfInBounds_toArray, List.set_cons_zero, List.set_cons_succ]
    refine takeZ (i := 11) (d := 61) (v := .pointer (some ⟨cb, 6, none⟩)) rfl rfl (by kernel_rfl) (by kernel_rfl) (by kernel_rfl) (fun _ _ _ h => h) (Or.inl ⟨by rfl, fun W hW => ?_⟩) hS6 ?_
    · (go_simp)
    simp only [Act.put, List.setIfInBounds_toArray, List.set_cons_zero, List.set_cons_succ]
    refine wpAnyH_all (rs := [12]) (by kernel_rfl) (by simp) ?_
    intro i hi
    obtain rfl : i = 12 := by simpa using hi
    unfold wpOp
    go_simp
    first | refine Or.inl ⟨hS7, ?_⟩ | refine ⟨hS7, ?_⟩ | (change wpAnyH _ _ _ _ _ _ _ _ _) | refine Or.inl ?_
    refine wpAnyH_done (by kernel_rfl) ?_ _
    go_end0
    exact ⟨rfl, q1, _, ga, gc, HR7.out.toAt (by omega) HD.out.symm (by rw [HPP.out]; exact HPN.out) (by rw [HPP.out]; have h := HX7.out; rw [← HGA.out] at h; exact h) (by rw [HPP.out, HGA.out]; exact HFG.out), fun _ => HB7.out, fun e => absurd e HNE.out, HK7.out⟩
end Go.Proofs.YtidgofpmnlddaaaGreatDoor
namespace Go.Proofs.YtidgofpmnlddaaaGreatDoor
open Go.ChangeShapes Go.WideShapes Go.ChangeAt Go.RowKit

/-- A cursor at the place u - 1, with so many moves. -/
def CuS (W0 : Bs) (W : World) (cb bl : Nat) (P : List Po) (u mv : Nat) (ask : Bool) : Prop := ∃ (nb : Int) (bv : Value) (pa : Option Addr) (pc : Nat), CuAt W0 W cb bl P u mv nb bv pa pc ask ∧ (u ≤ P.length → BkOk W W0.lo cb P nb bv) ∧ (posU P u = [] → pa = none)
theorem CuS.later {W0 : Bs} {W W' : World} {cb bl : Nat} {P : List Po} {u mv : Nat} {ask : Bool} (h : CuS W0 W cb bl P u mv ask) (k : Kept (fun _ => False) W W') : CuS W0 W' cb bl P u mv ask := by
  obtain ⟨nb, bv, pa, pc, h, hb, hn⟩ := h
  exact ⟨nb, bv, pa, pc, h.later k, fun hu => (hb hu).keptB (k.mono (fun _ f => f.elim)), hn⟩
theorem mvU_next (n u : Nat) : mvU n u u = 1 := by simp [mvU]
set_option maxRecDepth 20000 in
set_option maxHeartbeats 4000000 in
theorem cnext_in {W0 : Bs} (W : World) {cb bl : Nat} {P : List Po} {u mv : Nat} {ask : Bool} (ad : Nat → Addr) (h : CuS W0 W cb bl P u mv ask) (hu : u ≤ P.length) (hmv : mv ≤ 2305843009213693952) (hln : P.length ≤ 1099511627776) (hg : gdl (-1) P) (hl : (img P).length ≤ 1073741824) (hE : ErQ W0.w ad) :
    Calls Tryz.prog 9 #[.pointer (some ⟨cb, 0, none⟩)] W fun e w' => e = .returned (.int .i64 (docU P (u + 1))) ∧ CuS W0 w' cb bl P (u + 1) (mv + 1) false ∧ Kept (fun i => i = cb) W w' := by
  obtain ⟨nb, bv, pa, pc, h, hb', hn⟩ := h
  have hb := hb' hu
  have CD : Hid (∀ k, Calls Tryz.prog 27 #[.pointer (some ⟨cb, 0, none⟩)] (W.drewN k) fun e w'' => e = .returned (.int .i64 ((P.length : Nat) : Int)) ∧ ∃ m, w'' = W.drewN m) := hideP (fun k => (cdocs_any (W.drewN k) (h.later (Kept.drewN W k))).mono (fun _ _ q => ⟨q.1, k, q.2⟩))
  have CG : Hid (∀ k, Calls Tryz.prog 28 #[.pointer (some ⟨cb, 0, none⟩), .int .i64 u] (W.drewN k) fun e w' => e = .returned (.tuple #[]) ∧ ∃ nb' bv' pa' pc', CuAt W0 w' cb bl P (u + 1) ((mv + mvU P.length u u : Nat) : Int) nb' bv' pa' pc' false ∧ (u < P.length → BkOk w' W0.lo cb P nb' bv') ∧ (posU P (u + 1) = [] → pa' = none) ∧ Kept (fun i => i = cb) (W.drewN k) w') := hideP (fun k => cgoTo_any (W.drewN k) u ad (h.later (Kept.drewN W k)) (hb.keptB ((Kept.drewN W k).mono (fun _ f => f.elim))) (Nat.le_refl _) hu hmv hln hg hl hE)
  obtain ⟨c0, -, -, -, -, -, -, -⟩ := h.cells
  have hlt : (u : Int) - 1 < ((P.length : Nat) : Int) := by omega
  have hub : u ≤ 1099511627776 := by omega
  clear h hb hb' hE hg hl hu hln hmv hn
  go_enter Tryz.func9, Tryz.ntmps9
  go_wp2_with fail
  go_quiet ((exact CD.out _))
  clear CD
  have c0' : (W.drewN nq).cell? ⟨cb, 0, none⟩ = some (.int .i64 ((u : Int) - 1)) := (Kept.drewN W nq).cell c0 (fun f => f)
  go_wp2_with (go_at_call 28; refine StpQ.go ?_)
  refine ⟨?_⟩
  refine (CG.out nq).mono ?_
  clear CG
  rintro e W2 ⟨rfl, nb', bv', pa', pc', h2, hb2, hn2, k2⟩
  obtain ⟨-, c1, -, -, -, -, -, -⟩ := h2.cells
  have HS : Hid (CuS W0 W2 cb bl P (u + 1) (mv + 1) false) := hideP ⟨nb', bv', pa', pc', by rw [mvU_next] at h2; exact h2, fun hh => hb2 (by omega), hn2⟩
  have HK := hideP (((Kept.drewN W nq).mono (G := fun i => i = cb) (fun _ f => f.elim)).trans k2 (fun _ h => .inl h))
  clear h2 hb2 hn2 k2
  go_wp2
  go_ret
  exact ⟨rfl, HS.out, HK.out⟩
set_option maxRecDepth 20000 in
set_option maxHeartbeats 4000000 in
theorem cnext_end {W0 : Bs} (W : World) {cb bl : Nat} {P : List Po} {u mv : Nat} {ask : Bool} (h : CuS W0 W cb bl P u mv ask) (hu : u = P.length + 1) (hln : P.length ≤ 1099511627776) :
    Calls Tryz.prog 9 #[.pointer (some ⟨cb, 0, none⟩)] W fun e w' => e = .returned (.int .i64 2147483647) ∧ CuS W0 w' cb bl P u mv ask ∧ Kept (fun _ => False) W w' := by
  have HS := hideP h
  obtain ⟨nb, bv, pa, pc, h, hb', hn⟩ := h
  have CD : Hid (∀ k, Calls Tryz.prog 27 #[.pointer (some ⟨cb, 0, none⟩)] (W.drewN k) fun e w'' => e = .returned (.int .i64 ((P.length : Nat) : Int)) ∧ ∃ m, w'' = W.drewN m) := hideP (fun k => (cdocs_any (W.drewN k) (h.later (Kept.drewN W k))).mono (fun _ _ q => ⟨q.1, k, q.2⟩))
  obtain ⟨c0, c1, -, -, -, -, -, -⟩ := h.cells
  have hlt : ¬ (u : Int) - 1 < ((P.length : Nat) : Int) := by omega
  have hub : u ≤ 1099511627777 := by omega
  rw [hu, docU_end] at c1
  clear h hb' hln hn hu
  go_enter Tryz.func9, Tryz.ntmps9
  go_wp2_with fail
  go_quiet ((exact CD.out _))
  clear CD
  have c1' : (W.drewN nq).cell? ⟨cb, 1, none⟩ = some (.int .i64 2147483647) := (Kept.drewN W nq).cell c1 (fun f => f)
  go_wp2
  go_ret
  exact ⟨rfl, HS.out.later (Kept.drewN W nq), Kept.drewN W nq⟩
end Go.Proofs.YtidgofpmnlddaaaGreatDoor
namespace Go.Proofs.YtidgofpmnlddaaaGreatDoor
open Go.ChangeShapes Go.WideShapes Go.ChangeAt Go.RowKit

theorem is_len (l : List Int) : (is l).length = l.length := List.length_map ..
theorem ints_cells {W : World} {b off : Nat} {l : List Int} (h : ∀ k, k < l.length → W.cell? ⟨b, off + k, none⟩ = some (.int .i64 (l[k]?.getD 0))) : ∀ j u, (is l)[j]? = some u → W.cell? ((⟨b, off, none⟩ : Addr).add j) = some u := by
  intro j u hu
  have hp : (⟨b, off, none⟩ : Addr).add j = ⟨b, off + j, none⟩ := by unfold Addr.add; split <;> simp_all
  rw [hp]
  have hj : j < l.length := by
    rcases Nat.lt_or_ge j l.length with q | q
    · exact q
    · rw [List.getElem?_eq_none (by rw [is_len]; exact q)] at hu; cases hu
  rw [h j hj, ← hu]
  simp [is, List.getElem?_eq_getElem hj]
/-- Numbers that a list owns. -/
theorem gro_intsC {w0 w : World} {g c n : Nat} {l : List Int} (h : Gro w0 w 3 1 (.slice (some ⟨g, 0, none⟩) n c) n (is l)) (hn : n = l.length) : IntsAt w (some ⟨g, 0, none⟩) l := by
  intro hne
  obtain ⟨g', e, _, hc⟩ := h.cell (by rw [hn]; exact List.length_pos_iff.2 hne)
  injection e with e
  injection e with e
  subst e
  refine ⟨g, 0, rfl, fun k hk => ?_⟩
  rw [Nat.zero_add]
  exact hc k _ (by simp [is, List.getElem?_eq_getElem hk])
theorem row_lower {W : World} {base base' : Nat} {e : TypeId} {sz n : Nat} {v : Value} {xs : List Value} (h : W.ownsRow base e sz v n xs) (hb : base' ≤ base) : W.ownsRow base' e sz v n xs := by
  refine ⟨h.1, ?_⟩
  rcases h.2 with q | ⟨g, cap, cur, e1, h1, r⟩
  · exact .inl q
  · exact .inr ⟨g, cap, cur, e1, Nat.le_trans hb h1, r⟩
/-- What slices.Clone of numbers leaves. -/
def clPost (W : World) (l : List Int) (e : Ending) (w' : World) : Prop := ∃ (a : Option Addr) (c : Nat), e = .returned (.slice a l.length c) ∧ IntsAt w' a l ∧ (l ≠ [] → ∃ g, a = some ⟨g, 0, none⟩ ∧ W.heap.size ≤ g ∧ w'.ownsRow W.heap.size 3 1 (.slice a l.length c) l.length (is l)) ∧ Kept (fun _ => False) W w'
set_option maxRecDepth 20000 in
set_option maxHeartbeats 4000000 in
theorem clone_ints (W : World) (pa : Option Addr) (pc : Nat) (l : List Int) (h : IntsAt W pa l) (h0 : l = [] → pa = none) (hl : l.length ≤ 1099511627776) :
    Calls Tryz.prog 29 #[.slice pa l.length pc] W (clPost W l) := by
  by_cases hne : l = []
  · have hpa := h0 hne
    subst hne hpa
    have qe : ∀ (w : World) (a : Option Addr) (n c n' c' : Nat), (binOp .eql 24 (.slice a n c) (.slice none n' c')).run Tryz.prog w = .ok (.bool a.isNone) w := fun w a n c n' c' => Lib.run_eql_slice_nil w _ _ a n c n' c' Tryz.underlying24
    go_enter Tryz.func29, Tryz.ntmps29
    go_wp2
    go_ret
    exact ⟨none, 0, rfl, fun e => (e rfl).elim, fun e => (e rfl).elim, Kept.refl _ _⟩
  · unfold clPost
    obtain ⟨b, off, rfl, hc⟩ := h hne
    have hp : 0 < l.length := List.length_pos_iff.2 hne
    obtain ⟨n, hn⟩ : ∃ n, n = l.length := ⟨_, rfl⟩
    have HC := hideP hc
    have HG := hideP (gro_empty W W 3 1 (Kept.refl _ _))
    rw [← hn] at hp hl ⊢
    have HN := hideP hn
    have qe : ∀ (w : World) (a : Option Addr) (n c n' c' : Nat), (binOp .eql 24 (.slice a n c) (.slice none n' c')).run Tryz.prog w = .ok (.bool a.isNone) w := fun w a n c n' c' => Lib.run_eql_slice_nil w _ _ a n c n' c' Tryz.underlying24
    clear h h0 hc hne hn
    go_enter Tryz.func29, Tryz.ntmps29
    go_wp2_with (at_builtin; refine StpQ.go ?_)
    refine ⟨?_⟩
    obtain ⟨i0, hi, hz0, hz1, hz2⟩ := info_partsP Tryz.infoI
    refine wpList_catX rfl (.tmp 5) (.tmp 6) 24 rfl 3 i0 (.int .i64 0) 1 8 Tryz.underlying24 hi hz0 hz1 hz2 rfl (by decide) _ 0 [] (is l) rfl HG ⟨b, off, none⟩ n pc rfl (by rw [is_len, ← HN.out]; omega) ?_ (is_one _) hp (by omega) (by unfold maxLen; omega) ?_
    · exact ints_cells (fun k hk => (Kept.alloc W (.cells #[] 3)).cell (HC.out k hk) (fun f => f))
    intro g c' W2 hG2 hS2
    have HG3 := hideP hG2.out
    have HS3 := hideP hS2.out
    simp only [Nat.zero_add, List.nil_append] at HG3
    simp only [Nat.zero_add]
    go_wp2
    go_ret
    refine ⟨some ⟨g, 0, none⟩, c', rfl, gro_intsC HG3.out HN.out, fun _ => ⟨g, rfl, ?_, ?_⟩, HG3.out.kept⟩
    · exact (HG3.out.own.lt g rfl).1
    · exact HG3.out.own
/-- The cursor's positions. -/
def Sp (cb : Nat) (pa : Option Addr) (pn pc : Nat) (W : World) : Prop := W.cell? ⟨cb, 6, none⟩ = some (.slice pa pn pc)
/-- What Positions leaves. -/
def poPost (W0 : Bs) (W : World) (cb bl : Nat) (P : List Po) (u mv : Nat) (e : Ending) (w' : World) : Prop := ∃ (a : Option Addr) (c : Nat), e = .returned (.slice a (posU P u).length c) ∧ IntsAt w' a (posU P u) ∧ (posU P u ≠ [] → ∃ g, a = some ⟨g, 0, none⟩ ∧ W.heap.size ≤ g ∧ w'.ownsRow W.heap.size 3 1 (.slice a (posU P u).length c) (posU P u).length (is (posU P u))) ∧ CuS W0 w' cb bl P u mv true ∧ Kept (fun i => i = cb) W w'
set_option maxRecDepth 20000 in
set_option maxHeartbeats 4000000 in
theorem cpos_true {W0 : Bs} (W : World) {cb bl : Nat} {P : List Po} {u mv : Nat} (h : CuS W0 W cb bl P u mv true) (hl : (posU P u).length ≤ 1099511627776) :
    Calls Tryz.prog 10 #[.pointer (some ⟨cb, 0, none⟩)] W (poPost W0 W cb bl P u mv) := by
  unfold poPost
  have HS := hideP h
  obtain ⟨nb, bv, pa, pc, h, hb', hn⟩ := h
  have CC := hideP (clone_ints W pa pc (posU P u) h.pos hn hl)
  obtain ⟨-, -, -, -, -, -, c6, c7⟩ := h.cells
  clear h hb' hn hl
  obtain ⟨pn, hpn⟩ : ∃ pn, pn = (posU P u).length := ⟨_, rfl⟩
  rw [← hpn] at CC c6
  have HPN := hideP hpn
  clear hpn
  go_enter Tryz.func10, Tryz.ntmps10
  go_wp2_with (go_at_call 29; refine StpQ.go ?_)
  refine ⟨?_⟩
  refine CC.out.mono ?_
  clear CC
  rintro e W1 ⟨a, c, rfl, hi, hg, k1⟩
  have HI := hideP hi
  have HG := hideP hg
  have HK := hideP k1
  clear hi hg k1
  rw [← HPN.out]
  go_wp2
  go_ret
  exact ⟨a, c, by rw [HPN.out]; rfl, HI.out, HG.out, HS.out.later HK.out, HK.out.mono (fun _ f => f.elim)⟩
set_option maxRecDepth 20000 in
set_option maxHeartbeats 4000000 in
theorem cpos_false {W0 : Bs} (W : World) {cb bl : Nat} {P : List Po} {u mv : Nat} (h : CuS W0 W cb bl P u mv false) (hl : (posU P u).length ≤ 1099511627776) (hmv : mv ≤ 2305843009213693952) :
    Calls Tryz.prog 10 #[.pointer (some ⟨cb, 0, none⟩)] W (poPost W0 W cb bl P u (mv + (posU P u).length)) := by
  unfold poPost
  obtain ⟨nb, bv, pa, pc, h, hb', hn⟩ := h
  obtain ⟨pn, hpn⟩ : ∃ pn, pn = (posU P u).length := ⟨_, rfl⟩
  obtain ⟨M, hM⟩ : ∃ M : Nat, M = mv + (posU P u).length := ⟨_, rfl⟩
  rw [← hM]
  have HE2 : Hid ((mv : Int) + (pn : Int) = (M : Int)) := hideP (by omega)
  have HEW : Hid (IntKind.i64.wrap ((mv : Int) + (pn : Int)) = (M : Int)) := hideP (by rw [IntKind.wrap_i64]; omega)
  have hM2 : (M : Int) ≤ 4611686018427387904 := by omega
  have hR := h.raw.drew
  rw [← hpn] at hR
  have hS0 : Sp cb pa pn pc W.drew := by have := hR.cell 6; exact this
  have q2 := hR.cell 2
  have f2 := hR.frozen 2
  simp only [List.getElem?_toArray, List.getElem?_cons_zero, List.getElem?_cons_succ] at q2
  have hR1 := hR.set 2 (.int .i64 (M : Int))
  have f7 := hR1.frozen 7
  have q7 := hR1.cell 7
  have hS1 : Sp cb pa pn pc (W.drew.setCell ⟨cb, 2, none⟩ (.int .i64 (M : Int))) := by have := hR1.cell 6; exact this
  have hR2 := hR1.set 7 (.bool true)
  have p6 := hR2.cell 6
  simp only [List.setIfInBounds_toArray, List.set_cons_zero, List.set_cons_succ, List.getElem?_toArray, List.getElem?_cons_zero, List.getElem?_cons_succ] at hR2 q7 p6
  have ks := ((((Kept.drew W).mono (G := fun i => i = cb) (fun _ f => f.elim)).trans (Kept.setCell W.drew ⟨cb, 2, none⟩ (.int .i64 (M : Int))) (fun _ h => .inl h))).trans (Kept.setCell (W.drew.setCell ⟨cb, 2, none⟩ (.int .i64 (M : Int))) ⟨cb, 7, none⟩ (.bool true)) (fun _ h => .inl h)
  have hpos := ints_step h.pos ks (fun hn => far_ne (h.far hn))
  have CC := hideP (clone_ints _ pa pc (posU P u) hpos hn hl)
  have hR2' := hR2
  rw [hpn] at hR2'
  have HS : Hid (CuS W0 ((W.drew.setCell ⟨cb, 2, none⟩ (.int .i64 (M : Int))).setCell ⟨cb, 7, none⟩ (.bool true)) cb bl P u M true) := hideP ⟨nb, bv, pa, pc, hR2'.toAt rfl rfl rfl hpos h.far, fun hu => (hb' hu).keptB ks, hn⟩
  have HK := hideP ks
  obtain ⟨-, -, -, -, -, -, -, c7⟩ := h.cells
  rw [← hpn] at CC
  have HPN := hideP hpn
  clear h hb' hn hl hmv hpn hM hR hR1 hR2 hR2' ks hpos
  go_enter Tryz.func10, Tryz.ntmps10
  go_wp2_with fail
  refine wp_region_held (S := Sp cb pa pn pc) (by kernel_rfl) ?_
  change wpAnyH _ _ _ _ _ _ _ _ (World.drew _)
  generalize W.drew = V at *
  refine takeZ (i := 0) (d := 8) (v := .pointer (some ⟨cb, 0, none⟩)) rfl rfl (by kernel_rfl) (by kernel_rfl) (by kernel_rfl) (fun _ _ _ h => h) (Or.inl ⟨by rfl, fun W hW => ?_⟩) hS0 ?_
  · (go_simp)
  simp only [Act.put, List.setIfInBounds_toArray, List.set_cons_zero, List.set_cons_succ]
  refine takeZ (i := 1) (d := 9) (v := .pointer (some ⟨cb, 0, none⟩)) rfl rfl (by kernel_rfl) (by kernel_rfl) (by kernel_rfl) (fun _ _ _ h => h) (Or.inl ⟨by rfl, fun W hW => ?_⟩) hS0 ?_
  · (go_simp)
  simp only [Act.put, List.setIfInBounds_toArray, List.set_cons_zero, List.set_cons_succ]
  refine takeZ (i := 2) (d := 10) (v := .pointer (some ⟨cb, 0, none⟩)) rfl rfl (by kernel_rfl) (by kernel_rfl) (by kernel_rfl) (fun _ _ _ h => h) (Or.inl ⟨by rfl, fun W hW => ?_⟩) hS0 ?_
  · (go_simp)
  simp only [Act.put, List.setIfInBounds_toArray, List.set_cons_zero, List.set_cons_succ]
  refine takeZ (i := 3) (d := 11) (v := .pointer (some ⟨cb, 2, none⟩)) rfl rfl (by kernel_rfl) (by kernel_rfl) (by kernel_rfl) (fun _ _ _ h => h) (Or.inl ⟨by rfl, fun W hW => ?_⟩) hS0 ?_
  · (go_simp)
  simp only [Act.put, List.setIfInBounds_toArray, List.set_cons_zero, List.set_cons_succ]
  refine takeZ (i := 5) (d := 13) (v := .pointer (some ⟨cb, 0, none⟩)) rfl rfl (by kernel_rfl) (by kernel_rfl) (by kernel_rfl) (fun _ _ _ h => h) (Or.inl ⟨by rfl, fun W hW => ?_⟩) hS0 ?_
  · (go_simp)
  simp only [Act.put, List.setIfInBounds_toArray, List.set_cons_zero, List.set_cons_succ]
  refine takeZ (i := 6) (d := 14) (v := .pointer (some ⟨cb, 0, none⟩)) rfl rfl (by kernel_rfl) (by kernel_rfl) (by kernel_rfl) (fun _ _ _ h => h) (Or.inl ⟨by rfl, fun W hW => ?_⟩) hS0 ?_
  · (go_simp)
  simp only [Act.put, List.setIfInBounds_toArray, List.set_cons_zero, List.set_cons_succ]
  refine takeZ (i := 7) (d := 15) (v := .pointer (some ⟨cb, 6, none⟩)) rfl rfl (by kernel_rfl) (by kernel_rfl) (by kernel_rfl) (fun _ _ _ h => h) (Or.inl ⟨by rfl, fun W hW => ?_⟩) hS0 ?_
  · (go_simp)
  simp only [Act.put, List.setIfInBounds_toArray, List.set_cons_zero, List.set_cons_succ]
  refine takeZ (i := 8) (d := 16) (v := .slice pa pn pc) rfl rfl (by kernel_rfl) (by kernel_rfl) (by kernel_rfl) (fun _ _ _ h => h) (Or.inl ⟨by rfl, fun W hW => ?_⟩) hS0 ?_
  · (have h6 := hW; unfold Sp at h6; go_simp)
  simp only [Act.put, List.setIfInBounds_toArray, List.set_cons_zero, List.set_cons_succ]
  refine takeZ (i := 9) (d := 17) (v := .int .i64 pn) rfl rfl (by kernel_rfl) (by kernel_rfl) (by kernel_rfl) (fun _ _ _ h => h) (Or.inl ⟨by rfl, fun W hW => ?_⟩) hS0 ?_
  · (go_simp)
  simp only [Act.put, List.setIfInBounds_toArray, List.set_cons_zero, List.set_cons_succ]
  refine wpAnyH_all (rs := [4]) (by kernel_rfl) (by simp) ?_
  intro i hi
  obtain rfl : i = 4 := by simpa using hi
  unfold wpOp
  go_simp
  first | refine Or.inl ⟨hS0, ?_⟩ | refine ⟨hS0, ?_⟩ | (change wpAnyH _ _ _ _ _ _ _ _ _) | refine Or.inl ?_
  refine takeZ (i := 10) (d := 18) (v := .int .i64 M) rfl rfl (by kernel_rfl) (by kernel_rfl) (by kernel_rfl) (fun _ _ _ h => h) (Or.inl ⟨by rfl, fun W hW => ?_⟩) hS0 ?_
  · (go_simp; first | exact HEW.out | (rw [HE2.out]) | (rw [HE2.out, IntKind.wrap_i64]; omega))
  simp only [Act.put, List.setIfInBounds_toArray, List.set_cons_zero, List.set_cons_succ]
  refine takeZ (i := 11) (d := 19) (v := .pointer (some ⟨cb, 0, none⟩)) rfl rfl (by kernel_rfl) (by kernel_rfl) (by kernel_rfl) (fun _ _ _ h => h) (Or.inl ⟨by rfl, fun W hW => ?_⟩) hS0 ?_
  · (go_simp)
  simp only [Act.put, List.setIfInBounds_toArray, List.set_cons_zero, List.set_cons_succ]
  refine takeZ (i := 12) (d := 20) (v := .pointer (some ⟨cb, 0, none⟩)) rfl rfl (by kernel_rfl) (by kernel_rfl) (by kernel_rfl) (fun _ _ _ h => h) (Or.inl ⟨by rfl, fun W hW => ?_⟩) hS0 ?_
  · (go_simp)
  simp only [Act.put, List.setIfInBounds_toArray, List.set_cons_zero, List.set_cons_succ]
  refine takeZ (i := 13) (d := 21) (v := .pointer (some ⟨cb, 2, none⟩)) rfl rfl (by kernel_rfl) (by kernel_rfl) (by kernel_rfl) (fun _ _ _ h => h) (Or.inl ⟨by rfl, fun W hW => ?_⟩) hS0 ?_
  · (go_simp)
  simp only [Act.put, List.setIfInBounds_toArray, List.set_cons_zero, List.set_cons_succ]
  refine wpAnyH_all (rs := [14]) (by kernel_rfl) (by simp) ?_
  intro i hi
  obtain rfl : i = 14 := by simpa using hi
  unfold wpOp
  go_simp
  first | refine Or.inl ⟨hS1, ?_⟩ | refine ⟨hS1, ?_⟩ | (change wpAnyH _ _ _ _ _ _ _ _ _) | refine Or.inl ?_
  refine wpAnyH_done (by kernel_rfl) ?_ _
  go_wp2_with (go_at_call 29; refine StpQ.go ?_)
  refine ⟨?_⟩
  refine CC.out.mono ?_
  clear CC
  rintro e W1 ⟨a, c, rfl, hi, hg, k1⟩
  have HI := hideP hi
  have HG := hideP hg
  have HK1 := hideP k1
  clear hi hg k1
  rw [← HPN.out]
  go_wp2
  go_ret
  exact ⟨a, c, by rw [HPN.out]; rfl, HI.out, fun e => by
    obtain ⟨g, e1, e2, e3⟩ := HG.out e
    exact ⟨g, e1, Nat.le_trans HK.out.size e2, row_lower e3 HK.out.size⟩, HS.out.later HK1.out, HK.out.trans HK1.out (fun _ f => f.elim)⟩
end Go.Proofs.YtidgofpmnlddaaaGreatDoor
namespace Go.Proofs.YtidgofpmnlddaaaGreatDoor
open Go.ChangeShapes Go.WideShapes Go.ChangeAt Go.RowKit

theorem le_lastd : ∀ (F : List Po) (b : Int), gdl b F → ∀ x ∈ F, x.d ≤ lastd b F
  | [], _, _, _, hx => by cases hx
  | p :: F, b, h, x, hx => by
    rw [lastd]
    rcases List.mem_cons.1 hx with rfl | hx
    · exact (gdl_last F x.d h.2).1
    · exact le_lastd F p.d h.2 x hx
theorem le_last_take {P : List Po} {b : Int} (h : gdl b P) {i j : Nat} (hi : i < P.length) (hij : i < j) : P[i].d ≤ lastd b (P.take j) := by
  have hl : i < (P.take j).length := by rw [List.length_take]; omega
  have e : (P.take j)[i]'hl = P[i] := List.getElem_take
  rw [← e]
  exact le_lastd _ _ (gdl_take h j) _ (List.getElem_mem hl)
theorem gdl_lt {P : List Po} {b : Int} (h : gdl b P) {i j : Nat} (hj : j < P.length) (hij : i < j) : (P[i]'(by omega)).d < P[j].d := by
  have h1 := le_last_take h (i := i) (j := j) (by omega) hij
  have h2 := (gdl_at hj h).up
  omega
/-- The first place whose document is t or greater. -/
def plc (P : List Po) (t : Int) : Nat := P.findIdx (fun p => decide (t ≤ p.d))
theorem plc_all {P : List Po} {t : Int} (h : ∀ i (hi : i < P.length), P[i].d < t) : plc P t = P.length := by
  unfold plc
  rw [List.findIdx_eq_length]
  intro x hx
  obtain ⟨i, hi, rfl⟩ := List.getElem_of_mem hx
  have := h i hi
  simp; omega
theorem plc_at {P : List Po} {t : Int} {q : Nat} (hq : q < P.length) (h1 : t ≤ P[q].d) (h2 : ∀ i (hi : i < P.length), i < q → P[i].d < t) : plc P t = q := by
  unfold plc
  rw [List.findIdx_eq hq]
  refine ⟨by simpa using h1, fun j hj => ?_⟩
  have := h2 j (by omega) hj
  simp; omega
theorem plc_ge {P : List Po} {t : Int} {u : Nat} (hu : u ≤ P.length) (h : ∀ i (hi : i < P.length), i < u → P[i].d < t) : u ≤ plc P t := by
  rcases Nat.lt_or_ge (plc P t) u with q | q
  · have hl : plc P t < P.length := by omega
    have h1 : decide (t ≤ (P[plc P t]'hl).d) = true := List.findIdx_getElem (w := hl)
    have h2 := h _ hl q
    have h3 := of_decide_eq_true h1
    omega
  · exact q
theorem plc_le (P : List Po) (t : Int) : plc P t ≤ P.length := List.findIdx_le_length
theorem blk_get {P : List Po} {FL : List Pg} {k : Nat} (h : pol FL = blN P k) {i : Nat} (hi : i < FL.length) : ∃ hl : 16 * k + i < P.length, P[16 * k + i] = (FL[i]).po := by
  have hlen : FL.length = (blN P k).length := by rw [← h, pol_len]
  have hlb : (blN P k).length ≤ 16 := by unfold blN; rw [List.length_take]; omega
  have hb : (blN P k)[i]? = P[16 * k + i]? := by
    unfold blN
    rw [List.getElem?_take, if_pos (by omega), List.getElem?_drop]
  have he : (blN P k)[i]? = some (FL[i]).po := by rw [← h]; simp [pol, List.getElem?_eq_getElem hi]
  rw [he] at hb
  obtain ⟨hl, e⟩ := List.getElem?_eq_some_iff.1 hb.symm
  exact ⟨hl, e⟩
theorem plc_blk {P : List Po} {FL : List Pg} {k j : Nat} {t : Int} (h : pol FL = blN P k) (hlow : ∀ i (hi : i < P.length), i < 16 * k → P[i].d < t) (hj : j < FL.length) (hge : t ≤ FL[j].d) (hlt : ∀ i (hi : i < FL.length), i < j → FL[i].d < t) : plc P t = 16 * k + j := by
  obtain ⟨hl, e⟩ := blk_get h hj
  refine plc_at hl (by rw [e]; exact hge) (fun i hi hij => ?_)
  by_cases h16 : i < 16 * k
  · exact hlow i hi h16
  · obtain ⟨m, rfl⟩ : ∃ m, i = 16 * k + m := ⟨i - 16 * k, by omega⟩
    obtain ⟨hl2, e2⟩ := blk_get h (i := m) (by omega)
    rw [e2]
    exact hlt m (by omega) (by omega)
theorem blk_last {P : List Po} {FL : List Pg} {k : Nat} {t b : Int} (h : pol FL = blN P k) (hk : k < nbp P.length) (ht : t ≤ bbN b P (k + 1)) : ∃ i, ∃ hi : i < FL.length, t ≤ FL[i].d := by
  have hlen : FL.length = (blN P k).length := by rw [← h, pol_len]
  have hpos : 0 < (blN P k).length := by
    unfold blN
    unfold nbp at hk
    rw [List.length_take, List.length_drop]; omega
  have hpl : (pol FL).length = FL.length := pol_len FL
  rw [bbN_succ, ← h, lastd_get (pol FL) _ (by omega)] at ht
  refine ⟨(pol FL).length - 1, by omega, ?_⟩
  simpa [pol, Pg.po] using ht
set_option maxRecDepth 20000 in
set_option maxHeartbeats 2000000 in
theorem placeOf1_any (d t : Int) (ga : Option Addr) (pn gc bx : Nat) (W : World) (hx : W.cell? ⟨bx, 0, none⟩ = some (.int .i64 t)) :
    Calls Tryz.prog 58 (#[.agg #[.int .i64 d, .slice ga pn gc]] ++ #[.pointer (some ⟨bx, 0, none⟩)]) W fun e w' => e = .returned (.bool (decide (t ≤ d))) ∧ Kept (fun _ => False) W w' := by
  have hx' := (Kept.alloc W (.cells #[.int .i64 d, .slice ga pn gc] 38)).cell hx (fun f => f)
  have HK := hideP (Kept.alloc W (.cells #[.int .i64 d, .slice ga pn gc] 38))
  simp only [List.append_toArray, List.cons_append, List.nil_append]
  go_enter Tryz.func58, Tryz.ntmps58
  go_wp2
  go_ret
  exact ⟨rfl, HK.out⟩
/-- What slices.IndexFunc leaves. -/
def ixPost (W : World) (FL : List Pg) (t : Int) (e : Ending) (w' : World) : Prop := ∃ j : Nat, e = .returned (.int .i64 j) ∧ (∃ hj : j < FL.length, t ≤ FL[j].d) ∧ (∀ i (hi : i < FL.length), i < j → FL[i].d < t) ∧ Kept (fun _ => False) W w'
set_option maxRecDepth 20000 in
set_option maxHeartbeats 4000000 in
theorem indexFunc_any (FL : List Pg) (a : Option Addr) (c bx : Nat) (t : Int) (W : World) (hP : PsAt W a FL) (hx : W.cell? ⟨bx, 0, none⟩ = some (.int .i64 t)) (hl : FL.length ≤ 1099511627776) (hex : ∃ i, ∃ hi : i < FL.length, t ≤ FL[i].d) :
    Calls Tryz.prog 57 #[.slice a FL.length c, .func (.func 58) #[] #[.pointer (some ⟨bx, 0, none⟩)]] W (ixPost W FL t) := by
  have HP := hideP hP
  have HX := hideP hx
  have HE := hideP hex
  obtain ⟨n, hn⟩ : ∃ n, n = FL.length := ⟨_, rfl⟩
  have HN := hideP hn
  rw [← hn] at hl ⊢
  clear hP hx hex hn
  go_enter Tryz.func57, Tryz.ntmps57
  go_wp2
  go_loopw [8] (fun s8 wr => ∃ k : Nat, k ≤ n ∧ s8 = .int .i64 k ∧ Hid (∀ i (hi : i < FL.length), i < k → FL[i].d < t) ∧ Hid (Kept (fun _ => False) W wr)) (fun s8 _ => n - (intOf s8).toNat)
  case atStart => exact ⟨0, by omega, rfl, hideP (fun i _ h => by omega), hideP (Kept.refl _ _)⟩
  case round =>
    obtain ⟨k, hk, rfl, HL, HK⟩ := hrel
    by_cases hlt : k < n
    · have hkl : k < FL.length := by rw [← HN.out]; exact hlt
      obtain ⟨b, off, rfl, hc⟩ := HP.out (by intro e; rw [e] at hkl; simp at hkl)
      obtain ⟨x0, x1, -⟩ := hc k hkl
      have y0 := HK.out.cell x0 (fun f => f)
      have y1 := HK.out.cell x1 (fun f => f)
      obtain ⟨g, hg⟩ : ∃ g, g = FL[k] := ⟨_, rfl⟩
      rw [← hg] at y0 y1
      have CL := hideP (placeOf1_any g.d t g.a g.ps.length g.c bx wr (HK.out.cell HX.out (fun f => f)))
      simp only [List.append_toArray, List.cons_append, List.nil_append] at CL
      have HG := hideP hg
      have hkk : (k : Int) < (n : Int) := by omega
      clear x0 x1 hc hg
      generalize g.a = ga at *
      generalize g.ps.length = gn at *
      generalize g.c = gc at *
      by_cases hd : t ≤ g.d
      · have hdd : decide (t ≤ g.d) = true := decide_eq_true hd
        rw [hdd] at CL
        have HD := hideP hd
        clear hd hdd
        generalize hgd : g.d = gd at *
        have HGD := hideP hgd
        clear hgd
        go_wp2_with (go_at_call 58; refine CL.out.mono ?_; clear CL; rintro e W2 ⟨rfl, k2⟩; have HK2 := hideP (HK.out.trans k2 (fun _ f => f.elim)); clear k2)
        go_ret
        exact ⟨k, rfl, ⟨hkl, by rw [← HG.out, HGD.out]; exact HD.out⟩, HL.out, HK2.out⟩
      · have hdd : decide (t ≤ g.d) = false := decide_eq_false hd
        rw [hdd] at CL
        have HD : Hid (g.d < t) := hideP (by omega)
        clear hd hdd
        generalize hgd : g.d = gd at *
        have HGD := hideP hgd
        clear hgd
        go_wp2_with (go_at_call 58; refine CL.out.mono ?_; clear CL; rintro e W2 ⟨rfl, k2⟩; have HK2 := hideP (HK.out.trans k2 (fun _ f => f.elim)); clear k2)
        go_roundw
        case rel => exact ⟨k + 1, by omega, by go_num, hideP (fun i hi h => by
          rcases Nat.lt_or_ge i k with q | q
          · exact HL.out i hi q
          · obtain rfl : i = k := by omega
            rw [← HG.out, HGD.out]
            exact HD.out), HK2⟩
        case measure => simp [intOf]; omega
    · exfalso
      obtain ⟨i, hi, hti⟩ := HE.out
      have := HL.out i hi (by rw [← HN.out] at hi; omega)
      omega
end Go.Proofs.YtidgofpmnlddaaaGreatDoor
namespace Go.Proofs.YtidgofpmnlddaaaGreatDoor
open Go.ChangeShapes Go.WideShapes Go.ChangeAt Go.RowKit

theorem docU_in {P : List Po} {u : Nat} (hu : u < P.length) : docU P (u + 1) = P[u].d := by simp [docU, List.getElem?_eq_getElem hu]
theorem below_doc {P : List Po} {t : Int} {u : Nat} (hg : gdl (-1) P) (hu : u ≤ P.length) (hd : docU P u < t) : ∀ i (hi : i < P.length), i < u → P[i].d < t := by
  intro i hi hiu
  obtain ⟨q, rfl⟩ : ∃ q, u = q + 1 := ⟨u - 1, by omega⟩
  rw [docU_in (by omega)] at hd
  rcases Nat.lt_or_ge i q with h | h
  · have := gdl_lt hg (i := i) (j := q) (by omega) h
    omega
  · obtain rfl : i = q := by omega
    exact hd
set_option maxRecDepth 20000 in
set_option maxHeartbeats 8000000 in
theorem cplaceOf_any {W0 : Bs} (W : World) {cb bl : Nat} {P : List Po} {u mv : Nat} {ask : Bool} (t : Int) (ad : Nat → Addr) (h : CuS W0 W cb bl P u mv ask) (hu : u ≤ P.length) (hd : docU P u < t) (hln : P.length ≤ 1099511627776) (hg : gdl (-1) P) (hl : (img P).length ≤ 1073741824) (hE : ErQ W0.w ad) :
    Calls Tryz.prog 36 #[.pointer (some ⟨cb, 0, none⟩), .int .i64 t] W fun e w' => e = .returned (.int .i64 (plc P t : Nat)) ∧ CuS W0 w' cb bl P u mv ask ∧ Kept (fun i => i = cb) W w' := by
  obtain ⟨nb, bv, pa, pc, h, hb', hn⟩ := h
  have hb := hb' hu
  have hlow0 := below_doc hg hu hd
  have HH := hideP h
  have HB := hideP hb
  have HNN := hideP hn
  have hcb : cb < W.heap.size := h.raw.lt
  have HX : Hid ((W.alloc (.cells #[.int .i64 t] 3)).cell? ⟨W.heap.size, 0, none⟩ = some (.int .i64 t)) := hideP (by simp)
  have HK1 := hideP (Kept.alloc W (.cells #[.int .i64 t] 3))
  have c0 := (h.later (Kept.alloc W (.cells #[.int .i64 t] 3))).cells.1
  obtain ⟨k0, hk0⟩ : ∃ k0, k0 = u / 16 := ⟨_, rfl⟩
  have s0 : (u : Int) / 16 = (k0 : Int) := by omega
  have t0 : (u : Int).tdiv 16 = (k0 : Int) := by rw [Int.tdiv_eq_ediv_of_nonneg (by omega)]; omega
  have hk0b : k0 ≤ 1099511627776 := by omega
  have hub : u ≤ 1099511627776 := by omega
  have hkn : k0 ≤ nbp P.length := by unfold nbp; omega
  have HLOW : Hid (∀ i (hi : i < P.length), i < 16 * k0 → P[i].d < t) := hideP (fun i hi h16 => hlow0 i hi (by omega))
  have HGD := hideP hg
  have HIL := hideP hl
  have HER := hideP hE
  have hbx : W.heap.size ≠ cb := Nat.ne_of_gt hcb
  obtain ⟨nbn, hnbn⟩ : ∃ nbn, nbn = nbp P.length := ⟨_, rfl⟩
  have hnb2 : nbn ≤ 1099511627776 := by rw [hnbn]; unfold nbp; omega
  rw [← hnbn] at hkn
  have HNB := hideP hnbn
  clear h hb hb' hn hd hlow0 hg hl hE hk0 hcb hu hnbn hln
  go_enter Tryz.func36, Tryz.ntmps36
  go_wp2
  generalize W.heap.size = bx at *
  generalize W.alloc (.cells #[.int .i64 t] 3) = W1 at *
  clear s0 t0 c0
  go_loopw [5] (fun s5 wr => ∃ k : Nat, k ≤ nbn ∧ s5 = .int .i64 k ∧ Hid (∀ i (hi : i < P.length), i < 16 * k → P[i].d < t) ∧ Hid (Kept (fun _ => False) W1 wr)) (fun s5 _ => nbn - (intOf s5).toNat)
  case atStart => exact ⟨k0, hkn, rfl, HLOW, hideP (Kept.refl _ _)⟩
  case round =>
    obtain ⟨k, hk, rfl, HLk, HKk⟩ := hrel
    have hA := HH.out.later (HK1.out.trans HKk.out (fun _ f => f.elim))
    have CB := hideP (blocks_of bl P wr hA.opn)
    rw [← HNB.out] at CB
    have c3 := hA.cells.2.2.2.1
    by_cases hlt : k < nbn
    · have CS := hideP (skip_in bl P k wr hA.opn (by rw [← HNB.out]; exact hlt))
      obtain ⟨Lb, hLb⟩ : ∃ Lb, Lb = bbN (-1) P (k + 1) := ⟨_, rfl⟩
      rw [← hLb] at CS
      generalize ((blN P k).length : Nat) = y1 at CS
      generalize (atN P k : Nat) = y2 at CS
      generalize ((blk (bbN (-1) P k) (blN P k)).length : Nat) = y3 at CS
      have HLB := hideP hLb
      have HA := hideP hA
      have hkk : (k : Int) < (nbn : Int) := by omega
      clear hA hLb
      unfold skV at CS
      go_wp2_with (first
        | (go_at_call 55; refine CB.out.mono ?_; clear CB; rintro e W2 ⟨rfl, rfl⟩)
        | (go_at_call 56; refine StpQ.go ?_))
      refine ⟨?_⟩
      refine CS.out.mono ?_
      clear CS
      rintro e W2 ⟨rfl, k2⟩
      have HK2 := hideP (HKk.out.trans k2 (fun _ f => f.elim))
      have HK3 := hideP (HK2.out.trans (Kept.alloc W2 (.cells #[.int .i64 Lb, .int .i64 y1, .int .i64 y2, .int .i64 y3] 80)) (fun _ f => f.elim))
      have hx3 := HK3.out.cell HX.out (fun f => f)
      clear k2
      by_cases hL : Lb < t
      · have HLN : Hid (∀ i (hi : i < P.length), i < 16 * (k + 1) → P[i].d < t) := hideP (fun i hi h16 => by
          have h1 := le_last_take HGD.out hi h16
          have h2 := HLB.out
          unfold bbN at h2
          omega)
        go_wp2
        go_roundw
        case rel => exact ⟨k + 1, by omega, by go_num, HLN, HK3⟩
        case measure => simp [intOf]; omega
      · have HTL : Hid (t ≤ bbN (-1) P (k + 1)) := hideP (by rw [← HLB.out]; omega)
        go_wp2_with (go_at_call 49; refine StpQ.go ?_)
        refine ⟨?_⟩
        generalize W2.alloc (.cells #[.int .i64 Lb, .int .i64 y1, .int .i64 y2, .int .i64 y3] 80) = W3 at *
        have hkb : k < nbp P.length := by rw [← HNB.out]; exact hlt
        have hWK := HK1.out.trans HK3.out (fun _ f => f.elim)
        have hR3 := HH.out.raw.later hWK
        refine (creadBlock_any W3 k ad hR3 (HB.out.keptB (hWK.mono (fun _ f => f.elim))) hkb HGD.out HIL.out (HER.out.kept hR3.kept)).mono ?_
        rintro e W4 ⟨rfl, bv4, hR4, hB4, k4⟩
        obtain ⟨FL, a4, c4, hbv, hFL, hPs, hFar⟩ := hB4 k rfl
        subst hbv
        have hx4 := k4.cell hx3 hbx
        have hf16 : FL.length ≤ 16 := by rw [← pol_len, hFL]; unfold blN; rw [List.length_take]; omega
        have CI := hideP (indexFunc_any FL a4 c4 bx t W4 hPs hx4 (by omega) (blk_last hFL hkb HTL.out))
        have p5 := hR4.cell 5
        simp only [List.getElem?_toArray, List.getElem?_cons_zero, List.getElem?_cons_succ] at p5
        have hWK4 := (hWK.mono (G := fun i => i = cb) (fun _ f => f.elim)).trans k4 (fun _ h => .inl h)
        have HS : Hid (CuS W0 W4 cb bl P u mv ask) := hideP ⟨k, _, pa, pc, hR4.toAt rfl rfl rfl (ints_step HH.out.pos hWK4 (fun hn => far_ne (HH.out.far hn))) HH.out.far, fun _ => hB4, HNN.out⟩
        have HK4 := hideP hWK4
        have HFL := hideP hFL
        obtain ⟨fl, hfl⟩ : ∃ fl, fl = FL.length := ⟨_, rfl⟩
        rw [← hfl] at CI p5
        have HF16 := hideP hf16
        clear hR3 hR4 hB4 hFL hPs hFar hf16 hWK hWK4 hfl k4 hkb hx4 hx3 c3
        go_wp2_with (go_at_call 57; refine StpQ.go ?_)
        refine ⟨?_⟩
        refine CI.out.mono ?_
        clear CI
        rintro e W5 ⟨j, rfl, ⟨hj, hge⟩, hlt2, k5⟩
        have hq := plc_blk HFL.out HLk.out hj hge hlt2
        have HQ : Hid ((k : Int) * 16 + (j : Int) = ((plc P t : Nat) : Int)) := hideP (by omega)
        have hj16 : j ≤ 16 := by have := HF16.out; omega
        have HS5 := hideP (HS.out.later k5)
        have HK5 := hideP (HK4.out.trans k5 (fun _ f => f.elim))
        clear hq hge hlt2 k5 hj
        go_wp2
        go_ret
        exact ⟨by rw [← HQ.out]; rfl, HS5.out, HK5.out⟩
    · obtain rfl : k = nbn := by omega
      have CD := hideP (cdocs_any wr hA)
      have hq : plc P t = P.length := plc_all (fun i hi => HLk.out i hi (by have := HNB.out; unfold nbp at this; omega))
      have HQ : Hid (((P.length : Nat) : Int) = ((plc P t : Nat) : Int)) := hideP (by rw [hq])
      have hWK := HK1.out.trans HKk.out (fun _ f => f.elim)
      have HS : Hid (CuS W0 wr cb bl P u mv ask) := hideP ⟨nb, bv, pa, pc, hA, fun _ => HB.out.keptB (hWK.mono (fun _ f => f.elim)), HNN.out⟩
      have HK9 := hideP (hWK.mono (G := fun i => i = cb) (fun _ f => f.elim))
      clear hA hq hWK
      go_wp2_with (first
        | (go_at_call 55; refine CB.out.mono ?_; clear CB; rintro e W2 ⟨rfl, rfl⟩)
        | (go_at_call 27; refine CD.out.mono ?_; clear CD; rintro e W2 ⟨rfl, rfl⟩))
      go_ret
      exact ⟨by rw [← HQ.out]; rfl, HS.out, HK9.out⟩
set_option maxRecDepth 20000 in
set_option maxHeartbeats 8000000 in
theorem cadv_in {W0 : Bs} (W : World) {cb bl : Nat} {P : List Po} {u mv : Nat} {ask : Bool} (t : Int) (ad : Nat → Addr) (h : CuS W0 W cb bl P u mv ask) (hu : u ≤ P.length) (hd : docU P u < t) (hmv : mv ≤ 2305843009213693952) (hln : P.length ≤ 1099511627776) (hg : gdl (-1) P) (hl : (img P).length ≤ 1073741824) (hE : ErQ W0.w ad) :
    Calls Tryz.prog 18 #[.pointer (some ⟨cb, 0, none⟩), .int .i64 t] W fun e w' => e = .returned (.int .i64 (docU P (plc P t + 1))) ∧ CuS W0 w' cb bl P (plc P t + 1) (mv + mvU P.length u (plc P t)) false ∧ Kept (fun i => i = cb) W w' := by
  have CP : Hid (∀ k, Calls Tryz.prog 36 #[.pointer (some ⟨cb, 0, none⟩), .int .i64 t] (W.drewN k) fun e w' => e = .returned (.int .i64 (plc P t : Nat)) ∧ CuS W0 w' cb bl P u mv ask ∧ Kept (fun i => i = cb) (W.drewN k) w') := hideP (fun k => cplaceOf_any (W.drewN k) t ad (h.later (Kept.drewN W k)) hu hd hln hg hl hE)
  have hpu : u ≤ plc P t := plc_ge hu (below_doc hg hu hd)
  have hpl := plc_le P t
  have HG := hideP (fun (V : World) (hS : CuS W0 V cb bl P u mv ask) => (show Calls Tryz.prog 28 #[.pointer (some ⟨cb, 0, none⟩), .int .i64 (plc P t : Nat)] V fun e w' => e = .returned (.tuple #[]) ∧ CuS W0 w' cb bl P (plc P t + 1) (mv + mvU P.length u (plc P t)) false ∧ Kept (fun i => i = cb) V w' from by
    obtain ⟨nb, bv, pa, pc, h1, hb1, hn1⟩ := hS
    refine (cgoTo_any V (plc P t) ad h1 (hb1 hu) hpu hpl hmv hln hg hl hE).mono ?_
    rintro e w' ⟨he, nb', bv', pa', pc', h2, hb2, hn2, k2⟩
    exact ⟨he, ⟨nb', bv', pa', pc', h2, fun hh => hb2 (by omega), hn2⟩, k2⟩))
  obtain ⟨nb, bv, pa, pc, h, hb', hn⟩ := h
  have CD : Hid (∀ k, Calls Tryz.prog 27 #[.pointer (some ⟨cb, 0, none⟩)] (W.drewN k) fun e w'' => e = .returned (.int .i64 ((P.length : Nat) : Int)) ∧ ∃ m, w'' = W.drewN m) := hideP (fun k => (cdocs_any (W.drewN k) (h.later (Kept.drewN W k))).mono (fun _ _ q => ⟨q.1, k, q.2⟩))
  obtain ⟨c0, c1, -, -, -, -, -, -⟩ := h.cells
  have hlt : decide ((u : Int) - 1 < ((P.length : Nat) : Int)) = true := decide_eq_true (by omega)
  have hdd : decide (docU P u < t) = true := decide_eq_true hd
  have hub : u ≤ 1099511627776 := by omega
  clear h hb' hE hg hl hu hln hmv hn hpu hpl
  go_enter Tryz.func18, Tryz.ntmps18
  go_wp2_with fail
  go_quiet ((exact CD.out _))
  clear CD
  go_wp2_with (go_at_call 36; refine StpQ.go ?_)
  refine ⟨?_⟩
  refine (CP.out nq).mono ?_
  clear CP
  rintro e W2 ⟨rfl, hS2, k2⟩
  have HS2 := hideP hS2
  have HK2 := hideP (((Kept.drewN W nq).mono (G := fun i => i = cb) (fun _ f => f.elim)).trans k2 (fun _ h => .inl h))
  clear hS2 k2 c0 c1
  go_wp2_with (go_at_call 28; refine StpQ.go ?_)
  refine ⟨?_⟩
  refine (HG.out _ HS2.out).mono ?_
  clear HG HS2
  rintro e W3 ⟨rfl, hS3, k3⟩
  have HS3 := hideP hS3
  have HK3 := hideP (HK2.out.trans k3 (fun _ h => .inl h))
  obtain ⟨nb3, bv3, pa3, pc3, h3, -, -⟩ := hS3
  obtain ⟨-, d1, -, -, -, -, -, -⟩ := h3.cells
  clear h3 k3
  go_wp2
  go_ret
  exact ⟨rfl, HS3.out, HK3.out⟩
set_option maxRecDepth 20000 in
set_option maxHeartbeats 8000000 in
theorem cadv_no {W0 : Bs} (W : World) {cb bl : Nat} {P : List Po} {u mv : Nat} {ask : Bool} (t : Int) (h : CuS W0 W cb bl P u mv ask) (hln : P.length ≤ 1099511627776) (hu : u ≤ P.length + 1) (hno : ¬ docU P u < t ∨ u = P.length + 1) :
    Calls Tryz.prog 18 #[.pointer (some ⟨cb, 0, none⟩), .int .i64 t] W fun e w' => e = .returned (.int .i64 (docU P u)) ∧ CuS W0 w' cb bl P u mv ask ∧ Kept (fun _ => False) W w' := by
  have HS := hideP h
  obtain ⟨nb, bv, pa, pc, h, hb', hn⟩ := h
  have CD : Hid (∀ k, Calls Tryz.prog 27 #[.pointer (some ⟨cb, 0, none⟩)] (W.drewN k) fun e w'' => e = .returned (.int .i64 ((P.length : Nat) : Int)) ∧ ∃ m, w'' = W.drewN m) := hideP (fun k => (cdocs_any (W.drewN k) (h.later (Kept.drewN W k))).mono (fun _ _ q => ⟨q.1, k, q.2⟩))
  obtain ⟨c0, c1, -, -, -, -, -, -⟩ := h.cells
  have hub : u ≤ 1099511627777 := by omega
  by_cases hd : docU P u < t
  · have hdd : decide (docU P u < t) = true := decide_eq_true hd
    have hlt : decide ((u : Int) - 1 < ((P.length : Nat) : Int)) = false := decide_eq_false (by rcases hno with q | q <;> omega)
    clear h hb' hln hn hno hu
    go_enter Tryz.func18, Tryz.ntmps18
    go_wp2_with fail
    go_quiet ((exact CD.out _))
    clear CD
    have c1' := (Kept.drewN W nq).cell c1 (fun f => f)
    go_wp2
    go_ret
    exact ⟨rfl, HS.out.later (Kept.drewN W nq), Kept.drewN W nq⟩
  · have hdd : decide (docU P u < t) = false := decide_eq_false hd
    clear h hb' hln hn hno hu
    go_enter Tryz.func18, Tryz.ntmps18
    go_wp2_with fail
    go_quiet ((exact CD.out _))
    clear CD
    have c1' := (Kept.drewN W nq).cell c1 (fun f => f)
    go_wp2
    go_ret
    exact ⟨rfl, HS.out.later (Kept.drewN W nq), Kept.drewN W nq⟩
theorem CuAt.toS {W0 : Bs} {W : World} {cb bl : Nat} {P : List Po} (h : CuAt W0 W cb bl P 0 0 (-1) (.slice none 0 0) none 0 false) : CuS W0 W cb bl P 0 0 false := ⟨-1, _, none, 0, h, fun _ k hk => by omega, fun _ => rfl⟩
theorem cdocS {W0 : Bs} (W : World) {cb bl : Nat} {P : List Po} {u mv : Nat} {ask : Bool} (h : CuS W0 W cb bl P u mv ask) : Calls Tryz.prog 17 #[.pointer (some ⟨cb, 0, none⟩)] W fun e w' => e = .returned (.int .i64 (docU P u)) ∧ w' = W := by
  obtain ⟨nb, bv, pa, pc, h, -, -⟩ := h
  exact cdoc_any W h
theorem cmovesS {W0 : Bs} (W : World) {cb bl : Nat} {P : List Po} {u mv : Nat} {ask : Bool} (h : CuS W0 W cb bl P u mv ask) : Calls Tryz.prog 19 #[.pointer (some ⟨cb, 0, none⟩)] W fun e w' => e = .returned (.int .i64 (mv : Nat)) ∧ w' = W := by
  obtain ⟨nb, bv, pa, pc, h, -, -⟩ := h
  exact cmoves_any W h
theorem cfreqS {W0 : Bs} (W : World) {cb bl : Nat} {P : List Po} {u mv : Nat} {ask : Bool} (h : CuS W0 W cb bl P u mv ask) : Calls Tryz.prog 20 #[.pointer (some ⟨cb, 0, none⟩)] W fun e w' => e = .returned (.int .i64 (((posU P u).length : Nat) : Int)) ∧ w' = W := by
  obtain ⟨nb, bv, pa, pc, h, -, -⟩ := h
  exact cfreq_any W h
/-- Behind the changes of a block that is younger than w0, w0's blocks are as they were. -/
theorem Kept.young {w W W' : World} {cb : Nat} (h : Kept (fun _ => False) w W) (k : Kept (fun i => i = cb) W W') (hc : w.heap.size ≤ cb) : Kept (fun _ => False) w W' := h.trans k (fun i hi => .inr (by rw [hi]; exact hc))
end Go.Proofs.YtidgofpmnlddaaaGreatDoor
