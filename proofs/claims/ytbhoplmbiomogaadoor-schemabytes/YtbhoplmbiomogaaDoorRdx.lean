import Derived.Test.YtbhoplmbiomogaaDoorGmx
import Derived.Test.YtbhoplmbiomogaaDoorRck
namespace Go.Proofs.YtbhoplmbiomogaaDoor
open Go.ChangeShapes Go.WideShapes Go.ChangeAt Go.RowKit

theorem sbox_stepD {W1 wr W' : World} {bs i : Nat} {v v' : Value} {F : List Fd} {f : Fd} {o : Obj} (h0 : bs < W1.heap.size) (hb : wr.heap[bs]? = some (.cells #[v] 24 (0, 0))) (ho : wr.ownsRow W1.heap.size 46 5 v i (fcells F)) (hk : Kept (fun k => k = bs) W1 wr) (ho' : W'.ownsRow W1.heap.size 46 5 v' (i + 1) (fcells F ++ f.cells)) (hg : (wr.alloc o).grownBy W' v.ownBlock) :
    W'.cell? ⟨bs, 0, none⟩ = some v ∧ W'.frozen? ⟨bs, 0, none⟩ = false ∧ (W'.setCell ⟨bs, 0, none⟩ v').heap[bs]? = some (.cells #[v'] 24 (0, 0)) ∧ (W'.setCell ⟨bs, 0, none⟩ v').ownsRow W1.heap.size 46 5 v' (i + 1) (fcells (F ++ [f])) ∧ Kept (fun k => k = bs) W1 (W'.setCell ⟨bs, 0, none⟩ v') := by
  have hv : ∀ k, v.ownBlock = some k → W1.heap.size ≤ k := fun k hk => (ho.lt k hk).1
  have k1 : Kept (fun k => v.ownBlock = some k) wr W' := ((Kept.alloc wr o).mono (fun _ f => f.elim)).trans (Kept.grown hg) (fun i hi => .inl hi)
  have hb' : W'.heap[bs]? = some (.cells #[v] 24 (0, 0)) := k1.heap hb (fun e => by have := hv _ e; omega)
  have hn : v'.ownBlock ≠ some bs := fun e => by have := (ho'.lt _ e).1; omega
  refine ⟨by simp [World.cell?, hb'], by simp [World.frozen?, hb'], ?_, ?_, ?_⟩
  · rw [Go.heap_setCell_same W' bs 0 _ _ _ hb']
    rfl
  · rw [fcells_snoc]
    exact ownsRow_setCell_other ho' hn _
  · exact (hk.trans k1 (fun i hi => .inr (hv i hi))).trans (Kept.setCell _ _ _) (fun i hi => .inl hi)
theorem or31 (a b : Nat) : decide (31 < (a ||| b)) = (decide (31 < a) || decide (31 < b)) := by
  rw [Bool.eq_iff_iff]
  simp only [decide_eq_true_eq, Bool.or_eq_true]
  constructor
  · intro h
    refine Decidable.byContradiction fun hn => ?_
    have h1 : a < 2 ^ 5 := by omega
    have h2 : b < 2 ^ 5 := by omega
    have := Nat.or_lt_two_pow h1 h2
    omega
  · intro h
    have h1 : a ≤ a ||| b := Nat.left_le_or
    have h2 : b ≤ a ||| b := Nat.right_le_or
    omega
def rdP (x : Except Nat (List Fd)) (w' : World) (e : Ending) : Prop := match x with
  | .error er => e = .returned (.tuple #[.agg #[.slice none 0 0], .int .i64 ((er + 1 : Nat) : Int)])
  | .ok F => ∃ a c, e = .returned (.tuple #[.agg #[.slice a F.length c], .int .i64 0]) ∧ FsAt w' a F
theorem rdP_err {x : Except Nat (List Fd)} {w' : World} {er : Nat} {z : Int} (h : x = .error er) (hz : z = ((er + 1 : Nat) : Int)) : rdP x w' (.returned (.tuple #[.agg #[.slice none 0 0], .int .i64 z])) := by rw [h, hz]; rfl
theorem rdP_ok {x : Except Nat (List Fd)} {w' : World} {F : List Fd} {a : Option Addr} {n c : Nat} (h : x = .ok F) (hn : F.length = n) (hF : FsAt w' a F) : rdP x w' (.returned (.tuple #[.agg #[.slice a n c], .int .i64 0])) := by rw [h, ← hn]; exact ⟨a, c, rfl, hF⟩
set_option maxRecDepth 20000 in
set_option maxHeartbeats 8000000 in
theorem rdecS_up (l : List Int) (a : Option Addr) (n c er : Nat) (w : World) (hn : n = l.length) (hB : BytesAt w a l) (hI : IsBytes l) (hl : l.length ≤ 140737488355328) (hr : rup 16 l 0 = .error er) :
    Calls Tryd.prog 10 #[.slice a n c] w fun e w' => rdP (dec l) w' e ∧ Kept (fun _ => False) w w' := by
  have KA := Kept.alloc w (.cells #[.slice none 0 0] 24)
  have CU := hideD (rgetp_any 16 l a n c 0 _ hn (hB.keptD KA) hI (by omega) hl (by omega))
  rw [hr] at CU
  simp only [gpV] at CU
  have HX := hideD (dec_up hr)
  have g1 : (((er + 1 : Nat) : Int) != 0) = true := by rw [bne, show (((er + 1 : Nat) : Int) == 0) = false from by rw [beq_eq_false_iff_ne]; omega]; rfl
  obtain ⟨E, hE⟩ : ∃ E : Int, E = ((er + 1 : Nat) : Int) := ⟨_, rfl⟩
  rw [← hE] at CU g1
  have HEe := hideD hE
  have HK := hideD KA
  clear hr hE hB hI hn hl KA
  go_enter Tryd.func10, Tryd.ntmps10
  go_wp2_with (go_at_call 28; refine CU.out.mono ?_; clear CU; rintro e W1 ⟨rfl, rfl⟩)
  refine bodyPost_ret (v := .tuple #[.agg #[.slice none 0 0], .int .i64 E]) (by simp [results, Tryd.results10, go_sem]) rfl ⟨rdP_err HX.out HEe.out, HK.out⟩
end Go.Proofs.YtbhoplmbiomogaaDoor
