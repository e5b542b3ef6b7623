import Derived.Test.YtiebmmpnmklpnaaDoorMrg2
import Derived.Test.YtiebmmpnmklpnaaDoorMrg3
import Derived.Test.YtiebmmpnmklpnaaDoorMrg4
import Derived.Test.YtiebmmpnmklpnaaDoorIye
namespace Go.Proofs.YtiebmmpnmklpnaaDoor
open Go.ChangeShapes Go.WideShapes Go.ChangeAt Go.RowKit

/-! The fixed calls of the law. -/
def fxL : List In := [⟨4, 0, 5⟩, ⟨15, 2, 0⟩, ⟨2, 0, 0⟩, ⟨6, 0, 0⟩, ⟨0, 0, 0⟩]
def fxP (av : List Int) : Pg := ⟨av, [⟨0, ⟨#[97]⟩⟩], [], true, [], ibL fxL⟩
theorem fxL_ok : ∀ x ∈ fxL, x.Ok := by
  intro x hx
  simp [fxL] at hx
  rcases hx with rfl | rfl | rfl | rfl | rfl <;> exact ⟨by decide, by decide, by decide, by decide⟩
theorem fxL_good : ∀ x ∈ fxL, okI x = true := by
  intro x hx
  simp [fxL] at hx
  rcases hx with rfl | rfl | rfl | rfl | rfl <;> decide
theorem fx_bytes : ibL fxL = [4, 0, 5, 15, 2, 2, 6, 0] := by
  have e1 : ib ⟨4, 0, 5⟩ = [4, 0, 5] := by
    have : ib ⟨4, 0, 5⟩ = 4 :: ([0, 5].map uvb).flatten := rfl
    rw [this]; simp [uvb]
  have e2 : ib ⟨15, 2, 0⟩ = [15, 2] := by
    have : ib ⟨15, 2, 0⟩ = 15 :: ([2].map uvb).flatten := rfl
    rw [this]; simp [uvb]
  have e3 : ib ⟨2, 0, 0⟩ = [2] := rfl
  have e4 : ib ⟨6, 0, 0⟩ = [6] := rfl
  have e5 : ib ⟨0, 0, 0⟩ = [0] := rfl
  simp [fxL, ibL, e1, e2, e3, e4, e5]
theorem fx_dec (av : List Int) : dcI (fxP av).co = some fxL := dcI_back fxL fxL_ok fxL_good
theorem fx_hL : hL fxL = [0, 1, 1, 2, 1] := by decide
theorem fx_mx : mxL (hL fxL) = 2 := by rw [fx_hL]; decide
theorem fx_ok (av : List Int) (h : IsInts av) (hl : av.length ≤ 1) : (fxP av).Ok := by
  refine ⟨h, ?_, ?_, ?_, ?_, ?_⟩
  · intro x hx; simp [fxP] at hx
  · intro x hx; simp [fxP] at hx; subst hx; decide
  · intro x hx; simp [fxP] at hx
  · intro x hx
    rw [show (fxP av).co = ibL fxL from rfl, fx_bytes] at hx
    simp at hx
    rcases hx with rfl | rfl | rfl | rfl | rfl | rfl | rfl | rfl <;> decide
  · unfold psz
    rw [show (fxP av).co = ibL fxL from rfl, fx_bytes]
    simp [fxP]
    have : ByteArray.size ⟨#[97]⟩ = 1 := rfl
    omega
theorem fx_vok : Vok (fxP [0]) fxL := by
  refine ⟨⟨⟨by decide, by decide, by decide⟩, ?_, ?_, fun _ => rfl, fun k hk => by simp [fxP] at hk⟩, fx_dec _, ⟨⟨by decide, ?_⟩, ?_, ?_, ?_, by decide⟩⟩
  · intro c hc
    simp [fxP] at hc
    subst hc
    exact ⟨by decide, by decide, by decide⟩
  · intro n hn
    simp [fxP] at hn
  · decide +kernel
  · unfold PaOk OpOk; decide +kernel
  · unfold StOk; decide +kernel
  · unfold SkOk; decide +kernel
theorem fx_bad : ¬ ∃ L, Vok (fxP []) L := by
  rintro ⟨L, h⟩
  have := h.tb.1.1
  simp [fxP] at this
theorem fx_ins (w : World) : InsAt (w.alloc (.cells #[.int .i64 4, .int .u64 0, .int .u64 5, .int .i64 15, .int .u64 2, .int .u64 0, .int .i64 2, .int .u64 0, .int .u64 0, .int .i64 6, .int .u64 0, .int .u64 0, .int .i64 0, .int .u64 0, .int .u64 0] 74)) (some ⟨w.heap.size, 0, none⟩) fxL := by
  intro _
  refine ⟨w.heap.size, 0, rfl, fun k hk => ?_⟩
  have hk5 : k < 5 := hk
  match k, hk5 with
  | 0, _ => refine ⟨?_, ?_, ?_⟩ <;> simp [fxL]
  | 1, _ => refine ⟨?_, ?_, ?_⟩ <;> simp [fxL]
  | 2, _ => refine ⟨?_, ?_, ?_⟩ <;> simp [fxL]
  | 3, _ => refine ⟨?_, ?_, ?_⟩ <;> simp [fxL]
  | 4, _ => refine ⟨?_, ?_, ?_⟩ <;> simp [fxL]
/-- What 'least' answers. -/
def lsP (w : World) (e : Ending) (w' : World) : Prop := ∃ (aA aC aO : Option Addr) (cO : Nat), e = .returned (.agg #[.slice aA 1 1, .slice aC 1 1, .slice none 0 0, .bool true, .slice none 0 0, .slice aO (ibL fxL).length cO]) ∧ PgAt w' (fxP [0]) aA aC none none aO ∧ Kept (fun _ => False) w w'
end Go.Proofs.YtiebmmpnmklpnaaDoor
namespace Go.Proofs.YtiebmmpnmklpnaaDoor
open Go.ChangeShapes Go.WideShapes Go.ChangeAt Go.RowKit

theorem results_cell1V {fn : Func} {p : Tmp} {ty : TypeId} (h : fn.results = #[.cell p ty]) (tmps : Array Value) (P : Program) (w : World) (g : Nat) (cs : Array Value)
    (hp : tmps.getD p undef = .pointer (some ⟨g, 0, none⟩)) (hld : (loadVar ty ⟨g, 0, none⟩).run P w = .ok (.agg cs) w) :
    (results fn tmps).run P w = .ok (.agg cs) w := by
  have hp' : tmps[p]?.getD undef = .pointer (some ⟨g, 0, none⟩) := by simpa using hp
  simp [results, h, hp', asAddr, hld]
theorem load_pgV {W : World} {g : Nat} {x0 x1 x2 x3 x4 x5 : Value} (h : W.heap[g]? = some (.cells #[x0, x1, x2, x3, x4, x5] 27 (0, 0))) : (loadVar 27 ⟨g, 0, none⟩).run Tryd.prog W = .ok (.agg #[x0, x1, x2, x3, x4, x5]) W :=
  run_loadVar_row W g 27 27 #[x0, x1, x2, x3, x4, x5] (0, 0) _ h Tryd.underlying27 rfl (by kernel_rfl)
theorem pg_put6 {W : World} {g : Nat} {x0 x1 x2 x3 x4 x5 v0 v1 v2 v3 v4 v5 : Value} {t : TypeId} (h : W.heap[g]? = some (.cells #[x0, x1, x2, x3, x4, x5] t (0, 0))) : ((((((W.setCell ⟨g, 0, none⟩ v0).setCell ⟨g, 1, none⟩ v1).setCell ⟨g, 2, none⟩ v2).setCell ⟨g, 3, none⟩ v3).setCell ⟨g, 4, none⟩ v4).setCell ⟨g, 5, none⟩ v5).heap[g]? = some (.cells #[v0, v1, v2, v3, v4, v5] t (0, 0)) := by
  have h1 := heap_setCell_same W g 0 _ t v0 h
  have h2 := heap_setCell_same _ g 1 _ t v1 h1
  have h3 := heap_setCell_same _ g 2 _ t v2 h2
  have h4 := heap_setCell_same _ g 3 _ t v3 h3
  have h5 := heap_setCell_same _ g 4 _ t v4 h4
  have h6 := heap_setCell_same _ g 5 _ t v5 h5
  simpa using h6
theorem kept_put6 {W : World} {g : Nat} {v0 v1 v2 v3 v4 v5 : Value} : Kept (fun i => i = g) W ((((((W.setCell ⟨g, 0, none⟩ v0).setCell ⟨g, 1, none⟩ v1).setCell ⟨g, 2, none⟩ v2).setCell ⟨g, 3, none⟩ v3).setCell ⟨g, 4, none⟩ v4).setCell ⟨g, 5, none⟩ v5) :=
  (((((Kept.setCell W ⟨g, 0, none⟩ v0).trans (Kept.setCell _ ⟨g, 1, none⟩ v1) (fun _ e => .inl e)).trans (Kept.setCell _ ⟨g, 2, none⟩ v2) (fun _ e => .inl e)).trans (Kept.setCell _ ⟨g, 3, none⟩ v3) (fun _ e => .inl e)).trans (Kept.setCell _ ⟨g, 4, none⟩ v4) (fun _ e => .inl e)).trans (Kept.setCell _ ⟨g, 5, none⟩ v5) (fun _ e => .inl e)
theorem box6f {W : World} {g : Nat} {x0 x1 x2 x3 x4 x5 : Value} {t : TypeId} (z : W.heap[g]? = some (.cells #[x0, x1, x2, x3, x4, x5] t (0, 0))) : ∀ i, W.frozen? ⟨g, i, none⟩ = false := fun i => by simp [World.frozen?, z]
set_option maxRecDepth 20000 in
set_option maxHeartbeats 8000000 in
theorem least_any (w : World) : Calls Tryd.prog 16 #[] w (lsP w) := by
  have KA := Kept.alloc w (.cells #[.slice none 0 0, .slice none 0 0, .slice none 0 0, .bool false, .slice none 0 0, .slice none 0 0] 27)
  obtain ⟨V, hV⟩ : ∃ V, V = w.alloc (.cells #[.slice none 0 0, .slice none 0 0, .slice none 0 0, .bool false, .slice none 0 0, .slice none 0 0] 27) := ⟨_, rfl⟩
  rw [← hV] at KA
  have HEN := hideI (rencode_any fxL (some ⟨V.heap.size, 0, none⟩) 5 _ (fx_ins V) fxL_ok (by decide))
  have KB := Kept.alloc V (.cells #[.int .i64 4, .int .u64 0, .int .u64 5, .int .i64 15, .int .u64 2, .int .u64 0, .int .i64 2, .int .u64 0, .int .u64 0, .int .i64 6, .int .u64 0, .int .u64 0, .int .i64 0, .int .u64 0, .int .u64 0] 74)
  have HKA := hideI (KA.trans KB (fun _ f => f.elim))
  have HBX : Hid (V.heap[w.heap.size]? = some (.cells #[.slice none 0 0, .slice none 0 0, .slice none 0 0, .bool false, .slice none 0 0, .slice none 0 0] 27 (0, 0))) := hideI (by rw [hV]; exact heap_alloc_new w _)
  have HBV := hideI (KB.heap HBX.out (fun f => f))
  have hsz : V.heap.size = w.heap.size + 1 := by rw [hV]; simp
  rw [show fxL.length = 5 from rfl, hsz] at HEN
  obtain ⟨nb, hnb⟩ : ∃ nb, nb = (ibL fxL).length := ⟨_, rfl⟩
  have HNB := hideI hnb
  subst hV
  clear KA KB hnb hsz HBX
  go_enter Tryd.func16, Tryd.ntmps16
  go_wp2_with (go_at_call 30; refine HEN.out.mono ?_; clear HEN; rintro e W1 ⟨h1, -, K1⟩; obtain ⟨aO, cO, he, hg⟩ := h1 fxL_good; rw [← HNB.out] at he hg; subst he; have HK1 := hideI (HKA.out.trans K1 (fun _ f => f.elim)); have HG := hideI hg; have HB1 := hideI (K1.heap HBV.out (fun f => f)); have HL2 := hideI (((Kept.alloc W1 (.cells #[.int .i64 0] 3)).trans (Kept.alloc _ (.cells #[.int .i64 0, .string ⟨#[97]⟩] 49)) (fun _ f => f.elim))); have HB3 := hideI (HL2.out.heap HB1.out (fun f => f)); obtain ⟨z0, z1, z2, z3, z4, z5⟩ := box6 HB3.out; have zf := box6f HB3.out; clear K1 h1 hg HBV)
  refine bodyPost_ret (results_cell1V rfl _ _ _ w.heap.size _ rfl (load_pgV (pg_put6 HB3.out))) rfl ?_
  have hw1 := HKA.out.size
  have hw2 := HK1.out.size
  have hnb : 0 < nb := by rw [HNB.out, fx_bytes]; decide
  obtain ⟨gb, rfl, hgb, -⟩ := HG.out.cell hnb
  have hba : BytesAt W1 (some ⟨gb, 0, none⟩) (ibL fxL) := by
    obtain ⟨a, c, e, q, -⟩ := bytes_of_own HG.out.own
    simp only [Value.slice.injEq] at e
    obtain ⟨rfl, -, -⟩ := e
    exact q
  have hgw : gb ≠ w.heap.size := by simp at hgb; omega
  have hw1 := HK1.out.size
  obtain ⟨W3, hW3⟩ : ∃ W3, W3 = (W1.alloc (.cells #[.int .i64 0] 3)).alloc (.cells #[.int .i64 0, .string ⟨#[97]⟩] 49) := ⟨_, rfl⟩
  have y0 : W3.cell? ⟨W1.heap.size, 0, none⟩ = some (.int .i64 0) := by rw [hW3]; simp
  have y1 : W3.cell? ⟨W1.heap.size + 1, 0, none⟩ = some (.int .i64 0) := by rw [hW3]; simp
  have y2 : W3.cell? ⟨W1.heap.size + 1, 1, none⟩ = some (.string ⟨#[97]⟩) := by rw [hW3]; simp
  have hb3 := hba.keptI (show Kept (fun _ => False) W1 W3 by rw [hW3]; exact HL2.out)
  have K3 : Kept (fun _ => False) w W3 := by rw [hW3]; exact HK1.out.trans HL2.out (fun _ f => f.elim)
  have hlt : w.heap.size < W1.heap.size := by
    have := HKA.out.size
    have q := lt_of_block HB1.out
    exact q
  rw [← hW3]
  have K4 : Kept (fun i => i = w.heap.size) W3 ((((((W3.setCell ⟨w.heap.size, 0, none⟩ (.slice (some ⟨W1.heap.size, 0, none⟩) 1 1)).setCell ⟨w.heap.size, 1, none⟩ (.slice (some ⟨W1.heap.size + 1, 0, none⟩) 1 1)).setCell ⟨w.heap.size, 2, none⟩ (.slice none 0 0)).setCell ⟨w.heap.size, 3, none⟩ (.bool true)).setCell ⟨w.heap.size, 4, none⟩ (.slice none 0 0)).setCell ⟨w.heap.size, 5, none⟩ (.slice (some ⟨gb, 0, none⟩) nb cO)) := kept_put6
  generalize ((((((W3.setCell ⟨w.heap.size, 0, none⟩ (.slice (some ⟨W1.heap.size, 0, none⟩) 1 1)).setCell ⟨w.heap.size, 1, none⟩ (.slice (some ⟨W1.heap.size + 1, 0, none⟩) 1 1)).setCell ⟨w.heap.size, 2, none⟩ (.slice none 0 0)).setCell ⟨w.heap.size, 3, none⟩ (.bool true)).setCell ⟨w.heap.size, 4, none⟩ (.slice none 0 0)).setCell ⟨w.heap.size, 5, none⟩ (.slice (some ⟨gb, 0, none⟩) nb cO)) = W4 at *
  refine ⟨_, _, _, _, by rw [← HNB.out], ⟨?_, ?_, fun h => absurd rfl h, fun h => absurd rfl h, ?_⟩, K3.trans K4 (fun i e => .inr (by omega))⟩
  · intro _
    refine ⟨W1.heap.size, 0, rfl, fun k hk => ?_⟩
    have hk1 : k < 1 := hk
    obtain rfl : k = 0 := by omega
    exact K4.cell y0 (by simp only; omega)
  · intro _
    refine ⟨W1.heap.size + 1, 0, rfl, fun k hk => ?_⟩
    have hk1 : k < 1 := hk
    obtain rfl : k = 0 := by omega
    exact ⟨K4.cell y1 (by simp only; omega), K4.cell y2 (by simp only; omega)⟩
  · intro hne
    obtain ⟨b, off, e, hc⟩ := hb3 hne
    cases e
    exact ⟨gb, 0, rfl, fun k hk => K4.cell (hc k hk) hgw⟩
end Go.Proofs.YtiebmmpnmklpnaaDoor
namespace Go.Proofs.YtiebmmpnmklpnaaDoor
open Go.ChangeShapes Go.WideShapes Go.ChangeAt Go.RowKit

/-- What a world must hold for the statements of layer 21. -/
structure VN (w : World) (ad : Nat → Addr) : Prop where
  e : Errs21 w ad
  o : OpT w
  t : TkT w
theorem VN.kept {w w' : World} {ad : Nat → Addr} (h : VN w ad) (k : Kept (fun _ => False) w w') : VN w' ad := ⟨h.e.kept k, h.o.kept k, h.t.kept k⟩
theorem VN.ve {w : World} {ad : Nat → Addr} (h : VN w ad) : VE w (ad 0) (ad 1) (ad 20) := ⟨h.e.ew, h.o, h.t⟩
theorem fx_at0 {w : World} {aA aC aN aD aO : Option Addr} (h : PgAt w (fxP [0]) aA aC aN aD aO) : PgAt w (fxP []) none aC aN aD aO := ⟨fun e => absurd rfl e, h.cu, h.nr, h.dr, h.co⟩
theorem ii0 : IsInts [0] := by intro x hx; simp at hx; subst hx; decide
theorem iin : IsInts [] := by intro x hx; cases hx
theorem fx_row (W : World) : IntsAt (W.alloc (.cells #[.int .i64 0, .int .i64 1, .int .i64 1, .int .i64 2, .int .i64 1] 3)) (some ⟨W.heap.size, 0, none⟩) (hL fxL) := by
  intro _
  refine ⟨W.heap.size, 0, rfl, fun k hk => ?_⟩
  rw [fx_hL] at hk ⊢
  have hk5 : k < 5 := hk
  match k, hk5 with
  | 0, _ => simp
  | 1, _ => simp
  | 2, _ => simp
  | 3, _ => simp
  | 4, _ => simp
theorem bx_put {W : World} {g : Nat} {x0 x1 x2 x3 x4 x5 v0 : Value} {t : TypeId} (h : W.heap[g]? = some (.cells #[x0, x1, x2, x3, x4, x5] t (0, 0))) : (W.setCell ⟨g, 0, none⟩ v0).heap[g]? = some (.cells #[v0, x1, x2, x3, x4, x5] t (0, 0)) := by
  have h1 := heap_setCell_same W g 0 _ t v0 h
  simpa using h1
set_option maxRecDepth 20000 in
set_option maxHeartbeats 8000000 in
theorem fixed_any (ad : Nat → Addr) (w : World) (hE : VN w ad) :
    Calls Tryd.prog 6 #[] w fun e w' => e = .returned (.bool true) ∧ Kept (fun _ => False) w w' := by
  have HE := hideI hE
  have HLa := hideI (least_any w)
  have HLb := fun W => hideI (least_any W)
  have HNC := fun (W : World) (K : Kept (fun _ => False) w W) => hideI (num_code (HE.out.kept K).e)
  obtain ⟨nb, hnb⟩ : ∃ nb, nb = (ibL fxL).length := ⟨_, rfl⟩
  have HNB := hideI hnb
  clear hE hnb
  have HCK := fun (W : World) (aA aC aO : Option Addr) (cO : Nat) (K : Kept (fun _ => False) w W) (hP : PgAt W (fxP [0]) aA aC none none aO) => hideI (show Calls Tryd.prog 8 #[.agg #[.slice aA 1 1, .slice aC 1 1, .slice none 0 0, .bool true, .slice none 0 0, .slice aO nb cO]] W (ckP W (fxP [0]) (ad 20)) by
    rw [HNB.out]; exact check_any (fxP [0]) aA aC none none aO 1 1 0 0 cO (ad 0) (ad 1) (ad 20) W hP (fx_ok [0] ii0 (by decide)) (HE.out.kept K).ve)
  have HCZ := fun (W : World) (aC aO : Option Addr) (cO : Nat) (K : Kept (fun _ => False) w W) (hP : PgAt W (fxP []) none aC none none aO) => hideI (show Calls Tryd.prog 8 #[.agg #[.slice none 0 0, .slice aC 1 1, .slice none 0 0, .bool true, .slice none 0 0, .slice aO nb cO]] W (ckP W (fxP []) (ad 20)) by
    rw [HNB.out]; exact check_any (fxP []) none aC none none aO 0 1 0 0 cO (ad 0) (ad 1) (ad 20) W hP (fx_ok [] iin (by decide)) (HE.out.kept K).ve)
  have HHT := fun (W : World) (aA aC aO : Option Addr) (cO : Nat) (K : Kept (fun _ => False) w W) (hP : PgAt W (fxP [0]) aA aC none none aO) => hideI (show Calls Tryd.prog 10 #[.agg #[.slice aA 1 1, .slice aC 1 1, .slice none 0 0, .bool true, .slice none 0 0, .slice aO nb cO]] W (htP W (fxP [0]) (ad 20)) by
    rw [HNB.out]; exact heights_any (fxP [0]) aA aC none none aO 1 1 0 0 cO (ad 0) (ad 1) (ad 20) W hP (fx_ok [0] ii0 (by decide)) (HE.out.kept K).ve)
  have HSI := fun (W : World) (aH : Option Addr) (cH : Nat) (h : IntsAt W aH (hL fxL)) => hideI (show Calls Tryd.prog 13 #[.slice aH 5 cH, .slice (some ⟨W.heap.size, 0, none⟩) 5 5] (W.alloc (.cells #[.int .i64 0, .int .i64 1, .int .i64 1, .int .i64 2, .int .i64 1] 3)) (fun e w' => e = .returned (.bool true) ∧ Kept (fun _ => False) (W.alloc (.cells #[.int .i64 0, .int .i64 1, .int .i64 1, .int .i64 2, .int .i64 1] 3)) w') from (sameI_iff (hL fxL) (hL fxL) aH (some ⟨W.heap.size, 0, none⟩) cH 5 _ (h.keptI (Kept.alloc _ _)) (fx_row W) (by decide) (by decide)).mono (fun e w' ⟨v, he, hv, hk⟩ => by
    have hv := hv.2 rfl
    subst hv
    exact ⟨he, hk⟩))
  go_enter Tryd.func6, Tryd.ntmps6
  go_wp2_with (first
    | (go_at_call 16; refine HLa.out.mono ?_; rintro e W1 ⟨aA, aC, aO, cO, he, hP, K1⟩; rw [← HNB.out] at he; subst he; have HP1 := hideI hP; have HK1 := hideI K1; have KB := Kept.alloc W1 (.cells #[.slice aA 1 1, .slice aC 1 1, .slice none 0 0, .bool true, .slice none 0 0, .slice aO nb cO] 27); have HKB := hideI KB; have HBX := hideI (heap_alloc_new W1 (.cells #[.slice aA 1 1, .slice aC 1 1, .slice none 0 0, .bool true, .slice none 0 0, .slice aO nb cO] 27 (0, 0))); obtain ⟨r0, r1, r2, r3, r4, r5⟩ := box6 HBX.out; have HC1 := HCK _ aA aC aO cO (K1.trans KB (fun _ f => f.elim)) (hP.kept KB); clear hP K1 KB HCK HLa)
    | (go_at_call 8; refine HC1.out.mono ?_; rintro e W2 ⟨h, -, K2⟩; have he : e = .returned (.tuple #[.agg #[.int .i64 5, .int .i64 2], .nilIface]) := (by rw [h fxL fx_vok, fx_mx]; rfl); subst he; have KP := Kept.alloc W2 (.cells #[.int .i64 5, .int .i64 2] 31); have HK2 := hideI ((HKB.out.trans K2 (fun _ f => f.elim)).trans KP (fun _ f => f.elim)); have HPX := hideI (heap_alloc_new W2 (.cells #[.int .i64 5, .int .i64 2] 31 (0, 0))); have HBX2 := hideI (KP.heap (K2.heap HBX.out (fun f => f)) (fun f => f)); obtain ⟨z0, z1, z2, z3, z4, z5⟩ := box6 HBX2.out; have HH1 := HHT _ aA aC aO cO (HK1.out.trans HK2.out (fun _ f => f.elim)) (HP1.out.kept HK2.out); clear h K2 KP HC1 HBX)
    | (go_at_call 10; refine HH1.out.mono ?_; rintro e W3 ⟨h, -, K3⟩; obtain ⟨aH, cH, he, hg⟩ := h fxL fx_vok; have he : e = .returned (.tuple #[.slice aH 5 cH, .nilIface]) := he; subst he; have KR := Kept.alloc W3 (.cells #[.int .i64 0, .int .i64 1, .int .i64 1, .int .i64 2, .int .i64 1] 3); have HK3 := hideI ((HK2.out.trans K3 (fun _ f => f.elim)).trans KR (fun _ f => f.elim)); have hp3 := K3.heap HPX.out (fun f => f); obtain ⟨⟨p0, p1⟩, -⟩ := pf_cells hp3; obtain ⟨⟨p2, p3⟩, -⟩ := pf_cells (KR.heap hp3 (fun f => f)); have HBX3 := hideI (KR.heap (K3.heap HBX2.out (fun f => f)) (fun f => f)); have HS := HSI W3 aH cH (gro_ints hg rfl); clear h K3 KR HH1 hg hp3 HSI HPX HBX2)
    | (go_at_call 13; refine HS.out.mono ?_; rintro e W4 ⟨rfl, K4⟩; have HBX4 := hideI (K4.heap HBX3.out (fun f => f)); obtain ⟨s0, s1, s2, s3, s4, s5⟩ := box6 HBX4.out; have sf := box6f HBX4.out; have KS := Kept.setCell W4 ⟨W1.heap.size, 0, none⟩ (.slice none 0 0); have HK4 := hideI ((HK3.out.trans K4 (fun _ f => f.elim)).trans KS (fun i e => .inr (by simp only at e; omega))); have HBX5 := hideI (bx_put (v0 := .slice none 0 0) HBX4.out); obtain ⟨u0, u1, u2, u3, u4, u5⟩ := box6 HBX5.out; have HC2 := HCZ _ aC aO cO (HK1.out.trans HK4.out (fun _ f => f.elim)) (fx_at0 (HP1.out.kept HK4.out)); clear K4 KS HS HCZ HBX3 HBX4)
    | (go_at_call 8; refine HC2.out.mono ?_; rintro e W5 ⟨-, h, K5⟩; have he := h fx_bad; unfold errV at he; subst he; have HK5 := hideI (HK4.out.trans K5 (fun _ f => f.elim)); have HL2 := HLb W5; clear h K5 HC2 HLb)
    | (go_at_call 16; refine HL2.out.mono ?_; rintro e W6 ⟨aA2, aC2, aO2, cO2, he, hP, K6⟩; rw [← HNB.out] at he; subst he; have HK6 := hideI (HK5.out.trans K6 (fun _ f => f.elim)); have HH2 := HHT _ aA2 aC2 aO2 cO2 (HK1.out.trans HK6.out (fun _ f => f.elim)) hP; clear hP K6 HL2 HHT)
    | (go_at_call 10; refine HH2.out.mono ?_; rintro e W7 ⟨h, -, K7⟩; obtain ⟨aH2, cH2, he, hg⟩ := h fxL fx_vok; have he : e = .returned (.tuple #[.slice aH2 5 cH2, .nilIface]) := he; subst he; have HK7 := hideI (HK6.out.trans K7 (fun _ f => f.elim)); have HN := HNC W7 (HK1.out.trans HK7.out (fun _ f => f.elim)); clear h K7 HH2 hg HNC)
    | (go_at_call 12; refine HN.out.mono ?_; rintro e W8 ⟨rfl, rfl⟩; clear HN))
  go_ret
  exact ⟨rfl, HK1.out.trans HK7.out (fun _ f => f.elim)⟩
end Go.Proofs.YtiebmmpnmklpnaaDoor
