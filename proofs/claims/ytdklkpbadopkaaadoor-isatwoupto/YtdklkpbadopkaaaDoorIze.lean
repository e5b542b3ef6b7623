import Derived.Test.YtdklkpbadopkaaaDoorIzd
namespace Go.Proofs.YtdklkpbadopkaaaDoor
open Go.ChangeShapes Go.WideShapes Go.ChangeAt Go.RowKit

theorem own_lowerI {w : World} {b b' e z n : Nat} {v : Value} {xs : List Value} (h : w.ownsRow b e z v n xs) (hb : b' ≤ b) : w.ownsRow b' e z v n xs := by
  refine ⟨h.1, ?_⟩
  rcases h.2 with hn | ⟨g, cap, cur, e1, hg, rest⟩
  · exact .inl hn
  · exact .inr ⟨g, cap, cur, e1, Nat.le_trans hb hg, rest⟩
/-- What Encode answers. -/
def encP (w : World) (l : List In) (ac : Addr) (e : Ending) (w' : World) : Prop :=
  ((∀ x ∈ l, okI x = true) → ∃ g, w.heap.size ≤ g ∧ e = .returned (.tuple #[.slice (some ⟨g, 0, none⟩) (ibL l).length (ibL l).length, .nilIface]) ∧ w'.ownsRow w.heap.size 5 1 (.slice (some ⟨g, 0, none⟩) (ibL l).length (ibL l).length) (ibL l).length (bs (ibL l))) ∧
  ((¬ ∀ x ∈ l, okI x = true) → e = .returned (.tuple #[.slice none 0 0, errV ac])) ∧ Kept (fun _ => False) w w'
set_option maxRecDepth 20000 in
set_option maxHeartbeats 8000000 in
/-- The project's Encode, at any list. -/
theorem encode_any (l : List In) (a : Option Addr) (c : Nat) (ac : Addr) (w : World) (hL : InsAt w a l) (hO : ∀ x ∈ l, x.Ok) (hl : l.length ≤ 5864062014976) (hE : w.cell? ⟨0, 0, none⟩ = some (errV ac)) (hT : OpT w) :
    Calls Tryd.prog 13 #[.slice a l.length c] w (encP w l ac) := by
  have hlt := hT.lt
  have hEl := World.block_lt_of_cell? w _ hE
  have HL := hideI hL
  have HO := hideI hO
  have HE := hideI hE
  have HT := hideI hT
  have HLen : Hid (∀ j, (ibL (l.take j)).length ≤ 123145302314496) := hideI (fun j => by
    have h1 := ibL_len (l.take j) (fun x hx => hO x (List.mem_of_mem_take hx))
    have h2 : (l.take j).length ≤ l.length := by simp; omega
    omega)
  clear hL hO hE hT
  obtain ⟨nl, hnl⟩ : ∃ nl, nl = l.length := ⟨_, rfl⟩
  rw [← hnl] at hl ⊢
  have HNL := hideI hnl
  clear hnl
  go_enter Tryd.func13, Tryd.ntmps13
  go_wp2_with (go_at_call 30; refine (new_any _).mono ?_; rintro e Wb ⟨rfl, hWr, Kb⟩; have HWr := hideI hWr; have HKb := hideI Kb; clear hWr Kb)
  obtain ⟨bw, hbw⟩ : ∃ bw, bw = w.heap.size := ⟨_, rfl⟩
  rw [← hbw] at HWr ⊢
  have HBW := hideI hbw
  clear hbw
  go_loopw [10] (fun v10 wr => ∃ (j : Nat) (v : Value), j ≤ nl ∧ v10 = .int .i64 j ∧ Hid (Wr wr bw v (ibL (l.take j))) ∧ Hid (WStep Wb wr bw (.slice none 0 0) v) ∧ Hid (∀ k (h : k < l.length), k < j → okI l[k] = true)) (fun v10 _ => nl - (intOf v10).toNat)
  case atStart => exact ⟨0, _, by omega, rfl, hideI (by simpa [ibL] using HWr.out), hideI (WStep.refl _ _ _), hideI (fun k _ h => by omega)⟩
  case round =>
    obtain ⟨j, v, hj, rfl, HB, SS, HA⟩ := hrel
    have HKr : Hid (Kept (fun _ => False) w wr) := hideI (HKb.out.trans SS.out.kept (fun i hi => .inr (by
      rcases hi with f | f
      · have := HBW.out; omega
      · simp [Value.ownBlock] at f)))
    by_cases hlt2 : j < nl
    · have hlt3 : j < l.length := by rw [← HNL.out]; exact hlt2
      have hji : (j : Int) < (nl : Int) := by omega
      obtain ⟨fb, fo, ha, hc⟩ := HL.out (by intro e; rw [e] at hlt3; simp at hlt3)
      obtain ⟨x0, x1, x2⟩ := hc j hlt3
      have x0 := HKr.out.cell x0 (fun f => f)
      have x1 := HKr.out.cell x1 (fun f => f)
      have x2 := HKr.out.cell x2 (fun f => f)
      subst ha
      clear hc
      have HSN := hideI (ibL_snoc hlt3)
      have HOx := hideI (HO.out l[j] (List.getElem_mem hlt3))
      have HAn : Hid (okI l[j] = true → ∀ k (h : k < l.length), k < j + 1 → okI l[k] = true) := hideI (fun e k h hk => by
        by_cases hkj : k = j
        · subst hkj; exact e
        · exact HA.out k h (by omega))
      have HAb : Hid (okI l[j] = false → ¬ ∀ x ∈ l, okI x = true) := hideI (fun e h => by
        have := h l[j] (List.getElem_mem hlt3)
        rw [e] at this; cases this)
      generalize l[j] = x at *
      have HKx := hideI (Kept.alloc wr (.cells #[.int .i64 x.op, .int .u64 x.a, .int .u64 x.b] 48))
      have HTx := hideI ((HT.out.kept HKr.out).kept HKx.out)
      have HH := hideI (hasBytes_any x _ HTx.out)
      have HBx := hideI (HB.out.kept HKx.out (fun _ _ f => f))
      have HXx : Hid ((wr.alloc (.cells #[.int .i64 x.op, .int .u64 x.a, .int .u64 x.b] 48)).heap[wr.heap.size]? = some (.cells #[.int .i64 x.op, .int .u64 x.a, .int .u64 x.b] 48 (0, 0))) := hideI (heap_alloc_new wr _)
      have HEx := hideI ((HKr.out.trans HKx.out (fun _ f => f.elim)).cell HE.out (fun f => f))
      have HSx : Hid (WStep Wb (wr.alloc (.cells #[.int .i64 x.op, .int .u64 x.a, .int .u64 x.b] 48)) bw (.slice none 0 0) v) := hideI (SS.out.trans ⟨HKx.out.mono (fun _ f => f.elim), fun _ h => .inl h⟩)
      have HLj := hideI (HLen.out j)
      unfold inV at HH
      cases hok : okI x with
      | true =>
        rw [hok] at HH
        have HAn2 := hideI (HAn.out hok)
        have HIo := hideI (okI_isO hok)
        clear hok HAb HAn
        go_wp2_with (first
          | (go_at_call 35; refine HH.out.mono ?_; clear HH; rintro e W3 ⟨rfl, K3⟩; have HB3 := hideI (HBx.out.kept K3 (fun _ _ f => f)); have HX3 := hideI (K3.heap HXx.out (fun f => f)); have HT3 := hideI (HTx.out.kept K3); have HS3 := hideI (HSx.out.trans ⟨K3.mono (fun _ f => f.elim), fun _ h => .inl h⟩); have y0 : W3.cell? ⟨wr.heap.size, 0, none⟩ = some (.int .i64 x.op) := (by simp [World.cell?, HX3.out]); have y1 : W3.cell? ⟨wr.heap.size, 1, none⟩ = some (.int .u64 x.a) := (by simp [World.cell?, HX3.out]); have y2 : W3.cell? ⟨wr.heap.size, 2, none⟩ = some (.int .u64 x.b) := (by simp [World.cell?, HX3.out]); clear K3)
          | (go_at_call 36; refine (put_any bw v (ibL (l.take j)) x W3 HB3.out HOx.out HIo.out HT3.out (HS3.out.far (fun f => by rcases f with f | f; (have := HBW.out; omega); (simp [Value.ownBlock] at f)) (by have := HKb.out.size; omega)) (by have := HLj.out; omega)).mono ?_; rintro e W4 ⟨rfl, v4, hW4, S4⟩; have HW4 := hideI hW4; have HS4 := hideI (HS3.out.trans S4); clear hW4 S4))
        go_roundw
        case rel => exact ⟨j + 1, _, hlt2, by go_num, hideI (by rw [HSN.out]; exact HW4.out), HS4, HAn2⟩
        case measure => simp [intOf]; omega
      | false =>
        rw [hok] at HH
        have HBad := hideI (HAb.out hok)
        clear hok HAb HAn
        go_wp2_with (go_at_call 35; refine HH.out.mono ?_; clear HH; rintro e W3 ⟨rfl, K3⟩; have e3 := K3.cell HEx.out (fun f => f); have HK3 := hideI ((HKr.out.trans HKx.out (fun _ f => f.elim)).trans K3 (fun _ f => f.elim)); clear K3)
        go_region
        all_goals go_wp2
        all_goals go_ret2
        all_goals exact ⟨fun h => absurd h HBad.out, fun _ => rfl, HK3.out.trans (Kept.drew _) (fun _ f => f.elim)⟩
    · obtain rfl : j = nl := by omega
      have hT : l.take j = l := List.take_of_length_le (by rw [HNL.out]; exact Nat.le_refl _)
      have hle := HLen.out j
      rw [hT] at HB hle
      have HLe := hideI hle
      have HAll : Hid (∀ x ∈ l, okI x = true) := hideI (fun x hx => by
        obtain ⟨k, hk, rfl⟩ := List.mem_iff_getElem.1 hx
        exact HA.out k hk (by rw [HNL.out]; exact hk))
      clear hle
      go_wp2_with (go_at_call 33; refine (bytes_any bw _ _ _ HB.out (by have := HLe.out; omega)).mono ?_; rintro e W5 ⟨rfl, hO5, K5⟩)
      go_ret2
      exact ⟨fun _ => ⟨_, HKr.out.size, rfl, own_lowerI hO5 HKr.out.size⟩, fun h => absurd HAll.out h, HKr.out.trans K5 (fun _ f => f.elim)⟩
end Go.Proofs.YtdklkpbadopkaaaDoor
