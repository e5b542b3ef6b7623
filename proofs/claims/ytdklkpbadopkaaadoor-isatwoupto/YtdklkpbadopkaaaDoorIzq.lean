import Derived.Test.YtdklkpbadopkaaaDoorIzp
import Derived.Test.YtdklkpbadopkaaaDoorIze
namespace Go.Proofs.YtdklkpbadopkaaaDoor
open Go.ChangeShapes Go.WideShapes Go.ChangeAt Go.RowKit

def lvL : List In := [⟨2, 0, 0⟩, ⟨12, 300, 0⟩, ⟨0, 0, 0⟩]
def lvP : Pg := ⟨[3], [], [], true, [], [2, 12, 172, 2, 0]⟩
theorem lv_bytes : ibL lvL = [2, 12, 172, 2, 0] := by
  have e1 : ib ⟨2, 0, 0⟩ = [2] := rfl
  have e2 : ib ⟨12, 300, 0⟩ = [12, 172, 2] := by
    have : ib ⟨12, 300, 0⟩ = 12 :: ([300].map uvb).flatten := rfl
    rw [this, List.map_cons, uvb300]; rfl
  have e3 : ib ⟨0, 0, 0⟩ = [0] := rfl
  simp [lvL, ibL, e1, e2, e3]
theorem lv_ok : ∀ x ∈ lvL, x.Ok := by
  intro x hx
  simp [lvL] at hx
  rcases hx with rfl | rfl | rfl <;> exact ⟨by decide, by decide, by decide, by decide⟩
theorem lv_good : ∀ x ∈ lvL, okI x = true := by
  intro x hx
  simp [lvL] at hx
  rcases hx with rfl | rfl | rfl <;> decide
theorem lv_dec : dcI lvP.co = some lvL := by
  have := dcI_back lvL lv_ok lv_good
  rw [lv_bytes] at this
  exact this
theorem dd_small {u : Nat} (h : u < 10) : Lib.decDigits u = [UInt8.ofNat (48 + u)] := by rw [Lib.decDigits, dif_pos h]
theorem dd_big {u : Nat} (h : ¬ u < 10) : Lib.decDigits u = Lib.decDigits (u / 10) ++ [UInt8.ofNat (48 + u % 10)] := by rw [Lib.decDigits, dif_neg h]
theorem lv_text : txt lvP lvL = [97, 118, 103, 115, 32, 51, 10, 101, 118, 101, 114, 121, 10, 97, 108, 108, 10, 115, 99, 97, 108, 101, 32, 51, 48, 48, 10, 101, 110, 100, 10] := by
  have d3 : Lib.decDigits 3 = [51] := by rw [dd_small (by decide)]; rfl
  have d300 : Lib.decDigits 300 = [51, 48, 48] := by
    rw [dd_big (by decide), show 300 / 10 = 30 from rfl, dd_big (by decide), show 30 / 10 = 3 from rfl, d3]; rfl
  have e1 : lnB avW (tnl lvP.av) = [97, 118, 103, 115, 32, 51, 10] := by
    have : lnB avW (tnl lvP.av) = avW ++ ([3].map nuB).flatten ++ [10] := rfl
    rw [this, List.map_cons, nuB, d3]; rfl
  have e2 : cdB ⟨12, 300, 0⟩ = [115, 99, 97, 108, 101, 32, 51, 48, 48, 10] := by
    have : cdB ⟨12, 300, 0⟩ = [115, 99, 97, 108, 101] ++ ([300].map nuB).flatten ++ [10] := rfl
    rw [this, List.map_cons, nuB, d300]; rfl
  have e3 : cdB ⟨2, 0, 0⟩ = [97, 108, 108, 10] := rfl
  have e4 : cdB ⟨0, 0, 0⟩ = [101, 110, 100, 10] := rfl
  rw [txt, e1]
  have e5 : cdL lvL = [97, 108, 108, 10, 115, 99, 97, 108, 101, 32, 51, 48, 48, 10, 101, 110, 100, 10] := by
    simp [cdL, lvL, e2, e3, e4]
  rw [e5]
  rfl
theorem lv_pok : lvP.Ok := by
  refine ⟨?_, ?_, ?_, ?_, ?_, by decide⟩
  · intro x hx; simp [lvP] at hx; subst hx; decide
  · intro x hx; simp [lvP] at hx
  · intro x hx; simp [lvP] at hx
  · intro x hx; simp [lvP] at hx
  · intro x hx; simp [lvP] at hx; rcases hx with rfl | rfl | rfl | rfl | rfl <;> decide
theorem lv_ins (w : World) : InsAt (w.alloc (.cells #[.int .i64 2, .int .u64 0, .int .u64 0, .int .i64 12, .int .u64 300, .int .u64 0, .int .i64 0, .int .u64 0, .int .u64 0] 48)) (some ⟨w.heap.size, 0, none⟩) lvL := by
  intro _
  refine ⟨w.heap.size, 0, rfl, fun k hk => ?_⟩
  have hk3 : k < 3 := hk
  match k, hk3 with
  | 0, _ => refine ⟨?_, ?_, ?_⟩ <;> simp [lvL]
  | 1, _ => refine ⟨?_, ?_, ?_⟩ <;> simp [lvL]
  | 2, _ => refine ⟨?_, ?_, ?_⟩ <;> simp [lvL]
theorem lv_av (w : World) : IntsAt (w.alloc (.cells #[.int .i64 3] 3)) (some ⟨w.heap.size, 0, none⟩) lvP.av := by
  intro _
  refine ⟨w.heap.size, 0, rfl, fun k hk => ?_⟩
  have hk1 : k < 1 := hk
  obtain rfl : k = 0 := by omega
  simp [lvP]
theorem lv_by {w : World} {b g c : Nat} (h : w.ownsRow b 5 1 (.slice (some ⟨g, 0, none⟩) 5 c) 5 (bs lvP.co)) : BytesAt w (some ⟨g, 0, none⟩) lvP.co := by
  obtain ⟨a, c', e, hb, _⟩ := bytes_of_own h
  simp only [Value.slice.injEq] at e
  obtain ⟨rfl, _, _⟩ := e
  exact hb
/-- What a world must hold for the laws of layer 20. -/
structure Env (w : World) (a0 a1 ac : Addr) : Prop where
  e : Ew w a0 a1 ac
  t : OpT w
  p : Pw w
theorem Env.kept {w w' : World} {a0 a1 ac : Addr} (h : Env w a0 a1 ac) (k : Kept (fun _ => False) w w') : Env w' a0 a1 ac := ⟨h.e.kept k, h.t.kept k, h.p.kept k⟩
set_option maxRecDepth 20000 in
set_option maxHeartbeats 4000000 in
theorem ilives_any (a0 a1 ac : Addr) (w : World) (hE : Env w a0 a1 ac) :
    Calls Tryd.prog 7 #[] w fun e w' => e = .returned (.bool true) ∧ Kept (fun _ => False) w w' := by
  have KA := Kept.alloc w (.cells #[.int .i64 2, .int .u64 0, .int .u64 0, .int .i64 12, .int .u64 300, .int .u64 0, .int .i64 0, .int .u64 0, .int .u64 0] 48)
  have HEn := hideI (encode_any lvL (some ⟨w.heap.size, 0, none⟩) 3 ac _ (lv_ins w) lv_ok (by decide) (hE.kept KA).e.gc (hE.kept KA).t)
  have HKA := hideI KA
  have HE := hideI hE
  clear KA hE
  rw [show lvL.length = 3 from rfl] at HEn
  go_enter Tryd.func7, Tryd.ntmps7
  go_wp2_with (first
    | (go_at_call 13; refine HEn.out.mono ?_; clear HEn; rintro e W1 ⟨h1, -, K1⟩; obtain ⟨g, hg, he, ho⟩ := h1 lv_good; rw [lv_bytes] at he ho; subst he; have HK1 := hideI (HKA.out.trans K1 (fun _ f => f.elim)); have hcv : (convert 25 9 (.slice (some ⟨g, 0, none⟩) 5 5)).run Tryd.prog W1 = .ok (.string { data := #[2, 12, 172, 2, 0] }) W1 := (conv_own ho); have HKn := hideI (Kept.alloc W1 (.cells #[.int .i64 3] 3)); have HBy := hideI ((lv_by ho).keptI HKn.out); have HTx := hideI (text_good lvP lvL (some ⟨W1.heap.size, 0, none⟩) none none none (some ⟨g, 0, none⟩) 1 0 0 0 5 a0 a1 ac (W1.alloc (.cells #[.int .i64 3] 3)) ⟨lv_av W1, fun h => absurd rfl h, fun h => absurd rfl h, fun h => absurd rfl h, HBy.out⟩ lv_pok (HE.out.kept (HK1.out.trans HKn.out (fun _ f => f.elim))).e (HE.out.kept (HK1.out.trans HKn.out (fun _ f => f.elim))).t (HE.out.kept (HK1.out.trans HKn.out (fun _ f => f.elim))).p lv_dec rfl); clear h1 K1 ho hg)
    | (go_at_call 8; refine HTx.out.mono ?_; clear HTx; rintro e W2 ⟨he, K2⟩; rw [lv_text] at he; subst he; have HK2 := hideI K2; clear K2))
  go_ret
  exact ⟨rfl, (HK1.out.trans HKn.out (fun _ f => f.elim)).trans HK2.out (fun _ f => f.elim)⟩
end Go.Proofs.YtdklkpbadopkaaaDoor
