import Derived.Test.YtiemiphlfbaojaaDoorSyn
import Derived.Test.YtiemiphlfbaojaaDoorLys
namespace Go.Proofs.YtiemiphlfbaojaaDoor
open Go.ChangeShapes Go.WideShapes Go.ChangeAt Go.RowKit
variable {w : World}

/-! Check. -/
def tnL (x : Lx) : Tn := ⟨(x.k : Int), bq x.t, x.n, (x.a : Int), (x.e : Int)⟩
def rowL (L : List Lx) : List Tn := L.map tnL
theorem rw_list {L : List Lx} {g : Nat} (h : ∀ k y, L[k]? = some y → LxAt w g k y) : Rw w (some ⟨g, 0, none⟩) (rowL L) := fun _ => ⟨g, 0, rfl, fun j y hy => by
  unfold rowL at hy
  rw [List.getElem?_map] at hy
  obtain ⟨x, hx, rfl⟩ := Option.map_eq_some_iff.1 hy
  obtain ⟨c0, c1, c2, c3, c4⟩ := h j x hx
  rw [Nat.zero_add]
  exact ⟨c0, c1, c2, c3, c4⟩⟩
/-- The tokens of a text end with the end. -/
theorem end_list {l : List UInt8} {L : List Lx} (h : scanF l = (L, none)) : EndR (rowL L) := by
  obtain ⟨A, hA, _⟩ := scan_beside l [] (by rw [h])
  rw [h] at hA
  have hA : L = A ++ [endT l.length] := hA
  subst hA
  refine ⟨tnL (endT l.length), ?_, rfl⟩
  unfold rowL
  rw [List.getElem?_map, List.length_map, List.length_append]
  show Option.map tnL ((A ++ [endT l.length])[A.length + 1 - 1]?) = _
  rw [Nat.add_sub_cancel, List.getElem?_append_right (Nat.le_refl _), Nat.sub_self]
  rfl
/-- What Check answers. -/
def ckPost (w : World) (ad : Addr) (l : List UInt8) (x : Ending) (w' : World) : Prop :=
  ((∃ L, scanF l = (L, none) ∧ (((runR (rowL L)).1 = true ∧ x = .returned (.tuple #[.int .i64 (((runR (rowL L)).2.top.n : Nat) : Int), .int .i64 0, .nilIface])) ∨ ((runR (rowL L)).1 = false ∧ x = .returned (.tuple #[.int .i64 0, .int .i64 (tkA (rowL L) (runR (rowL L)).2.at').a, synV ad])))) ∨ (∃ f : Nat, (scanF l).2 = some f ∧ x = .returned (.tuple #[.int .i64 0, .int .i64 (f : Int), synV ad]))) ∧ Kept (fun _ => False) w w'
set_option maxRecDepth 20000 in
set_option maxHeartbeats 4000000 in
theorem check_any (l : List UInt8) (ad : Addr) (hC : ClsAt w) (hS : SynAt w ad) (hl : l.length ≤ 400000000000 - 1) : Calls Tryd.prog 6 #[.string (bq l)] w (ckPost w ad l) := by
  cases hZ : (scanF l).2 with
  | none =>
    obtain ⟨L, hL⟩ : ∃ L, L = (scanF l).1 := ⟨_, rfl⟩
    obtain ⟨n, hn⟩ : ∃ n, n = L.length := ⟨_, rfl⟩
    have h1 : scanF l = (L, none) := by rw [hL, ← hZ]
    obtain ⟨p0, p1, -⟩ := scan_pos l hZ
    rw [← hL, ← hn] at p0 p1
    have C1 := hideL (scan_list l L n w ad hC hS (by omega) h1 hn p0)
    have hrl : (rowL L).length = n := by unfold rowL; rw [List.length_map, hn]
    have C2 := hideL (fun W (k : Kept (fun _ => False) w W) g c (h : ∀ k y, L[k]? = some y → LxAt W g k y) => judge_any (w := W) (rc := c) n ad hrl.symm (rw_list h) (by omega) (end_list h1) (hS.later k))
    have HP : Hid (∀ x w1 w2, Kept (fun _ => False) w w1 → jdPost w1 ad (rowL L) x w2 → ckPost w ad l x w2) := hideL (fun x w1 w2 k q => ⟨.inl ⟨L, h1, q.1⟩, k.trans q.2 (fun _ f => f.elim)⟩)
    have HJ : Hid (∀ x w1 w2, jdPost w1 ad (rowL L) x w2 → ∃ z1 z2 er, x = .returned (.tuple #[.int .i64 z1, .int .i64 z2, er])) := hideL (fun x w1 w2 q => by rcases q.1 with ⟨_, e⟩ | ⟨_, e⟩ <;> exact ⟨_, _, _, e⟩)
    generalize ckPost w ad l = Q at *
    generalize hJP : (fun w1 => jdPost w1 ad (rowL L)) = JP at *
    have HJP : Hid (∀ w1, jdPost w1 ad (rowL L) = JP w1) := hideL (fun w1 => by rw [← hJP])
    generalize bq l = s at *
    clear hC hS hl hZ hL hn h1 p1 hrl hJP
    go_enter Tryd.func6, Tryd.ntmps6
    go_wp2_with (first
      | (go_at_call 12; refine C1.out.mono ?_; clear C1; rintro x W1 ⟨⟨g1, c1, rfl, l1⟩, k1⟩; have K1 := hideL k1; have L1 := hideL l1; clear k1 l1)
      | (go_at_call 13; refine (C2.out _ K1.out _ _ L1.out).mono ?_; clear C2; intro x W2 q2; have HQ := hideL (HP.out x W1 W2 K1.out q2); obtain ⟨z1, z2, er, rfl⟩ := HJ.out x W1 W2 q2; clear q2))
    go_ret3
    exact HQ.out
  | some f =>
    have C1 := hideL (scan_some l w ad hC hS (by omega) f hZ)
    have HP : Hid (∀ w', Kept (fun _ => False) w w' → ckPost w ad l (.returned (.tuple #[.int .i64 0, .int .i64 (f : Int), .iface 120 (.pointer (some ad))])) w') := hideL (fun w' k => ⟨.inr ⟨f, hZ, rfl⟩, k⟩)
    generalize ckPost w ad l = Q at *
    generalize bq l = s at *
    clear hC hS hl hZ
    go_enter Tryd.func6, Tryd.ntmps6
    go_wp2_with (go_at_call 12; refine C1.out.mono ?_; clear C1; rintro x W1 ⟨rfl, k1⟩; have K1 := hideL k1; clear k1)
    go_ret3
    exact HP.out _ K1.out
end Go.Proofs.YtiemiphlfbaojaaDoor
