import Derived.Test.YtidgofpmnlddaaaGreatDoorMim
import Derived.Test.YtidgofpmnlddaaaGreatDoorMik
import Derived.Test.YtidgofpmnlddaaaGreatDoorMib
import Derived.Test.YtidgofpmnlddaaaGreatDoorCow
namespace Go.Proofs.YtidgofpmnlddaaaGreatDoor
open Go.ChangeShapes Go.WideShapes Go.ChangeAt Go.RowKit

theorem xor_byte (x : Int) : 0 ≤ bits .xor .u8 x 60 ∧ bits .xor .u8 x 60 ≤ 255 := by
  have h : bits .xor .u8 x 60 = IntKind.u8.wrap ((BitVec.ofInt 8 x ^^^ BitVec.ofInt 8 60).toNat : Int) := rfl
  rw [h, IntKind.wrap_u8]
  omega
/-- The first i bytes turned. -/
def xol (i : Nat) (l : List Int) : List Int := (l.take i).map (fun x => bits .xor .u8 x 60) ++ l.drop i
theorem xol_len (i : Nat) (l : List Int) : (xol i l).length = l.length := by
  unfold xol
  rw [List.length_append, List.length_map, List.length_take, List.length_drop]
  omega
theorem xol_zero (l : List Int) : xol 0 l = l := by simp [xol]
theorem xol_succ (i : Nat) (l : List Int) (h : i < l.length) : (xol i l).set i (bits .xor .u8 (l[i]?.getD 0) 60) = xol (i + 1) l ∧ (xol i l)[i]? = some (l[i]?.getD 0) := by
  have e : ((l.take i).map (fun x => bits .xor .u8 x 60)).length = i := by rw [List.length_map, List.length_take]; omega
  have hd := List.drop_eq_getElem_cons h
  constructor
  · unfold xol
    rw [List.set_append_right _ _ (by omega), e, Nat.sub_self, hd, List.take_succ_eq_append_getElem h, List.map_append, List.append_assoc, List.getElem?_eq_getElem h]
    rfl
  · unfold xol
    rw [List.getElem?_append_right (by omega), e, Nat.sub_self, hd, List.getElem?_eq_getElem h]
    rfl
theorem xol_all (l : List Int) : xol l.length l = l.map (fun x => bits .xor .u8 x 60) := by simp [xol]
theorem ps_ne {b : Int} : ∀ {P : List Po} {i : Nat} (h : i < P.length), gdl b P → P[i].ps ≠ []
  | x :: P, 0, _, hg => by
    rw [gdl] at hg
    exact hg.1.ne
  | x :: P, i + 1, h, hg => by
    rw [gdl] at hg
    exact ps_ne (P := P) (i := i) (by simpa using h) hg.2
set_option maxRecDepth 20000 in
set_option maxHeartbeats 4000000 in
/-- OwnInts of nothing. -/
theorem ownI_nil (w : World) :
    Calls Tryz.prog 14 #[.slice none 0 0] w fun e w' => e = .returned (.bool true) ∧ Kept (fun _ => False) w w' := by
  · skip
    obtain ⟨j0, hj, hy0, hy1, hy2⟩ := info_parts Tryz.infoSlI
    have hown0 : (w.alloc (.cells #[] 24)).ownsRow w.heap.size 24 1 (.slice (some ⟨w.heap.size, 0, none⟩) 0 0) 0 [] := ⟨rfl, .inr ⟨w.heap.size, 0, #[], rfl, Nat.le_refl _, heap_alloc_new w _, Nat.le_refl _, Nat.zero_le _, rfl, rfl⟩⟩
    have kA := Kept.alloc w (.cells #[] 24)
    go_enter Tryz.func14, Tryz.ntmps14
    go_wp2
    go_loopw [15] (fun i wr => i = .int .i64 0 ∧ wr = w) (fun _ _ => 0)
    case atStart => exact ⟨rfl, rfl⟩
    case round =>
    obtain ⟨rfl, rfl⟩ := hrel
    go_wp2_with (at_builtin; refine wpList_append_own_none rfl _ _ 23 rfl wr.heap.size 24 j0 1 Tryz.underlying23 hj _ 0 [] rfl hown0 rfl ?_)
    go_loopw [7] (fun kk wx => ∃ r : Nat, r ≤ 80 ∧ kk = .int .i64 r ∧ wx = wr.alloc (.cells #[] 24)) (fun kk _ => 80 - (intOf kk).toNat)
    case atStart => exact ⟨0, by omega, rfl, rfl⟩
    case round =>
    obtain ⟨r, hr, rfl, rfl⟩ := hrel
    by_cases h80 : r < 80
    · have i1 : (r : Int) < 80 := by omega
      go_wp2
      go_loopw [42] (fun kk wx => kk = .int .i64 0 ∧ wx = wr.alloc (.cells #[] 24)) (fun _ _ => 0)
      case atStart => exact ⟨rfl, rfl⟩
      case round =>
      obtain ⟨rfl, rfl⟩ := hrel
      go_wp2
      go_roundw
      case rel => exact ⟨r + 1, by omega, by go_num, by first | rfl | trivial⟩
      case measure => simp [intOf]; omega
    · have i1 : ¬ (r : Int) < 80 := by omega
      go_wp2
      go_loopw [65] (fun kk wx => kk = .int .i64 0 ∧ wx = wr.alloc (.cells #[] 24)) (fun _ _ => 0)
      case atStart => exact ⟨rfl, rfl⟩
      case round =>
      obtain ⟨rfl, rfl⟩ := hrel
      go_wp2
      go_ret
      exact ⟨rfl, kA⟩
/-- The lists that are kept, as OwnInts asks them. -/
theorem Rws.owi {lo : Nat} {W : World} {g n c : Nat} {S : List Il} (h : Rws lo W (.slice (some ⟨g, 0, none⟩) n c) n S) : Owi W W g 0 (svl S) (fun t => (S[t]?.map (·.l)).getD []) ∧ Apti g (svl S) := by
  have hn := h.len
  have hS : ∀ t (ht : t < (svl S).length), ∃ hs : t < S.length, (svl S)[t] = svx S[t] := fun t ht => ⟨by rw [svl_len] at ht; exact ht, List.getElem_map (fun x : Il => Value.slice x.a x.l.length x.c)⟩
  refine ⟨⟨fun t ht => ?_, fun t ht => ?_, Kept.refl _ _⟩, fun t s ht hs hts k hk hk2 => ?_, fun v hv hk => ?_⟩
  · rw [Nat.zero_add]
    exact row_at h.own (List.getElem?_eq_getElem ht)
  · obtain ⟨hs, e⟩ := hS t ht
    rw [e, List.getElem?_eq_getElem hs]
    exact row_lower (h.row _ (List.getElem_mem hs)) (Nat.zero_le _)
  · obtain ⟨h1, e1⟩ := hS t ht
    obtain ⟨h2, e2⟩ := hS s hs
    rw [e1] at hk
    rw [e2] at hk2
    rcases Nat.lt_or_ge t s with q | q
    · exact (List.pairwise_iff_getElem.1 h.two) t s h1 h2 q k hk hk2
    · exact (List.pairwise_iff_getElem.1 h.two) s t h2 h1 (by omega) k hk2 hk
  · obtain ⟨t, ht, rfl⟩ := List.mem_iff_getElem.1 hv
    obtain ⟨h1, e1⟩ := hS t ht
    rw [e1] at hk
    exact h.far _ (List.getElem_mem h1) g rfl hk
end Go.Proofs.YtidgofpmnlddaaaGreatDoor
