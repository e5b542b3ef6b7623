import Derived.Test.YthbepejoffkdjaaDoorIzt
namespace Go.Proofs.YthbepejoffkdjaaDoor
open Go.ChangeShapes Go.WideShapes Go.ChangeAt Go.RowKit

theorem nm_list (l : List UInt8) : (⟨l.toArray⟩ : ByteArray).toList = l := by rw [ByteArray.toList_mk]
theorem nm_apart (j k : Nat) (hj : j < 17) (hk : k < 17) (h : j ≠ k) : nmN j ≠ nmN k := by
  have q : ∀ (j k : Fin 17), j ≠ k → nameL.getD j.val [] ≠ nameL.getD k.val [] := by decide +kernel
  exact q ⟨j, hj⟩ ⟨k, hk⟩ (fun e => h (congrArg Fin.val e))
theorem nm_some (j : Nat) (hj : j < 17) : nmN j ≠ [] := by
  have q : ∀ (j : Fin 17), nameL.getD j.val [] ≠ [] := by decide +kernel
  exact q ⟨j, hj⟩
/-- The name that the law holds. -/
def nmA (op : Int) : List UInt8 := if isO op then nmN op else []
theorem nmV_A (op : Int) : nmV op = .tuple #[.string ⟨(nmA op).toArray⟩, .bool (isO op)] := by
  unfold nmA
  cases h : isO op with
  | true => rw [nmV_in h]; rfl
  | false => rw [nmV_out h]; rfl
theorem arV_A (op : Int) : ∃ n : Nat, arV op = .tuple #[.int .i64 (n : Int), .bool (isO op)] := by
  cases h : isO op with
  | true => exact ⟨_, arV_in h⟩
  | false => exact ⟨0, arV_out h⟩
theorem nmA_apart (op : Int) (j : Nat) (hj : j < 17) (h : (j : Int) ≠ op) : nmN j ≠ nmA op := by
  unfold nmA
  split
  · rename_i hi
    obtain ⟨h0, h1⟩ := isO_iff.1 hi
    obtain ⟨k, rfl⟩ : ∃ k : Nat, op = k := ⟨op.toNat, by omega⟩
    exact nm_apart j k hj (by omega) (by omega)
  · exact nm_some j hj
theorem ord_at (k : Nat) (hk : k < 17) : (#[.int .i64 0, .int .i64 1, .int .i64 2, .int .i64 3, .int .i64 4, .int .i64 5, .int .i64 6, .int .i64 7, .int .i64 8, .int .i64 9, .int .i64 10, .int .i64 11, .int .i64 12, .int .i64 13, .int .i64 14, .int .i64 15, .int .i64 16] : Array Value)[k]? = some (.int .i64 (k : Int)) := by
  match k, hk with
  | 0, _ => rfl
  | 1, _ => rfl
  | 2, _ => rfl
  | 3, _ => rfl
  | 4, _ => rfl
  | 5, _ => rfl
  | 6, _ => rfl
  | 7, _ => rfl
  | 8, _ => rfl
  | 9, _ => rfl
  | 10, _ => rfl
  | 11, _ => rfl
  | 12, _ => rfl
  | 13, _ => rfl
  | 14, _ => rfl
  | 15, _ => rfl
  | 16, _ => rfl
  | n + 17, h => omega
set_option maxRecDepth 20000 in
set_option maxHeartbeats 8000000 in
theorem names_all (op : Int) (a0 a1 ac : Addr) (w : World) (hE : Env w a0 a1 ac) :
    Calls Tryd.prog 3 #[.int .i64 op] w fun e w' => e = .returned (.bool true) ∧ Kept (fun _ => False) w w' := by
  have HLv := hideI (ilives_any a0 a1 ac w hE)
  have HE := hideI hE
  have HN := fun W (h : OpT W) => hideI (name_any op W h)
  have HRN := fun W => hideI (rname_any op W)
  have HA := fun W (h : OpT W) => hideI (args_any op W h)
  have HRA := fun W => hideI (rargs_any op W)
  obtain ⟨n, hn⟩ := arV_A op
  rw [nmV_A] at HN HRN
  rw [hn] at HA HRA
  have HAp : Hid (∀ j : Nat, j < 17 → (j : Int) ≠ op → nmN j ≠ nmA op) := hideI (fun j hj h => nmA_apart op j hj h)
  obtain ⟨sa, hsa⟩ : ∃ sa : ByteArray, sa = ⟨(nmA op).toArray⟩ := ⟨_, rfl⟩
  rw [← hsa] at HN HRN
  have HSA : Hid (sa.toList = nmA op) := hideI (by rw [hsa, nm_list])
  generalize isO op = bo at *
  clear hn hsa hE
  go_enter Tryd.func3, Tryd.ntmps3
  go_wp2_with (first
    | (go_at_call 7; refine HLv.out.mono ?_; clear HLv; rintro e W1 ⟨rfl, K1⟩; have HK1 := hideI K1; clear K1)
    | (go_at_call 8; refine (HN _ (HE.out.kept HK1.out).t).out.mono ?_; clear HN; rintro e W2 ⟨rfl, K2⟩; have HK2 := hideI (HK1.out.trans K2 (fun _ f => f.elim)); clear K2)
    | (go_at_call 9; refine (HRN _).out.mono ?_; clear HRN; rintro e W3 ⟨rfl, K3⟩; have HK3 := hideI (HK2.out.trans K3 (fun _ f => f.elim)); clear K3)
    | (go_at_call 10; refine (HA _ (HE.out.kept HK3.out).t).out.mono ?_; clear HA; rintro e W4 ⟨rfl, rfl⟩)
    | (go_at_call 11; refine (HRA _).out.mono ?_; clear HRA; rintro e W5 ⟨rfl, K5⟩; have HK5 := hideI (HK3.out.trans K5 (fun _ f => f.elim)); clear K5))
  obtain ⟨V, hV⟩ : ∃ V, V = W5.alloc (.cells #[.int .i64 0, .int .i64 1, .int .i64 2, .int .i64 3, .int .i64 4, .int .i64 5, .int .i64 6, .int .i64 7, .int .i64 8, .int .i64 9, .int .i64 10, .int .i64 11, .int .i64 12, .int .i64 13, .int .i64 14, .int .i64 15, .int .i64 16] 3) := ⟨_, rfl⟩
  have HC : Hid (∀ k : Nat, k < 17 → V.cell? ⟨W5.heap.size, k, none⟩ = some (.int .i64 (k : Int))) := hideI (fun k hk => by rw [hV, World.cell?_alloc_new]; exact ord_at k hk)
  have HKV : Hid (Kept (fun _ => False) w V) := hideI (by rw [hV]; exact HK5.out.trans (Kept.alloc _ _) (fun _ f => f.elim))
  rw [← hV]
  clear hV HK1 HK2 HK3 HK5
  generalize W5.heap.size = ob at *
  go_loopw [55] (fun v55 wr => ∃ (j : Nat), j ≤ 17 ∧ v55 = .int .i64 j ∧ Hid (Kept (fun _ => False) V wr)) (fun v55 _ => 17 - (intOf v55).toNat)
  case atStart => exact ⟨0, by omega, rfl, hideI (Kept.refl _ _)⟩
  case round =>
    obtain ⟨j, hj, rfl, HK⟩ := hrel
    by_cases hlt : j < 17
    · have hji : (j : Int) < 17 := by omega
      have xc := HK.out.cell (HC.out j hlt) (fun f => f)
      have HNj := hideI (name_any (j : Int) wr ((HE.out.kept HKV.out).kept HK.out).t)
      rw [nmV_in (isO_iff.2 ⟨by omega, by omega⟩)] at HNj
      obtain ⟨sj, hsj⟩ : ∃ sj : ByteArray, sj = ⟨(nmN (j : Int)).toArray⟩ := ⟨_, rfl⟩
      rw [← hsj] at HNj
      have HSJ : Hid (sj.toList = nmN (j : Int)) := hideI (by rw [hsj, nm_list])
      clear hsj
      by_cases hop : (j : Int) = op
      · have hne : ((j : Int) != op) = false := by rw [hop]; simp
        have hne2 : ((j : Int) == op) = true := by rw [hop]; simp
        have HOP := hideI hop
        clear hop
        go_wp2_with (go_at_call 8; refine HNj.out.mono ?_; clear HNj; rintro e W7 ⟨rfl, K7⟩; have HK7 := hideI (HK.out.trans K7 (fun _ f => f.elim)); clear K7)
        go_roundw
        case rel => exact ⟨j + 1, by omega, by go_num, HK7⟩
        case measure => simp [intOf]; omega
      · have hne : ((j : Int) != op) = true := by rw [bne_iff_ne]; exact hop
        have hne2 : ((j : Int) == op) = false := by rw [beq_eq_false_iff_ne]; exact hop
        have hst : (sj.toList == sa.toList) = false := by rw [beq_eq_false_iff_ne, HSJ.out, HSA.out]; exact HAp.out j hlt hop
        have hst2 : ¬ sj.toList = sa.toList := by rw [HSJ.out, HSA.out]; exact HAp.out j hlt hop
        go_wp2_with (go_at_call 8; refine HNj.out.mono ?_; clear HNj; rintro e W7 ⟨rfl, K7⟩; have HK7 := hideI (HK.out.trans K7 (fun _ f => f.elim)); clear K7)
        go_roundw
        case rel => exact ⟨j + 1, by omega, by go_num, HK7⟩
        case measure => simp [intOf]; omega
    · obtain rfl : j = 17 := by omega
      rw [show ((17 : Nat) : Int) = 17 from rfl]
      go_wp2
      go_ret
      exact ⟨rfl, HKV.out.trans HK.out (fun _ f => f.elim)⟩
end Go.Proofs.YthbepejoffkdjaaDoor
