import Derived.Test.YtibkmeahihojaaaDoorFss
import Derived.Test.YtibkmeahihojaaaDoorApp
namespace Go.Proofs.YtibkmeahihojaaaDoor
open Go.ChangeShapes Go.WideShapes Go.ChangeAt Go.RowKit

theorem isBytes_app {A B : List Int} (hA : IsBytes A) (hB : IsBytes B) : IsBytes (A ++ B) := fun x hx => (List.mem_append.1 hx).elim (hA x) (hB x)
theorem ext_append {A B : List Int} (hA : IsBytes A) : ext (ext 0 A) B = ext 0 (A ++ B) := by
  have h := crun_lt pS_lt A hA (neg32_lt 0)
  unfold ext
  rw [neg32_neg32 h, crun_append]
theorem joined_ext {A B : List Int} (hA : IsBytes A) (hB : IsBytes B) : joined (ext 0 A) (ext 0 B) (B.length : Nat) = ext 0 (A ++ B) := by
  have h1 := crun_lt pS_lt A hA (neg32_lt 0)
  have h2 := crun_lt pS_lt B hB (neg32_lt 0)
  have h3 := crun_lt pS_lt B hB h1
  have e0 : neg32 0 = 4294967295 := rfl
  have eA := crun_xor pS B (crun pS (neg32 0) A) 0
  have eB := crun_xor pS B (neg32 0) 0
  rw [Nat.xor_zero] at eA eB
  have hx : ext 0 (A ++ B) = 4294967295 ^^^ crun pS (crun pS (neg32 0) A) B := by
    unfold ext
    rw [crun_append, neg32_xor h3]
  have hz : zeros (ext 0 A) B.length = cxn pS (8 * B.length) 4294967295 ^^^ cxn pS (8 * B.length) (crun pS (neg32 0) A) := by
    unfold zeros ext
    rw [neg32_xor h1, cxn_xor]
  have hy : ext 0 B = 4294967295 ^^^ crun pS (neg32 0) B := by
    unfold ext
    rw [neg32_xor h2]
  unfold joined
  rw [Int.toNat_natCast, hz, hx, hy, eA, eB, e0]
  generalize cxn pS (8 * B.length) 4294967295 = p
  generalize cxn pS (8 * B.length) (crun pS 4294967295 A) = q
  generalize crun pS 0 B = r
  rw [← Nat.xor_assoc 4294967295 p r, Nat.xor_comm 4294967295 p, Nat.xor_assoc p 4294967295 r, Nat.xor_assoc p q, ← Nat.xor_assoc q p, Nat.xor_comm q p, Nat.xor_assoc p q, ← Nat.xor_assoc p p, Nat.xor_self, Nat.zero_xor, ← Nat.xor_assoc, ← Nat.xor_assoc, Nat.xor_comm q]
set_option maxRecDepth 20000 in
set_option maxHeartbeats 4000000 in
theorem splits_walk (A B C : List Int) (aA aB aC : Option Addr) (cA cB cC : Nat) (w : World) (hA : BytesAt w aA A) (hB : BytesAt w aB B) (hC : BytesAt w aC C) (bA : IsBytes A) (bB : IsBytes B) (bC : IsBytes C) (zA : aA = none → cA = 0) (zB : aB = none → cB = 0) (zC : aC = none → cC = 0)
    (lA : A.length ≤ 1099511627776) (lB : B.length ≤ 1099511627776) (lC : C.length ≤ 1099511627776) (hT : TabAt w) :
    Calls Tryd.prog 4 #[.slice aA A.length cA, .slice aB B.length cB, .slice aC C.length cC] w fun e w' => e = .returned (.bool true) ∧ Kept (fun _ => False) w w' := by
  obtain ⟨AB, hAB⟩ : ∃ l, l = A ++ B := ⟨_, rfl⟩
  obtain ⟨ALL, hALL⟩ : ∃ l, l = AB ++ C := ⟨_, rfl⟩
  have bAB : IsBytes AB := by rw [hAB]; exact isBytes_app bA bB
  have bALL : IsBytes ALL := by rw [hALL]; exact isBytes_app bAB bC
  have lAB : AB.length = A.length + B.length := by rw [hAB, List.length_append]
  have lALL : ALL.length = AB.length + C.length := by rw [hALL, List.length_append]
  have m1 : ext (ext 0 A) B = ext 0 AB := by rw [hAB]; exact ext_append bA
  have m2 : joined (ext 0 A) (ext 0 B) (B.length : Nat) = ext 0 AB := by rw [hAB]; exact joined_ext bA bB
  have m3 : joined (ext 0 B) (ext 0 C) (C.length : Nat) = ext 0 (B ++ C) := joined_ext bB bC
  have m4 : joined (ext 0 AB) (ext 0 C) (C.length : Nat) = ext 0 ALL := by rw [hALL]; exact joined_ext bAB bC
  have m5 : joined (ext 0 A) (ext 0 (B ++ C)) ((B.length : Int) + C.length) = ext 0 ALL := by
    have bBC : IsBytes (B ++ C) := isBytes_app bB bC
    have h := joined_ext bA bBC
    rw [List.length_append, ← List.append_assoc, ← hAB, ← hALL] at h
    have e : ((B.length + C.length : Nat) : Int) = (B.length : Int) + C.length := by omega
    rw [e] at h
    exact h
  have LV : Hid (Calls Tryd.prog 6 #[] w fun e W => e = .returned (.bool true) ∧ Hid (Kept (fun _ => False) w W)) := (lives2_any w hT).mono fun e W q => ⟨q.1, q.2⟩
  have SM : ∀ l : List Int, IsBytes l → l.length ≤ 281474976710656 → Hid (∀ W a c, Hid (Kept (fun _ => False) w W) → Hid (BytesAt W a l) → Calls Tryd.prog 8 #[.slice a l.length c] W fun e W' => e = .returned (.int .u32 (ext 0 l : Nat)) ∧ W' = W) := fun l hb hl W a c q r => sum_any l a c W r.out hb hl (hT.kept q.out)
  have SA := SM A bA (by omega)
  have SB := SM B bB (by omega)
  have SC := SM C bC (by omega)
  have SAB := SM AB bAB (by omega)
  have SALL := SM ALL bALL (by omega)
  have EX : Hid (∀ W, Hid (Kept (fun _ => False) w W) → Calls Tryd.prog 11 #[.int .u32 (ext 0 A : Nat), .slice aB B.length cB] W fun e W' => e = .returned (.int .u32 (ext 0 AB : Nat)) ∧ W' = W) := fun W q => by
    have h := extend_any (ext 0 A) B aB cB W (ext_lt _ _) (bytes_keptF hB q.out) bB (by omega) (hT.kept q.out)
    rw [m1] at h
    exact h
  have J1 : Hid (∀ W, Calls Tryd.prog 13 #[.int .u32 (ext 0 A : Nat), .int .u32 (ext 0 B : Nat), .int .i64 B.length] W fun e W' => e = .returned (.int .u32 (ext 0 AB : Nat)) ∧ W' = W) := fun W => by
    have h := join_any (ext 0 A) (ext 0 B) (B.length : Nat) (ext_lt _ _) (ext_lt _ _) (by omega) W
    rw [m2] at h
    exact h
  have J2 : Hid (∀ W, Calls Tryd.prog 13 #[.int .u32 (ext 0 B : Nat), .int .u32 (ext 0 C : Nat), .int .i64 C.length] W fun e W' => e = .returned (.int .u32 (ext 0 (B ++ C) : Nat)) ∧ W' = W) := fun W => by
    have h := join_any (ext 0 B) (ext 0 C) (C.length : Nat) (ext_lt _ _) (ext_lt _ _) (by omega) W
    rw [m3] at h
    exact h
  have J3 : Hid (∀ W, Calls Tryd.prog 13 #[.int .u32 (ext 0 AB : Nat), .int .u32 (ext 0 C : Nat), .int .i64 C.length] W fun e W' => e = .returned (.int .u32 (ext 0 ALL : Nat)) ∧ W' = W) := fun W => by
    have h := join_any (ext 0 AB) (ext 0 C) (C.length : Nat) (ext_lt _ _) (ext_lt _ _) (by omega) W
    rw [m4] at h
    exact h
  have J4 : Hid (∀ W, Calls Tryd.prog 13 #[.int .u32 (ext 0 A : Nat), .int .u32 (ext 0 (B ++ C) : Nat), .int .i64 ((B.length : Int) + C.length)] W fun e W' => e = .returned (.int .u32 (ext 0 ALL : Nat)) ∧ W' = W) := fun W => by
    have h := join_any (ext 0 A) (ext 0 (B ++ C)) ((B.length : Int) + C.length) (ext_lt _ _) (ext_lt _ _) (by omega) W
    rw [m5] at h
    exact h
  obtain ⟨nA, hnA⟩ : ∃ n, n = A.length := ⟨_, rfl⟩
  obtain ⟨nB, hnB⟩ : ∃ n, n = B.length := ⟨_, rfl⟩
  obtain ⟨nC, hnC⟩ : ∃ n, n = C.length := ⟨_, rfl⟩
  obtain ⟨nAB, hnAB⟩ : ∃ n, n = AB.length := ⟨_, rfl⟩
  obtain ⟨nALL, hnALL⟩ : ∃ n, n = ALL.length := ⟨_, rfl⟩
  obtain ⟨xA, hxA⟩ : ∃ x, x = ext 0 A := ⟨_, rfl⟩
  obtain ⟨xB, hxB⟩ : ∃ x, x = ext 0 B := ⟨_, rfl⟩
  obtain ⟨xC, hxC⟩ : ∃ x, x = ext 0 C := ⟨_, rfl⟩
  obtain ⟨xAB, hxAB⟩ : ∃ x, x = ext 0 AB := ⟨_, rfl⟩
  obtain ⟨xBC, hxBC⟩ : ∃ x, x = ext 0 (B ++ C) := ⟨_, rfl⟩
  obtain ⟨xALL, hxALL⟩ : ∃ x, x = ext 0 ALL := ⟨_, rfl⟩
  rw [← hnA] at SA lA ⊢
  rw [← hnB] at SB lB EX J1 J4 ⊢
  rw [← hnC] at SC lC J2 J3 J4 ⊢
  rw [← hnAB] at SAB
  rw [← hnALL] at SALL
  rw [← hxA] at SA EX J1 J4
  rw [← hxB] at SB J1 J2
  rw [← hxC] at SC J2 J3
  rw [← hxAB] at SAB EX J1 J3
  rw [← hxBC] at J2 J4
  rw [← hxALL] at SALL J3 J4
  have SALL2 := SALL
  have OA := hideC hA
  have OB := hideC hB
  have OC := hideC hC
  have ZA := hideC zA
  have ZB := hideC zB
  have ZC := hideC zC
  have NA := hideC hnA
  have NB := hideC hnB
  have NC := hideC hnC
  have NAB := hideC hnAB
  have NALL := hideC hnALL
  have YA : Hid (A = [] ++ A) := rfl
  have YAB := hideC hAB
  have YAB0 : Hid (AB = [] ++ AB) := rfl
  have YALL := hideC hALL
  have RA : Hid (A.length ≤ 140737488355328) := by show A.length ≤ _; omega
  have RAB : Hid (AB.length ≤ 140737488355328) := by show AB.length ≤ _; omega
  have RALL : Hid (ALL.length ≤ 140737488355328) := by show ALL.length ≤ _; omega
  clear hA hB hC zA zB zC hnA hnB hnC hnAB hnALL hAB hALL bA bB bC bAB bALL lAB lALL m1 m2 m3 m4 m5 hxA hxB hxC hxAB hxBC hxALL SM hT
  go_enter Tryd.func4, Tryd.ntmps4
  go_wp2_with (first
    | (go_at_call 6; refine LV.out.mono ?_; rintro e W2 ⟨rfl, K2⟩; have P1 := hideC (ownB_empty W2); have Q1 := hideC (bytes_keptF OA.out (K2.out.trans (Kept.alloc W2 (.cells #[] 5)) (fun _ f => f.elim))))
    | (at_builtin; refine wpList_apn rfl _ _ rfl _ [] A A nA nA rfl aA cA rfl NA YA NA P1 Q1 ZA RA ?_; clear P1; intro a3 c3 W3 P2; have Q2 := hideC (bytes_keptF OB.out (K2.out.trans P2.out.kept (fun _ f => f.elim))))
    | (at_builtin; refine wpList_apn rfl _ _ rfl _ A B AB nB nAB rfl aB cB rfl NB YAB NAB P2 Q2 ZB RAB ?_; clear P2; intro a4 c4 W4 P3; have K4 := hideC (K2.out.trans P3.out.kept (fun _ f => f.elim)); have P4 := hideC (ownB_empty W4); obtain ⟨b4, d4, e4, Q4', Z4'⟩ := P3.out.at; simp only [Value.slice.injEq] at e4; obtain ⟨rfl, -, rfl⟩ := e4; have Q4 := hideC (bytes_keptF Q4' (Kept.alloc W4 (.cells #[] 5))); have Z4 := hideC Z4'; have QAB := hideC Q4'; clear Q4' Z4' P3)
    | (at_builtin; refine wpList_apn rfl _ _ rfl _ [] AB AB nAB nAB rfl _ _ rfl NAB YAB0 NAB P4 Q4 Z4 RAB ?_; clear P4; intro a5 c5 W5 P5; have Q5 := hideC (bytes_keptF OC.out (K4.out.trans P5.out.kept (fun _ f => f.elim))))
    | (at_builtin; refine wpList_apn rfl _ _ rfl _ AB C ALL nC nALL rfl aC cC rfl NC YALL NALL P5 Q5 ZC RALL ?_; clear P5; intro a6 c6 W6 P6; have K6 := hideC (K4.out.trans P6.out.kept (fun _ f => f.elim)); obtain ⟨b6, d6, e6, Q6', -⟩ := P6.out.at; simp only [Value.slice.injEq] at e6; obtain ⟨rfl, -, rfl⟩ := e6; have BA := hideC (bytes_keptF OA.out K6.out); have BB := hideC (bytes_keptF OB.out K6.out); have BC := hideC (bytes_keptF OC.out K6.out); have BAB := hideC (bytes_keptF QAB.out P6.out.kept); have BALL := hideC Q6'; clear Q6' P6)
    | (go_at_call 8; refine (SA.out _ _ _ K6 BA).mono ?_; clear SA; rintro e W' ⟨rfl, rfl⟩)
    | (go_at_call 8; refine (SB.out _ _ _ K6 BB).mono ?_; clear SB; rintro e W' ⟨rfl, rfl⟩)
    | (go_at_call 8; refine (SC.out _ _ _ K6 BC).mono ?_; clear SC; rintro e W' ⟨rfl, rfl⟩)
    | (go_at_call 8; refine (SAB.out _ _ _ K6 BAB).mono ?_; clear SAB; rintro e W' ⟨rfl, rfl⟩)
    | (go_at_call 11; refine (EX.out _ K6).mono ?_; clear EX; rintro e W' ⟨rfl, rfl⟩)
    | (go_at_call 13; refine (J1.out _).mono ?_; clear J1; rintro e W' ⟨rfl, rfl⟩)
    | (go_at_call 13; refine (J2.out _).mono ?_; clear J2; rintro e W' ⟨rfl, rfl⟩)
    | (go_at_call 13; refine (J3.out _).mono ?_; clear J3; rintro e W' ⟨rfl, rfl⟩)
    | (go_at_call 8; refine (SALL.out _ _ _ K6 BALL).mono ?_; clear SALL; rintro e W' ⟨rfl, rfl⟩)
    | (go_at_call 13; refine (J4.out _).mono ?_; clear J4; rintro e W' ⟨rfl, rfl⟩)
    | (go_at_call 8; refine (SALL2.out _ _ _ K6 BALL).mono ?_; clear SALL2; rintro e W' ⟨rfl, rfl⟩))
  go_ret
  exact ⟨rfl, K6.out⟩
end Go.Proofs.YtibkmeahihojaaaDoor
