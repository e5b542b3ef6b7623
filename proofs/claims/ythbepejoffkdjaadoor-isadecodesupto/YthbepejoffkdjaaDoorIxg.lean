import Derived.Test.YthbepejoffkdjaaDoorIxf
namespace Go.Proofs.YthbepejoffkdjaaDoor
open Go.ChangeShapes Go.WideShapes Go.ChangeAt Go.RowKit

set_option maxRecDepth 20000 in
set_option maxHeartbeats 8000000 in
theorem decodes_all (l : List Int) (a : Option Addr) (c : Nat) (ad : Nat → Addr) (w : World) (hL : BytesAt w a l) (hB : IsBytes l) (hl : l.length ≤ 1073741824) (hE : Env21 w ad) :
    Calls Tryd.prog 5 #[.slice a l.length c] w fun e w' => e = .returned (.bool true) ∧ Kept (fun _ => False) w w' := by
  have HLv := hideI (ilives_any _ _ _ w hE.env)
  have HE := hideI hE
  have HA := fun W (k : Kept (fun _ => False) w W) => hideI (decode_any l a c (ad 0) (ad 1) (ad 20) W (hL.keptI k) hB (by omega) (hE.kept k).e.ew (hE.kept k).t)
  have HR := fun W (k : Kept (fun _ => False) w W) => hideI (rdecode_any l a c W (hL.keptI k) hB (by omega))
  have HN0 := fun W => hideI (num_nil W)
  have HNC := fun W (h : Errs21 W ad) => hideI (num_code h)
  cases hd : dcI l with
  | none =>
    rw [hd] at HA HR
    clear hE hL hB hd
    generalize l.length = nl at *
    go_enter Tryd.func5, Tryd.ntmps5
    go_wp2_with (first
      | (go_at_call 7; refine HLv.out.mono ?_; clear HLv; rintro e W1 ⟨rfl, K1⟩; have HK1 := hideI K1; clear K1)
      | (go_at_call 15; refine (HA _ HK1.out).out.mono ?_; clear HA; rintro e W2 ⟨h2, -, K2⟩; have h2e := h2 rfl; subst h2e; have HK2 := hideI (HK1.out.trans K2 (fun _ f => f.elim)); unfold errV; clear h2 K2)
      | (go_at_call 16; refine (HR _ HK2.out).out.mono ?_; clear HR; rintro e W3 ⟨h3, -, K3⟩; have h3e := h3 rfl; subst h3e; have HK3 := hideI (HK2.out.trans K3 (fun _ f => f.elim)); have HS := hideI (sameCode_true [] none none 0 0 W3 (fun h => absurd rfl h) (fun h => absurd rfl h) (by simp)); clear h3 K3)
      | (go_at_call 17; refine HS.out.mono ?_; clear HS; rintro e W4 ⟨rfl, K4⟩; have HK4 := hideI (HK3.out.trans K4 (fun _ f => f.elim)); clear K4)
      | (go_at_call 14; refine (HNC _ (HE.out.kept HK4.out).e).out.mono ?_; clear HNC; rintro e W5 ⟨rfl, rfl⟩))
    go_ret
    exact ⟨rfl, HK4.out⟩
  | some m =>
    rw [hd] at HA HR
    have hml : m.length ≤ 1073741824 := by
      have h1 := dcI_count m
      rw [(dcI_form _ l m (Nat.le_refl _) hB hd).1] at h1
      omega
    have HML := hideI hml
    clear hE hL hB hd hml
    generalize l.length = nl at *
    go_enter Tryd.func5, Tryd.ntmps5
    go_wp2_with (first
      | (go_at_call 7; refine HLv.out.mono ?_; clear HLv; rintro e W1 ⟨rfl, K1⟩; have HK1 := hideI K1; clear K1)
      | (go_at_call 15; refine (HA _ HK1.out).out.mono ?_; clear HA; rintro e W2 ⟨-, h2, K2⟩; obtain ⟨a2, c2, h2e, ho2⟩ := h2 m rfl; subst h2e; have HI2 := hideI (ins_of_own ho2); have HK2 := hideI (HK1.out.trans K2 (fun _ f => f.elim)); clear h2 K2 ho2)
      | (go_at_call 16; refine (HR _ HK2.out).out.mono ?_; clear HR; rintro e W3 ⟨-, h3, K3⟩; obtain ⟨a3, c3, h3e, ho3⟩ := h3 m rfl; subst h3e; have HK3 := hideI (HK2.out.trans K3 (fun _ f => f.elim)); have HS := hideI (sameCode_true m a2 a3 c2 c3 W3 (HI2.out.kept K3 (fun _ _ f => f)) (ins_of_own ho3) (by have := HML.out; omega)); clear h3 K3 ho3)
      | (go_at_call 17; refine HS.out.mono ?_; clear HS; rintro e W4 ⟨rfl, K4⟩; have HK4 := hideI (HK3.out.trans K4 (fun _ f => f.elim)); clear K4)
      | (go_at_call 14; refine (HN0 _).out.mono ?_; clear HN0; rintro e W5 ⟨rfl, rfl⟩))
    go_ret
    exact ⟨rfl, HK4.out⟩
end Go.Proofs.YthbepejoffkdjaaDoor
