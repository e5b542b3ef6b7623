import Derived.Test.YthbepejoffkdjaaDoorIxa
import Derived.Test.YthbepejoffkdjaaDoorIzx
namespace Go.Proofs.YthbepejoffkdjaaDoor
open Go.ChangeShapes Go.WideShapes Go.ChangeAt Go.RowKit

/-- string(b) of an owned row, nil or not. -/
theorem conv_any {w : World} {base n c : Nat} {a : Option Addr} {l : List Int} (h : w.ownsRow base 5 1 (.slice a n c) n (bs l)) :
    (convert 30 9 (.slice a n c)).run Tryd.prog w = .ok (.string (strOfNums l)) w := by
  rcases h.2 with ⟨e1, e2⟩ | ⟨g, cap, cur, e1, _⟩
  · have ea : a = none := by injection e1
    have el : l = [] := by
      have h1 := h.1
      rw [bs_length] at h1
      exact List.eq_nil_of_length_eq_zero (by omega)
    subst ea el
    exact run_convert_bytes_nil w 30 5 Tryd.underlying30 Tryd.underlying5 n c 9 Tryd.underlying9
  · have ea : a = some ⟨g, 0, none⟩ := by injection e1
    subst ea
    exact conv_own h
theorem conv_none (w : World) : (convert 30 9 (.slice none 0 0)).run Tryd.prog w = .ok (.string ByteArray.empty) w :=
  run_convert_bytes_nil w 30 5 Tryd.underlying30 Tryd.underlying5 0 0 9 Tryd.underlying9
/-- What the laws of layer 20 ask of the world. -/
structure Env21 (w : World) (ad : Nat → Addr) : Prop where
  e : Errs21 w ad
  t : OpT w
  p : Pw w
theorem Env21.kept {w w' : World} {ad : Nat → Addr} (h : Env21 w ad) (k : Kept (fun _ => False) w w') : Env21 w' ad := ⟨h.e.kept k, h.t.kept k, h.p.kept k⟩
theorem Env21.env {w : World} {ad : Nat → Addr} (h : Env21 w ad) : Env w (ad 0) (ad 1) (ad 20) := ⟨h.e.ew, h.t, h.p⟩
set_option maxRecDepth 20000 in
set_option maxHeartbeats 8000000 in
theorem encodes_all (l : List In) (a : Option Addr) (c : Nat) (ad : Nat → Addr) (w : World) (hL : InsAt w a l) (hO : ∀ x ∈ l, x.Ok) (hl : l.length ≤ 5864062014976) (hE : Env21 w ad) :
    Calls Tryd.prog 4 #[.slice a l.length c] w fun e w' => e = .returned (.bool true) ∧ Kept (fun _ => False) w w' := by
  have HLv := hideI (ilives_any _ _ _ w hE.env)
  have HE := hideI hE
  have HL := hideI hL
  have HA := fun W (k : Kept (fun _ => False) w W) => hideI (encode_any l a c (ad 20) W (hL.kept k (fun _ _ f => f)) hO (by omega) (hE.kept k).e.s20.var (hE.kept k).t)
  have HR := fun W (k : Kept (fun _ => False) w W) => hideI (rencode_any l a c W (hL.kept k (fun _ _ f => f)) hO (by omega))
  have HN0 := fun W => hideI (num_nil W)
  have HNC := fun W (h : Errs21 W ad) => hideI (num_code h)
  clear hE hL hO
  generalize l.length = nl at *
  by_cases hk : ∀ x ∈ l, okI x = true
  · have HK := hideI hk
    clear hk
    go_enter Tryd.func4, Tryd.ntmps4
    go_wp2_with (first
      | (go_at_call 7; refine HLv.out.mono ?_; clear HLv; rintro e W1 ⟨rfl, K1⟩; have HK1 := hideI K1; clear K1)
      | (go_at_call 12; refine (HA _ HK1.out).out.mono ?_; clear HA; rintro e W2 ⟨h2, -, K2⟩; obtain ⟨g, hg, h2e, ho2⟩ := h2 HK.out; subst h2e; have HO2 := hideI ho2; have HK2 := hideI (HK1.out.trans K2 (fun _ f => f.elim)); clear h2 K2 hg ho2)
      | (go_at_call 13; refine (HR _ HK2.out).out.mono ?_; clear HR; rintro e W3 ⟨h3, -, K3⟩; obtain ⟨a3, c3, h3e, hG3⟩ := h3 HK.out; subst h3e; have hc1 := conv_any (K3.row HO2.out (fun _ _ f => f)); have hc2 := conv_any hG3.own; have HK3 := hideI (HK2.out.trans K3 (fun _ f => f.elim)); clear h3 K3 hG3 HO2; generalize strOfNums (ibL l) = sx at *; generalize (ibL l).length = nx at *)
      | (go_at_call 14; refine (HN0 _).out.mono ?_; clear HN0; rintro e W4 ⟨rfl, rfl⟩))
    go_ret
    exact ⟨rfl, HK3.out⟩
  · have HK := hideI hk
    clear hk
    go_enter Tryd.func4, Tryd.ntmps4
    go_wp2_with (first
      | (go_at_call 7; refine HLv.out.mono ?_; clear HLv; rintro e W1 ⟨rfl, K1⟩; have HK1 := hideI K1; clear K1)
      | (go_at_call 12; refine (HA _ HK1.out).out.mono ?_; clear HA; rintro e W2 ⟨-, h2, K2⟩; have h2e := h2 HK.out; subst h2e; have HK2 := hideI (HK1.out.trans K2 (fun _ f => f.elim)); unfold errV; clear h2 K2)
      | (go_at_call 13; refine (HR _ HK2.out).out.mono ?_; clear HR; rintro e W3 ⟨-, h3, K3⟩; have h3e := h3 HK.out; subst h3e; have hc1 := conv_none W3; have HK3 := hideI (HK2.out.trans K3 (fun _ f => f.elim)); clear h3 K3)
      | (go_at_call 14; refine (HNC _ (HE.out.kept HK3.out).e).out.mono ?_; clear HNC; rintro e W4 ⟨rfl, rfl⟩))
    go_ret
    exact ⟨rfl, HK3.out⟩
end Go.Proofs.YthbepejoffkdjaaDoor
