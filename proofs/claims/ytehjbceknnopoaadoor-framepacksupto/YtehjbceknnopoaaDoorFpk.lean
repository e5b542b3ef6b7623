import Derived.Test.YtehjbceknnopoaaDoorRpk
namespace Go.Proofs.YtehjbceknnopoaaDoor
open Go.ChangeShapes Go.WideShapes Go.ChangeAt Go.RowKit

set_option maxRecDepth 20000 in
set_option maxHeartbeats 4000000 in
theorem packs_walk (kind : Nat) (S : List BkD) (a : Option Addr) (c : Nat) (w : World) (hk2 : kind < 256) (hS : BksAt w a S) (hA : ∀ o ∈ S, o.At w) (htot : btot S ≤ 1073741824) (hT : TabAt w) {a0 a1 a2 a3 a4 a5 a6 : Addr} (hE : Errs7 w a0 a1 a2 a3 a4 a5 a6) :
    Calls Tryd.prog 5 #[.int .u8 kind, .slice a S.length c] w fun e w' => e = .returned (.bool true) ∧ Kept (fun _ => False) w w' := by
  have LV : Hid (Calls Tryd.prog 9 #[] w fun e W => e = .returned (.bool true) ∧ Hid (Kept (fun _ => False) w W)) := (lives2_any w hT).mono fun e W q => ⟨q.1, q.2⟩
  have NT : Hid (∀ W, Hid (Kept (fun _ => False) w W) → Calls Tryd.prog 18 #[.iface 103 (.pointer (some a5))] W fun e W' => e = .returned (.int .i64 6) ∧ W' = W) := fun W q => num_tag (hE.kept q.out)
  have kn := fun W => run_convert_bytes_nil (P := Tryd.prog) W 22 5 Tryd.underlying22 Tryd.underlying5 0 0 9 Tryd.underlying9
  by_cases hbad : kind = 0 ∨ ∃ x ∈ S, x.t = 0
  · have PZ : Hid (∀ W, Hid (Kept (fun _ => False) w W) → Calls Tryd.prog 16 #[.int .u8 kind, .slice a S.length c] W fun e W' => e = .returned (.tuple #[.slice none 0 0, .iface 103 (.pointer (some a5))]) ∧ Hid (Kept (fun _ => False) w W')) := by
      intro W q
      by_cases hk0 : kind = 0
      · subst hk0
        exact (pack_zero _ W (hE.kept q.out)).mono fun e W' p => ⟨p.1, q.out.trans p.2 (fun _ f => f.elim)⟩
      · refine (pack_any kind S a c W (by omega) hk2 (hS.kept q.out) (fun x hx => (hA x hx).kept q.out) (hT.kept q.out) htot (hE.kept q.out)).mono ?_
        rintro e W' (⟨g, h0, -, -⟩ | ⟨-, rfl, k⟩)
        · obtain ⟨x, hx, hx0⟩ := hbad.resolve_left hk0
          have := h0 x hx
          omega
        · exact ⟨rfl, q.out.trans k (fun _ f => f.elim)⟩
    have RZ : Hid (∀ W, Hid (Kept (fun _ => False) w W) → Calls Tryd.prog 17 #[.int .u8 kind, .slice a S.length c] W fun e W' => e = .returned (.tuple #[.slice none 0 0, .int .i64 6]) ∧ Hid (Kept (fun _ => False) w W')) := by
      intro W q
      by_cases hk0 : kind = 0
      · subst hk0
        refine (rpack_zero _ W).mono ?_
        rintro e W' ⟨rfl, rfl⟩
        exact ⟨rfl, q⟩
      · refine (rpack_any kind S a c W (by omega) hk2 (hS.kept q.out) (fun x hx => (hA x hx).kept q.out) htot).mono ?_
        rintro e W' (⟨g, c', h0, -, -⟩ | ⟨-, rfl, k⟩)
        · obtain ⟨x, hx, hx0⟩ := hbad.resolve_left hk0
          have := h0 x hx
          omega
        · exact ⟨rfl, q.out.trans k (fun _ f => f.elim)⟩
    clear hS hA hT hE hbad
    generalize S.length = n at PZ RZ ⊢
    go_enter Tryd.func5, Tryd.ntmps5
    go_wp2_with (first | (go_at_call 9; refine LV.out.mono ?_; rintro e W2 ⟨rfl, K2⟩) | (go_at_call 16; refine (PZ.out W2 K2).mono ?_; rintro e W3 ⟨rfl, K3⟩) | (go_at_call 17; refine (RZ.out W3 K3).mono ?_; rintro e W4 ⟨rfl, K4⟩) | (go_at_call 18; refine (NT.out W4 K4).mono ?_; rintro e W5 ⟨rfl, e2⟩; subst e2))
    go_ret
    exact ⟨rfl, K4.out⟩
  · have hk : 0 < kind := by omega
    have hall : ∀ x ∈ S, 0 < x.t := fun x hx => by
      have h : ¬ ∃ x ∈ S, x.t = 0 := fun e => hbad (.inr e)
      have : x.t ≠ 0 := fun e => h ⟨x, hx, e⟩
      omega
    have PK : Hid (∀ W, Hid (Kept (fun _ => False) w W) → Calls Tryd.prog 16 #[.int .u8 kind, .slice a S.length c] W fun e W' => ∃ g, e = .returned (.tuple #[.slice (some ⟨g, 0, none⟩) (penc kind S).length (penc kind S).length, .nilIface]) ∧ Hid (BytesAt W' (some ⟨g, 0, none⟩) (penc kind S) ∧ Kept (fun _ => False) w W')) := by
      intro W q
      refine (pack_any kind S a c W hk hk2 (hS.kept q.out) (fun x hx => (hA x hx).kept q.out) (hT.kept q.out) htot (hE.kept q.out)).mono ?_
      rintro e W' (⟨g, -, rfl, _, h2, h3⟩ | ⟨⟨x, hx, h0⟩, -, -⟩)
      · exact ⟨g, rfl, (own_bytesF h2).1, q.out.trans h3 (fun _ f => f.elim)⟩
      · have := hall x hx
        omega
    have RP : Hid (∀ W g, Hid (BytesAt W (some ⟨g, 0, none⟩) (penc kind S) ∧ Kept (fun _ => False) w W) → Calls Tryd.prog 17 #[.int .u8 kind, .slice a S.length c] W fun e W' => ∃ a' c', e = .returned (.tuple #[.slice a' (penc kind S).length c', .int .i64 0]) ∧ ((convert 22 9 (.slice (some ⟨g, 0, none⟩) (penc kind S).length (penc kind S).length)).run Tryd.prog W' = .ok (.string (strOfNums (penc kind S))) W' ∧ (convert 22 9 (.slice a' (penc kind S).length c')).run Tryd.prog W' = .ok (.string (strOfNums (penc kind S))) W') ∧ Hid (Kept (fun _ => False) w W')) := by
      intro W g q
      refine (rpack_any kind S a c W hk hk2 (hS.kept q.out.2) (fun x hx => (hA x hx).kept q.out.2) htot).mono ?_
      rintro e W' (⟨a', c', -, rfl, ho⟩ | ⟨⟨x, hx, h0⟩, -, -⟩)
      · obtain ⟨a2, c2, e2, hb2, _⟩ := ho.at
        simp only [Value.slice.injEq] at e2
        obtain ⟨rfl, _, rfl⟩ := e2
        exact ⟨a', c', rfl, ⟨conv_atF (bytes_keptF q.out.1 ho.kept), conv_atF hb2⟩, q.out.2.trans ho.kept (fun _ f => f.elim)⟩
      · have := hall x hx
        omega
    have NN := hideC num_nil
    generalize (penc kind S).length = m at PK RP
    obtain ⟨st, hst⟩ : ∃ st, st = strOfNums (penc kind S) := ⟨_, rfl⟩
    rw [← hst] at RP
    clear hS hA hT hE hbad hall hst NT htot
    generalize S.length = n at PK RP ⊢
    go_enter Tryd.func5, Tryd.ntmps5
    go_wp2_with (first | (go_at_call 9; refine LV.out.mono ?_; rintro e W2 ⟨rfl, K2⟩) | (go_at_call 16; refine (PK.out W2 K2).mono ?_; rintro e W3 ⟨g, rfl, K3⟩) | (go_at_call 17; refine (RP.out W3 g K3).mono ?_; rintro e W4 ⟨a', c', rfl, ⟨x1, x2⟩, K4⟩) | (go_at_call 18; refine (NN.out _).mono ?_; rintro e W5 ⟨rfl, e2⟩; subst e2))
    go_ret
    exact ⟨by first | rfl | simp, K4.out⟩
end Go.Proofs.YtehjbceknnopoaaDoor
