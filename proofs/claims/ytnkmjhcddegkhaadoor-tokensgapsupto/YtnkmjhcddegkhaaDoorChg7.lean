import Derived.Test.YtnkmjhcddegkhaaDoorChg6
namespace Go.Proofs.YtnkmjhcddegkhaaDoor
open Go.ChangeShapes Go.WideShapes Go.ChangeAt Go.RowKit

/-- What a chain leaves of a word. -/
def thr (TT : Nat → ByteArray) : List Nat → List UInt8 → Option (List UInt8)
  | [], l => some l
  | 0 :: K, l => thr TT K (fl 0 l)
  | 1 :: K, l => if isT TT (bq l) then none else thr TT K l
  | _ :: K, l => thr TT K (stem l)
def thrV : Option (List UInt8) → Value
  | some t => .tuple #[.string (bq t), .bool true]
  | none => .tuple #[.string ⟨#[]⟩, .bool false]
-- 229: the fuel as the walk shows it in the seat of TokensChain; another seat may show another.
theorem meth0 (w : World) : (method 229 60 (.agg #[]) "concord/tokens.take").run Tryd.prog w = .ok (100, .agg #[]) w := by kernel_rfl
theorem meth1 (w : World) : (method 229 61 (.agg #[]) "concord/tokens.take").run Tryd.prog w = .ok (101, .agg #[]) w := by kernel_rfl
theorem meth2 (w : World) : (method 229 62 (.agg #[]) "concord/tokens.take").run Tryd.prog w = .ok (102, .agg #[]) w := by kernel_rfl
theorem retv {a b : Value} (h : a = b) : Ending.returned a = .returned b := by rw [h]
set_option maxRecDepth 20000 in
set_option maxHeartbeats 4000000 in
theorem through_any (TT : Nat → ByteArray) (K : List Nat) (hK : ∀ x ∈ K, x < 3) (a : Option Addr) (n c : Nat) (l : List UInt8) (w0 w : World) (hn : n = K.length) (hn9 : n ≤ 3) (hl : l.length ≤ 281474976710000) (hG : Gro w0 w 72 1 (.slice a n c) n (K.map ck)) (hS : StopsT TT w) :
    Calls Tryd.prog 41 #[.slice a n c, .string (bq l)] w fun e w' => e = .returned (thrV (thr TT K l)) ∧ Kept (fun _ => False) w w' := by
  have HG := hideV hG
  have HS := hideV hS
  have HN := hideV hn
  have HK := hideV hK
  obtain ⟨Z, hZ⟩ : ∃ Z, Z = thr TT K l := ⟨_, rfl⟩
  rw [← hZ]
  have HZ := hideV hZ
  clear hG hS hn hK hZ
  go_enter Tryd.func41, Tryd.ntmps41
  go_wp2
  go_loopw [1, 12] (fun v i wr => ∃ (k : Nat) (m : List UInt8), k ≤ n ∧ i = .int .i64 k ∧ v = .string (bq m) ∧ Hid (Z = thr TT (K.drop k) m ∧ m.length ≤ 281474976710000) ∧ Hid (Kept (fun _ => False) w wr)) (fun _ i _ => n - (intOf i).toNat)
  case atStart => exact ⟨0, l, by omega, rfl, rfl, hideV ⟨HZ.out, hl⟩, Kept.refl _ _⟩
  case round =>
    obtain ⟨k, m, hk, rfl, rfl, HM, KK⟩ := hrel
    clear HZ
    by_cases hlt : k < n
    · have hlt2 : k < K.length := by rw [← HN.out]; exact hlt
      obtain ⟨g, rfl, _, hc⟩ := (HG.out.later KK.out).cell (by omega)
      have x0 := hc k (ck K[k]) (by rw [List.getElem?_map, List.getElem?_eq_getElem hlt2]; rfl)
      have hki : (k : Int) < (n : Int) := by omega
      have hx3 := HK.out _ (List.getElem_mem hlt2)
      have hd : K.drop k = K[k] :: K.drop (k + 1) := List.drop_eq_getElem_cons hlt2
      have HM2 := HM.out
      rw [hd] at HM2
      have CF := fun w => hideV (takeF_any m w HM2.2)
      have CM := fun w => hideV (takeM_any m w HM2.2)
      have CP := hideV (fun w h => takeP_any TT m w h)
      clear hc
      generalize K[k] = x at *
      have M0 := meth0
      have M1 := meth1
      have M2 := meth2
      match x, hx3 with
      | 0, _ =>
        have x1 : wr.cell? ⟨g, k, none⟩ = some (.iface 60 (.agg #[])) := x0
        have HQ : Hid (Z = thr TT (K.drop (k + 1)) (fl 0 m) ∧ (fl 0 m).length ≤ 281474976710000) := hideV ⟨HM2.1, by rw [fl_len]; exact HM2.2⟩
        clear x0 HM HM2 hd CM CP M1 M2 HG HS HN HK
        go_wp2_with (go_at_call 100; refine (CF _).out.mono ?_; clear CF; rintro e W ⟨rfl, K2⟩)
        go_roundw
        case rel => exact ⟨k + 1, fl 0 m, by omega, by go_num, rfl, HQ, KK.out.trans K2 (fun _ f => f.elim)⟩
        case measure => simp [intOf]; omega
      | 1, _ =>
        have x1 : wr.cell? ⟨g, k, none⟩ = some (.iface 61 (.agg #[])) := x0
        have CP2 := hideV (CP.out wr (HS.out.kept KK.out (fun f => f)))
        have HM3 : Hid (Z = (if isT TT (bq m) then none else thr TT (K.drop (k + 1)) m) ∧ m.length ≤ 281474976710000) := hideV HM2
        clear x0 HM HM2 hd CF CM CP M0 M2 HG HS HN HK
        cases hb : isT TT (bq m) with
        | true =>
          rw [hb] at CP2 HM3
          have e : Z = none := HM3.out.1
          subst e
          go_wp2_with (go_at_call 101; refine CP2.out.mono ?_; clear CP2; rintro e W ⟨rfl, K2⟩)
          go_ret2
          exact ⟨rfl, KK.out.trans K2 (fun _ f => f.elim)⟩
        | false =>
          rw [hb] at CP2 HM3
          have HQ : Hid (Z = thr TT (K.drop (k + 1)) m ∧ m.length ≤ 281474976710000) := HM3
          go_wp2_with (go_at_call 101; refine CP2.out.mono ?_; clear CP2; rintro e W ⟨rfl, K2⟩)
          go_roundw
          case rel => exact ⟨k + 1, m, by omega, by go_num, rfl, HQ, KK.out.trans K2 (fun _ f => f.elim)⟩
          case measure => simp [intOf]; omega
      | 2, _ =>
        have x1 : wr.cell? ⟨g, k, none⟩ = some (.iface 62 (.agg #[])) := x0
        have HQ : Hid (Z = thr TT (K.drop (k + 1)) (stem m) ∧ (stem m).length ≤ 281474976710000) := hideV ⟨HM2.1, Nat.le_trans (stem_le m) HM2.2⟩
        clear x0 HM HM2 hd CF CP M0 M1 HG HS HN HK
        go_wp2_with (go_at_call 102; refine (CM _).out.mono ?_; clear CM; rintro e W ⟨rfl, K2⟩)
        go_roundw
        case rel => exact ⟨k + 1, stem m, by omega, by go_num, rfl, HQ, KK.out.trans K2 (fun _ f => f.elim)⟩
        case measure => simp [intOf]; omega
    · obtain rfl : k = n := by omega
      have e : Z = some m := by
        have h := HM.out.1
        rwa [List.drop_of_length_le (by rw [HN.out]; exact Nat.le_refl _)] at h
      subst e
      clear HM HG HS HN HK
      go_wp2
      go_ret2
      exact ⟨rfl, KK.out⟩
end Go.Proofs.YtnkmjhcddegkhaaDoor
