import Derived.Test.YtedohkcoeebajaaDoorMrg9
import Derived.Test.YtedohkcoeebajaaDoorMrg8
import Derived.Test.YtedohkcoeebajaaDoorMrg7
namespace Go.Proofs.YtedohkcoeebajaaDoor
open Go.ChangeShapes Go.WideShapes Go.ChangeAt Go.RowKit

theorem LiAt.kept {w w' : World} {a : Option Addr} {L : List Il} (h : LiAt w a L) (k : Kept (fun _ => False) w w') : LiAt w' a L := by
  intro hne
  obtain ⟨b, off, e, hc⟩ := h hne
  exact ⟨b, off, e, fun j hj => ⟨k.cell (hc j hj).1 (fun f => f), (hc j hj).2.kept k⟩⟩
/-- How many numbers lists hold. -/
def ltot : List Il → Nat
  | [] => 0
  | x :: r => x.l.length + ltot r
theorem ltot_mem {x : Il} : ∀ {L : List Il}, x ∈ L → x.l.length ≤ ltot L
  | y :: r, h => by
    rw [ltot]
    rcases List.mem_cons.1 h with e | e
    · rw [e]; omega
    · have := ltot_mem e
      omega
theorem spk_tot (L : List Il) (O : List Int) : ∀ k, k ≤ L.length → (spk L O k).length + ltot (L.drop k) = ltot L
  | 0, _ => by simp [spk]
  | k + 1, h => by
    have ih := spk_tot L O k (by omega)
    have hk : k < L.length := by omega
    rw [List.drop_eq_getElem_cons hk, ltot] at ih
    rw [spk, List.getElem?_eq_getElem hk, List.length_append, spw, List.length_map]
    simp only
    omega
set_option maxRecDepth 20000 in
set_option maxHeartbeats 4000000 in
/-- The law CursorPhrase. -/
theorem phrase_walk (L : List Il) (O : List Int) (a oa : Option Addr) (c oc : Nat) (sl : Int) (ad : Nat → Addr) (W : World) (hL : LiAt W a L) (hO : IntsAt W oa O) (hll : L.length ≤ 1048576) (hol : O.length ≤ 1048576) (hlx : ∀ x ∈ L, x.l.length ≤ x.c) (htl : ltot L ≤ 1048576) (hE : ErQ W ad) :
    Calls Tryd.prog 3 #[.slice a L.length c, .slice oa O.length oc, .int .i64 sl] W fun e w' => e = .returned (.bool true) ∧ Kept (fun _ => False) W w' := by
  have CF := hideP (fixed_any ad W hE)
  have hx1 : ∀ x ∈ L, x.l.length ≤ 1048576 := fun x hx => Nat.le_trans (ltot_mem hx) htl
  have hk1 : ∀ k, k ≤ L.length → (spk L O k).length ≤ 1048576 := fun k hk => by have := spk_tot L O k hk; omega
  have CP : Hid (∀ V, Kept (fun _ => False) W V → Calls Tryd.prog 6 #[.slice a L.length c, .slice oa O.length oc, .int .i64 sl] V (ppPost L O sl V)) := hideP (fun V k => phraseFreq_any L O a oa c oc sl V (hL.kept k) (hO.kept k) hll hol hx1 (fun k hk => by have := hk1 k hk; omega))
  have CR : Hid (∀ V, Kept (fun _ => False) W V → Calls Tryd.prog 7 #[.slice a L.length c, .slice oa O.length oc, .int .i64 sl] V (rfPost L O sl V)) := hideP (fun V k => rphrase_any L O a oa c oc sl V (hL.kept k) (hO.kept k) hll (fun x hx => ⟨hx1 x hx, hlx x hx⟩) (fun k hk => by have := hk1 k hk; omega))
  clear hL hO hlx htl hE hx1 hk1
  generalize L.length = n at *
  generalize O.length = m at *
  go_enter Tryd.func3, Tryd.ntmps3
  go_wp2_with (go_at_call 5; refine StpQ.go ?_)
  refine ⟨?_⟩
  refine CF.out.mono ?_
  clear CF
  rintro e W1 ⟨rfl, k1⟩
  have CP1 := hideP (CP.out W1 k1)
  have HK1 := hideP k1
  clear CP k1
  go_wp2_with (go_at_call 6; refine StpQ.go ?_)
  refine ⟨?_⟩
  refine CP1.out.mono ?_
  clear CP1
  rintro e W2 ⟨x1, rfl, k2, hb1, hg1⟩
  have hk2 := HK1.out.trans k2 (fun _ f => f.elim)
  have CR2 := hideP (CR.out W2 hk2)
  have HB1 := hideP hb1
  have HG1 := hideP hg1
  have HK2 := hideP hk2
  clear CR k2 hk2 hb1 hg1 HK1
  go_wp2_with (go_at_call 7; refine StpQ.go ?_)
  refine ⟨?_⟩
  refine CR2.out.mono ?_
  clear CR2
  rintro e W3 ⟨x2, rfl, k3, hb2, hg2⟩
  have hk3 := HK2.out.trans k3 (fun _ f => f.elim)
  have e12 : x1 = x2 := by
    by_cases hg : gdp L O sl
    · obtain ⟨A, hA, e2⟩ := hg2 hg
      rw [HG1.out hg A hA, e2]
    · rw [HB1.out hg, hb2 hg]
  subst e12
  have HK3 := hideP hk3
  have z1 : ((x1 : Int) == (x1 : Int)) = true := by simp
  clear k3 hk3 hb2 hg2 HB1 HG1 HK2
  go_wp2
  go_ret
  exact ⟨rfl, HK3.out⟩
end Go.Proofs.YtedohkcoeebajaaDoor
