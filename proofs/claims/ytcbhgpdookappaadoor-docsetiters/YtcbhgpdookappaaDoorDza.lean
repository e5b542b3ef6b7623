import Derived.Test.YtcbhgpdookappaaDoorDtz
import Derived.Test.YtcbhgpdookappaaDoorRows
import Derived.Handy
import Derived.OpenShut
import Derived.Lib.LaidTab
namespace Go.Proofs.YtcbhgpdookappaaDoor.Ds
open Go.ChangeShapes Go.WideShapes Go.ChangeAt Go.RowKit

theorem Tryd.cI1 : Tryd.prog.cellsOf 3 = 1 := by kernel_rfl
theorem Tryd.byI : Tryd.prog.bytesOf 3 = 8 := by kernel_rfl
/-- A slice of ints that came in. -/
theorem ints_inS {H : Type} {enc : TypeId × Value → H} {W : World} {fuel : Nat} {cs : List Value} {x : DataW H × List MemPlace} (hf : DataW.trod enc Tryd.prog W 0 (fun _ => true) true fuel 38 cs = some x) :
    ∃ (a : Option Addr) (c : Nat) (B : List Int), cs = [.slice a B.length c] ∧ IntsAt W a B ∧ IsInts B ∧ (x.1 = .nil ∧ B.length = 0 ∨ ∃ es sp, x.1 = .slice es sp ∧ es.length = B.length) := by
  rcases open_ints Tryd.underlying38 Tryd.underlying3 Tryd.cI1 hf with ⟨rfl, rfl⟩ | ⟨a, l, c, zs, rfl, _, hl, hm, hz, rfl, hcell, hwz⟩
  · exact ⟨none, 0, [], rfl, fun e => (e rfl).elim, fun y hy => (by cases hy), .inl ⟨rfl, rfl⟩⟩
  · simp only [if_true] at hz
    have hlen : (zs.take l).length = l := by rw [List.length_take]; omega
    refine ⟨some a, c, zs.take l, by rw [hlen], fun hne => ?_, fun y hy => ?_, .inr ⟨_, _, rfl, by simp [lits]⟩⟩
    · have hpos : 0 < zs.length := by
        have := List.length_pos_iff.2 hne
        omega
      obtain ⟨b, off, rfl, hc⟩ := ints_at hcell hpos
      refine ⟨b, off, rfl, fun k hk => ?_⟩
      have := hc k (by omega)
      rw [List.getElem?_take, if_pos (by omega)]
      simpa [List.getD] using this
    · have := bounds_i64 (hwz y (List.mem_of_mem_take hy))
      omega
theorem Tryd.gDb : Tryd.prog.globalNamed "math/bits.deBruijn64tab" = some 24 := by kernel_rfl
theorem Tryd.gDbT : (Tryd.prog.globals[24]?).map (·.type) = some 111 := by kernel_rfl
theorem Tryd.cDb : Tryd.prog.cellsOf 111 = 64 ∧ Tryd.prog.cellsOf 5 = 1 := by
  refine ⟨?_, ?_⟩ <;> kernel_rfl
theorem db_data {H : Type} : (Rows.laid_math_bits_deBruijn64tab : DataW H) = Lib.tabData .u8 (dbTab.map Int.ofNat) := rfl
/-- What the listed table gives. -/
theorem db_at {W : World} {L : List (String × DataW Unit)} (h : laidMet Tryd.prog L W) (hm : ("math/bits.deBruijn64tab", Rows.laid_math_bits_deBruijn64tab) ∈ L) : DbAt W := by
  obtain ⟨r, h⟩ := laidMet_mem h _ hm
  obtain ⟨ps, ⟨g', t', cs, fuel, p, q, hg', ht', hvar, hd, _, _⟩, _⟩ := h
  obtain rfl := Option.some.inj (Tryd.gDb.symm.trans hg')
  obtain rfl := Option.some.inj (Tryd.gDbT.symm.trans ht')
  obtain ⟨cT, cU⟩ := Tryd.cDb
  rw [db_data] at hd
  have c0 := Lib.cells_of_tab Tryd.underlying111 Tryd.underlying5 cU cT hd
  have hv : ∀ i, W.cell? ⟨24, i, none⟩ = cs.toList[i]? := fun i => by simpa using World.var?_cell Tryd.gDb hvar i
  intro k x hx
  rw [hv, c0, List.getElem?_map, List.getElem?_map, hx]
  rfl
/-- The law DocsetIters. -/
theorem iters_all (n : Int) (l P : List Int) (aL aP : Option Addr) (cL cP : Nat) (stop : Int) (ad : Nat → Addr) (w : World) (hE : Errs14 w ad) (hD : DbAt w) (hL : IntsAt w aL l) (hI : IsInts l) (hl : l.length ≤ 281474976710656) (hA : IntsAt w aP P) (hP : P.length ≤ 281474976710656) :
    Calls Tryd.prog 7 #[.int .i64 n, .slice aL l.length cL, .slice aP P.length cP, .int .i64 stop] w fun e w' => e = .returned (.bool true) ∧ Kept (fun _ => False) w w' := by
  by_cases hn : 0 ≤ n ∧ n ≤ 1048576
  · obtain ⟨m, rfl⟩ : ∃ m : Nat, n = m := ⟨n.toNat, by omega⟩
    have hm : m ≤ 1048576 := by omega
    by_cases hk : okL m l
    · refine iters_ok m hm l P aL aP cL l.length cP P.length rfl hP stop ad w hE hD hA (fun W k => ?_)
      refine (of_in m hm aL cL l.length l rfl W (hE.kept k) (IntsAt.keptS hL k) hI hl).mono ?_
      rintro e w' (⟨-, p, rb, h, hS, h1, h2, hK⟩ | ⟨h, -⟩)
      · exact ⟨p, rb, h, hS, h1, h2, hK⟩
      · exact absurd hk h
    · refine iters_err m aL aP cL l.length cP P.length stop ad w hE hD (fun W k => ?_)
      refine (of_in m hm aL cL l.length l rfl W (hE.kept k) (IntsAt.keptS hL k) hI hl).mono ?_
      rintro e w' (⟨h, -⟩ | ⟨-, h, hK⟩)
      · exact absurd h hk
      · exact ⟨h, hK⟩
  · exact iters_err n aL aP cL l.length cP P.length stop ad w hE hD (fun W k => of_out n hn _ W (hE.kept k))
end Go.Proofs.YtcbhgpdookappaaDoor.Ds
