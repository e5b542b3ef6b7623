import Derived.Test.YtacmmclamkhpcaaDoorAuq
namespace Go.Proofs.YtacmmclamkhpcaaDoor
open Go.ChangeShapes Go.WideShapes Go.ChangeAt Go.RowKit

set_option maxRecDepth 20000 in
set_option maxHeartbeats 4000000 in
theorem accepts_span (o i O I : Bool) (l L : List UInt8) (W : World) (S : List Int) (a : Option Addr) (c : Nat) (hS : NsAt W a S) (hI : IvS l L S) (hne : S ≠ []) :
    Calls Tryd.prog 73 #[.agg #[.bool o, .bool i, .string (bq l), .bool O, .bool I, .string (bq L)], .slice a S.length c] W fun e w' => e = .returned (.bool (acS l i S)) ∧ Kept (fun _ => False) W w' := by
  rcases hI with h | ⟨x, y, rfl, hx, hy⟩
  · exact absurd h hne
  · obtain ⟨bS, oS, rfl, hc⟩ := hS hne
    have KB := Kept.alloc W (.cells #[.bool o, .bool i, .string (bq l), .bool O, .bool I, .string (bq L)] 92)
    have y0 := KB.cell (hc 0 (by simp)) (fun f => f)
    simp only [List.getElem_cons_zero, Nat.add_zero] at y0
    have HKB := hideG KB
    have hz : (bq l).size = l.length := bq_size l
    have HQ : Hid (acS l i [x, y] = (x == -1 || (x == ((bq l).size : Int) && i))) := hideG (by unfold acS; rw [hz])
    rw [HQ.out]
    generalize bq l = t at *
    generalize bq L = T at *
    have z1 : (W.alloc (.cells #[.bool o, .bool i, .string t, .bool O, .bool I, .string T] 92)).cell? ⟨W.heap.size, 1, none⟩ = some (.bool i) := by simp
    have z2 : (W.alloc (.cells #[.bool o, .bool i, .string t, .bool O, .bool I, .string T] 92)).cell? ⟨W.heap.size, 2, none⟩ = some (.string t) := by simp
    clear KB hc hS HQ hz hx hy
    obtain ⟨R, hR⟩ : ∃ R, R = (x == -1 || (x == (t.size : Int) && i)) := ⟨_, rfl⟩
    rw [← hR]
    have HR := hideG hR
    clear hR
    cases h1 : (x == -1)
    · cases h2 : (x == (t.size : Int))
      · have eR : R = false := by rw [HR.out, h1, h2]; rfl
        subst eR
        go_enter Tryd.func73, Tryd.ntmps73
        go_wp2_with (go_quiet (fail))
        go_ret
        exact ⟨rfl, HKB.out.trans (Kept.drewA _ _) (fun _ f => f.elim)⟩
      · have eR : R = i := by rw [HR.out, h1, h2]; simp
        subst eR
        go_enter Tryd.func73, Tryd.ntmps73
        go_wp2_with (go_quiet (fail))
        go_ret
        exact ⟨rfl, HKB.out.trans (Kept.drewA _ _) (fun _ f => f.elim)⟩
    · have eR : R = true := by rw [HR.out, h1]; rfl
      subst eR
      go_enter Tryd.func73, Tryd.ntmps73
      go_wp2_with (go_quiet (fail))
      go_ret
      exact ⟨rfl, HKB.out.trans (Kept.drewA _ _) (fun _ f => f.elim)⟩
theorem mN_span (v : Value) (w : World) : (method 220 92 v "concord/auto.next").run Tryd.prog w = .ok (76, v) w := by kernel_rfl
theorem mA_span (v : Value) (w : World) : (method 220 92 v "concord/auto.accepts").run Tryd.prog w = .ok (73, v) w := by kernel_rfl
theorem knd_span (w0 : World) (o i O I : Bool) (l L : List UInt8) (hl : l.length ≤ 1099511627776) (hL : L.length ≤ 1099511627776) : Knd w0 92 (.agg #[.bool o, .bool i, .string (bq l), .bool O, .bool I, .string (bq L)]) 76 73 (nxS l L I) (acS l i) (IvS l L) :=
  ⟨fun w => mN_span _ w, fun w => mA_span _ w, enters_of Tryd.func76 (by kernel_rfl) rfl, enters_of Tryd.func73 (by kernel_rfl) rfl, fun S b _ hi hne => ivS_next hi hne, fun W S a c b _ _ hS hI hne hb => next_span o i O I l L W S a c b hl hL hS hI hne hb, fun W S a c _ _ hS hI hne => accepts_span o i O I l L W S a c hS hI hne⟩
/-! A pattern, as a kind. -/
def zn (S : List Int) : List Nat := S.map Int.toNat
theorem zn_nz (L : List Nat) : zn (nz L) = L := by unfold zn nz; rw [List.map_map]; exact (List.map_congr_left (fun x _ => Int.toNat_natCast x)).trans (List.map_id L)
def IvW (E : List Int) (S : List Int) : Prop := ∃ L : List Nat, S = nz L ∧ WSt E L
def nxWk (E : List Int) (S : List Int) (b : Nat) : List Int := nz (nxt E b (zn S))
def acW (E : List Int) (S : List Int) : Bool := decide ((zn S).getLast? = some E.length)
theorem knd_wild (w0 : World) (E : List Int) (ea : Option Addr) (ec : Nat) (p : ByteArray) (hE : NsAt w0 ea E) (hEl : E.length ≤ 137438953000) : Knd w0 77 (.agg #[.slice ea E.length ec, .string p]) 66 64 (nxWk E) (acW E) (IvW E) := by
  refine ⟨fun w => methN _ w, fun w => methA _ w, enters_of Tryd.func66 (by kernel_rfl) rfl, enters_of Tryd.func64 (by kernel_rfl) rfl, ?_, ?_, ?_⟩
  · rintro S b - ⟨L, rfl, hL⟩ -
    exact ⟨_, rfl, by rw [zn_nz]; exact wst_next b hL⟩
  · rintro W S a c b - k hS ⟨L, rfl, hL⟩ - hb
    have h := wnext_any E ea ec p W L a c b (hE.kept k) hS (by have := hL.len; omega) hL.a (by omega) hb
    rw [nz_len]
    refine h.mono ?_
    rintro e w' ⟨a', c', rfl, G⟩
    unfold nxWk
    rw [zn_nz]
    refine ⟨⟨a', c', by rw [nz_len], NsAt.of_gro G, ?_⟩, G.kept⟩
    rw [nz_len]
    rcases G.own.2 with ⟨e1, e2⟩ | ⟨g, cap, cur, e1, _, _, hn, _⟩
    · omega
    · injection e1 with _ _ e3
      omega
  · rintro W S a c - k hS ⟨L, rfl, hL⟩ hne
    rw [nz_len]
    unfold acW
    rw [zn_nz]
    exact waccepts_any E ea ec p W L a c hS (by intro e; subst e; exact hne rfl) (by have := hL.len; omega)
end Go.Proofs.YtacmmclamkhpcaaDoor
