import Derived.Test.YtakjaablankipaaDoorMrg1
import Derived.Test.YtakjaablankipaaDoorLxi
namespace Go.Proofs.YtakjaablankipaaDoor
open Go.ChangeShapes Go.WideShapes Go.ChangeAt Go.RowKit

/-- Signs in a row of their own. -/
structure SgB (w : World) (b : Nat) (G : List Sg) : Prop where
  l : SgL w b 0 G
  h : ∃ cs fz, w.heap[b]? = some (.cells cs 47 fz)
theorem SgB.later {w w' : World} {b : Nat} {G : List Sg} (h : SgB w b G) (k : Kept (fun _ => False) w w') : SgB w' b G := by
  obtain ⟨cs, fz, hb⟩ := h.h
  exact ⟨h.l.later k, cs, fz, k.heap hb (fun f => f)⟩
theorem SgB.other {w w' : World} {b : Nat} {G : List Sg} {e : TypeId} (h : SgB w b G) (k : KT e w w') (he : 47 ≠ e) : SgB w' b G := by
  obtain ⟨cs, fz, hb⟩ := h.h
  have hb' := k.heap hb he
  refine ⟨fun j y ey => ?_, cs, fz, hb'⟩
  have q : ∀ a : Addr, a.block = b → w'.cell? a = w.cell? a := fun a ha => World.cell?_of_block (by rw [ha, hb', hb])
  obtain ⟨h0, h1, h2, h3⟩ := h.l j y ey
  exact ⟨by rw [q _ rfl]; exact h0, by rw [q _ rfl]; exact h1, by rw [q _ rfl]; exact h2, by rw [q _ rfl]; exact h3⟩
/-- What quoted answers. -/
def quPost (w : World) (l : List UInt8) (G : List Sg) (p : Nat) (x : Ending) (w' : World) : Prop :=
  ((qMo [] (l.drop p) = none ∧ x = .returned (.tuple #[.string ⟨#[]⟩, .int .i64 (-1)])) ∨ (∃ (t : List UInt8) (m j : Nat), qMo [] (l.drop p) = some (t, m) ∧ x = .returned (.tuple #[.string (bq t), .int .i64 ((j : Int) + 1)]) ∧ SP l G (j + 1) (p + m))) ∧ Kept (fun _ => False) w w'
theorem map_zero (o : Option (List UInt8 × Nat)) : o.map (fun x => (x.1, x.2 + 0)) = o := by cases o <;> rfl
theorem map_two (o : Option (List UInt8 × Nat)) (i j : Nat) : (o.map (fun x => (x.1, x.2 + i))).map (fun x => (x.1, x.2 + j)) = o.map (fun x => (x.1, x.2 + (i + j))) := by
  cases o with
  | none => rfl
  | some y => show some (y.1, y.2 + i + j) = some (y.1, y.2 + (i + j)); rw [Nat.add_assoc]
theorem spl_at {G : List Sg} {i : Nat} {x : Sg} (h : G[i]? = some x) (c : UInt8) : spl G i c = (!x.l && x.c == c) := by unfold spl; rw [h]
set_option maxRecDepth 20000 in
set_option maxHeartbeats 4000000 in
theorem quoted13_any (l : List UInt8) (G : List Sg) (b n cp i p : Nat) (w : World) (hn : n = G.length) (hnb : n ≤ 400000000000) (hG : SgB w b G) (hS : SP l G i p) (hi : i ≤ n) :
    Calls Tryd.prog 32 #[.slice (some ⟨b, 0, none⟩) n cp, .int .i64 (i : Int)] w (quPost w l G p) := by
  obtain ⟨Z, hZ⟩ : ∃ Z, Z = qMo [] (l.drop p) := ⟨_, rfl⟩
  have HN := hideL hn
  have HB0 := hideL (gb_empty w)
  have CP := hideL (fun (k : Nat) (c : UInt8) (W : World) (h : SgB W b G) => plain13_any G b n cp k c W hn h.l)
  have HG0 := hideL (hG.later (Kept.alloc w (.cells #[] 5)))
  have HS0 := hideL hS
  have HZ0 : Hid (Z = (qMo [] (l.drop p)).map (fun x => (x.1, x.2 + (p - p)))) := hideL (by rw [Nat.sub_self, map_zero]; exact hZ)
  unfold quPost
  rw [← hZ]
  clear hG hn hS hZ
  go_enter Tryd.func32, Tryd.ntmps32
  go_wp2
  go_loopw [1, 6] (fun iv bv wr => ∃ (k m p' : Nat) (a : Option Addr) (c : Nat) (o : List UInt8), iv = .int .i64 k ∧ bv = .slice a m c ∧ k ≤ n ∧ m ≤ k ∧ p ≤ p' ∧ Hid (Gb w wr a c m o) ∧ Hid (SgB wr b G) ∧ Hid (SP l G k p') ∧ Hid (Z = (qMo o (l.drop p')).map (fun x => (x.1, x.2 + (p' - p))))) (fun iv _ _ => n - (intOf iv).toNat)
  case atStart => exact ⟨i, 0, p, _, _, [], rfl, rfl, hi, by omega, Nat.le_refl _, HB0, HG0, HS0, HZ0⟩
  case round =>
    obtain ⟨k, m, p', a, c0, o, rfl, rfl, hk, hm, hpp, HB, HGr, HSp, HZ⟩ := hrel
    clear HB0 HG0 HS0 HZ0
    have HK := hideL HB.out.gro.kept
    rcases sp_cases HSp.out with ⟨h1, h2⟩ | ⟨x, q, hkG, hx, hq, hSn, hh⟩
    · have hkn : k = n := by have := HN.out; omega
      subst hkn
      have hkz : ¬ (k : Int) < (k : Int) := by omega
      obtain rfl : Z = none := by rw [HZ.out, List.drop_of_length_le (by omega), qM_nil]; rfl
      clear CP HZ HSp HB
      go_wp2
      go_ret2
      first | exact ⟨.inl ⟨rfl, rfl⟩, HK.out⟩ | exact ⟨rfl, HK.out⟩ | exact ⟨.inl rfl, HK.out⟩
    · have hkn : k < n := by have := HN.out; omega
      have hkz : (k : Int) < (n : Int) := by omega
      have C34 := hideL (CP.out k 34 wr HGr.out)
      have C92 := hideL (CP.out k 92 wr HGr.out)
      rw [spl_at hx] at C34 C92
      obtain ⟨x0, -, -, -⟩ := HGr.out.l k x hx
      rw [Nat.zero_add] at x0
      have HSn := hideL hSn
      have push : ∀ (ch : UInt8) (st : Nat), True := fun _ _ => trivial
      clear CP push hx
      have HZ2 := HZ.out
      rcases hh with ⟨d, s, hd, rfl, rfl⟩ | ⟨hd, rfl, rfl⟩ | ⟨ch, s, hd, h92, rfl, rfl⟩
      · have HZn : Hid (Z = (qMo (o ++ [d]) (l.drop (p' + 2))).map (fun x => (x.1, x.2 + (p' + 2 - p)))) := hideL (by
          rw [HZ2, hd, qM_esc, map_two, ← (drop_next (drop_next hd).2).2, show 2 + (p' - p) = p' + 2 - p by omega])
        have E34 : (!true && d == 34) = false := rfl
        have E92 : (!true && d == 92) = false := rfl
        dsimp only at C34 C92 x0
        rw [E34] at C34
        rw [E92] at C92
        have HQ0 : Hid ((d.toNat : Int) = (d.toNat : Int)) := hideL rfl
        have hdb : d.toNat < 256 := d.toNat_lt
        generalize hq0 : d.toNat = q at x0 hdb
        rw [hq0] at HQ0
        have HQ1 : Hid ((q : Int) = (d.toNat : Int)) := hideL (by rw [hq0])
        clear HQ0 hq0 HZ HZ2 hd E34 E92 HK
        go_wp2_with (first
          | (go_at_call 36; refine C34.out.mono ?_; clear C34; rintro e w6 ⟨rfl, e6⟩; subst e6)
          | (go_at_call 36; refine C92.out.mono ?_; clear C92; rintro e w7 ⟨rfl, e7⟩; subst e7)
          | (at_builtin; refine wpList_pushC rfl _ _ rfl _ _ m _ d _ rfl HB _ (by first | rfl | simp) rfl HQ1 (by omega) ?_; intro a4 c4 W4 G4 K4; have HG4 := hideL (HGr.out.other K4.out (by decide)); clear HB K4))
        go_roundw
        case rel => exact ⟨k + 1, m + 1, p' + 2, a4, c4, _, by go_num, rfl, by omega, by omega, by omega, G4, HG4, HSn, HZn⟩
        case measure => simp [intOf] <;> omega
      · obtain rfl : Z = none := by rw [HZ2, hd, qM_lone]; rfl
        have E34 : (!false && (92 : UInt8) == 34) = false := by decide
        have E92 : (!false && (92 : UInt8) == 92) = true := by decide
        dsimp only at C34 C92 x0
        rw [E34] at C34
        rw [E92] at C92
        clear HZ HZ2 hd E34 E92 HB HGr HSn HSp x0
        go_wp2_with (first
          | (go_at_call 36; refine C34.out.mono ?_; clear C34; rintro e w6 ⟨rfl, e6⟩; subst e6)
          | (go_at_call 36; refine C92.out.mono ?_; clear C92; rintro e w7 ⟨rfl, e7⟩; subst e7))
        go_ret2
        first | exact ⟨.inl ⟨rfl, rfl⟩, HK.out⟩ | exact ⟨rfl, HK.out⟩ | exact ⟨.inl rfl, HK.out⟩
      · by_cases h34 : ch = 34
        · subst h34
          have HZn : Hid (Z = some (o, p' + 1 - p)) := hideL (by rw [HZ2, hd, qM_end]; show some (o, 1 + (p' - p)) = _; rw [show 1 + (p' - p) = p' + 1 - p by omega])
          have E34 : (!false && (34 : UInt8) == 34) = true := by decide
          dsimp only at C34 C92 x0
          rw [E34] at C34
          have hb2 : (convert 37 9 (.slice a m c0)).run Tryd.prog wr = .ok (.string (bq o)) wr := gro_string HB.out.gro HB.out.len
          have HSn2 : Hid (SP l G (k + 1) (p + (p' + 1 - p))) := hideL (by rw [show p + (p' + 1 - p) = p' + 1 by omega]; exact HSn.out)
          clear HZ HZ2 hd E34 HB HGr HSn HSp x0 C92 h92
          go_wp2_with (go_at_call 36; refine C34.out.mono ?_; clear C34; rintro e w6 ⟨rfl, e6⟩; subst e6)
          go_ret2
          exact ⟨.inr ⟨o, p' + 1 - p, k, HZn.out, by first | rfl | (congr 3), HSn2.out⟩, HK.out⟩
        · have HZn : Hid (Z = (qMo (o ++ [ch]) (l.drop (p' + 1))).map (fun x => (x.1, x.2 + (p' + 1 - p)))) := hideL (by
            rw [HZ2, hd, qM_oth _ _ _ h34 h92, map_two, ← (drop_next hd).2, show 1 + (p' - p) = p' + 1 - p by omega])
          have E34 : (!false && ch == 34) = false := by simp [h34]
          have E92 : (!false && ch == 92) = false := by simp [h92]
          dsimp only at C34 C92 x0
          rw [E34] at C34
          rw [E92] at C92
          have hdb : ch.toNat < 256 := ch.toNat_lt
          generalize hq0 : ch.toNat = q at x0 hdb
          have HQ1 : Hid ((q : Int) = (ch.toNat : Int)) := hideL (by rw [hq0])
          clear hq0 HZ HZ2 hd E34 E92 HK h34 h92
          go_wp2_with (first
            | (go_at_call 36; refine C34.out.mono ?_; clear C34; rintro e w6 ⟨rfl, e6⟩; subst e6)
            | (go_at_call 36; refine C92.out.mono ?_; clear C92; rintro e w7 ⟨rfl, e7⟩; subst e7)
            | (at_builtin; refine wpList_pushC rfl _ _ rfl _ _ m _ ch _ rfl HB _ (by first | rfl | simp) rfl HQ1 (by omega) ?_; intro a4 c4 W4 G4 K4; have HG4 := hideL (HGr.out.other K4.out (by decide)); clear HB K4))
          go_roundw
          case rel => exact ⟨k + 1, m + 1, p' + 1, a4, c4, _, by go_num, rfl, by omega, by omega, by omega, G4, HG4, HSn, HZn⟩
          case measure => simp [intOf] <;> omega
end Go.Proofs.YtakjaablankipaaDoor
