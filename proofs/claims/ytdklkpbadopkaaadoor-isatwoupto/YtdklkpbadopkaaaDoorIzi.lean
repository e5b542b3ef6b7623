import Derived.Test.YtdklkpbadopkaaaDoorIzg
import Derived.Test.YtdklkpbadopkaaaDoorIzh
import Derived.Test.YtdklkpbadopkaaaDoorIzd
import Derived.Lib.ItoaLen
import Derived.Deep.RegionWith
namespace Go.Proofs.YtdklkpbadopkaaaDoor
open Go.ChangeShapes Go.WideShapes Go.ChangeAt Go.RowKit

/-- A number as a part of a line. -/
def nuB (n : Nat) : List UInt8 := 32 :: Lib.decDigits n
/-- A line of a word and numbers. -/
def lnB (wd : List UInt8) (l : List Nat) : List UInt8 := wd ++ (l.map nuB).flatten ++ [10]
theorem nDig_le {u : Nat} (hu : u < 18446744073709551616) : (Lib.decDigits u).length ≤ 20 := by
  rw [Lib.decDigits_length]
  exact Lib.nDigits_le20 u hu
theorem nuB_len {u : Nat} (hu : u < 18446744073709551616) : (nuB u).length ≤ 21 := by
  have := nDig_le hu
  simp [nuB]; omega
theorem nu_snoc {l : List Nat} {j : Nat} (h : j < l.length) : ((l.take (j + 1)).map nuB).flatten = ((l.take j).map nuB).flatten ++ nuB l[j] := by
  rw [List.take_succ_eq_append_getElem h, List.map_append, List.flatten_append]; simp
theorem nus_len : ∀ (l : List Nat), (∀ x ∈ l, x < 18446744073709551616) → (l.map nuB).flatten.length ≤ 21 * l.length
  | [], _ => by simp
  | x :: r, h => by
    have h1 := nuB_len (h x List.mem_cons_self)
    have h2 := nus_len r (fun y hy => h y (List.mem_cons_of_mem _ hy))
    simp only [List.map_cons, List.flatten_cons, List.length_append, List.length_cons]
    omega
/-- What the writer's calls keep: what is older than its block, and what is no row of bytes. -/
theorem BG.pw {w w1 : World} {b : Nat} (h : Kept (BG w b) w w1) (hb : 26 < b) (hP : Pw w) : Pw w1 := by
  unfold Pw Lib.TabIs World.var? at *
  rw [Tryd.gPw] at hP ⊢
  simp only [Option.bind_some] at hP ⊢
  cases hh : w.heap[26]? with
  | none => rw [hh] at hP; simp at hP
  | some o => rw [h.heap hh (fun f => by rcases f with e | ⟨e, _⟩ <;> omega)]; rw [hh] at hP; exact hP
set_option maxRecDepth 20000 in
set_option maxHeartbeats 4000000 in
theorem number_any {w : World} {b : Nat} {p v : Value} {l : List UInt8} (n : Nat) (hn : n < 18446744073709551616) (h : Bw w b p v l) (hl : l.length + 30 ≤ 140737488355328) (hP : Pw w) (hg : 26 < b) :
    Calls Tryd.prog 42 #[.pointer (some ⟨b, 0, none⟩), .int .u64 n] w fun e w' => e = .returned (.tuple #[]) ∧ ∃ p' v', Bw w' b p' v' (l ++ nuB n) ∧ Kept (BG w b) w w' := by
  have HB := hideI (wbyteI 32 32 rfl h (by omega))
  have HP := hideI hP
  have hdl := nDig_le hn
  have HN := hideI (show nuB n = 32 :: Lib.decDigits n from rfl)
  have HF := fun W (h : Pw W) => hideI (fmt_any n hn W h)
  obtain ⟨s, hs⟩ : ∃ s : ByteArray, s = ⟨(Lib.decDigits n).toArray⟩ := ⟨_, rfl⟩
  rw [← hs] at HF
  have HSz : Hid (s.size ≤ 20 ∧ s.data.toList = Lib.decDigits n) := hideI (by rw [hs]; exact ⟨by show (Lib.decDigits n).toArray.size ≤ 20; simpa using hdl, by simp⟩)
  clear h hP hdl hs
  go_enter Tryd.func42, Tryd.ntmps42
  go_wp2_with (go_at_call 43; refine HB.out.mono ?_; clear HB; rintro e W1 ⟨rfl, v1, hB1, K1⟩; have HB1 := hideI hB1; have HK1 := hideI K1; clear hB1 K1)
  have HP1 := hideI ((BG.pw HK1.out hg HP.out).kept (Kept.drew W1))
  have HB2 := hideI (HB1.out.later (Kept.drew W1))
  have HFd := HF W1.drew HP1.out
  have hll : (l ++ [32]).length = l.length + 1 := by simp
  go_region_with (first
    | (go_at_call 68; refine HFd.out.mono ?_; rintro e W2 ⟨rfl, K2⟩; have HB3 := hideI (HB2.out.later K2); have HK2 := hideI K2; clear K2)
    | (go_at_call 41; refine (wstrI s HB3.out (by have := HSz.out.1; omega)).mono ?_; rintro e W3 ⟨⟨r, rfl⟩, v3, hB4, K4⟩; have HB4 := hideI hB4; have HK4 := hideI K4; clear hB4 K4))
  go_wp2
  go_end0
  refine ⟨rfl, .pointer (some ⟨b, 0, none⟩), v3, ?_, ?_⟩
  · have := HB4.out
    rw [HSz.out.2] at this
    rw [HN.out]
    simpa using this
  · exact BG.trans (BG.trans (BG.trans HK1.out (BG.quiet b (Kept.drew W1))) (BG.quiet b HK2.out)) HK4.out
/-- Numbers that aren't below 0, as ints. -/
def nzI (ns : List Nat) : List Int := ns.map Int.ofNat
theorem nzI_at {ns : List Nat} {j : Nat} (h : j < ns.length) : (nzI ns)[j]?.getD 0 = (ns[j] : Int) := by
  simp [nzI, h]
set_option maxRecDepth 20000 in
set_option maxHeartbeats 4000000 in
theorem line_any {w : World} {b : Nat} {p v : Value} {l : List UInt8} (s : ByteArray) (ns : List Nat) (a : Option Addr) (c : Nat) (hI : IntsAt w a (nzI ns)) (hN : ∀ x ∈ ns, x ≤ 9223372036854775807) (hab : ns ≠ [] → ∀ q, a = some q → q.block < b) (h : Bw w b p v l) (hl : l.length + s.size + 21 * ns.length + 40 ≤ 140737488355328) (hP : Pw w) (hg : 26 < b) :
    Calls Tryd.prog 16 #[.pointer (some ⟨b, 0, none⟩), .string s, .slice a ns.length c] w fun e w' => e = .returned (.tuple #[]) ∧ ∃ p' v', Bw w' b p' v' (l ++ lnB s.data.toList ns) ∧ Kept (BG w b) w w' := by
  have HI := hideI hI
  have HNN := hideI hN
  have HAB := hideI hab
  have HP := hideI hP
  have HLN := hideI (show lnB s.data.toList ns = s.data.toList ++ (ns.map nuB).flatten ++ [10] from rfl)
  have HS := hideI (wstrI s h (by omega))
  have HLen : Hid (∀ j, ((l ++ s.data.toList) ++ ((ns.take j).map nuB).flatten).length + 35 ≤ 140737488355328) := hideI (fun j => by
    have h1 := nus_len (ns.take j) (fun x hx => by have := hN x (List.mem_of_mem_take hx); omega)
    have h2 : (ns.take j).length ≤ ns.length := by simp; omega
    have h3 : s.data.toList.length = s.size := Array.length_toList
    rw [List.length_append, List.length_append]
    omega)
  obtain ⟨nl, hnl⟩ : ∃ nl, nl = ns.length := ⟨_, rfl⟩
  have hnl2 : nl ≤ 140737488355328 := by omega
  clear hI hN hab hP h hl
  rw [← hnl]
  have HNL := hideI hnl
  clear hnl
  go_enter Tryd.func16, Tryd.ntmps16
  go_wp2_with (go_at_call 41; refine HS.out.mono ?_; clear HS; rintro e W1 ⟨⟨r, rfl⟩, v1, hB1, K1⟩; have HB1 := hideI hB1; have HK1 := hideI K1; clear hB1 K1)
  go_loopw [15] (fun v15 wr => ∃ (j : Nat) (pp vv : Value), j ≤ nl ∧ v15 = .int .i64 j ∧ Hid (Bw wr b pp vv ((l ++ s.data.toList) ++ ((ns.take j).map nuB).flatten)) ∧ Hid (Kept (BG w b) w wr)) (fun v15 _ => nl - (intOf v15).toNat)
  case atStart => exact ⟨0, _, v1, by omega, rfl, hideI (by simpa using HB1.out), HK1⟩
  case round =>
    obtain ⟨j, pp, vv, hj, rfl, HB, HK⟩ := hrel
    by_cases hlt : j < nl
    · have hji : (j : Int) < (nl : Int) := by omega
      have hjl : j < ns.length := by rw [← HNL.out]; exact hlt
      obtain ⟨fb, fo, ea, hc⟩ := HI.out.get (k := j) (by simpa [nzI] using hjl)
      rw [nzI_at hjl] at hc
      have hfb := HAB.out (by intro e; rw [e] at hjl; simp at hjl) _ ea
      simp only at hfb
      subst ea
      have hc := BG.below HK.out hc hfb
      have hle := HNN.out ns[j] (List.getElem_mem hjl)
      have HSN := hideI (nu_snoc hjl)
      have HL := hideI (HLen.out j)
      generalize ns[j] = u at *
      have hw : IntKind.u64.wrap (u : Int) = u := by rw [IntKind.wrap_u64]; omega
      have HNu := hideI (number_any u (by omega) HB.out (by have := HL.out; omega) (BG.pw HK.out hg HP.out) hg)
      clear hle
      go_wp2_with (go_at_call 42; refine HNu.out.mono ?_; clear HNu; rintro e W3 ⟨rfl, p3, v3, hB3, K3⟩; have HB3 := hideI hB3; have HK3 := hideI (BG.trans HK.out K3); clear hB3 K3)
      go_roundw
      case rel => exact ⟨j + 1, _, _, hlt, by go_num, hideI (by rw [HSN.out]; simpa [List.append_assoc] using HB3.out), HK3⟩
      case measure => simp [intOf]; omega
    · obtain rfl : j = nl := by omega
      have hT : ns.take j = ns := List.take_of_length_le (by rw [HNL.out]; exact Nat.le_refl _)
      have HL := hideI (HLen.out j)
      rw [hT] at HB HL
      have HWb := hideI (wbyteI 10 10 rfl HB.out (by have := HL.out; omega))
      go_wp2_with (go_at_call 43; refine HWb.out.mono ?_; clear HWb; rintro e W5 ⟨rfl, v5, hB5, K5⟩)
      go_end0
      refine ⟨rfl, .pointer (some ⟨b, 0, none⟩), v5, ?_, BG.trans HK.out K5⟩
      rw [HLN.out]
      simpa [List.append_assoc] using hB5
end Go.Proofs.YtdklkpbadopkaaaDoor
