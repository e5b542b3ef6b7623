import Derived.Test.YtccmhceehciggaaDoorLvs2
import Derived.Test.YtccmhceehciggaaDoorFnd2
import Derived.Laws.AppendOwnNone
namespace Go.Proofs.YtccmhceehciggaaDoor
open Go.ChangeShapes Go.WideShapes Go.ChangeAt Go.RowKit

theorem Tryd.infoS : (Tryd.prog.info? 9).map (fun i => (i.zero, i.size, i.bytes)) = some (some (.string ⟨#[]⟩), 1, 16) := by kernel_rfl
def strV (l : List ByteArray) : List Value := l.map Value.string
theorem strV_append (a b : List ByteArray) : strV (a ++ b) = strV a ++ strV b := List.map_append
theorem strV_one (l : List ByteArray) : ∀ u ∈ strV l, u.oneCell' = true := by
  intro u hu
  obtain ⟨x, _, rfl⟩ := List.mem_map.1 hu
  rfl
/-- The names gathered so far. -/
structure Gat (w0 w : World) (v : Value) (T : List ByteArray) : Prop where
  own : w.ownsRow w0.heap.size 9 1 v T.length (strV T)
  kept : Kept (fun _ => False) w0 w
theorem Gat.shape {w0 w : World} {v : Value} {T : List ByteArray} (h : Gat w0 w v T) : ∃ a c, v = .slice a T.length c := own_shape h.own
theorem Gat.later {w0 w w' : World} {v : Value} {T : List ByteArray} (h : Gat w0 w v T) (k : Kept (fun _ => False) w w') : Gat w0 w' v T :=
  ⟨k.row h.own (fun _ _ f => f), h.kept.trans k (fun _ f => f.elim)⟩
theorem Gat.cell {w0 w : World} {a : Option Addr} {c : Nat} {T : List ByteArray} (h : Gat w0 w (.slice a T.length c) T) {k : Nat} (hk : k < T.length) : ∃ g, a = some ⟨g, 0, none⟩ ∧ w.cell? ⟨g, k, none⟩ = some (.string T[k]) := by
  rcases h.own.2 with ⟨e, e2⟩ | ⟨g, cap, cur, e, _⟩
  · omega
  · have ea : a = some ⟨g, 0, none⟩ := by injection e
    subst ea
    refine ⟨g, rfl, ?_⟩
    have := h.own.cells (g := g) rfl k (.string T[k]) (by rw [strV, List.getElem?_map, List.getElem?_eq_getElem hk]; rfl)
    have hplain : (⟨g, 0, none⟩ : Addr).add k = ⟨g, k, none⟩ := by unfold Addr.add; split <;> simp_all
    rwa [hplain] at this
theorem one_newS (w : World) (x : Value) (t : TypeId) : ∀ (j : Nat) (u : Value), [x][j]? = some u → (w.alloc (.cells #[x] t)).cell? ((⟨w.heap.size, 0, none⟩ : Addr).add j) = some u := by
  intro j u hj
  match j, hj with
  | 0, hj => simp at hj; subst hj; simp [Addr.add]
theorem two_newS (w : World) (o : Obj) (x : Value) (t : TypeId) : ∀ (j : Nat) (u : Value), [x][j]? = some u → ((w.alloc o).alloc (.cells #[x] t)).cell? ((⟨w.heap.size + 1, 0, none⟩ : Addr).add j) = some u := by
  intro j u hj
  have := one_newS (w.alloc o) x t j u hj
  simpa using this
theorem alloc_size (w : World) (o : Obj) : (w.alloc o).heap.size = w.heap.size + 1 := by simp
def nmT (ss : List ByteArray) (F : List Fd) (k : Nat) : List ByteArray := ss ++ (F.take k).map (·.n)
theorem nmT_zero (ss : List ByteArray) (F : List Fd) : nmT ss F 0 = ss := by simp [nmT]
theorem nmT_len (ss : List ByteArray) (F : List Fd) {k : Nat} (h : k ≤ F.length) : (nmT ss F k).length = ss.length + k := by rw [nmT, List.length_append, List.length_map, List.length_take]; omega
theorem nmT_next (ss : List ByteArray) {F : List Fd} {k : Nat} (h : k < F.length) : nmT ss F (k + 1) = nmT ss F k ++ [F[k].n] := by rw [nmT, names_next h, List.map_append, nmT, List.append_assoc]; rfl
theorem nmT_all {ss : List ByteArray} {F : List Fd} (hs : ∀ s ∈ ss, s.size ≤ maxLen) (hO : ∀ f ∈ F, f.Ok) : ∀ s ∈ nmT ss F F.length, s.size ≤ maxLen := by
  intro s h
  rw [nmT, List.take_length, List.mem_append] at h
  rcases h with h | h
  · exact hs s h
  · obtain ⟨f, hf, rfl⟩ := List.mem_map.1 h
    exact (hO f hf).n
theorem Gat.added {w0 w w' : World} {v v' : Value} {T T' : List ByteArray} {x : ByteArray} {o1 o2 : Obj} (h : Gat w0 w v T) (hs : T' = T ++ [x])
    (ho : w'.ownsRow w0.heap.size 9 1 v' (T.length + 1) (strV T ++ [.string x])) (hg : ((w.alloc o1).alloc o2).grownBy w' v.ownBlock) : Gat w0 w' v' T' := by
  subst hs
  refine ⟨by rw [strV_append, List.length_append]; exact ho, ?_⟩
  exact (((h.kept.trans (Kept.alloc _ _) (fun _ f => f.elim)).trans (Kept.alloc _ _) (fun _ f => f.elim)).trans (Kept.grown hg) (fun i hi => .inr (h.own.lt i hi).1))
set_option maxRecDepth 20000 in
set_option maxHeartbeats 2000000 in
theorem finds_walk (F : List Fd) (a : Option Addr) (c : Nat) (ss : List ByteArray) (sa : Option Addr) (sc : Nat) (ad : Addr) (w : World) (hF : FsAt w a F) (hO : ∀ f ∈ F, f.Ok) (hFl : F.length ≤ 1048576)
    (hsl : ss.length ≤ 1048576) (hsa : sa = none → ss = [] ∧ sc = 0) (hsc : ∀ p, sa = some p → ∀ (j : Nat) (u : Value), (strV ss)[j]? = some u → w.cell? (p.add j) = some u) (hsm : ∀ s ∈ ss, s.size ≤ maxLen)
    (hW : Words w) (hE : w.cell? ⟨0, 0, none⟩ = some (.iface 91 (.pointer (some ad)))) :
    Calls Tryd.prog 4 #[.agg #[.slice a F.length c], .slice sa ss.length sc] w fun e w' => e = .returned (.bool true) ∧ Kept (fun _ => False) w w' := by
  obtain ⟨i0, hi, hz0, hz1, hz2⟩ := info_parts Tryd.infoS
  have KA := Kept.alloc w (.cells #[.slice a F.length c] 24)
  have HL := hideW (lives_any ad (w.alloc (.cells #[.slice a F.length c] 24)) (hW.kept KA) (KA.cell hE (fun f => f)))
  have HF := hideW hF
  have HO := hideW hO
  have HM := hideW hsm
  have HSC := hideW hsc
  have hbox : (w.alloc (.cells #[.slice a F.length c] 24)).cell? ⟨w.heap.size, 0, none⟩ = some (.slice a F.length c) := by simp
  have HB := hideW hbox
  clear hW hF hO hsm hsc hbox
  cases sa with
  | none =>
    obtain ⟨rfl, rfl⟩ := hsa rfl
    go_enter Tryd.func4, Tryd.ntmps4
    go_wp2_with (first
      | (go_at_call 7; refine HL.out.mono ?_; clear HL; rintro e W1 ⟨rfl, hk1⟩; have hB1 := hk1.cell HB.out (fun f => f); have hb1 := World.block_lt_of_cell? W1 _ hB1)
      | (at_builtin; refine wpList_append_own_none rfl _ _ 32 rfl (w.alloc (.cells #[.slice a F.length c] 24)).heap.size 9 i0 1 Tryd.underlying32 hi _ 0 [] rfl (World.ownsRow_made W1 #[] 0 hk1.size (by decide) rfl) rfl ?_))
    have HG : Hid (Gat (w.alloc (.cells #[.slice a F.length c] 24)) (W1.alloc (.cells #[] 9)) (.slice (some ⟨W1.heap.size, 0, none⟩) 0 0) []) := hideW ⟨World.ownsRow_made W1 #[] 0 hk1.size (by decide) rfl, hk1.trans (Kept.alloc _ _) (fun _ f => f.elim)⟩
    go_loopw [1, 23] (fun v i wr => ∃ (k : Nat), k ≤ F.length ∧ i = .int .i64 k ∧ Hid (Gat (w.alloc (.cells #[.slice a F.length c] 24)) wr v (nmT [] F k))) (fun _ i _ => F.length - (intOf i).toNat)
    case atStart => exact ⟨0, by omega, rfl, hideW (by rw [nmT_zero]; exact HG.out)⟩
    case round =>
      obtain ⟨k, hk, rfl, hG⟩ := hrel
      obtain ⟨ra, rc, rfl⟩ := hG.out.shape
      have HLN := hideW (nmT_len [] F hk)
      have hKw := hideW (KA.trans hG.out.kept (fun _ f => f.elim))
      by_cases hlt : k < F.length
      · obtain ⟨b, off, rfl, hc⟩ := HF.out (by intro e; rw [e] at hlt; simp at hlt)
        obtain ⟨x0, x1, x2, x3, x4⟩ := hc k hlt
        have hsn := nmT_next [] hlt
        obtain ⟨f, hf⟩ : ∃ f, f = F[k] := ⟨_, rfl⟩
        rw [← hf] at x0 x1 x2 x3 x4 hsn
        have y0 := hKw.out.cell x0 (fun f => f)
        have y1 := hKw.out.cell x1 (fun f => f)
        have y2 := hKw.out.cell x2 (fun f => f)
        have y3 := hKw.out.cell x3 (fun f => f)
        have y4 := hKw.out.cell x4 (fun f => f)
        have hi2 : ((k : Nat) : Int) < (F.length : Int) := by omega
        have SN := hideW hsn
        clear x0 x1 x2 x3 x4 hc hf hsn
        go_wp2_with (first
          | (at_builtin; refine wpList_append_own _ rfl _ _ 32 rfl (w.alloc (.cells #[.slice (some ⟨b, off, none⟩) F.length c] 24)).heap.size 9 i0 (.string ⟨#[]⟩) 1 16 Tryd.underlying32 hi hz0 hz1 hz2 rfl (by decide) _ _ _ rfl ((hG.out.own.alloc _).alloc _) ⟨wr.heap.size + 1, 0, none⟩ 1 1 [.string f.n] rfl ?nb0 ?nb1 ?nb2 ?nb3 ?nb4 ?nb5 ?_)
          | go_in)
        case nb0 => rfl
        case nb1 => exact two_newS _ _ _ _
        case nb2 => intro u hu; simp at hu; subst hu; rfl
        case nb3 => rw [HLN.out]; unfold maxLen; simp; omega
        case nb4 => rw [HLN.out]; simp; omega
        case nb5 => have h5 := hG.out.kept.size; rw [alloc_size] at h5; simp; omega
        intro v' W5 hown5 hgrow5 hnil5
        rw [← alloc_size w (.cells #[.slice (some ⟨b, off, none⟩) F.length c] 24)] at hown5
        have R1 := hideW (hG.out.added SN.out hown5 hgrow5)
        clear hown5 hgrow5 hnil5
        go_wp2
        go_roundw
        case rel => exact ⟨k + 1, by omega, by go_num, R1⟩
        case measure => simp [intOf]; omega
      · obtain rfl : k = F.length := by omega
        obtain ⟨W3, hW3⟩ : ∃ W3, W3 = wr := ⟨_, rfl⟩
        subst hW3
        have hTm : ∀ s ∈ nmT [] F F.length, s.size ≤ maxLen := nmT_all (by intro s hs; cases hs) HO.out
        have hTl : (nmT [] F F.length).length ≤ 2097152 := by rw [HLN.out]; simp; omega
        generalize nmT [] F F.length = T at hTm hTl hG HLN ⊢
        have HTM := hideW hTm
        have hBw := hG.out.kept.cell HB.out (fun f => f)
        clear hTm
        go_wp2
        go_loopw [35] (fun i wx => ∃ (k : Nat), k ≤ T.length ∧ i = .int .i64 k ∧ Hid (Kept (fun _ => False) W3 wx)) (fun i _ => T.length - (intOf i).toNat)
        case atStart => exact ⟨0, by omega, rfl, hideW (Kept.refl _ _)⟩
        case round =>
          obtain ⟨k, hk, rfl, hK⟩ := hrel
          have hKx := hideW (hKw.out.trans hK.out (fun _ f => f.elim))
          by_cases hlt : k < T.length
          · obtain ⟨g, rfl, hcl⟩ := hG.out.cell hlt
            have hsz := HTM.out _ (List.getElem_mem hlt)
            obtain ⟨nm, hnm⟩ : ∃ nm, nm = T[k] := ⟨_, rfl⟩
            rw [← hnm] at hcl hsz
            have hcx := hK.out.cell hcl (fun f => f)
            have hbx := hK.out.cell hBw (fun f => f)
            have hi3 : ((k : Nat) : Int) < (T.length : Int) := by omega
            clear hcl hnm
            go_wp2_with (first
              | (go_at_call 11; refine (find_any F nm a c _ (HF.out.kept hKx.out) HO.out (by omega) hsz).mono ?_; rintro e W6 ⟨rfl, hk6⟩; have hb6 := hk6.cell hbx (fun f => f))
              | (go_at_call 12; refine (rfind_any F nm a c _ ((HF.out.kept hKx.out).kept hk6) (by omega)).mono ?_; rintro e W7 ⟨rfl, hk7⟩))
            go_roundw
            case rel => exact ⟨k + 1, by omega, by go_num, hideW ((hK.out.trans hk6 (fun _ f => f.elim)).trans hk7 (fun _ f => f.elim))⟩
            case measure => simp [intOf]; omega
          · obtain rfl : k = T.length := by omega
            go_wp2
            go_ret
            exact ⟨rfl, hKx.out⟩
  | some p =>
    go_enter Tryd.func4, Tryd.ntmps4
    go_wp2_with (first
      | (go_at_call 7; refine HL.out.mono ?_; clear HL; rintro e W1 ⟨rfl, hk1⟩; have hB1 := hk1.cell HB.out (fun f => f); have hb1 := World.block_lt_of_cell? W1 _ hB1)
      | (at_builtin; refine wpList_append_own _ rfl _ _ 32 rfl (w.alloc (.cells #[.slice a F.length c] 24)).heap.size 9 i0 (.string ⟨#[]⟩) 1 16 Tryd.underlying32 hi hz0 hz1 hz2 rfl (by decide) _ _ _ rfl (World.ownsRow_made W1 #[] 0 hk1.size (by decide) rfl) p ss.length sc (strV ss) rfl ?a0 ?a1 ?a2 ?a3 ?a4 ?a5 ?_))
    case a0 => simp [strV]
    case a1 => intro j u hu; exact (Kept.alloc _ _).cell (hk1.cell (KA.cell (HSC.out p rfl j u hu) (fun f => f)) (fun f => f)) (fun f => f)
    case a2 => exact strV_one _
    case a3 => unfold maxLen; omega
    case a4 => omega
    case a5 => have h5 := hk1.size; rw [alloc_size] at h5; simp; omega
    intro v' W2 hown2 hgrow2 _
    have HG : Hid (Gat (w.alloc (.cells #[.slice a F.length c] 24)) W2 v' ss) := hideW ⟨by simpa using hown2, (hk1.trans (Kept.alloc _ _) (fun _ f => f.elim)).trans (Kept.grown hgrow2) (fun i hi => .inr (by have := hk1.size; simp only [Value.ownBlock, Option.some.injEq] at hi; omega))⟩
    clear hown2 hgrow2
    have hB2 := HG.out.kept.cell HB.out (fun f => f)
    go_wp2
    go_loopw [1, 23] (fun v i wr => ∃ (k : Nat), k ≤ F.length ∧ i = .int .i64 k ∧ Hid (Gat (w.alloc (.cells #[.slice a F.length c] 24)) wr v (nmT ss F k))) (fun _ i _ => F.length - (intOf i).toNat)
    case atStart => exact ⟨0, by omega, rfl, hideW (by rw [nmT_zero]; exact HG.out)⟩
    case round =>
      obtain ⟨k, hk, rfl, hG⟩ := hrel
      obtain ⟨ra, rc, rfl⟩ := hG.out.shape
      have HLN := hideW (nmT_len ss F hk)
      have hKw := hideW (KA.trans hG.out.kept (fun _ f => f.elim))
      by_cases hlt : k < F.length
      · obtain ⟨b, off, rfl, hc⟩ := HF.out (by intro e; rw [e] at hlt; simp at hlt)
        obtain ⟨x0, x1, x2, x3, x4⟩ := hc k hlt
        have hsn := nmT_next ss hlt
        obtain ⟨f, hf⟩ : ∃ f, f = F[k] := ⟨_, rfl⟩
        rw [← hf] at x0 x1 x2 x3 x4 hsn
        have y0 := hKw.out.cell x0 (fun f => f)
        have y1 := hKw.out.cell x1 (fun f => f)
        have y2 := hKw.out.cell x2 (fun f => f)
        have y3 := hKw.out.cell x3 (fun f => f)
        have y4 := hKw.out.cell x4 (fun f => f)
        have hi2 : ((k : Nat) : Int) < (F.length : Int) := by omega
        have SN := hideW hsn
        clear x0 x1 x2 x3 x4 hc hf hsn
        go_wp2_with (first
          | (at_builtin; refine wpList_append_own _ rfl _ _ 32 rfl (w.alloc (.cells #[.slice (some ⟨b, off, none⟩) F.length c] 24)).heap.size 9 i0 (.string ⟨#[]⟩) 1 16 Tryd.underlying32 hi hz0 hz1 hz2 rfl (by decide) _ _ _ rfl ((hG.out.own.alloc _).alloc _) ⟨wr.heap.size + 1, 0, none⟩ 1 1 [.string f.n] rfl ?sb0 ?sb1 ?sb2 ?sb3 ?sb4 ?sb5 ?_)
          | go_in)
        case sb0 => rfl
        case sb1 => exact two_newS _ _ _ _
        case sb2 => intro u hu; simp at hu; subst hu; rfl
        case sb3 => rw [HLN.out]; unfold maxLen; omega
        case sb4 => rw [HLN.out]; omega
        case sb5 => have h5 := hG.out.kept.size; rw [alloc_size] at h5; simp; omega
        intro v' W5 hown5 hgrow5 hnil5
        rw [← alloc_size w (.cells #[.slice (some ⟨b, off, none⟩) F.length c] 24)] at hown5
        have R1 := hideW (hG.out.added SN.out hown5 hgrow5)
        clear hown5 hgrow5 hnil5
        go_wp2
        go_roundw
        case rel => exact ⟨k + 1, by omega, by go_num, R1⟩
        case measure => simp [intOf]; omega
      · obtain rfl : k = F.length := by omega
        obtain ⟨W3, hW3⟩ : ∃ W3, W3 = wr := ⟨_, rfl⟩
        subst hW3
        have hTm : ∀ s ∈ nmT ss F F.length, s.size ≤ maxLen := nmT_all (by exact HM.out) HO.out
        have hTl : (nmT ss F F.length).length ≤ 2097152 := by rw [HLN.out]; omega
        generalize nmT ss F F.length = T at hTm hTl hG HLN ⊢
        have HTM := hideW hTm
        have hBw := hG.out.kept.cell HB.out (fun f => f)
        clear hTm
        go_wp2
        go_loopw [35] (fun i wx => ∃ (k : Nat), k ≤ T.length ∧ i = .int .i64 k ∧ Hid (Kept (fun _ => False) W3 wx)) (fun i _ => T.length - (intOf i).toNat)
        case atStart => exact ⟨0, by omega, rfl, hideW (Kept.refl _ _)⟩
        case round =>
          obtain ⟨k, hk, rfl, hK⟩ := hrel
          have hKx := hideW (hKw.out.trans hK.out (fun _ f => f.elim))
          by_cases hlt : k < T.length
          · obtain ⟨g, rfl, hcl⟩ := hG.out.cell hlt
            have hsz := HTM.out _ (List.getElem_mem hlt)
            obtain ⟨nm, hnm⟩ : ∃ nm, nm = T[k] := ⟨_, rfl⟩
            rw [← hnm] at hcl hsz
            have hcx := hK.out.cell hcl (fun f => f)
            have hbx := hK.out.cell hBw (fun f => f)
            have hi3 : ((k : Nat) : Int) < (T.length : Int) := by omega
            clear hcl hnm
            go_wp2_with (first
              | (go_at_call 11; refine (find_any F nm a c _ (HF.out.kept hKx.out) HO.out (by omega) hsz).mono ?_; rintro e W6 ⟨rfl, hk6⟩; have hb6 := hk6.cell hbx (fun f => f))
              | (go_at_call 12; refine (rfind_any F nm a c _ ((HF.out.kept hKx.out).kept hk6) (by omega)).mono ?_; rintro e W7 ⟨rfl, hk7⟩))
            go_roundw
            case rel => exact ⟨k + 1, by omega, by go_num, hideW ((hK.out.trans hk6 (fun _ f => f.elim)).trans hk7 (fun _ f => f.elim))⟩
            case measure => simp [intOf]; omega
          · obtain rfl : k = T.length := by omega
            go_wp2
            go_ret
            exact ⟨rfl, hKx.out⟩
end Go.Proofs.YtccmhceehciggaaDoor
