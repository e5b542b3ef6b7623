import Derived.Test.YtacmmclamkhpcaaDoorAub
namespace Go.Proofs.YtacmmclamkhpcaaDoor
open Go.ChangeShapes Go.WideShapes Go.ChangeAt Go.RowKit

theorem wstart_any (E : List Int) (ea : Option Addr) (ec : Nat) (p : ByteArray) (w : World) (hE : NsAt w ea E) (hEl : E.length ≤ 1099511627000) :
    Calls Tryd.prog 67 #[.agg #[.slice ea E.length ec, .string p]] w fun e w' => GroN w w' (rch E [] 0) e := by
  have KB := Kept.alloc w (.cells #[.slice ea E.length ec, .string p] 77)
  have CR := hideG (reached_any E ea ec p _ _ [] none 0 0 0 (hE.kept KB) (gro_nil (w.alloc (.cells #[.slice ea E.length ec, .string p] 77)) _ 1) rfl (by omega) (by omega) hEl)
  have HKB := hideG KB
  clear KB hE
  go_enter Tryd.func67, Tryd.ntmps67
  go_wp2_with (go_at_call 68; refine CR.out.mono ?_; clear CR; rintro e W ⟨a, c, rfl, G⟩)
  go_ret
  exact ⟨a, c, rfl, G.baseA HKB.out⟩
/-- One number's part in the next state; the next state. -/
def nxW (E : List Int) (b : Nat) (L : List Nat) (i : Nat) : List Nat :=
  let L1 := if 0 < i ∧ E[i - 1]? = some 257 then rch E L i else L
  if E[i]? = some 256 ∨ E[i]? = some (b : Int) then rch E L1 (i + 1) else L1
def nxt (E : List Int) (b : Nat) (S : List Nat) : List Nat := S.foldl (nxW E b) []
theorem nxW_all {E : List Int} {b : Nat} {L : List Nat} {i : Nat} (hL : ∀ x ∈ L, x ≤ E.length) (hi : i ≤ E.length) : ∀ x ∈ nxW E b L i, x ≤ E.length := by
  unfold nxW
  have h1 : ∀ x ∈ (if 0 < i ∧ E[i - 1]? = some 257 then rch E L i else L), x ≤ E.length := by
    split
    · exact rch_all hL hi
    · exact hL
  simp only []
  split
  · rename_i h
    have : i < E.length := by
      rcases Nat.lt_or_ge i E.length with h' | h'
      · exact h'
      · rw [List.getElem?_eq_none h'] at h; simp at h
    exact rch_all h1 this
  · exact h1
theorem nxt_all {E : List Int} {b : Nat} {S : List Nat} (hS : ∀ x ∈ S, x ≤ E.length) : ∀ x ∈ nxt E b S, x ≤ E.length := by
  have : ∀ (S L : List Nat), (∀ x ∈ S, x ≤ E.length) → (∀ x ∈ L, x ≤ E.length) → ∀ x ∈ S.foldl (nxW E b) L, x ≤ E.length := by
    intro S
    induction S with
    | nil => exact fun L _ h => h
    | cons i S ih => exact fun L hS hL => ih _ (fun x hx => hS x (List.mem_cons_of_mem _ hx)) (nxW_all hL (hS i List.mem_cons_self))
  exact this S [] hS (fun x h => by cases h)
theorem nxW_size {E : List Int} {b : Nat} {L : List Nat} {i : Nat} : (nxW E b L i).length ≤ L.length + 4 := by
  unfold nxW
  have h1 : (if 0 < i ∧ E[i - 1]? = some 257 then rch E L i else L).length ≤ L.length + 2 := by
    split
    · exact rch_size
    · omega
  simp only []
  split
  · have := rch_size (E := E) (L := if 0 < i ∧ E[i - 1]? = some 257 then rch E L i else L) (i := i + 1)
    omega
  · omega
set_option maxRecDepth 20000 in
set_option maxHeartbeats 8000000 in
theorem wnext_any (E : List Int) (ea : Option Addr) (ec : Nat) (p : ByteArray) (w : World) (S : List Nat) (sa : Option Addr) (sc b : Nat) (hE : NsAt w ea E) (hS : NsAt w sa (nz S)) (hSl : S.length ≤ 137438953472) (hSa : ∀ x ∈ S, x ≤ E.length) (hEl : E.length ≤ 1099511626000) (hb : b < 256) :
    Calls Tryd.prog 66 #[.agg #[.slice ea E.length ec, .string p], .slice sa S.length sc, .int .u8 b] w fun e w' => GroN w w' (nxt E b S) e := by
  obtain ⟨m, hm⟩ : ∃ m, m = E.length := ⟨_, rfl⟩
  obtain ⟨N, hN⟩ : ∃ N, N = S.length := ⟨_, rfl⟩
  have KB := Kept.alloc w (.cells #[.slice ea m ec, .string p] 77)
  have hx0 : (w.alloc (.cells #[.slice ea m ec, .string p] 77)).cell? ⟨w.heap.size, 0, none⟩ = some (.slice ea m ec) := by simp
  have hx1 : (w.alloc (.cells #[.slice ea m ec, .string p] 77)).cell? ⟨w.heap.size, 1, none⟩ = some (.string p) := by simp
  rw [← hm] at hSa hEl ⊢
  rw [← hN] at hSl ⊢
  obtain ⟨wB, hwB⟩ : ∃ wB, wB = w.alloc (.cells #[.slice ea m ec, .string p] 77) := ⟨_, rfl⟩
  rw [← hwB] at KB hx0 hx1
  have BX : Hid (∀ W, Kept (fun _ => False) wB W → W.cell? ⟨w.heap.size, 0, none⟩ = some (.slice ea m ec) ∧ W.cell? ⟨w.heap.size, 1, none⟩ = some (.string p)) := hideG (fun W k => ⟨k.cell hx0 (fun f => f), k.cell hx1 (fun f => f)⟩)
  have HM := hideG hm
  have HN := hideG hN
  have HSa := hideG hSa
  have HKB := hideG KB
  have HE := hideG (hE.kept KB)
  have HS := hideG (hS.kept KB)
  have CR : Hid (∀ (W : World) (L : List Nat) (a : Option Addr) (n c i : Nat), Gro wB W 3 1 (.slice a n c) n (iv (nz L)) → n = L.length → n ≤ 1099511627000 → i ≤ m → Calls Tryd.prog 68 #[.agg #[.slice ea m ec, .string p], .slice a n c, .int .i64 i] W fun e w' => GroN wB w' (rch E L i) e) := hideG (fun W L a n c i hG hn hb hi => by rw [hm] at hi ⊢; exact reached_any E ea ec p wB W L a n c i (hE.kept KB) hG hn hb hi (by omega))
  obtain ⟨Z, hZ⟩ : ∃ Z, Z = nxt E b S := ⟨_, rfl⟩
  have HZ := hideG hZ
  rw [← hZ]
  obtain ⟨i0, hi0, hz0, hz1, hz2⟩ := info_partsA Tryd.infoI
  have HWB := hideG hwB
  have hsz : w.heap.size + 1 = wB.heap.size := by rw [hwB]; simp
  clear hm hN hSa KB hx0 hx1 hE hS hZ hwB
  go_enter Tryd.func66, Tryd.ntmps66
  go_wp2_with (refine wpList_make_own _ rfl _ _ 53 rfl wB.heap.size 3 i0 _ 1 Tryd.underlying53 hi0 hz0 hz1 .i64 .i64 _ (N + 2) rfl rfl (by omega) (by rw [hz2]; omega) (by unfold maxLen; omega) (by rw [← hsz]; simp) ?_; intro W0 O0 G0; have K0 : Hid (Kept (fun _ => False) wB W0) := hideG (by rw [HWB.out]; exact (Kept.grown G0).mono (fun _ h => by cases h)); have HG0 : Hid (Gro wB W0 3 1 (.slice (some ⟨(w.alloc (.cells #[.slice ea m ec, .string p] 77)).heap.size, 0, none⟩) 0 (N + 2)) 0 (iv (nz []))) := hideG ⟨O0, K0.out⟩; clear O0 G0)
  rw [World.size_alloc, hsz] at HG0
  go_loopw [7, 16] (fun v kw wr => ∃ (k n : Nat) (a : Option Addr) (c : Nat) (L : List Nat), k ≤ N ∧ n ≤ 4 * k ∧ kw = .int .i64 k ∧ v = .slice a n c ∧ Hid (n = L.length) ∧ Hid (L = (S.take k).foldl (nxW E b) []) ∧ Hid (Gro wB wr 3 1 (.slice a n c) n (iv (nz L)))) (fun _ kw _ => N - (intOf kw).toNat)
  case atStart => exact ⟨0, 0, _, _, [], by omega, by omega, rfl, rfl, hideG rfl, hideG (by rw [List.take_zero]; rfl), HG0⟩
  case round =>
    obtain ⟨k, n, a, c, L, hk, hn4, rfl, rfl, HL, HF, HG⟩ := hrel
    clear HG0 K0
    by_cases hlt : k < N
    · have hkS : k < S.length := by rw [← HN.out]; exact hlt
      have hkk : (k : Int) < (N : Int) := by omega
      obtain ⟨bS, oS, rfl, hcS⟩ := HS.out (by intro e; rw [← nz_len, e] at hkS; simp at hkS)
      have y0 := HG.out.kept.cell (hcS k (by rw [nz_len]; exact hkS)) (fun f => f)
      have yv : (nz S)[k]'(by rw [nz_len]; exact hkS) = ((S[k] : Nat) : Int) := by unfold nz; simp
      rw [yv] at y0
      have hiM : S[k] ≤ m := HSa.out _ (List.getElem_mem hkS)
      have HFk : Hid ((S.take (k + 1)).foldl (nxW E b) [] = nxW E b L S[k]) := hideG (by rw [List.take_succ_eq_append_getElem hkS, List.foldl_append, ← HF.out]; rfl)
      generalize S[k] = i at *
      obtain ⟨x0, x1⟩ := BX.out _ HG.out.kept
      have hn9 : n ≤ 1099511627000 := by omega
      clear hcS yv
      by_cases hi0 : 0 < i
      · have p0 : (0 : Int) < (i : Int) := by omega
        have p1 : (i : Int) - 1 = ((i - 1 : Nat) : Int) := by omega
        by_cases hs : E[i - 1]? = some 257
        · skip
          rcases Nat.lt_or_ge i m with hiL | hiL
          · have hiE : i < E.length := by rw [← HM.out]; exact hiL
            obtain ⟨bE, oE, rfl, hcE⟩ := HE.out (by intro e; rw [e] at hiE; simp at hiE)
            have d3 : (i : Int) < (m : Int) := by omega
            have HEi := hideG (hcE i hiE)
            have f1 := HG.out.kept.cell (hcE i hiE) (fun f => f)
            have g1 := HG.out.kept.cell (hcE (i - 1) (by omega)) (fun f => f)
            rw [show E[i - 1] = 257 from Option.some.inj ((List.getElem?_eq_getElem (by omega)).symm.trans hs)] at g1
            by_cases hg : E[i]? = some 256
            · have ev : E[i] = 256 := by rw [List.getElem?_eq_getElem hiE] at hg; exact Option.some.inj hg
              rw [ev] at f1 HEi
              clear hcE hiE ev
              have HR : Hid (nxW E b L i = (rch E (rch E L i) (i + 1))) := hideG (by unfold nxW; rw [if_pos (show 0 < i ∧ E[i - 1]? = some 257 from ⟨hi0, hs⟩)]; rw [if_pos (.inl hg)])
              clear hs hg
              have C1 := hideG (CR.out wr L a n c i HG.out HL.out hn9 hiM)
              go_wp2_with (first
                | (go_at_call 68; refine C1.out.mono ?_; clear C1; rintro e W1 ⟨a1, c1, rfl, G1⟩; have s1 := rch_size (E := E) (L := L) (i := i); rw [← HL.out] at s1; obtain ⟨n1, hn1⟩ : ∃ n1, n1 = (rch E L i).length := ⟨_, rfl⟩; rw [← hn1] at s1 G1 ⊢; have HN1 := hideG hn1; have HG1 := hideG G1; clear hn1 G1; obtain ⟨x2, x3⟩ := BX.out _ HG1.out.kept; have f2 := HG1.out.kept.cell HEi.out (fun f => f))
                | (go_at_call 68; refine (CR.out W1 (rch E L i) a1 n1 c1 (i + 1) HG1.out HN1.out (by omega) (by omega)).mono ?_; rintro e W2 ⟨a2, c2, rfl, G2⟩; have s2 := rch_size (E := E) (L := (rch E L i)) (i := i + 1); rw [← HN1.out] at s2; obtain ⟨n2, hn2⟩ : ∃ n2, n2 = (rch E (rch E L i) (i + 1)).length := ⟨_, rfl⟩; rw [← hn2] at s2 G2 ⊢; have HN2 := hideG hn2; have HG2 := hideG G2; clear hn2 G2))
              go_roundw
              case rel => exact ⟨k + 1, n2, _, c2, (rch E (rch E L i) (i + 1)), by omega, by omega, by go_num, rfl, HN2, hideG (by rw [HFk.out, HR.out]), HG2⟩
              case measure => simp [intOf]; omega
            · by_cases hl : E[i]? = some (b : Int)
              · have ev : E[i] = (b : Int) := by rw [List.getElem?_eq_getElem hiE] at hl; exact Option.some.inj hl
                rw [ev] at f1 HEi
                have q1 : ((b : Int) == 256) = false := by simp; omega
                clear hcE hiE ev
                have HR : Hid (nxW E b L i = (rch E (rch E L i) (i + 1))) := hideG (by unfold nxW; rw [if_pos (show 0 < i ∧ E[i - 1]? = some 257 from ⟨hi0, hs⟩)]; rw [if_pos (.inr hl)])
                clear hs hl hg
                have C1 := hideG (CR.out wr L a n c i HG.out HL.out hn9 hiM)
                go_wp2_with (first
                  | (go_at_call 68; refine C1.out.mono ?_; clear C1; rintro e W1 ⟨a1, c1, rfl, G1⟩; have s1 := rch_size (E := E) (L := L) (i := i); rw [← HL.out] at s1; obtain ⟨n1, hn1⟩ : ∃ n1, n1 = (rch E L i).length := ⟨_, rfl⟩; rw [← hn1] at s1 G1 ⊢; have HN1 := hideG hn1; have HG1 := hideG G1; clear hn1 G1; obtain ⟨x2, x3⟩ := BX.out _ HG1.out.kept; have f2 := HG1.out.kept.cell HEi.out (fun f => f))
                  | (go_at_call 68; refine (CR.out W1 (rch E L i) a1 n1 c1 (i + 1) HG1.out HN1.out (by omega) (by omega)).mono ?_; rintro e W2 ⟨a2, c2, rfl, G2⟩; have s2 := rch_size (E := E) (L := (rch E L i)) (i := i + 1); rw [← HN1.out] at s2; obtain ⟨n2, hn2⟩ : ∃ n2, n2 = (rch E (rch E L i) (i + 1)).length := ⟨_, rfl⟩; rw [← hn2] at s2 G2 ⊢; have HN2 := hideG hn2; have HG2 := hideG G2; clear hn2 G2))
                go_roundw
                case rel => exact ⟨k + 1, n2, _, c2, (rch E (rch E L i) (i + 1)), by omega, by omega, by go_num, rfl, HN2, hideG (by rw [HFk.out, HR.out]), HG2⟩
                case measure => simp [intOf]; omega
              · have hno : ¬ (E[i]? = some 256 ∨ E[i]? = some (b : Int)) := fun h => h.elim hg hl
                have e1 : E[i] ≠ 256 := by rw [List.getElem?_eq_getElem hiE] at hg; exact fun e => hg (by rw [e])
                have e2 : E[i] ≠ (b : Int) := by rw [List.getElem?_eq_getElem hiE] at hl; exact fun e => hl (by rw [e])
                have hcx := hcE
                clear hcE
                generalize hq : E[i] = q at *
                have q1 : (q == 256) = false := by simpa using e1
                have q2 : (q == (b : Int)) = false := by simpa using e2
                clear hq e1 e2 hiE hcx
                have HR : Hid (nxW E b L i = (rch E L i)) := hideG (by unfold nxW; rw [if_pos (show 0 < i ∧ E[i - 1]? = some 257 from ⟨hi0, hs⟩)]; rw [if_neg hno])
                clear hs hno hg hl
                have C1 := hideG (CR.out wr L a n c i HG.out HL.out hn9 hiM)
                go_wp2_with (first
                  | (go_at_call 68; refine C1.out.mono ?_; clear C1; rintro e W1 ⟨a1, c1, rfl, G1⟩; have s1 := rch_size (E := E) (L := L) (i := i); rw [← HL.out] at s1; obtain ⟨n1, hn1⟩ : ∃ n1, n1 = (rch E L i).length := ⟨_, rfl⟩; rw [← hn1] at s1 G1 ⊢; have HN1 := hideG hn1; have HG1 := hideG G1; clear hn1 G1; obtain ⟨x2, x3⟩ := BX.out _ HG1.out.kept; have f2 := HG1.out.kept.cell HEi.out (fun f => f)))
                go_roundw
                case rel => exact ⟨k + 1, n1, _, c1, (rch E L i), by omega, by omega, by go_num, rfl, HN1, hideG (by rw [HFk.out, HR.out]), HG1⟩
                case measure => simp [intOf]; omega
          · have d3 : ¬ ((i : Int) < (m : Int)) := by omega
            have hno : ¬ (E[i]? = some 256 ∨ E[i]? = some (b : Int)) := by rw [List.getElem?_eq_none (by rw [← HM.out]; exact hiL)]; simp
            have hiE : i - 1 < E.length := by rw [← HM.out]; omega
            obtain ⟨bE, oE, rfl, hcE⟩ := HE.out (by intro e; rw [e] at hiE; simp at hiE)
            have g1 := HG.out.kept.cell (hcE (i - 1) hiE) (fun f => f)
            rw [show E[i - 1] = 257 from Option.some.inj ((List.getElem?_eq_getElem (by omega)).symm.trans hs)] at g1
            clear hcE hiE
            have HR : Hid (nxW E b L i = (rch E L i)) := hideG (by unfold nxW; rw [if_pos (show 0 < i ∧ E[i - 1]? = some 257 from ⟨hi0, hs⟩)]; rw [if_neg hno])
            clear hs hno
            have C1 := hideG (CR.out wr L a n c i HG.out HL.out hn9 hiM)
            go_wp2_with (first
              | (go_at_call 68; refine C1.out.mono ?_; clear C1; rintro e W1 ⟨a1, c1, rfl, G1⟩; have s1 := rch_size (E := E) (L := L) (i := i); rw [← HL.out] at s1; obtain ⟨n1, hn1⟩ : ∃ n1, n1 = (rch E L i).length := ⟨_, rfl⟩; rw [← hn1] at s1 G1 ⊢; have HN1 := hideG hn1; have HG1 := hideG G1; clear hn1 G1; obtain ⟨x2, x3⟩ := BX.out _ HG1.out.kept))
            go_roundw
            case rel => exact ⟨k + 1, n1, _, c1, (rch E L i), by omega, by omega, by go_num, rfl, HN1, hideG (by rw [HFk.out, HR.out]), HG1⟩
            case measure => simp [intOf]; omega
        · skip
          rcases Nat.lt_or_ge i m with hiL | hiL
          · have hiE : i < E.length := by rw [← HM.out]; exact hiL
            obtain ⟨bE, oE, rfl, hcE⟩ := HE.out (by intro e; rw [e] at hiE; simp at hiE)
            have d3 : (i : Int) < (m : Int) := by omega
            have HEi := hideG (hcE i hiE)
            have f1 := HG.out.kept.cell (hcE i hiE) (fun f => f)
            have g1 := HG.out.kept.cell (hcE (i - 1) (by omega)) (fun f => f)
            have e9 : E[i - 1] ≠ 257 := fun e => hs (by rw [List.getElem?_eq_getElem (by omega), e])
            obtain ⟨q9, hq9⟩ : ∃ q9, q9 = E[i - 1] := ⟨_, rfl⟩
            rw [← hq9] at g1 e9
            have t9 : (q9 == 257) = false := by simpa using e9
            clear hq9 e9
            by_cases hg : E[i]? = some 256
            · have ev : E[i] = 256 := by rw [List.getElem?_eq_getElem hiE] at hg; exact Option.some.inj hg
              rw [ev] at f1 HEi
              clear hcE hiE ev
              have HR : Hid (nxW E b L i = (rch E L (i + 1))) := hideG (by unfold nxW; rw [if_neg (show ¬ (0 < i ∧ E[i - 1]? = some 257) from fun h => hs h.2)]; rw [if_pos (.inl hg)])
              clear hs hg
              go_wp2_with (first
                | (go_at_call 68; refine (CR.out wr L a n c (i + 1) HG.out HL.out (by omega) (by omega)).mono ?_; rintro e W2 ⟨a2, c2, rfl, G2⟩; have s2 := rch_size (E := E) (L := L) (i := i + 1); rw [← HL.out] at s2; obtain ⟨n2, hn2⟩ : ∃ n2, n2 = (rch E L (i + 1)).length := ⟨_, rfl⟩; rw [← hn2] at s2 G2 ⊢; have HN2 := hideG hn2; have HG2 := hideG G2; clear hn2 G2))
              go_roundw
              case rel => exact ⟨k + 1, n2, _, c2, (rch E L (i + 1)), by omega, by omega, by go_num, rfl, HN2, hideG (by rw [HFk.out, HR.out]), HG2⟩
              case measure => simp [intOf]; omega
            · by_cases hl : E[i]? = some (b : Int)
              · have ev : E[i] = (b : Int) := by rw [List.getElem?_eq_getElem hiE] at hl; exact Option.some.inj hl
                rw [ev] at f1 HEi
                have q1 : ((b : Int) == 256) = false := by simp; omega
                clear hcE hiE ev
                have HR : Hid (nxW E b L i = (rch E L (i + 1))) := hideG (by unfold nxW; rw [if_neg (show ¬ (0 < i ∧ E[i - 1]? = some 257) from fun h => hs h.2)]; rw [if_pos (.inr hl)])
                clear hs hl hg
                go_wp2_with (first
                  | (go_at_call 68; refine (CR.out wr L a n c (i + 1) HG.out HL.out (by omega) (by omega)).mono ?_; rintro e W2 ⟨a2, c2, rfl, G2⟩; have s2 := rch_size (E := E) (L := L) (i := i + 1); rw [← HL.out] at s2; obtain ⟨n2, hn2⟩ : ∃ n2, n2 = (rch E L (i + 1)).length := ⟨_, rfl⟩; rw [← hn2] at s2 G2 ⊢; have HN2 := hideG hn2; have HG2 := hideG G2; clear hn2 G2))
                go_roundw
                case rel => exact ⟨k + 1, n2, _, c2, (rch E L (i + 1)), by omega, by omega, by go_num, rfl, HN2, hideG (by rw [HFk.out, HR.out]), HG2⟩
                case measure => simp [intOf]; omega
              · have hno : ¬ (E[i]? = some 256 ∨ E[i]? = some (b : Int)) := fun h => h.elim hg hl
                have e1 : E[i] ≠ 256 := by rw [List.getElem?_eq_getElem hiE] at hg; exact fun e => hg (by rw [e])
                have e2 : E[i] ≠ (b : Int) := by rw [List.getElem?_eq_getElem hiE] at hl; exact fun e => hl (by rw [e])
                have hcx := hcE
                clear hcE
                generalize hq : E[i] = q at *
                have q1 : (q == 256) = false := by simpa using e1
                have q2 : (q == (b : Int)) = false := by simpa using e2
                clear hq e1 e2 hiE hcx
                have HR : Hid (nxW E b L i = L) := hideG (by unfold nxW; rw [if_neg (show ¬ (0 < i ∧ E[i - 1]? = some 257) from fun h => hs h.2)]; rw [if_neg hno])
                clear hs hno hg hl
                go_wp2
                go_roundw
                case rel => exact ⟨k + 1, n, _, c, L, by omega, by omega, by go_num, rfl, HL, hideG (by rw [HFk.out, HR.out]), HG⟩
                case measure => simp [intOf]; omega
          · have d3 : ¬ ((i : Int) < (m : Int)) := by omega
            have hno : ¬ (E[i]? = some 256 ∨ E[i]? = some (b : Int)) := by rw [List.getElem?_eq_none (by rw [← HM.out]; exact hiL)]; simp
            have hiE : i - 1 < E.length := by rw [← HM.out]; omega
            obtain ⟨bE, oE, rfl, hcE⟩ := HE.out (by intro e; rw [e] at hiE; simp at hiE)
            have g1 := HG.out.kept.cell (hcE (i - 1) hiE) (fun f => f)
            have e9 : E[i - 1] ≠ 257 := fun e => hs (by rw [List.getElem?_eq_getElem (by omega), e])
            obtain ⟨q9, hq9⟩ : ∃ q9, q9 = E[i - 1] := ⟨_, rfl⟩
            rw [← hq9] at g1 e9
            have t9 : (q9 == 257) = false := by simpa using e9
            clear hq9 e9
            clear hcE hiE
            have HR : Hid (nxW E b L i = L) := hideG (by unfold nxW; rw [if_neg (show ¬ (0 < i ∧ E[i - 1]? = some 257) from fun h => hs h.2)]; rw [if_neg hno])
            clear hs hno
            go_wp2
            go_roundw
            case rel => exact ⟨k + 1, n, _, c, L, by omega, by omega, by go_num, rfl, HL, hideG (by rw [HFk.out, HR.out]), HG⟩
            case measure => simp [intOf]; omega
      · have p0 : ¬ ((0 : Int) < (i : Int)) := by omega
        rcases Nat.lt_or_ge i m with hiL | hiL
        · have hiE : i < E.length := by rw [← HM.out]; exact hiL
          obtain ⟨bE, oE, rfl, hcE⟩ := HE.out (by intro e; rw [e] at hiE; simp at hiE)
          have d3 : (i : Int) < (m : Int) := by omega
          have HEi := hideG (hcE i hiE)
          have f1 := HG.out.kept.cell (hcE i hiE) (fun f => f)
          by_cases hg : E[i]? = some 256
          · have ev : E[i] = 256 := by rw [List.getElem?_eq_getElem hiE] at hg; exact Option.some.inj hg
            rw [ev] at f1 HEi
            clear hcE hiE ev
            have HR : Hid (nxW E b L i = (rch E L (i + 1))) := hideG (by unfold nxW; rw [if_neg (show ¬ (0 < i ∧ E[i - 1]? = some 257) from fun h => absurd h.1 hi0)]; rw [if_pos (.inl hg)])
            clear hg
            go_wp2_with (first
              | (go_at_call 68; refine (CR.out wr L a n c (i + 1) HG.out HL.out (by omega) (by omega)).mono ?_; rintro e W2 ⟨a2, c2, rfl, G2⟩; have s2 := rch_size (E := E) (L := L) (i := i + 1); rw [← HL.out] at s2; obtain ⟨n2, hn2⟩ : ∃ n2, n2 = (rch E L (i + 1)).length := ⟨_, rfl⟩; rw [← hn2] at s2 G2 ⊢; have HN2 := hideG hn2; have HG2 := hideG G2; clear hn2 G2))
            go_roundw
            case rel => exact ⟨k + 1, n2, _, c2, (rch E L (i + 1)), by omega, by omega, by go_num, rfl, HN2, hideG (by rw [HFk.out, HR.out]), HG2⟩
            case measure => simp [intOf]; omega
          · by_cases hl : E[i]? = some (b : Int)
            · have ev : E[i] = (b : Int) := by rw [List.getElem?_eq_getElem hiE] at hl; exact Option.some.inj hl
              rw [ev] at f1 HEi
              have q1 : ((b : Int) == 256) = false := by simp; omega
              clear hcE hiE ev
              have HR : Hid (nxW E b L i = (rch E L (i + 1))) := hideG (by unfold nxW; rw [if_neg (show ¬ (0 < i ∧ E[i - 1]? = some 257) from fun h => absurd h.1 hi0)]; rw [if_pos (.inr hl)])
              clear hl hg
              go_wp2_with (first
                | (go_at_call 68; refine (CR.out wr L a n c (i + 1) HG.out HL.out (by omega) (by omega)).mono ?_; rintro e W2 ⟨a2, c2, rfl, G2⟩; have s2 := rch_size (E := E) (L := L) (i := i + 1); rw [← HL.out] at s2; obtain ⟨n2, hn2⟩ : ∃ n2, n2 = (rch E L (i + 1)).length := ⟨_, rfl⟩; rw [← hn2] at s2 G2 ⊢; have HN2 := hideG hn2; have HG2 := hideG G2; clear hn2 G2))
              go_roundw
              case rel => exact ⟨k + 1, n2, _, c2, (rch E L (i + 1)), by omega, by omega, by go_num, rfl, HN2, hideG (by rw [HFk.out, HR.out]), HG2⟩
              case measure => simp [intOf]; omega
            · have hno : ¬ (E[i]? = some 256 ∨ E[i]? = some (b : Int)) := fun h => h.elim hg hl
              have e1 : E[i] ≠ 256 := by rw [List.getElem?_eq_getElem hiE] at hg; exact fun e => hg (by rw [e])
              have e2 : E[i] ≠ (b : Int) := by rw [List.getElem?_eq_getElem hiE] at hl; exact fun e => hl (by rw [e])
              have hcx := hcE
              clear hcE
              generalize hq : E[i] = q at *
              have q1 : (q == 256) = false := by simpa using e1
              have q2 : (q == (b : Int)) = false := by simpa using e2
              clear hq e1 e2 hiE hcx
              have HR : Hid (nxW E b L i = L) := hideG (by unfold nxW; rw [if_neg (show ¬ (0 < i ∧ E[i - 1]? = some 257) from fun h => absurd h.1 hi0)]; rw [if_neg hno])
              clear hno hg hl
              go_wp2
              go_roundw
              case rel => exact ⟨k + 1, n, _, c, L, by omega, by omega, by go_num, rfl, HL, hideG (by rw [HFk.out, HR.out]), HG⟩
              case measure => simp [intOf]; omega
        · have d3 : ¬ ((i : Int) < (m : Int)) := by omega
          have hno : ¬ (E[i]? = some 256 ∨ E[i]? = some (b : Int)) := by rw [List.getElem?_eq_none (by rw [← HM.out]; exact hiL)]; simp
          have HR : Hid (nxW E b L i = L) := hideG (by unfold nxW; rw [if_neg (show ¬ (0 < i ∧ E[i - 1]? = some 257) from fun h => absurd h.1 hi0)]; rw [if_neg hno])
          clear hno
          go_wp2
          go_roundw
          case rel => exact ⟨k + 1, n, _, c, L, by omega, by omega, by go_num, rfl, HL, hideG (by rw [HFk.out, HR.out]), HG⟩
          case measure => simp [intOf]; omega
    · obtain rfl : k = N := by omega
      have HQ : Hid (Z = L) := hideG (by rw [HZ.out, HF.out, List.take_of_length_le (by rw [HN.out]; exact Nat.le_refl _)]; rfl)
      obtain rfl : Z = L := HQ.out
      have hnn := HL.out
      clear BX CR
      go_wp2
      go_ret
      subst hnn
      exact ⟨a, c, rfl, HG.out.baseA HKB.out⟩

theorem Kept.drewA (w : World) (n : Nat) : Kept (fun _ => False) w (w.drewN n) := ⟨rfl, rfl, rfl, Nat.le_refl _, fun _ _ _ => rfl⟩
set_option maxRecDepth 20000 in
set_option maxHeartbeats 4000000 in
theorem waccepts_any (E : List Int) (ea : Option Addr) (ec : Nat) (p : ByteArray) (w : World) (S : List Nat) (sa : Option Addr) (sc : Nat) (hS : NsAt w sa (nz S)) (hne : S ≠ []) (hSl : S.length ≤ 1099511627776) :
    Calls Tryd.prog 64 #[.agg #[.slice ea E.length ec, .string p], .slice sa S.length sc] w fun e w' => e = .returned (.bool (decide (S.getLast? = some E.length))) ∧ Kept (fun _ => False) w w' := by
  obtain ⟨m, hm⟩ : ∃ m, m = E.length := ⟨_, rfl⟩
  obtain ⟨N, hN⟩ : ∃ N, N = S.length := ⟨_, rfl⟩
  have KB := Kept.alloc w (.cells #[.slice ea m ec, .string p] 77)
  have hpos : 0 < S.length := List.length_pos_iff.2 hne
  have hkS : N - 1 < S.length := by omega
  obtain ⟨bS, oS, rfl, hcS⟩ := hS (by intro e; rw [← nz_len, e] at hkS; simp at hkS)
  have y0 := KB.cell (hcS (N - 1) (by rw [nz_len]; exact hkS)) (fun f => f)
  have yv : (nz S)[N - 1]'(by rw [nz_len]; exact hkS) = ((S[N - 1] : Nat) : Int) := by unfold nz; simp
  rw [yv] at y0
  have hlast : S.getLast? = some S[N - 1] := by rw [List.getLast?_eq_getElem?, ← hN, List.getElem?_eq_getElem hkS]
  rw [hlast, ← hm]
  rw [← hN] at hpos hSl ⊢
  generalize S[N - 1] = y at *
  have HB : Hid (decide (some y = some m) = ((y : Int) == (m : Int))) := hideG (by
    by_cases h : y = m
    · subst h; simp
    · have : ¬ ((y : Int) = (m : Int)) := by omega
      simp [h, this])
  have z0 : (w.alloc (.cells #[.slice ea m ec, .string p] 77)).cell? ⟨w.heap.size, 0, none⟩ = some (.slice ea m ec) := by simp
  have p1 : (N : Int) - 1 = ((N - 1 : Nat) : Int) := by omega
  have hlt : ((N - 1 : Nat) : Int) < (N : Int) := by omega
  have hlt2 : N - 1 < N := by omega
  rw [HB.out]
  have HKB := hideG KB
  clear KB hcS hlast yv hS hkS hN hm HB
  go_enter Tryd.func64, Tryd.ntmps64
  go_wp2_with (go_quiet (fail))
  go_ret
  exact ⟨rfl, HKB.out.trans (Kept.drewA _ _) (fun _ f => f.elim)⟩
end Go.Proofs.YtacmmclamkhpcaaDoor
