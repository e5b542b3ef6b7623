import Derived.Test.YtohnkamobmkhkaaDoorIzy
import Derived.Test.YtohnkamobmkhkaaDoorIze
namespace Go.Proofs.YtohnkamobmkhkaaDoor
open Go.ChangeShapes Go.WideShapes Go.ChangeAt Go.RowKit

/-- What the document's Encode answers. -/
def rencP (w : World) (l : List In) (e : Ending) (w' : World) : Prop :=
  ((∀ x ∈ l, okI x = true) → ∃ a c, e = .returned (.tuple #[.slice a (ibL l).length c, .int .i64 0]) ∧ Gro w w' 5 1 (.slice a (ibL l).length c) (ibL l).length (bs (ibL l))) ∧
  ((¬ ∀ x ∈ l, okI x = true) → e = .returned (.tuple #[.slice none 0 0, .int .i64 21])) ∧ Kept (fun _ => False) w w'
set_option maxRecDepth 20000 in
set_option maxHeartbeats 8000000 in
/-- The document's Encode, at any list. -/
theorem rencode_any (l : List In) (a : Option Addr) (c : Nat) (w : World) (hL : InsAt w a l) (hO : ∀ x ∈ l, x.Ok) (hl : l.length ≤ 5864062014976) :
    Calls Tryd.prog 38 #[.slice a l.length c] w (rencP w l) := by
  have HL := hideI hL
  have HO := hideI hO
  have HG0 := hideI (gro_empty w w 5 1 (Kept.refl _ _))
  have HLen : Hid (∀ j, (ibL (l.take j)).length ≤ 123145302314496) := hideI (fun j => by
    have h1 := ibL_len (l.take j) (fun x hx => hO x (List.mem_of_mem_take hx))
    have h2 : (l.take j).length ≤ l.length := by simp; omega
    omega)
  clear hL hO
  obtain ⟨nl, hnl⟩ : ∃ nl, nl = l.length := ⟨_, rfl⟩
  rw [← hnl] at hl ⊢
  have HNL := hideI hnl
  clear hnl
  go_enter Tryd.func38, Tryd.ntmps38
  go_wp2
  go_loopw [4, 14] (fun v4 v14 wr => ∃ (j n : Nat) (va : Value), j ≤ nl ∧ v14 = .int .i64 j ∧ v4 = va ∧ Hid (n = (ibL (l.take j)).length) ∧ Hid (Gro w wr 5 1 va n (bs (ibL (l.take j)))) ∧ Hid (∀ k (h : k < l.length), k < j → okI l[k] = true)) (fun _ v14 _ => nl - (intOf v14).toNat)
  case atStart => exact ⟨0, 0, _, by omega, rfl, rfl, hideI rfl, HG0, hideI (fun k _ h => by omega)⟩
  case round =>
    obtain ⟨j, n, va, hj, rfl, rfl, HN, HG, HA⟩ := hrel
    by_cases hlt : j < nl
    · have hjl : j < l.length := by rw [← HNL.out]; exact hlt
      have hji : (j : Int) < (nl : Int) := by omega
      obtain ⟨fb, fo, ea, hc⟩ := HL.out (by intro e; rw [e] at hjl; simp at hjl)
      obtain ⟨x0, x1, x2⟩ := hc j hjl
      subst ea
      have z0 := HG.out.kept.cell x0 (fun f => f)
      have z1 := HG.out.kept.cell x1 (fun f => f)
      have z2 := HG.out.kept.cell x2 (fun f => f)
      clear x0 x1 x2 hc
      have HSN := hideI (ibL_snoc hjl)
      have HOx := hideI (HO.out l[j] (List.getElem_mem hjl))
      have HAn : Hid (okI l[j] = true → ∀ k (h : k < l.length), k < j + 1 → okI l[k] = true) := hideI (fun e k h hk => by
        by_cases hkj : k = j
        · subst hkj; exact e
        · exact HA.out k h (by omega))
      have HAb : Hid (okI l[j] = false → ¬ ∀ x ∈ l, okI x = true) := hideI (fun e h => by
        have := h l[j] (List.getElem_mem hjl)
        rw [e] at this; cases this)
      have HLj := hideI (HLen.out j)
      generalize l[j] = x at *
      have HXL := hideI (opsI_len x)
      have HAT : Hid (∀ j (hj : j < arN x.op) (hl : j < (opsI x).length), (opsI x)[j] = if j = 0 then x.a else x.b) := hideI (fun j hj hl => opsI_at hj hl)
      have HIB : Hid (ib x = x.op :: ((opsI x).map uvb).flatten) := hideI rfl
      have hnl2 := arN_le x.op
      have HKx := hideI (Kept.alloc wr (.cells #[.int .i64 x.op, .int .u64 x.a, .int .u64 x.b] 56))
      have HXx : Hid ((wr.alloc (.cells #[.int .i64 x.op, .int .u64 x.a, .int .u64 x.b] 56)).heap[wr.heap.size]? = some (.cells #[.int .i64 x.op, .int .u64 x.a, .int .u64 x.b] 56 (0, 0))) := hideI (heap_alloc_new wr _)
      have hRO := roperands_any x (wr.alloc (.cells #[.int .i64 x.op, .int .u64 x.a, .int .u64 x.b] 56))
      unfold inV at hRO
      have HRO := hideI hRO
      clear hRO
      cases hok : okI x with
      | false =>
        rw [hok] at HRO
        have HBad := hideI (HAb.out hok)
        clear hok HAb HAn
        go_wp2_with (go_at_call 56; refine HRO.out.mono ?_; clear HRO; rintro e W3 ⟨-, h3, K3⟩; have h3e := h3 rfl; subst h3e; have HK3 := hideI ((HG.out.kept.trans HKx.out (fun _ f => f.elim)).trans K3 (fun _ f => f.elim)); clear h3 K3)
        go_ret2
        exact ⟨fun h => absurd h HBad.out, fun _ => rfl, HK3.out⟩
      | true =>
        rw [hok] at HRO
        have HAn2 := hideI (HAn.out hok)
        have h17 := (okI_iff.1 hok).1
        have hop : IntKind.u8.wrap x.op = x.op := by rw [IntKind.wrap_u8]; omega
        clear hok HAb HAn h17
        generalize opsI x = ops at *
        generalize ib x = ibx at *
        obtain ⟨op, xa, xb⟩ := x
        simp only at *
        generalize arN op = m at *
        go_wp2_with (first
          | (go_at_call 56; refine HRO.out.mono ?_; clear HRO; rintro e W3 ⟨h3, -, K3⟩; obtain ⟨g, hg, h3e, c0, c1⟩ := h3 rfl; subst h3e; have HK3 := hideI (HKx.out.trans K3 (fun _ f => f.elim)); obtain ⟨y0, y1, y2, -⟩ := cell_row3 (K3.heap HXx.out (fun f => f)); have HG3 := hideI (HG.out.later HK3.out); have HC0 := hideI c0; have HC1 := hideI c1; have HGB := hideI hg; clear h3 K3 c0 c1 hg)
          | (at_builtin; refine StpQI.go ?_))
        refine ⟨?_⟩
        have hnb : n ≤ 123145302314496 := by have := HN.out; have := HLj.out; omega
        refine wpList_pushZI rfl (.tmp 25) (.tmp 29) rfl _ n (ibL (l.take j)) op rfl HG3 _ rfl rfl (by omega) ?_
        intro g4 c4 W4 HG4 HS4
        have hgg : g4 ≠ g := by
          intro e
          rcases HS4.out.new g4 rfl with h | h
          · have h1 := (HG.out.own.lt g4 h).2
            have h2 := HGB.out
            have h3 := HKx.out.size
            omega
          · have h2 := World.block_lt_of_cell? W3 _ HC0.out
            simp only at h2
            omega
        have HD0 := hideI (HS4.out.kept.cell HC0.out (fun f => by
          have h1 := (HG.out.own.lt g f).2
          have h2 := HGB.out
          have h3 := HKx.out.size
          omega))
        have HD1 := hideI (HS4.out.kept.cell HC1.out (fun f => by
          have h1 := (HG.out.own.lt g f).2
          have h2 := HGB.out
          have h3 := HKx.out.size
          omega))
        clear y0 y1 y2 HC0 HC1 HG3 HK3 HXx HKx
        have HGV := hideI hgg
        clear hgg
        generalize hv4 : (Value.slice (some ⟨g4, 0, none⟩) (n + 1) c4) = v4 at *
        have HOB : Hid (v4.ownBlock = some g4) := hideI (by rw [← hv4]; rfl)
        clear hv4
        obtain ⟨wr0, hwr0⟩ : ∃ wr0, wr0 = wr := ⟨_, rfl⟩
        clear hwr0
        go_wp2
        go_loopw [4, 33] (fun u4 u33 wr => ∃ (i n' : Nat) (vb : Value), i ≤ m ∧ u33 = .int .i64 i ∧ u4 = vb ∧ Hid (n' = (ibL (l.take j) ++ [op] ++ ((ops.take i).map uvb).flatten).length) ∧ Hid (Gro w wr 5 1 vb n' (bs (ibL (l.take j) ++ [op] ++ ((ops.take i).map uvb).flatten))) ∧ Hid (GStepI W4 wr v4 vb)) (fun _ u33 _ => m - (intOf u33).toNat)
        case atStart => exact ⟨0, n + 1, _, by omega, rfl, rfl, hideI (by simp [HN.out]), hideI (by simpa using HG4.out), hideI (GStepI.refl _ _)⟩
        case round =>
          obtain ⟨i, n', vb, hi, rfl, rfl, HN2, HGi, HSi⟩ := hrel
          by_cases hlt2 : i < m
          · have hii : (i : Int) < (m : Int) := by omega
            have hil : i < ops.length := by rw [HXL.out]; exact hlt2
            have HSN2 := hideI (ops_snoc hil)
            have hv : ops[i] < 18446744073709551616 := by
              rw [HAT.out i hlt2 hil]
              split
              · exact HOx.out.ha
              · exact HOx.out.hb
            have hcell : wr.cell? ⟨g, i, none⟩ = some (.int .u64 (ops[i] : Nat)) := by
              rw [HAT.out i hlt2 hil]
              have hn2 : i < 2 := by omega
              have hF : ¬ (v4.ownBlock = some g) := by rw [HOB.out]; intro e; exact HGV.out (Option.some.inj e)
              match i, hn2 with
              | 0, _ => exact HSi.out.kept.cell HD0.out hF
              | 1, _ => exact HSi.out.kept.cell HD1.out hF
            have hn3 : n' ≤ n + 31 := by
              have h1 := HN2.out
              have h2 : (((ops.take i).map uvb).flatten).length ≤ 10 * i := by
                have q : ∀ i, i ≤ ops.length → (((ops.take i).map uvb).flatten).length ≤ 10 * i := by
                  intro i
                  induction i with
                  | zero => intro _; simp
                  | succ i ih =>
                    intro hle
                    rw [ops_snoc (show i < ops.length by omega), List.length_append]
                    have := ih (by omega)
                    have := ulen_10 (n := ops[i]) (by
                      rw [HAT.out i (by rw [← HXL.out]; omega) (by omega)]
                      split
                      · exact HOx.out.ha
                      · exact HOx.out.hb)
                    omega
                exact q i (by omega)
              have h3 := HN.out
              rw [List.length_append, List.length_append] at h1
              simp at h1
              simp at h2
              omega
            generalize ops[i] = u at *
            have HU := hideI (duv_anyI u wr hv)
            have hul := ulen_10 hv
            have hup : 0 < (uvb u).length := by rw [uvb_length]; have := (ulen_le u (by simpa using hv)).1; omega
            clear hv
            go_wp2_with (first
              | (go_at_call 57; refine HU.out.mono ?_; clear HU; rintro e W6 ⟨g6, c6, rfl, hG6⟩; have HB6 := hideI (gro_bytesI hG6).1; have HGr := hideI (HGi.out.later hG6.kept); have HSr := hideI (HSi.out.later hG6.kept); clear hG6)
              | (at_builtin; refine StpQI.go ?_))
            refine ⟨?_⟩
            refine wpList_catBI rfl (.tmp 37) (.tmp 39) rfl _ n' _ (uvb u) rfl HGr (some ⟨g6, 0, none⟩) (uvb u).length c6 rfl rfl HB6 hup (by omega) ?_
            intro g7 c7 W7 HG7 HS7
            go_wp2
            go_roundw
            case rel => exact ⟨i + 1, n' + (uvb u).length, _, hlt2, by go_num, rfl, hideI (by rw [HN2.out, HSN2.out]; simp; omega), hideI (by rw [HSN2.out]; simpa [List.append_assoc] using HG7.out), hideI (HSr.out.trans HS7.out)⟩
            case measure => simp [intOf]; omega
          · obtain rfl : i = m := by omega
            have hT2 : ops.take i = ops := List.take_of_length_le (by rw [HXL.out]; exact Nat.le_refl _)
            rw [hT2] at HGi HN2
            have HE : Hid (ibL (l.take j) ++ [op] ++ (ops.map uvb).flatten = ibL (l.take (j + 1))) := hideI (by rw [HSN.out, HIB.out]; simp)
            rw [HE.out] at HGi HN2
            go_wp2
            go_roundw
            case rel => exact ⟨j + 1, n', _, hlt, by go_num, rfl, HN2, HGi, HAn2⟩
            case measure => simp [intOf]; omega
    · obtain rfl : j = nl := by omega
      have hT : l.take j = l := List.take_of_length_le (by rw [HNL.out]; exact Nat.le_refl _)
      rw [hT] at HG HN
      have HAll : Hid (∀ x ∈ l, okI x = true) := hideI (fun x hx => by
        obtain ⟨k, hk, rfl⟩ := List.mem_iff_getElem.1 hx
        exact HA.out k hk (by rw [HNL.out]; exact hk))
      obtain ⟨a', c', rfl⟩ := HG.out.shape
      go_wp2
      go_ret2
      have hn := HN.out
      subst hn
      exact ⟨fun _ => ⟨a', c', rfl, HG.out⟩, fun h => absurd HAll.out h, HG.out.kept⟩
end Go.Proofs.YtohnkamobmkhkaaDoor
