import Derived.Test.YtmfdoohnladohaaLgm
import Derived.Test.YtmfdoohnladohaaRsu
import Derived.Deep.MidRow
namespace Go.Proofs.Ytmfdoohnladohaa
open Go.ChangeShapes Go.WideShapes Go.ChangeAt Go.RowKit

/-- A list of rules in memory. -/
def RulesAt (w : World) (g : Nat) (T : Tbl) : Prop := ∀ k (h : k < T.length), w.cell? ⟨g, k * 2, none⟩ = some (.string (bq T[k].1)) ∧ w.cell? ⟨g, k * 2 + 1, none⟩ = some (.string (bq T[k].2))
theorem RulesAt.kept {w w' : World} {g : Nat} {T : Tbl} (h : RulesAt w g T) (k : Kept (fun _ => False) w w') : RulesAt w' g T := fun i hi => ⟨k.cell (h i hi).1 (fun f => f), k.cell (h i hi).2 (fun f => f)⟩
def bo (o : Option Rl) : Rl := o.getD ([], [])
theorem lg_take (T : Tbl) (l : List UInt8) (k : Nat) (h : k < T.length) : (T.take (k + 1)).foldl (lgF l) none = lgF l ((T.take k).foldl (lgF l) none) T[k] := by
  rw [List.take_succ_eq_append_getElem h, List.foldl_append]; rfl
structure Lgw (w wr : World) (x y : ByteArray) : Prop where
  kept : Kept (fun _ => False) w wr
  res : wr.heap[w.heap.size]? = some (.cells #[.string ⟨#[]⟩, .string ⟨#[]⟩] 37 (0, 0))
  best : wr.heap[w.heap.size + 1]? = some (.cells #[.string x, .string y] 37 (0, 0))
theorem Lgw.alloc {w wr : World} {x y : ByteArray} (h : Lgw w wr x y) (o : Obj) : Lgw w (wr.alloc o) x y :=
  have k := Kept.alloc wr o
  ⟨h.kept.trans k (fun _ f => f.elim), k.heap h.res (fun f => f), k.heap h.best (fun f => f)⟩
theorem Lgw.put {w wr : World} {x y : ByteArray} (h : Lgw w wr x y) (e t : ByteArray) : Lgw w ((wr.setCell ⟨w.heap.size + 1, 0, none⟩ (.string e)).setCell ⟨w.heap.size + 1, 1, none⟩ (.string t)) e t := by
  have k1 := Kept.setCell wr ⟨w.heap.size + 1, 0, none⟩ (.string e)
  have k2 := Kept.setCell (wr.setCell ⟨w.heap.size + 1, 0, none⟩ (.string e)) ⟨w.heap.size + 1, 1, none⟩ (.string t)
  have b1 := heap_setCell_same wr (w.heap.size + 1) 0 _ _ (.string e) h.best
  have b2 := heap_setCell_same _ (w.heap.size + 1) 1 _ _ (.string t) b1
  refine ⟨(h.kept.trans k1 (fun i e => .inr (by simp only at e; omega))).trans k2 (fun i e => .inr (by simp only at e; omega)), k2.heap (k1.heap h.res (fun e => by simp only at e; omega)) (fun e => by simp only at e; omega), ?_⟩
  exact b2
theorem Lgw.cells {w wr : World} {x y : ByteArray} (h : Lgw w wr x y) : wr.cell? ⟨w.heap.size + 1, 0, none⟩ = some (.string x) ∧ wr.cell? ⟨w.heap.size + 1, 1, none⟩ = some (.string y) ∧ wr.frozen? ⟨w.heap.size + 1, 0, none⟩ = false ∧ wr.frozen? ⟨w.heap.size + 1, 1, none⟩ = false ∧
    wr.cell? ⟨w.heap.size, 0, none⟩ = some (.string ⟨#[]⟩) ∧ wr.cell? ⟨w.heap.size, 1, none⟩ = some (.string ⟨#[]⟩) ∧ wr.frozen? ⟨w.heap.size, 0, none⟩ = false ∧ wr.frozen? ⟨w.heap.size, 1, none⟩ = false :=
  ⟨cell_of_row _ _ 0 _ _ _ h.best, cell_of_row _ _ 1 _ _ _ h.best, by simp [World.frozen?, h.best], by simp [World.frozen?, h.best], cell_of_row _ _ 0 _ _ _ h.res, cell_of_row _ _ 1 _ _ _ h.res, by simp [World.frozen?, h.res], by simp [World.frozen?, h.res]⟩
theorem results_mid {fn : Func} {a p x : Tmp} {ty : TypeId} (h : fn.results = #[.tmp a, .cell p ty, .tmp x]) (tmps : Array Value) (P : Program) (w : World) (g : Nat) (cs : Array Value)
    (hp : tmps.getD p undef = .pointer (some ⟨g, 0, none⟩)) (hld : (loadVar ty ⟨g, 0, none⟩).run P w = .ok (.agg cs) w) :
    (results fn tmps).run P w = .ok (.tuple #[tmps.getD a undef, .agg cs, tmps.getD x undef]) w := by
  have hp' : tmps[p]?.getD undef = .pointer (some ⟨g, 0, none⟩) := by rw [← hp]; simp [Array.getD_eq_getD_getElem?]
  simp [results, h, hp', asAddr, hld, Result.andThen]
theorem Try.sRule : (Try.prog.info? 37).map (·.size) = some 2 := by kernel_rfl
theorem rule_load {W : World} {g : Nat} {x y : ByteArray} (d0 : W.cell? ⟨g, 0, none⟩ = some (.string x)) (d1 : W.cell? ⟨g, 1, none⟩ = some (.string y)) : (loadVar 37 ⟨g, 0, none⟩).run Try.prog W = .ok (.agg #[.string x, .string y]) W :=
  run_loadVar_mid (P := Try.prog) W g 0 37 [.string x, .string y] _ (fun j v hj => by
    match j, hj with
    | 0, hj => simp at hj; subst hj; simpa using d0
    | 1, hj => simp at hj; subst hj; simpa using d1) Try.underlying37 rfl Try.sRule
theorem ret3s {a b : ByteArray} {c d : Value} (h : a = b) : Ending.returned (.tuple #[.string a, c, d]) = .returned (.tuple #[.string b, c, d]) := by rw [h]
set_option maxRecDepth 20000 in
set_option maxHeartbeats 4000000 in
theorem longest_any (l : List UInt8) (T : Tbl) (g n c : Nat) (w : World) (hl : l.length ≤ 140737488355328) (hT : ∀ p ∈ T, p.1.length ≤ 7) (hn : n = T.length) (hn9 : n ≤ 1000) (hR : RulesAt w g T) :
    Calls Try.prog 32 #[.string (bq l), .slice (some ⟨g, 0, none⟩) n c] w fun e w' => e = .returned (.tuple #[.string (bq (cutE l (bo (lg T l)).1)), .agg #[.string (bq (bo (lg T l)).1), .string (bq (bo (lg T l)).2)], .bool (lg T l).isSome]) ∧ Kept (fun _ => False) w w' := by
  have HE := hideV (fun e w (h : e.length ≤ 1000) => rends_any l e w (by omega) h)
  have HT := hideV hT
  have HN := hideV hn
  have HR := hideV hR
  have hz : (bq l).size = l.length := bq_size l
  have hz' : ((bq l).size : Int) = (l.length : Int) := by rw [hz]
  obtain ⟨O, hO⟩ : ∃ O, O = lg T l := ⟨_, rfl⟩
  rw [← hO]
  have HOO := hideV hO
  clear hT hn hR hO
  go_enter Try.func32, Try.ntmps32
  go_wp2
  have HW : Hid (Lgw w ((w.alloc (.cells #[.string ⟨#[]⟩, .string ⟨#[]⟩] 37)).alloc (.cells #[.string ⟨#[]⟩, .string ⟨#[]⟩] 37)) ⟨#[]⟩ ⟨#[]⟩) := hideV ⟨(Kept.alloc _ _).trans (Kept.alloc _ _) (fun _ f => f.elim), (Kept.alloc _ _).heap (heap_alloc_new w _) (fun f => f), by
    have := heap_alloc_new (w.alloc (.cells #[.string ⟨#[]⟩, .string ⟨#[]⟩] 37)) (.cells #[.string ⟨#[]⟩, .string ⟨#[]⟩] 37)
    rwa [World.size_alloc] at this⟩
  go_loopw [8, 14] (fun f i wr => ∃ (k : Nat) (o : Option Rl), k ≤ n ∧ i = .int .i64 k ∧ f = .bool o.isSome ∧ Hid (o = (T.take k).foldl (lgF l) none ∧ (bo o).1.length ≤ 7 ∧ (o.isSome = true → sfx l (bo o).1 = true)) ∧ Hid (Lgw w wr (bq (bo o).1) (bq (bo o).2))) (fun _ i _ => n - (intOf i).toNat)
  case atStart => exact ⟨0, none, by omega, rfl, rfl, hideV ⟨rfl, by decide, fun h => by cases h⟩, HW⟩
  case round =>
    obtain ⟨k, o, hk, rfl, rfl, HO, HG⟩ := hrel
    clear HW
    obtain ⟨b0, b1, f0, f1, r0, r1, q0, q1⟩ := HG.out.cells
    by_cases hlt : k < n
    · have hlt2 : k < T.length := by rw [← HN.out]; exact hlt
      obtain ⟨x0, x1⟩ := (HR.out.kept HG.out.kept) k hlt2
      have h7 := HT.out _ (List.getElem_mem hlt2)
      have CE := fun w => hideV (HE.out T[k].1 w (by omega))
      have HL := hideV (lg_take T l k hlt2)
      rw [← HO.out.1] at HL
      have ho7 := HO.out.2.1
      have hos := HO.out.2.2
      have hki : (k : Int) < (n : Int) := by omega
      have hbb : w.heap.size + 1 < wr.heap.size := by have := (List.getElem?_eq_some_iff.1 (by simpa using congrArg id HG.out.best : wr.heap.toList[w.heap.size + 1]? = _)).1; simpa using this
      generalize T[k] = p at *
      have z1 : ((bq p.1).size : Int) = (p.1.length : Int) := by rw [bq_size]
      have z2 : ((bq (bo o).1).size : Int) = ((bo o).1.length : Int) := by rw [bq_size]
      clear HE HT HN HR HO r0 r1 q0 q1
      cases hs : sfx l p.1 with
      | false =>
        rw [hs] at CE
        have HQ : Hid (o = (T.take (k + 1)).foldl (lgF l) none ∧ (bo o).1.length ≤ 7 ∧ (o.isSome = true → sfx l (bo o).1 = true)) := hideV ⟨by rw [HL.out]; unfold lgF; rw [hs]; rfl, ho7, hos⟩
        have HG2 := hideV (HG.out.alloc (.cells #[.string (bq p.1), .string (bq p.2)] 37))
        generalize bq p.1 = e at *
        generalize bq p.2 = t at *
        clear HL HG hs hos ho7
        go_wp2_with (go_at_call 14; refine (CE _).out.mono ?_; clear CE; rintro e W ⟨rfl, e2⟩; subst e2)
        go_roundw
        case rel => exact ⟨k + 1, o, by omega, by go_num, rfl, HQ, HG2⟩
        case measure => simp [intOf]; omega
      | true =>
        rw [hs] at CE
        by_cases hb : o.isNone = true ∨ (bo o).1.length < p.1.length
        · have HQ : Hid (some p = (T.take (k + 1)).foldl (lgF l) none ∧ (bo (some p)).1.length ≤ 7 ∧ ((some p).isSome = true → sfx l (bo (some p)).1 = true)) := hideV ⟨by
            rw [HL.out]; unfold lgF; rw [hs, if_pos (by
              rw [Bool.true_and, Bool.or_eq_true, decide_eq_true_eq]; exact hb)], h7, fun _ => hs⟩
          have HG2 := hideV ((HG.out.put (bq p.1) (bq p.2)).alloc (.cells #[.string (bq p.1), .string (bq p.2)] 37))
          generalize hpe : bq p.1 = e at *
          generalize hpt : bq p.2 = t at *
          clear HL HG hs hos
          cases o with
          | none =>
            clear hb
            go_wp2_with (go_at_call 14; refine (CE _).out.mono ?_; clear CE; rintro e W ⟨rfl, e2⟩; subst e2)
            go_roundw
            case rel => exact ⟨k + 1, some p, by omega, by go_num, rfl, HQ, by show Hid (Lgw w _ (bq p.1) (bq p.2)); rw [hpe, hpt]; exact HG2⟩
            case measure => simp [intOf]; omega
          | some r =>
            have hb2 : (r.1.length : Int) < (p.1.length : Int) := by
              rcases hb with hb | hb
              · cases hb
              · have : r.1.length < p.1.length := hb; omega
            have z3 : ((bq (bo (some r)).1).size : Int) = (r.1.length : Int) := z2
            generalize bq (bo (some r)).1 = x at *
            generalize bq (bo (some r)).2 = y at *
            clear hb z2
            go_wp2_with (go_at_call 14; refine (CE _).out.mono ?_; clear CE; rintro e W ⟨rfl, e2⟩; subst e2)
            go_roundw
            case rel => exact ⟨k + 1, some p, by omega, by go_num, rfl, HQ, by show Hid (Lgw w _ (bq p.1) (bq p.2)); rw [hpe, hpt]; exact HG2⟩
            case measure => simp [intOf]; omega
        · cases o with
          | none => exact absurd (Or.inl rfl) hb
          | some r =>
            have HQ : Hid (some r = (T.take (k + 1)).foldl (lgF l) none ∧ (bo (some r)).1.length ≤ 7 ∧ ((some r).isSome = true → sfx l (bo (some r)).1 = true)) := hideV ⟨by
              rw [HL.out]; unfold lgF; rw [hs, if_neg (by
                rw [Bool.true_and, Bool.or_eq_true, decide_eq_true_eq]; exact hb)], ho7, hos⟩
            have hb2 : ¬ (r.1.length : Int) < (p.1.length : Int) := by
              intro h
              exact hb (Or.inr (by show r.1.length < p.1.length; omega))
            have z3 : ((bq (bo (some r)).1).size : Int) = (r.1.length : Int) := z2
            have HG2 := hideV (HG.out.alloc (.cells #[.string (bq p.1), .string (bq p.2)] 37))
            generalize bq p.1 = e at *
            generalize bq p.2 = t at *
            generalize hxx : bq (bo (some r)).1 = x at *
            generalize hyy : bq (bo (some r)).2 = y at *
            clear HL HG hs hos hb z2
            go_wp2_with (go_at_call 14; refine (CE _).out.mono ?_; clear CE; rintro e W ⟨rfl, e2⟩; subst e2)
            go_roundw
            case rel => exact ⟨k + 1, some r, by omega, by go_num, rfl, HQ, by rw [hxx, hyy]; exact HG2⟩
            case measure => simp [intOf]; omega
    · obtain rfl : k = n := by omega
      obtain rfl : o = O := by rw [HOO.out, HO.out.1, List.take_of_length_le (by rw [HN.out]; exact Nat.le_refl _)]; rfl
      have hle : (bo o).1.length ≤ l.length := by
        cases o with
        | none => exact Nat.zero_le _
        | some r => exact sfx_le (HO.out.2.2 rfl)
      obtain ⟨r, hr⟩ : ∃ r, r = l.length - (bo o).1.length := ⟨_, rfl⟩
      have x1 : (bq l).extract 0 r = bq (cutE l (bo o).1) := by rw [ext_take, hr]; rfl
      have z2 : ((bq (bo o).1).size : Int) = ((bo o).1.length : Int) := by rw [bq_size]
      have v1 : (l.length : Int) - ((bo o).1.length : Int) = (r : Int) := by omega
      have v2 : r ≤ l.length := by omega
      have v3 : IntKind.i64.wrap (r : Int) = (r : Int) := by rw [IntKind.wrap_i64]; omega
      have KF : Hid (∀ a b, Kept (fun _ => False) w ((wr.setCell ⟨w.heap.size, 0, none⟩ a).setCell ⟨w.heap.size, 1, none⟩ b).drew) := hideV (fun a b => ((HG.out.kept.trans (Kept.setCell _ _ _) (fun i e => .inr (by simp only at e; omega))).trans (Kept.setCell _ _ _) (fun i e => .inr (by simp only at e; omega))).trans (Kept.drew _) (fun _ f => f.elim))
      generalize hgR : bq (cutE l (bo o).1) = R at *
      generalize hgx : bq (bo o).1 = x at *
      generalize hgy : bq (bo o).2 = y at *
      generalize hgf : o.isSome = f at *
      have HH : Hid (bq (cutE l (bo o).1) = R ∧ bq (bo o).1 = x ∧ bq (bo o).2 = y ∧ o.isSome = f) := hideV ⟨hgR, hgx, hgy, hgf⟩
      generalize bq l = s at *
      clear hgR hgx hgy hgf
      clear HO HOO HE HT HN HR HG hle hr
      go_wp2
      go_region
      go_wp2
      have d0 : (((wr.setCell ⟨w.heap.size, 0, none⟩ (.string x)).setCell ⟨w.heap.size, 1, none⟩ (.string y)).drew).cell? ⟨w.heap.size, 0, none⟩ = some (.string x) := by
        show ((wr.setCell ⟨w.heap.size, 0, none⟩ (.string x)).setCell ⟨w.heap.size, 1, none⟩ (.string y)).cell? ⟨w.heap.size, 0, none⟩ = _
        rw [World.cell?_setCell_other _ _ _ _ (fun h => by injection h with _ h2 _; cases h2), World.cell?_setCell_same _ _ _ r0]
      have d1 : (((wr.setCell ⟨w.heap.size, 0, none⟩ (.string x)).setCell ⟨w.heap.size, 1, none⟩ (.string y)).drew).cell? ⟨w.heap.size, 1, none⟩ = some (.string y) := by
        show ((wr.setCell ⟨w.heap.size, 0, none⟩ (.string x)).setCell ⟨w.heap.size, 1, none⟩ (.string y)).cell? ⟨w.heap.size, 1, none⟩ = _
        rw [World.cell?_setCell_same _ _ _ (show (wr.setCell ⟨w.heap.size, 0, none⟩ (.string x)).cell? ⟨w.heap.size, 1, none⟩ = some (.string ⟨#[]⟩) by rw [World.cell?_setCell_other _ _ _ _ (fun h => by injection h with _ h2 _; cases h2)]; exact r1)]
      have KK := KF.out (.string x) (.string y)
      generalize ((wr.setCell ⟨w.heap.size, 0, none⟩ (.string x)).setCell ⟨w.heap.size, 1, none⟩ (.string y)).drew = W9 at d0 d1 KK ⊢
      refine bodyPost_ret (results_mid rfl _ _ _ w.heap.size _ rfl (rule_load d0 d1)) rfl ?_
      obtain ⟨g1, g2, g3, g4⟩ := HH.out
      rw [g1, g2, g3, g4]
      exact ⟨rfl, KK⟩
end Go.Proofs.Ytmfdoohnladohaa
