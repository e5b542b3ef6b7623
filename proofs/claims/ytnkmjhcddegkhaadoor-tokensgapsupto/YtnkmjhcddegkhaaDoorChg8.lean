import Derived.Test.YtnkmjhcddegkhaaDoorChg7
import Derived.Test.YtnkmjhcddegkhaaDoorSam
namespace Go.Proofs.YtnkmjhcddegkhaaDoor
open Go.ChangeShapes Go.WideShapes Go.ChangeAt Go.RowKit

/-- What a chain leaves of a token; of tokens. -/
def ch1 (TT : Nat → ByteArray) (K : List Nat) (x : Tk) : Option Tk := match thr TT K x.t.data.toList with
  | some t => if t.length ≤ 64 then some ⟨bq t, x.v, x.p, x.s, x.e⟩ else none
  | none => none
def chd (TT : Nat → ByteArray) (K : List Nat) (L : List Tk) : List Tk := L.filterMap (ch1 TT K)
theorem chd_take (TT : Nat → ByteArray) (K : List Nat) (L : List Tk) (k : Nat) (h : k < L.length) : chd TT K (L.take (k + 1)) = chd TT K (L.take k) ++ (match ch1 TT K L[k] with | some y => [y] | none => []) := by
  unfold chd
  rw [List.take_succ_eq_append_getElem h, List.filterMap_append]
  congr 1
  cases hc : ch1 TT K L[k] with
  | none => rw [List.filterMap_cons_none hc]; rfl
  | some y => rw [List.filterMap_cons_some hc]; rfl
theorem chd_len (TT : Nat → ByteArray) (K : List Nat) (L : List Tk) : (chd TT K L).length ≤ L.length := List.length_filterMap_le _ _
theorem Gro.put {w W : World} {e : TypeId} {sz : Nat} {v : Value} {n : Nat} {xs : List Value} (h : Gro w W e sz v n xs) (g i : Nat) (u : Value) (hne : v.ownBlock ≠ Option.some g) (hg : w.heap.size ≤ g) : Gro w (W.setCell ⟨g, i, none⟩ u) e sz v n xs :=
  ⟨(Kept.setCell W ⟨g, i, none⟩ u).row h.own (fun k hk e => hne (by rw [hk]; simp only at e; rw [e])), h.kept.trans (Kept.setCell _ _ _) (fun i e => .inr (by simp only at e; omega))⟩
theorem Gro.below {w W : World} {e : TypeId} {sz : Nat} {v : Value} {n : Nat} {xs : List Value} (h : Gro w W e sz v n xs) : v.ownBlock ≠ Option.some W.heap.size := fun e => by
  have := (h.own.lt _ e).2; omega
theorem tok_kept {wr W : World} {t : ByteArray} {v p s e : Int} (K : Kept (fun _ => False) (wr.alloc (.cells #[.string t, .int .i64 v, .int .i64 p, .int .i64 s, .int .i64 e] 29)) W) :
    W.cell? ⟨wr.heap.size, 0, none⟩ = some (.string t) ∧ W.cell? ⟨wr.heap.size, 1, none⟩ = some (.int .i64 v) ∧ W.cell? ⟨wr.heap.size, 2, none⟩ = some (.int .i64 p) ∧ W.cell? ⟨wr.heap.size, 3, none⟩ = some (.int .i64 s) ∧ W.cell? ⟨wr.heap.size, 4, none⟩ = some (.int .i64 e) ∧ W.frozen? ⟨wr.heap.size, 0, none⟩ = false := by
  have hh := K.heap (heap_alloc_new wr _) (fun f => f)
  exact ⟨cell_of_row _ _ 0 _ _ _ hh, cell_of_row _ _ 1 _ _ _ hh, cell_of_row _ _ 2 _ _ _ hh, cell_of_row _ _ 3 _ _ _ hh, cell_of_row _ _ 4 _ _ _ hh, by simp [World.frozen?, hh]⟩
theorem wpList_pushTb {w0 W : World} {ops : Array Oper} {rest : List Oper} {o : Oper} {act : Act} {Q : Exit → Act → World → Prop} (hgd : o.guard = none) (s x : Operand)
    (ho : o.op = .call { callee := .builtin .append, args := #[s, x], argTypes := #[25, 25] }) (v : Value) (n m : Nat) (xs ys : List Value) (t : ByteArray) (a b c d : Int) (hs : act.eval s = v) (hG : Hid (Gro w0 W 29 5 v n xs)) (bb : Nat) (hbb : bb = W.heap.size) (hx : act.eval x = .slice (some ⟨bb, 0, none⟩) 1 1)
    (hl : Hid (ys = xs ++ [.string t, .int .i64 a, .int .i64 b, .int .i64 c, .int .i64 d])) (hm : m = n + 1) (hb : n ≤ 2199023255552)
    (h : ∀ a' c' W', Hid (Gro w0 W' 29 5 (.slice a' m c') m ys) → wpList Tryd.prog ops Q rest (act.put o.dst (.slice a' m c')) W') : wpList Tryd.prog ops Q (o :: rest) act (W.alloc (.cells #[.string t, .int .i64 a, .int .i64 b, .int .i64 c, .int .i64 d] 29)) := by
  subst hbb
  exact wpList_pushT hgd s x ho v n m xs ys t a b c d hs hG hx hl hm hb h
set_option maxRecDepth 20000 in
set_option maxHeartbeats 4000000 in
theorem chained_any (TT : Nat → ByteArray) (K : List Nat) (hK : ∀ x ∈ K, x < 3) (a0 : Option Addr) (n0 c0 : Nat) (L : List Tk) (b : Option Addr) (n d : Nat) (w1 w2 w : World) (hn0 : n0 = K.length) (hn9 : n0 ≤ 3) (hn : n = L.length) (hn2 : n ≤ 1099511627776) (hL : ∀ x ∈ L, x.t.size ≤ 281474976710000)
    (hC : Gro w1 w 72 1 (.slice a0 n0 c0) n0 (K.map ck)) (hT : Gro w2 w 29 5 (.slice b n d) n (tkvs L)) (hS : StopsT TT w) :
    Calls Tryd.prog 23 #[.slice a0 n0 c0, .slice b n d] w fun e w' => ∃ a c, e = .returned (.slice a (chd TT K L).length c) ∧ Gro w w' 29 5 (.slice a (chd TT K L).length c) (chd TT K L).length (tkvs (chd TT K L)) := by
  have HC := hideV hC
  have HT := hideV hT
  have HS := hideV hS
  have HN := hideV hn
  have HL := hideV hL
  have HTH := hideV (fun m W (hm : m.length ≤ 281474976710000) hG hS => through_any TT K hK a0 n0 c0 m w1 W hn0 hn9 hm hG hS)
  clear hC hT hS hn hL hK hn0
  go_enter Tryd.func23, Tryd.ntmps23
  go_wp2
  go_loopw [5, 12] (fun v i wr => ∃ (k m : Nat) (a : Option Addr) (c : Nat), k ≤ n ∧ m ≤ n ∧ i = .int .i64 k ∧ v = .slice a m c ∧ Hid (m = (chd TT K (L.take k)).length) ∧ Hid (Gro w wr 29 5 (.slice a m c) m (tkvs (chd TT K (L.take k))))) (fun _ i _ => n - (intOf i).toNat)
  case atStart => exact ⟨0, 0, _, _, by omega, by omega, rfl, rfl, rfl, gro_nil w _ _⟩
  case round =>
    obtain ⟨k, m, a, c, hk, hmn, rfl, rfl, HM, HG⟩ := hrel
    by_cases hlt : k < n
    · have hlt2 : k < L.length := by rw [← HN.out]; exact hlt
      obtain ⟨g, rfl⟩ := HT.out.some (by omega)
      obtain ⟨x0, x1, x2, x3, x4⟩ := (HT.out.later HG.out.kept).tok hlt2
      have hz := HL.out _ (List.getElem_mem hlt2)
      have HX := hideV (chd_take TT K L k hlt2)
      have hki : (k : Int) < (n : Int) := by omega
      have hmk : m ≤ k := by
        have h1 := chd_len TT K (L.take k)
        rw [← HM.out, List.length_take] at h1
        omega
      generalize L[k] = X at *
      obtain ⟨xt, xv, xp, xs, xe⟩ := X
      simp only at x0 x1 x2 x3 x4 hz
      obtain ⟨tl, htl⟩ : ∃ tl, tl = xt.data.toList := ⟨_, rfl⟩
      have hxt : xt = bq tl := by rw [htl]; rfl
      have htz : tl.length ≤ 281474976710000 := by rw [htl, Array.length_toList]; exact hz
      have hch : ch1 TT K ⟨xt, xv, xp, xs, xe⟩ = match thr TT K tl with | some t => if t.length ≤ 64 then some ⟨bq t, xv, xp, xs, xe⟩ else none | none => none := by rw [htl]; rfl
      rw [hch] at HX
      subst hxt
      have KA : Hid (Kept (fun _ => False) wr (wr.alloc (.cells #[.string (bq tl), .int .i64 xv, .int .i64 xp, .int .i64 xs, .int .i64 xe] 29))) := hideV (Kept.alloc _ _)
      have CT := hideV (HTH.out tl _ htz ((HC.out.later HG.out.kept).later KA.out) (HS.out.kept (HG.out.kept.trans KA.out (fun _ f => f.elim)) (fun f => f)))
      have HB0 := hideV HG.out.below
      have hws := HG.out.kept.size
      clear hch htl hz htz HTH HC HS HL HN HT
      cases hth : thr TT K tl with
      | none =>
        rw [hth] at CT HX
        have CT2 : Hid (Calls Tryd.prog 41 #[.slice a0 n0 c0, .string (bq tl)] (wr.alloc (.cells #[.string (bq tl), .int .i64 xv, .int .i64 xp, .int .i64 xs, .int .i64 xe] 29)) fun e w' => e = .returned (.tuple #[.string ⟨#[]⟩, .bool false]) ∧ Kept (fun _ => False) (wr.alloc (.cells #[.string (bq tl), .int .i64 xv, .int .i64 xp, .int .i64 xs, .int .i64 xe] 29)) w') := CT
        have HX2 : Hid (chd TT K (L.take (k + 1)) = chd TT K (L.take k)) := hideV (by have := HX.out; rwa [List.append_nil] at this)
        clear CT HX hth
        generalize bq tl = ts at *
        go_wp2_with (go_at_call 41; refine CT2.out.mono ?_; clear CT2; rintro e W ⟨rfl, K2⟩)
        go_roundw
        case rel => exact ⟨k + 1, m, a, c, by omega, by omega, by go_num, rfl, by rw [HX2.out]; exact HM, by rw [HX2.out]; exact (HG.out.later KA.out).later K2⟩
        case measure => simp [intOf]; omega
      | some t =>
        rw [hth] at CT HX
        have CT2 : Hid (Calls Tryd.prog 41 #[.slice a0 n0 c0, .string (bq tl)] (wr.alloc (.cells #[.string (bq tl), .int .i64 xv, .int .i64 xp, .int .i64 xs, .int .i64 xe] 29)) fun e w' => e = .returned (.tuple #[.string (bq t), .bool true]) ∧ Kept (fun _ => False) (wr.alloc (.cells #[.string (bq tl), .int .i64 xv, .int .i64 xp, .int .i64 xs, .int .i64 xe] 29)) w') := CT
        have sz : ((bq t).size : Int) = (t.length : Int) := by rw [bq_size]
        clear CT hth
        by_cases h64 : t.length ≤ 64
        · have h64i : ¬ (64 : Int) < (t.length : Int) := by omega
          have HX2 : Hid (tkvs (chd TT K (L.take (k + 1))) = tkvs (chd TT K (L.take k)) ++ [.string (bq t), .int .i64 xv, .int .i64 xp, .int .i64 xs, .int .i64 xe]) := hideV (by
            have := HX.out
            simp only [if_pos h64] at this
            rw [this, tkvs_append]; rfl)
          have HM2 : Hid (m + 1 = (chd TT K (L.take (k + 1))).length) := hideV (by
            have := HX.out
            simp only [if_pos h64] at this
            rw [this, List.length_append, ← HM.out]; rfl)
          clear HX
          generalize bq tl = ts at *
          generalize bq t = tt at *
          go_wp2_with (first
            | (go_at_call 41; refine CT2.out.mono ?_; clear CT2; rintro e W ⟨rfl, K2⟩; obtain ⟨y0, y1, y2, y3, y4, fz⟩ := tok_kept K2; have HG2 := hideV (((HG.out.later KA.out).later K2).put wr.heap.size 0 (.string tt) HB0.out hws))
            | (at_builtin; refine wpList_pushTb rfl _ _ rfl _ m (m + 1) _ _ _ _ _ _ _ rfl HG2 _ (by first | rfl | simp [World.setCell]) rfl HX2 rfl (by omega) ?_; intro a' c' W' HG'))
          go_roundw
          case rel => exact ⟨k + 1, m + 1, a', c', by omega, by omega, by go_num, rfl, HM2, HG'⟩
          case measure => simp [intOf]; omega
        · have h64i : (64 : Int) < (t.length : Int) := by omega
          have HX2 : Hid (chd TT K (L.take (k + 1)) = chd TT K (L.take k)) := hideV (by
            have := HX.out
            simp only [if_neg h64] at this
            rwa [List.append_nil] at this)
          clear HX
          generalize bq tl = ts at *
          generalize bq t = tt at *
          go_wp2_with (go_at_call 41; refine CT2.out.mono ?_; clear CT2; rintro e W ⟨rfl, K2⟩)
          go_roundw
          case rel => exact ⟨k + 1, m, a, c, by omega, by omega, by go_num, rfl, by rw [HX2.out]; exact HM, by rw [HX2.out]; exact (HG.out.later KA.out).later K2⟩
          case measure => simp [intOf]; omega
    · obtain rfl : k = n := by omega
      have hT : L.take k = L := List.take_of_length_le (by rw [HN.out]; exact Nat.le_refl _)
      rw [hT] at HM HG
      have e2 := HM.out
      subst e2
      clear HC HT HS HL HTH HN
      go_wp2
      go_ret
      exact ⟨a, c, rfl, HG.out⟩
end Go.Proofs.YtnkmjhcddegkhaaDoor
