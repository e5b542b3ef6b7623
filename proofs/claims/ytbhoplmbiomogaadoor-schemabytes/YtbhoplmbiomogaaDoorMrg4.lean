import Derived.Test.YtbhoplmbiomogaaDoorMrg3
import Derived.Test.YtbhoplmbiomogaaDoorRdb2
import Derived.Test.YtbhoplmbiomogaaDoorPrs2
import Derived.Test.YtbhoplmbiomogaaDoorScy
namespace Go.Proofs.YtbhoplmbiomogaaDoor
open Go.ChangeShapes Go.WideShapes Go.ChangeAt Go.RowKit

theorem hideD {p : Prop} (h : p) : Hid p := h
/-- A number with a limit; a text of at most 32 bytes; the fields; all, by their numbers of errors. -/
def rup (most : Nat) (l : List Int) (p : Nat) : Except Nat (Nat × Nat) := match rdu 0 0 (l.drop p) with
  | .error e => .error e
  | .ok (x, k) => if x ≤ most then .ok (x, k) else .error 2
def rtx (l : List Int) (p : Nat) : Except Nat (List Int × Nat) := match rup 32 l p with
  | .error e => .error e
  | .ok (n, k) => if p + k + n ≤ l.length then .ok ((l.drop (p + k)).take n, p + k + n) else .error 0
def rfd (l : List Int) : Nat → Nat → Except Nat (List Fd × List Nat × Nat)
  | 0, p => .ok ([], [], p)
  | n + 1, p => match rtx l p with
    | .error e => .error e
    | .ok (t, q) => if q < l.length then (match rfd l n (q + 1) with
        | .error e => .error e
        | .ok (F, B, r) => .ok (fdOf (strOfNums t) (l[q]?.getD 0).toNat :: F, (l[q]?.getD 0).toNat :: B, r)) else .error 0
theorem rdu_err : ∀ (l : List Int) (i acc er : Nat), rdu i acc l = .error er → er = 0 ∨ er = 1
  | [], i, acc, er, h => by unfold rdu at h; injection h with h; exact .inl h.symm
  | c :: r, i, acc, er, h => by
    unfold rdu at h
    split at h
    · injection h with h; exact .inr h.symm
    · split at h
      · split at h
        · injection h with h; exact .inr h.symm
        · cases h
      · exact rdu_err r _ _ _ h
theorem rup_ok {most : Nat} {l : List Int} {p x k : Nat} (h : rup most l p = .ok (x, k)) : rdu 0 0 (l.drop p) = .ok (x, k) ∧ x ≤ most := by
  unfold rup at h
  split at h
  · cases h
  · rename_i x' k' e
    split at h
    · injection h with h; injection h with h1 h2; subst h1 h2; exact ⟨e, by assumption⟩
    · cases h
theorem rup_err {most : Nat} {l : List Int} {p er : Nat} (h : rup most l p = .error er) : (rdu 0 0 (l.drop p) = .error er ∧ (er = 0 ∨ er = 1)) ∨ (er = 2 ∧ ∃ x k, rdu 0 0 (l.drop p) = .ok (x, k) ∧ most < x) := by
  unfold rup at h
  split at h
  · rename_i e he
    injection h with h
    subst h
    exact .inl ⟨he, rdu_err _ _ _ _ he⟩
  · rename_i x k he
    split at h
    · cases h
    · injection h with h
      exact .inr ⟨h.symm, x, k, he, by omega⟩
theorem rtx_le {l t : List Int} {p q : Nat} (h : rtx l p = .ok (t, q)) : q ≤ l.length := by
  unfold rtx at h
  split at h
  · cases h
  · split at h
    · injection h with h; injection h with h1 h2; omega
    · cases h
/-- The errors that reading may meet. -/
structure Er5 (w : World) (ad : Nat → Addr) : Prop where
  s0 : w.cell? ⟨1, 0, none⟩ = some (errV (ad 0))
  s1 : w.cell? ⟨2, 0, none⟩ = some (errV (ad 1))
  s2 : w.cell? ⟨3, 0, none⟩ = some (errV (ad 2))
  s4 : w.cell? ⟨5, 0, none⟩ = some (errV (ad 4))
theorem Er5.drewN {w : World} {ad : Nat → Addr} (h : Er5 w ad) (n : Nat) : Er5 (w.drewN n) ad := ⟨h.s0, h.s1, h.s2, h.s4⟩
theorem Er5.kept {F : Nat → Prop} {w w' : World} {ad : Nat → Addr} (h : Er5 w ad) (k : Kept F w w') (hF : ∀ g, g = 1 ∨ g = 2 ∨ g = 3 ∨ g = 5 → ¬ F g) : Er5 w' ad :=
  ⟨k.cell h.s0 (hF _ (.inl rfl)), k.cell h.s1 (hF _ (.inr (.inl rfl))), k.cell h.s2 (hF _ (.inr (.inr (.inl rfl)))), k.cell h.s4 (hF _ (.inr (.inr (.inr rfl))))⟩
theorem errOf_ad {ad : Nat → Addr} {er : Nat} (h : er = 0 ∨ er = 1) : errOf (ad 0) (ad 1) er = errV (ad er) := by
  rcases h with rfl | rfl <;> rfl
/-- uptoAt where it refuses. -/
theorem upat_e {most : Nat} {l : List Int} {p er : Nat} {ad : Nat → Addr} (w : World) (hB : IsBytes l) (hp : p ≤ l.length) (hl : l.length ≤ 140737488355328) (hm : most ≤ 32) (hE : Er5 w ad) (h : rup most l p = .error er) :
    ∀ a c, BytesAt w a l → ∀ n, Calls Tryd.prog 54 #[.slice a l.length c, .int .i64 p, .int .i64 (most : Nat)] (w.drewN n) fun e w' => e = .returned (.tuple #[.int .i64 0, .int .i64 0, errV (ad er)]) ∧ ∃ m, w' = (w.drewN n).drewN m := by
  intro a c hba n
  have hE' := hE.drewN n
  have hba' : BytesAt (w.drewN n) a l := hba
  rcases rup_err h with ⟨hr, he⟩ | ⟨rfl, x, k, hr, hx⟩
  · rw [← errOf_ad he]
    exact upat_err l a c p er _ _ _ _ hba' hB hp (by omega) hE'.s0 hE'.s1 hr
  · exact upat_lim l a c p x k _ _ _ _ _ hba' hB hp (by omega) hE'.s0 hE'.s1 hE'.s2 hr (by omega) (by omega)
theorem upto_e {most : Nat} {l : List Int} {p er br : Nat} {v : Value} {ad : Nat → Addr} (w : World) (h : Rd w br v l p) (hm : most ≤ 32) (hE : Er5 w ad) (hr : rup most l p = .error er) :
    Calls Tryd.prog 40 #[.pointer (some ⟨br, 0, none⟩), .int .i64 (most : Nat)] w fun e w' => e = .returned (.tuple #[.int .i64 0, errV (ad er)]) ∧ ∃ n, w' = w.drewN n :=
  rupto_bad br v l p _ _ w h (upat_e w h.isb h.le h.sm hm hE hr)
theorem upto_o {most : Nat} {l : List Int} {p x k br : Nat} {v : Value} {ad : Nat → Addr} (w : World) (h : Rd w br v l p) (hm : most ≤ 32) (hE : Er5 w ad) (hr : rup most l p = .ok (x, k)) :
    Calls Tryd.prog 40 #[.pointer (some ⟨br, 0, none⟩), .int .i64 (most : Nat)] w fun e w' => e = .returned (.tuple #[.int .i64 x, .nilIface]) ∧ Rd w' br v l (p + k) ∧ Kept (fun i => i = br) w w' :=
  rupto_ok br v l p x k _ _ _ w h (rup_ok hr).1 (by have := (rup_ok hr).2; omega) (by omega) hE.s0 hE.s1
theorem text_e {l : List Int} {p er br : Nat} {v : Value} {ad : Nat → Addr} (w : World) (h : Rd w br v l p) (hE : Er5 w ad) (hr : rtx l p = .error er) :
    Calls Tryd.prog 41 #[.pointer (some ⟨br, 0, none⟩), .int .i64 32] w fun e w' => e = .returned (.tuple #[.string ByteArray.empty, errV (ad er)]) ∧ ∃ n, w' = w.drewN n := by
  unfold rtx at hr
  split at hr
  · rename_i e he
    injection hr with hr
    subst hr
    exact rtext_bad br v l p _ _ w h (upat_e w h.isb h.le h.sm (most := 32) (by omega) hE he)
  · rename_i n k he
    split at hr
    · cases hr
    · injection hr with hr
      subst hr
      exact rtext_short br v l p n k _ _ _ w h (rup_ok he).1 (by have := (rup_ok he).2; omega) (by omega) (by omega) hE.s0 hE.s1
theorem text_o {l t : List Int} {p q br : Nat} {v : Value} {ad : Nat → Addr} (w : World) (h : Rd w br v l p) (hE : Er5 w ad) (hr : rtx l p = .ok (t, q)) :
    Calls Tryd.prog 41 #[.pointer (some ⟨br, 0, none⟩), .int .i64 32] w fun e w' => e = .returned (.tuple #[.string (strOfNums t), .nilIface]) ∧ Rd w' br v l q ∧ Kept (fun i => i = br) w w' := by
  unfold rtx at hr
  split at hr
  · cases hr
  · rename_i n k he
    split at hr
    · injection hr with hr
      injection hr with h1 h2
      subst h1 h2
      exact rtext_ok br v l p n k _ _ _ w h (rup_ok he).1 (by have := (rup_ok he).2; omega) (by omega) (by omega) hE.s0 hE.s1
    · cases hr
end Go.Proofs.YtbhoplmbiomogaaDoor
namespace Go.Proofs.YtbhoplmbiomogaaDoor
open Go.ChangeShapes Go.WideShapes Go.ChangeAt Go.RowKit

/-- What is read behind what was read. -/
def prd (F : List Fd) (B : List Nat) : Except Nat (List Fd × List Nat × Nat) → Except Nat (List Fd × List Nat × Nat)
  | .error e => .error e
  | .ok (F', B', r) => .ok (F ++ F', B ++ B', r)
theorem prd_nil (x : Except Nat (List Fd × List Nat × Nat)) : prd [] [] x = x := by
  match x with
  | .error e => rfl
  | .ok (F, B, r) => rfl
theorem prd_text {l : List Int} {F : List Fd} {B : List Nat} {m p er : Nat} (h : rtx l p = .error er) : prd F B (rfd l (m + 1) p) = .error er := by
  rw [rfd, h]; rfl
theorem prd_short {l t : List Int} {F : List Fd} {B : List Nat} {m p q : Nat} (h : rtx l p = .ok (t, q)) (hq : ¬ q < l.length) : prd F B (rfd l (m + 1) p) = .error 0 := by
  rw [rfd, h]; simp only [hq, if_false]; rfl
theorem prd_step {l t : List Int} {F : List Fd} {B : List Nat} {m p q : Nat} (h : rtx l p = .ok (t, q)) (hq : q < l.length) :
    prd F B (rfd l (m + 1) p) = prd (F ++ [fdOf (strOfNums t) (l[q]?.getD 0).toNat]) (B ++ [(l[q]?.getD 0).toNat]) (rfd l m (q + 1)) := by
  rw [rfd, h]
  simp only [hq, if_true]
  cases rfd l m (q + 1) with
  | error e => rfl
  | ok x => obtain ⟨F', B', r⟩ := x; simp [prd]
def orL (B : List Nat) : Nat := B.foldl (· ||| ·) 0
theorem orL_snoc (B : List Nat) (b : Nat) : orL (B ++ [b]) = orL B ||| b := by simp [orL]
/-- What decodeFields answers. -/
def dPost (ws : Nat) (l : List Int) (ad : Nat → Addr) (w' : World) (e : Ending) : Prop := match rup 16 l 0 with
  | .error er => e = .returned (.tuple #[.agg #[.slice none 0 0], .int .u8 0, errV (ad er)])
  | .ok (n, k) => match rfd l n k with
    | .error er => e = .returned (.tuple #[.agg #[.slice none 0 0], .int .u8 0, errV (ad er)])
    | .ok (F, B, r) => ∃ a c, e = .returned (.tuple #[.agg #[.slice a F.length c], .int .u8 ((orL B : Nat) : Int), if r < l.length then errV (ad 4) else .nilIface]) ∧ FsAt w' a F ∧ ∀ b off, a = some ⟨b, off, none⟩ → ws < b
theorem dp_up {ws : Nat} {l : List Int} {ad : Nat → Addr} {w' : World} {e : Ending} {er : Nat} (h : rup 16 l 0 = .error er) (he : e = .returned (.tuple #[.agg #[.slice none 0 0], .int .u8 0, errV (ad er)])) : dPost ws l ad w' e := by rw [dPost, h]; exact he
theorem dp_fd {ws : Nat} {l : List Int} {ad : Nat → Addr} {w' : World} {e : Ending} {n k er : Nat} (h : rup 16 l 0 = .ok (n, k)) (h2 : rfd l n k = .error er) (he : e = .returned (.tuple #[.agg #[.slice none 0 0], .int .u8 0, errV (ad er)])) : dPost ws l ad w' e := by rw [dPost, h]; simp only [h2]; exact he
theorem dp_ok {ws : Nat} {l : List Int} {ad : Nat → Addr} {w' : World} {e : Ending} {n k r : Nat} {F : List Fd} {B : List Nat} {a : Option Addr} {c m : Nat} (h : rup 16 l 0 = .ok (n, k)) (h2 : rfd l n k = .ok (F, B, r)) (hm : F.length = m) (he : e = .returned (.tuple #[.agg #[.slice a m c], .int .u8 ((orL B : Nat) : Int), if r < l.length then errV (ad 4) else .nilIface])) (hF : FsAt w' a F) (ha : ∀ b off, a = some ⟨b, off, none⟩ → ws < b) : dPost ws l ad w' e := by
  subst hm
  rw [dPost, h]
  simp only [h2]
  exact ⟨a, c, he, hF, ha⟩
theorem take_set5 {xs A : List Value} {m : Nat} {a b c d e : Value} (hA : xs.take m = A) (hm : A.length = m) (hl : m + 5 ≤ xs.length) :
    (((((xs.set m a).set (m + 1) b).set (m + 2) c).set (m + 3) d).set (m + 4) e).take (m + 5) = A ++ [a, b, c, d, e] := by
  apply List.ext_getElem?
  intro j
  by_cases h0 : j < m
  · rw [List.getElem?_take, if_pos (by omega), List.getElem?_append_left (by omega), ← hA, List.getElem?_take, if_pos h0]
    simp only [List.getElem?_set]
    simp only [show ¬ m = j from by omega, show ¬ m + 1 = j from by omega, show ¬ m + 2 = j from by omega, show ¬ m + 3 = j from by omega, show ¬ m + 4 = j from by omega, if_false]
  · by_cases h5 : j < m + 5
    · rw [List.getElem?_take, if_pos h5, List.getElem?_append_right (by omega), hm]
      obtain rfl | rfl | rfl | rfl | rfl : j = m ∨ j = m + 1 ∨ j = m + 2 ∨ j = m + 3 ∨ j = m + 4 := by omega
      all_goals (simp [List.getElem?_set]; try omega)
    · rw [List.getElem?_take, if_neg h5, List.getElem?_eq_none]
      rw [List.length_append, hm]
      simp
      omega
theorem fcells_len (F : List Fd) : (fcells F).length = F.length * 5 := by
  induction F with
  | nil => rfl
  | cons f r ih =>
    have e : fcells (f :: r) = f.cells ++ fcells r := by simp [fcells]
    rw [e, List.length_append, ih, List.length_cons]
    simp [Fd.cells]
    omega
end Go.Proofs.YtbhoplmbiomogaaDoor
namespace Go.Proofs.YtbhoplmbiomogaaDoor
open Go.ChangeShapes Go.WideShapes Go.ChangeAt Go.RowKit

/-- Done. -/
theorem done_any {l : List Int} {p br : Nat} {v : Value} {ad : Nat → Addr} (w : World) (h : Rd w br v l p) (hE : Er5 w ad) :
    Calls Tryd.prog 44 #[.pointer (some ⟨br, 0, none⟩)] w fun e w' => e = .returned (if p < l.length then errV (ad 4) else .nilIface) ∧ ∃ n, w' = w.drewN n := by
  have CL := hideD (left_any br v l p w h)
  have e4 := hE.s4
  have hs := h.sm
  clear h hE
  by_cases hp : p < l.length
  · rw [if_pos hp]
    have h1 : (0 : Int) < ((l.length - p : Nat) : Int) := by omega
    have h2 : decide (0 < l.length - p) = true := decide_eq_true (by omega)
    generalize l.length - p = m at *
    go_enter Tryd.func44, Tryd.ntmps44
    go_wp2_with (go_at_call 55; refine CL.out.mono ?_; clear CL; rintro e W1 ⟨rfl, q, rfl⟩; have e5 : (w.drewN q).cell? ⟨5, 0, none⟩ = some (errV (ad 4)) := e4)
    go_ret
    exact ⟨rfl, q, rfl⟩
  · rw [if_neg hp]
    have h0 : l.length - p = 0 := by omega
    rw [h0] at CL
    go_enter Tryd.func44, Tryd.ntmps44
    go_wp2_with (go_at_call 55; refine CL.out.mono ?_; clear CL; rintro e W1 ⟨rfl, q, rfl⟩)
    go_ret
    exact ⟨rfl, q, rfl⟩
set_option maxRecDepth 20000 in
set_option maxHeartbeats 8000000 in
/-- decodeFields where the count is refused. -/
theorem decF_up {l : List Int} {br er : Nat} {v : Value} {ad : Nat → Addr} (w : World) (h : Rd w br v l 0) (hE : Er5 w ad) (hr : rup 16 l 0 = .error er) :
    Calls Tryd.prog 26 #[.pointer (some ⟨br, 0, none⟩)] w fun e w' => e = .returned (.tuple #[.agg #[.slice none 0 0], .int .u8 0, errV (ad er)]) ∧ Kept (fun _ => False) w w' := by
  have KA := Kept.alloc w (.cells #[.slice none 0 0] 24)
  have CU := hideD (upto_e _ (h.kept KA (fun f => f) (fun _ _ f => f)) (by omega) (hE.kept KA (fun _ _ f => f)) hr)
  have HR : Hid ((w.alloc (.cells #[.slice none 0 0] 24)).heap[w.heap.size]? = some (.cells #[.slice none 0 0] 24 (0, 0))) := hideD (heap_alloc_new w _)
  have HK := hideD KA
  obtain ⟨EV, hEV⟩ : ∃ a, errV (ad er) = .iface 125 (.pointer (some a)) := ⟨_, rfl⟩
  rw [hEV] at CU ⊢
  clear KA h hE hr hEV
  go_enter Tryd.func26, Tryd.ntmps26
  go_wp2_with (go_at_call 40; refine CU.out.mono ?_; clear CU; rintro e W1 ⟨rfl, q, rfl⟩; have HR1 : Hid (((w.alloc (.cells #[.slice none 0 0] 24)).drewN q).heap[w.heap.size]? = some (.cells #[.slice none 0 0] 24 (0, 0))) := HR; have HK1 : Hid (Kept (fun _ => False) w ((w.alloc (.cells #[.slice none 0 0] 24)).drewN q)) := hideD (HK.out.trans (Kept.drewN _ _) (fun _ f => f.elim)); generalize (w.alloc (.cells #[.slice none 0 0] 24)).drewN q = W1 at HR1 HK1 ⊢; have f1 := free_of_one HR1.out; have c1 := cell_of_one HR1.out)
  have c6 : (W1.setCell ⟨w.heap.size, 0, none⟩ (.slice none 0 0)).cell? ⟨w.heap.size, 0, none⟩ = some (.slice none 0 0) := cell_of_one (one_setCell HR1.out)
  refine bodyPost_ret (v := .tuple #[.agg #[.slice none 0 0], .int .u8 0, .iface 125 (.pointer (some EV))]) (by simp [results, Tryd.results26, go_sem, c6]) rfl ⟨rfl, ?_⟩
  exact HK1.out.trans (Kept.setCell _ _ _) (fun i hi => .inr (Nat.le_of_eq hi.symm))
end Go.Proofs.YtbhoplmbiomogaaDoor
namespace Go.Proofs.YtbhoplmbiomogaaDoor
open Go.ChangeShapes Go.WideShapes Go.ChangeAt Go.RowKit

/-- A list of fields that was made whole, and is filled from its beginning. -/
structure Mk (w : World) (gf n : Nat) (F : List Fd) : Prop where
  row : ∃ cs : Array Value, w.heap[gf]? = some (.cells cs 46 (0, 0)) ∧ cs.size = n * 5 ∧ cs.toList.take (F.length * 5) = fcells F
theorem Mk.kept {P : Nat → Prop} {w w' : World} {gf n : Nat} {F : List Fd} (h : Mk w gf n F) (k : Kept P w w') (hP : ¬ P gf) : Mk w' gf n F := by
  obtain ⟨cs, h1, h2, h3⟩ := h.row
  exact ⟨cs, k.heap h1 hP, h2, h3⟩
theorem Mk.spot {w : World} {gf n : Nat} {F : List Fd} (h : Mk w gf n F) {j : Nat} (hj : j < n * 5) : ∃ u, w.cell? ⟨gf, j, none⟩ = some u ∧ w.frozen? ⟨gf, j, none⟩ = false := by
  obtain ⟨cs, h1, h2, -⟩ := h.row
  exact ⟨cs[j]'(by omega), by simp [World.cell?, h1, h2, hj], by simp [World.frozen?, h1]⟩
/-- The world behind the five stores of one field. -/
def put5 (w : World) (gf o : Nat) (f : Fd) : World := ((((w.setCell ⟨gf, o, none⟩ (.string f.n)).setCell ⟨gf, o + 1, none⟩ (.int .i64 f.k)).setCell ⟨gf, o + 2, none⟩ (.bool f.fo)).setCell ⟨gf, o + 3, none⟩ (.bool f.st)).setCell ⟨gf, o + 4, none⟩ (.bool f.se)
theorem Mk.put {w : World} {gf n : Nat} {F : List Fd} (h : Mk w gf n F) (f : Fd) (hn : F.length < n) : Mk (put5 w gf (F.length * 5) f) gf n (F ++ [f]) := by
  obtain ⟨cs, h1, h2, h3⟩ := h.row
  have e1 := Go.heap_setCell_same w gf (F.length * 5) cs _ (.string f.n) h1
  have e2 := Go.heap_setCell_same _ gf (F.length * 5 + 1) _ _ (.int .i64 f.k) e1
  have e3 := Go.heap_setCell_same _ gf (F.length * 5 + 2) _ _ (.bool f.fo) e2
  have e4 := Go.heap_setCell_same _ gf (F.length * 5 + 3) _ _ (.bool f.st) e3
  have e5 := Go.heap_setCell_same _ gf (F.length * 5 + 4) _ _ (.bool f.se) e4
  refine ⟨_, e5, by simp only [Array.size_setIfInBounds]; exact h2, ?_⟩
  have hl : (fcells F).length = F.length * 5 := fcells_len F
  have ht := take_set5 (a := .string f.n) (b := .int .i64 f.k) (c := .bool f.fo) (d := .bool f.st) (e := .bool f.se) h3 hl (by have hx : cs.toList.length = n * 5 := (by rw [Array.length_toList]; exact h2); omega)
  rw [List.length_append, List.length_singleton, Nat.add_mul, fcells_snoc]
  simp only [Array.toList_setIfInBounds]
  exact ht
theorem kset (w : World) (gf o : Nat) (u : Value) : Kept (fun k => k = gf) w (w.setCell ⟨gf, o, none⟩ u) := Kept.setCell w ⟨gf, o, none⟩ u
theorem put5_kept (w : World) (gf o : Nat) (f : Fd) : Kept (fun k => k = gf) w (put5 w gf o f) := by
  unfold put5
  refine Kept.trans ?_ (kset _ gf (o + 4) _) (fun _ h => .inl h)
  refine Kept.trans ?_ (kset _ gf (o + 3) _) (fun _ h => .inl h)
  refine Kept.trans ?_ (kset _ gf (o + 2) _) (fun _ h => .inl h)
  exact Kept.trans (kset _ gf o _) (kset _ gf (o + 1) _) (fun _ h => .inl h)
theorem Mk.fs {w : World} {gf n : Nat} {F : List Fd} (h : Mk w gf n F) (hn : F.length = n) : FsAt w (some ⟨gf, 0, none⟩) F := by
  obtain ⟨cs, h1, h2, h3⟩ := h.row
  have hm : n * 5 = cs.toList.length := by rw [Array.length_toList, h2]
  have h4 : cs.toList = fcells F := by rw [← h3, hn, hm, List.take_length]
  intro hne
  refine ⟨gf, 0, rfl, fun k hk => ?_⟩
  have each : ∀ j, j < 5 → w.cell? ⟨gf, 0 + k * 5 + j, none⟩ = (F[k]).cells[j]? := fun j hj => by
    rw [← fcells_at F k j hk hj, ← h4, Array.getElem?_toList]
    simp [World.cell?, h1]
  exact ⟨each 0 (by omega), each 1 (by omega), each 2 (by omega), each 3 (by omega), each 4 (by omega)⟩
theorem mk_made {w w1 : World} {n : Nat} {xs : List Value} (h : w1.ownsRow w.heap.size 46 5 (.slice (some ⟨w.heap.size, 0, none⟩) n n) n xs) : Mk w1 w.heap.size n [] := by
  rcases h.2 with ⟨e, _⟩ | ⟨g, cap, cur, hv, _, hg, _, _, hcs, _⟩
  · cases e
  · simp only [Value.slice.injEq, Option.some.injEq, Addr.mk.injEq, and_true, true_and] at hv
    obtain ⟨rfl, rfl⟩ := hv
    exact ⟨cur, hg, hcs, by simp [fcells]⟩
set_option maxRecDepth 20000 in
set_option maxHeartbeats 8000000 in
/-- decodeFields where the count is good. -/
theorem decF_ok {l : List Int} {br n k : Nat} {v : Value} {ad : Nat → Addr} (w : World) (h : Rd w br v l 0) (hE : Er5 w ad) (hbr : 1 < br ∧ 2 < br ∧ 3 < br ∧ 5 < br) (hr : rup 16 l 0 = .ok (n, k)) :
    Calls Tryd.prog 26 #[.pointer (some ⟨br, 0, none⟩)] w fun e w' => dPost w.heap.size l ad w' e ∧ Kept (fun i => i = br) w w' := by
  have KA := Kept.alloc w (.cells #[.slice none 0 0] 24)
  have CU := hideD (upto_o _ (h.kept KA (fun f => f) (fun _ _ f => f)) (by omega) (hE.kept KA (fun _ _ f => f)) hr)
  have HR : Hid ((w.alloc (.cells #[.slice none 0 0] 24)).heap[w.heap.size]? = some (.cells #[.slice none 0 0] 24 (0, 0))) := hideD (heap_alloc_new w _)
  have hbl : br < w.heap.size := lt_of_block h.blk
  have HK := hideD KA
  have hn16 := (rup_ok hr).2
  have HE := hideD hE
  have HUp := hideD hr
  obtain ⟨i0, hi0, hz0, hz1, hz2⟩ := info_parts Tryd.infoF
  have hnE : ∀ g, g = 1 ∨ g = 2 ∨ g = 3 ∨ g = 5 → ¬ g = br := by
    intro g hg e
    rcases hg with rfl | rfl | rfl | rfl <;> omega
  have HNE := hideD hnE
  clear KA h hE hr hnE
  go_enter Tryd.func26, Tryd.ntmps26
  go_wp2_with (first
    | (go_at_call 40; refine CU.out.mono ?_; clear CU; rintro e W1 ⟨rfl, hRd, K1⟩; have HRd := hideD hRd; have HK1 := hideD K1; have HR1 := hideD (K1.heap HR.out (by omega)); clear hRd K1)
    | (at_make; refine wpList_make_full _ rfl _ _ 22 rfl W1.heap.size 46 i0 _ 5 Tryd.underlying22 hi0 hz0 hz1 _ _ _ _ n rfl rfl rfl rfl ?m1 ?m2 (Nat.le_refl _) ?_; (case m1 => rw [hz2]; omega); (case m2 => unfold maxLen; omega); intro Wm hown hgrow; have HM := hideD (mk_made hown); have HKm := hideD ((Kept.grown hgrow).mono (G := fun _ => False) (fun i hi => by cases hi)); clear hown hgrow))
  have hgf : w.heap.size < W1.heap.size := lt_of_block HR1.out
  have HRm := hideD (HKm.out.heap HR1.out (fun f => f))
  have HRdm := hideD (HRd.out.kept HKm.out (fun f => f) (fun _ _ f => f))
  have HKw : Hid (Kept (fun i => i = br) w Wm) := hideD (((HK.out.mono (fun _ f => f.elim)).trans HK1.out (fun _ h => .inl h)).trans HKm.out (fun _ f => f.elim))
  have HEm := hideD (HE.out.kept HKw.out HNE.out)
  have hge : 1 < W1.heap.size ∧ 2 < W1.heap.size ∧ 3 < W1.heap.size ∧ 5 < W1.heap.size := by omega
  have hbg : ¬ br = W1.heap.size := by omega
  have hvg : Hid (∀ i, v.ownBlock = some i → ¬ i = W1.heap.size) := hideD (fun i hi e => by have := (HRd.out.own.lt i hi).2; omega)
  have h2g : ¬ w.heap.size = W1.heap.size := by omega
  have HB2 := hideD (Nat.le_refl w.heap.size)
  clear HR HRd HK HK1 HR1 HKm HE hi0 hz0 hz1 hz2 HNE
  rw [Nat.zero_add] at HRdm
  have h2b : ¬ w.heap.size = br := by omega
  obtain ⟨b2, hb2⟩ : ∃ b2, b2 = w.heap.size := ⟨_, rfl⟩
  rw [← hb2] at HRm hgf h2g h2b ⊢
  have HB2 := hideD hb2
  clear hb2
  obtain ⟨gf, hgfe⟩ : ∃ gf, gf = W1.heap.size := ⟨_, rfl⟩
  rw [← hgfe] at HM hgf h2g hge hbg hvg ⊢
  clear hgfe
  go_loopw [8, 26] (fun v8 v26 wr => ∃ (i p : Nat) (F : List Fd) (B : List Nat), i ≤ n ∧ v26 = .int .i64 i ∧ v8 = .int .u8 ((orL B : Nat) : Int) ∧ Hid (Rd wr br v l p) ∧ Hid (Mk wr gf n F) ∧ Hid (F.length = i ∧ rfd l n k = prd F B (rfd l (n - i) p) ∧ orL B < 256) ∧ Hid (Kept (fun k => k = br ∨ k = gf) Wm wr)) (fun _ v26 _ => n - (intOf v26).toNat)
  case atStart => exact ⟨0, k, [], [], by omega, rfl, rfl, HRdm, HM, hideD ⟨rfl, (prd_nil _).symm, by decide⟩, Kept.refl _ _⟩
  case round =>
    obtain ⟨i, p, F, B, hi, rfl, rfl, HRr, HMr, HF, KK⟩ := hrel
    have HEr := hideD (HEm.out.kept KK.out (fun g hg f => by
      rcases hg with rfl | rfl | rfl | rfl <;> rcases f with f | f <;> omega))
    have HRb := hideD (KK.out.heap HRm.out (fun f => f.elim h2b h2g))
    clear HM HRm HEm HRdm
    by_cases hlt : i < n
    · have hii : (i : Int) < (n : Int) := by omega
      obtain ⟨m, hm⟩ : ∃ m, n - i = m + 1 := ⟨n - i - 1, by omega⟩
      have HFr := hideD HF.out.2.1
      rw [hm] at HFr
      cases hT : rtx l p with
      | error er =>
        have HBad := hideD (HFr.out.trans (prd_text hT))
        have CT := hideD (text_e wr HRr.out HEr.out hT)
        obtain ⟨EV, hEV⟩ : ∃ a, errV (ad er) = .iface 125 (.pointer (some a)) := ⟨_, rfl⟩
        have HEV := hideD hEV
        rw [hEV] at CT
        clear hEV hT HFr hm
        go_wp2_with (go_at_call 41; refine CT.out.mono ?_; clear CT; rintro e W5 ⟨rfl, q, rfl⟩; have HR5 : Hid ((wr.drewN q).heap[b2]? = some (.cells #[.slice none 0 0] 24 (0, 0))) := HRb; have HK5 : Hid (Kept (fun k => k = br ∨ k = gf) Wm (wr.drewN q)) := hideD (KK.out.trans (Kept.drewN _ _) (fun _ f => f.elim)); generalize wr.drewN q = W5 at HR5 HK5 ⊢; have f5 := free_of_one HR5.out; have c5 := cell_of_one HR5.out)
        have c6 : (W5.setCell ⟨b2, 0, none⟩ (.slice none 0 0)).cell? ⟨b2, 0, none⟩ = some (.slice none 0 0) := cell_of_one (one_setCell HR5.out)
        refine bodyPost_ret (v := .tuple #[.agg #[.slice none 0 0], .int .u8 0, .iface 125 (.pointer (some EV))]) (by simp [results, Tryd.results26, go_sem, c6]) rfl ⟨dp_fd HUp.out HBad.out (by rw [HEV.out]), ?_⟩
        exact (HKw.out.trans HK5.out (fun i hi => hi.imp id (fun e => by have := HB2.out; omega))).trans (kset _ b2 0 _) (fun i hi => .inr (by have := HB2.out; omega))
      | ok tq =>
        obtain ⟨t, q⟩ := tq
        have CT := hideD (text_o wr HRr.out HEr.out hT)
        by_cases hq : q < l.length
        · obtain ⟨b, hb, hb256⟩ : ∃ b : Nat, l[q]?.getD 0 = (b : Int) ∧ b < 256 := by
            have h1 := HRr.out.isb _ (List.getElem_mem hq)
            rw [List.getElem?_eq_getElem hq]
            exact ⟨l[q].toNat, by simp only [Option.getD_some]; omega, by omega⟩
          have HSt : Hid (rfd l n k = prd (F ++ [fdOf (strOfNums t) b]) (B ++ [b]) (rfd l m (q + 1))) := hideD (by
            have := HFr.out.trans (prd_step hT hq)
            rw [hb, Int.toNat_natCast] at this
            exact this)
          have CB : Hid (∀ W, Rd W br v l q → Calls Tryd.prog 42 #[.pointer (some ⟨br, 0, none⟩)] W fun e w' => e = .returned (.tuple #[.int .u8 (b : Nat), .nilIface]) ∧ Rd w' br v l (q + 1) ∧ Kept (fun i => i = br) W w') := hideD (fun W hW => by
            have := rbyte_ok br v l q W hW hq
            rw [hb] at this
            exact this)
          have CF := fun w => hideD (fieldOf_any (strOfNums t) b w hb256)
          have HOr : Hid (bits BinOp.or IntKind.u8 ((orL B : Nat) : Int) (b : Int) = ((orL (B ++ [b]) : Nat) : Int) ∧ orL (B ++ [b]) < 256) := hideD (by
            rw [orL_snoc]
            exact ⟨or_u8 _ _ HF.out.2.2 hb256, Nat.or_lt_two_pow (n := 8) HF.out.2.2 hb256⟩)
          have HFl := hideD HF.out.1
          generalize fdOf (strOfNums t) b = f at *
          generalize strOfNums t = N0 at *
          have hq1 := HOr.out.1
          have HQ2 := hideD HOr.out.2
          obtain ⟨ob, hob⟩ : ∃ ob, ob = orL (B ++ [b]) := ⟨_, rfl⟩
          rw [← hob] at hq1 HQ2
          have HOb := hideD hob
          have HMm := hideD hm
          clear hb hT HFr HOr HF hob hm
          go_wp2_with (first
            | (go_at_call 41; refine CT.out.mono ?_; clear CT; rintro e W5 ⟨rfl, hR5, K5⟩; have HR5 := hideD hR5; have HK5 := hideD K5; clear hR5 K5)
            | (go_at_call 42; refine (CB.out _ HR5.out).mono ?_; clear CB; rintro e W6 ⟨rfl, hR6, K6⟩; have HR6 := hideD hR6; have HK6 := hideD (HK5.out.trans K6 (fun _ h => .inl h)); clear hR6 K6)
            | (go_at_call 43; refine (CF _).out.mono ?_; clear CF; rintro e W7 ⟨rfl, K7⟩; have HR7 := hideD (HR6.out.kept K7 (fun f => f) (fun _ _ f => f)); have HK7 := hideD (HK6.out.trans K7 (fun _ f => f.elim)); have HM7 := hideD (HMr.out.kept HK7.out (fun e => hbg e.symm)); obtain ⟨u0, s0, f0⟩ := HM7.out.spot (j := i * 5) (by omega); obtain ⟨u1, s1, f1⟩ := HM7.out.spot (j := i * 5 + 1) (by omega); obtain ⟨u2, s2, f2⟩ := HM7.out.spot (j := i * 5 + 2) (by omega); obtain ⟨u3, s3, f3⟩ := HM7.out.spot (j := i * 5 + 3) (by omega); obtain ⟨u4, s4, f4⟩ := HM7.out.spot (j := i * 5 + 4) (by omega); clear K7))
          have HP := hideD (put5_kept W7 gf (i * 5) f)
          have HM8 : Hid (Mk (put5 W7 gf (i * 5) f) gf n (F ++ [f])) := hideD (by
            have := HM7.out.put f (by rw [HFl.out]; exact hlt)
            rw [HFl.out] at this
            exact this)
          have HR8 := hideD (HR7.out.kept HP.out hbg hvg.out)
          go_roundw
          case rel => exact ⟨i + 1, q + 1, F ++ [f], B ++ [b], hlt, by go_num, by rw [HOb.out], HR8, HM8, hideD ⟨by rw [List.length_append, HFl.out]; rfl, by rw [show n - (i + 1) = m from by have := HMm.out; omega]; exact HSt.out, by rw [← HOb.out]; exact HQ2.out⟩, hideD ((KK.out.trans HK7.out (fun _ h => .inl (.inl h))).trans HP.out (fun _ h => .inl (.inr h)))⟩
          case measure => simp [intOf]; omega
        · have hql : q = l.length := by
            have := rtx_le hT
            omega
          have HBad := hideD (HFr.out.trans (prd_short hT hq))
          have CB : Hid (∀ W, Rd W br v l q → Er5 W ad → Calls Tryd.prog 42 #[.pointer (some ⟨br, 0, none⟩)] W fun e w' => e = .returned (.tuple #[.int .u8 0, errV (ad 0)]) ∧ ∃ n, w' = W.drewN n) := hideD (fun W hW hE => by
            rw [hql] at hW
            exact rbyte_short br v l _ W hW hE.s0)
          obtain ⟨EV, hEV⟩ : ∃ a, errV (ad 0) = .iface 125 (.pointer (some a)) := ⟨_, rfl⟩
          have HEV := hideD hEV
          rw [hEV] at CB
          clear hEV hT HFr hm hql HF
          go_wp2_with (first
            | (go_at_call 41; refine CT.out.mono ?_; clear CT; rintro e W5 ⟨rfl, hR5, K5⟩; have HR5 := hideD hR5; have HK5 := hideD K5; clear hR5 K5)
            | (go_at_call 42; refine (CB.out _ HR5.out (HEr.out.kept HK5.out (fun g hg e => by rcases hg with rfl | rfl | rfl | rfl <;> omega))).mono ?_; clear CB; rintro e W6 ⟨rfl, q6, rfl⟩; have HR6 : Hid ((W5.drewN q6).heap[b2]? = some (.cells #[.slice none 0 0] 24 (0, 0))) := hideD (HK5.out.heap HRb.out h2b); have HK6 : Hid (Kept (fun k => k = br ∨ k = gf) Wm (W5.drewN q6)) := hideD ((KK.out.trans HK5.out (fun _ h => .inl (.inl h))).trans (Kept.drewN _ _) (fun _ f => f.elim)); generalize W5.drewN q6 = W6 at HR6 HK6 ⊢; have f6 := free_of_one HR6.out; have c5 := cell_of_one HR6.out))
          have c6 : (W6.setCell ⟨b2, 0, none⟩ (.slice none 0 0)).cell? ⟨b2, 0, none⟩ = some (.slice none 0 0) := cell_of_one (one_setCell HR6.out)
          refine bodyPost_ret (v := .tuple #[.agg #[.slice none 0 0], .int .u8 0, .iface 125 (.pointer (some EV))]) (by simp [results, Tryd.results26, go_sem, c6]) rfl ⟨dp_fd HUp.out HBad.out (by rw [HEV.out]), ?_⟩
          exact (HKw.out.trans HK6.out (fun i hi => hi.imp id (fun e => by have := HB2.out; omega))).trans (kset _ b2 0 _) (fun i hi => .inr (by have := HB2.out; omega))
    · obtain rfl : i = n := by omega
      have HOk : Hid (rfd l i k = .ok (F, B, p)) := hideD (by
        have := HF.out.2.1
        rw [Nat.sub_self] at this
        rw [this]
        simp [rfd, prd])
      have HFl := hideD HF.out.1
      have CD := hideD (done_any wr HRr.out HEr.out)
      obtain ⟨EV, hEV⟩ : ∃ E, E = (if p < l.length then errV (ad 4) else .nilIface : Value) := ⟨_, rfl⟩
      rw [← hEV] at CD
      have HEV := hideD hEV
      clear hEV HF
      go_wp2_with (go_at_call 44; refine CD.out.mono ?_; clear CD; rintro e W5 ⟨rfl, q, rfl⟩; have HR5 : Hid ((wr.drewN q).heap[b2]? = some (.cells #[.slice none 0 0] 24 (0, 0))) := HRb; have HM5 : Hid (Mk (wr.drewN q) gf i F) := hideD (HMr.out.kept (Kept.drewN wr q) (fun f => f)); have HK5 : Hid (Kept (fun k => k = br ∨ k = gf) Wm (wr.drewN q)) := hideD (KK.out.trans (Kept.drewN _ _) (fun _ f => f.elim)); generalize wr.drewN q = W5 at HR5 HM5 HK5 ⊢; have f5 := free_of_one HR5.out; have c5 := cell_of_one HR5.out)
      have c6 : (W5.setCell ⟨b2, 0, none⟩ (.slice (some ⟨gf, 0, none⟩) i i)).cell? ⟨b2, 0, none⟩ = some (.slice (some ⟨gf, 0, none⟩) i i) := cell_of_one (one_setCell HR5.out)
      refine bodyPost_ret (v := .tuple #[.agg #[.slice (some ⟨gf, 0, none⟩) i i], .int .u8 ((orL B : Nat) : Int), EV]) (by simp [results, Tryd.results26, go_sem, c6]) rfl ⟨dp_ok HUp.out HOk.out HFl.out (by rw [HEV.out]) ?_ ?_, ?_⟩
      · exact (HM5.out.kept (kset W5 b2 0 _) (fun e => h2g e.symm)).fs HFl.out
      · intro b off e
        simp only [Option.some.injEq, Addr.mk.injEq] at e
        have := HB2.out
        omega
      · exact (HKw.out.trans HK5.out (fun i hi => hi.imp id (fun e => by have := HB2.out; omega))).trans (kset _ b2 0 _) (fun i hi => .inr (by have := HB2.out; omega))
end Go.Proofs.YtbhoplmbiomogaaDoor
namespace Go.Proofs.YtbhoplmbiomogaaDoor
open Go.ChangeShapes Go.WideShapes Go.ChangeAt Go.RowKit

theorem rtx_len {l t : List Int} {p q : Nat} (h : rtx l p = .ok (t, q)) : t.length ≤ 32 := by
  unfold rtx at h
  split at h
  · cases h
  · rename_i n k he
    have hn := (rup_ok he).2
    split at h
    · injection h with h
      injection h with h1 h2
      rw [← h1, List.length_take]
      omega
    · cases h
theorem fdOf_ok {n : ByteArray} {b : Nat} (h : n.size ≤ 32) : (fdOf n b).Ok := by
  refine ⟨Nat.le_trans h (by decide), ?_, ?_⟩
  · show -9223372036854775808 ≤ ((b % 4 : Nat) : Int)
    omega
  · show ((b % 4 : Nat) : Int) ≤ 9223372036854775807
    omega
theorem strOfNums_size (t : List Int) : (strOfNums t).size = t.length := by
  show (List.toArray _).size = _
  rw [List.size_toArray, List.length_map]
theorem rfd_ok {l : List Int} : ∀ {n p : Nat} {F : List Fd} {B : List Nat} {r : Nat}, rfd l n p = .ok (F, B, r) → F.length = n ∧ ∀ f ∈ F, f.Ok
  | 0, p, F, B, r, h => by
    rw [rfd] at h
    injection h with h
    injection h with h1 h2
    subst h1
    exact ⟨rfl, fun f hf => by cases hf⟩
  | n + 1, p, F, B, r, h => by
    rw [rfd] at h
    cases hT : rtx l p with
    | error e => rw [hT] at h; cases h
    | ok tq =>
      obtain ⟨t, q⟩ := tq
      rw [hT] at h
      simp only at h
      split at h
      · cases hR : rfd l n (q + 1) with
        | error e => rw [hR] at h; cases h
        | ok x =>
          obtain ⟨F', B', r'⟩ := x
          rw [hR] at h
          simp only at h
          injection h with h
          injection h with h1 h2
          obtain ⟨i1, i2⟩ := rfd_ok hR
          subst h1
          refine ⟨by rw [List.length_cons, i1], fun f hf => ?_⟩
          rcases List.mem_cons.1 hf with rfl | hf
          · exact fdOf_ok (by rw [strOfNums_size]; exact rtx_len hT)
          · exact i2 f hf
      · cases h
/-- The schema of bytes, or the number of the error. -/
def dec (l : List Int) : Except Nat (List Fd) := match rup 16 l 0 with
  | .error e => .error e
  | .ok (n, k) => match rfd l n k with
    | .error e => .error e
    | .ok (F, B, r) => if r < l.length then .error 4 else if orL B ≤ 31 ∧ gschema F = true then .ok F else .error 10
theorem dec_up {l : List Int} {er : Nat} (h : rup 16 l 0 = .error er) : dec l = .error er := by rw [dec, h]
theorem dec_fd {l : List Int} {n k er : Nat} (h : rup 16 l 0 = .ok (n, k)) (h2 : rfd l n k = .error er) : dec l = .error er := by rw [dec, h]; simp only [h2]
theorem dec_ok {l : List Int} {n k r : Nat} {F : List Fd} {B : List Nat} (h : rup 16 l 0 = .ok (n, k)) (h2 : rfd l n k = .ok (F, B, r)) : dec l = if r < l.length then .error 4 else if orL B ≤ 31 ∧ gschema F = true then .ok F else .error 10 := by rw [dec, h]; simp only [h2]
theorem BytesAt.keptD {w w' : World} {a : Option Addr} {l : List Int} (h : BytesAt w a l) (k : Kept (fun _ => False) w w') : BytesAt w' a l := by
  intro hne
  obtain ⟨b, off, e, hc⟩ := h hne
  exact ⟨b, off, e, fun j hj => k.cell (hc j hj) (fun f => f)⟩
def ePost (ws : Nat) (x : Except Nat (List Fd)) (ad : Nat → Addr) (w' : World) (e : Ending) : Prop := match x with
  | .error er => e = .returned (.tuple #[.agg #[.slice none 0 0], errV (ad er)])
  | .ok F => ∃ a c, e = .returned (.tuple #[.agg #[.slice a F.length c], .nilIface]) ∧ FsAt w' a F ∧ ∀ b off, a = some ⟨b, off, none⟩ → ws < b
set_option maxRecDepth 20000 in
set_option maxHeartbeats 8000000 in
/-- Decode behind decodeFields, where that has an error. -/
theorem decode_err (l : List Int) (a : Option Addr) (c : Nat) (ad : Nat → Addr) (er : Nat) (w : World) (hB : BytesAt w a l) (hI : IsBytes l) (hl : l.length ≤ 140737488355328)
    (hc : ∀ W br v, Kept (fun _ => False) w W → w.heap.size ≤ br → Rd W br v l 0 → Calls Tryd.prog 26 #[.pointer (some ⟨br, 0, none⟩)] W fun e w' => (∃ a c n bits, e = .returned (.tuple #[.agg #[.slice a n c], .int .u8 bits, errV (ad er)])) ∧ Kept (fun i => i = br) W w') :
    Calls Tryd.prog 9 #[.slice a l.length c] w fun e w' => e = .returned (.tuple #[.agg #[.slice none 0 0], errV (ad er)]) ∧ Kept (fun _ => False) w w' := by
  have KA := Kept.alloc w (.cells #[.slice none 0 0] 24)
  have CN := hideD (newr_any l a c _ (hB.keptD KA) hI hl)
  have HK := hideD KA
  have HR : Hid ((w.alloc (.cells #[.slice none 0 0] 24)).heap[w.heap.size]? = some (.cells #[.slice none 0 0] 24 (0, 0))) := hideD (heap_alloc_new w _)
  have HC := hideD hc
  obtain ⟨EV, hEV⟩ : ∃ a, errV (ad er) = .iface 125 (.pointer (some a)) := ⟨_, rfl⟩
  rw [hEV] at HC ⊢
  clear hc KA hB hI hEV
  generalize l.length = nl at *
  go_enter Tryd.func9, Tryd.ntmps9
  go_wp2_with (first
    | (go_at_call 27; refine CN.out.mono ?_; clear CN; rintro e W1 ⟨br, v, rfl, hRd, hbr, hv, K1⟩; have HRd := hideD hRd; have HK1 := hideD (HK.out.trans K1 (fun _ f => f.elim)); have HR1 := hideD (K1.heap HR.out (fun f => f)); have hbr2 : w.heap.size < br := (by simp at hbr; omega); clear hRd K1 hv)
    | (go_at_call 26; refine (HC.out _ br v HK1.out (by omega) HRd.out).mono ?_; clear HC; rintro e W2 ⟨⟨a2, c2, n2, b2, rfl⟩, K2⟩; have HR2 := hideD ((Kept.alloc W2 (.cells #[.slice a2 n2 c2] 24)).heap (K2.heap HR1.out (by omega)) (fun f => f)); have HK2 : Hid (Kept (fun _ => False) w (W2.alloc (.cells #[.slice a2 n2 c2] 24))) := hideD ((HK1.out.trans K2 (fun i hi => .inr (by omega))).trans (Kept.alloc _ _) (fun _ f => f.elim)); have f2 := free_of_one HR2.out; have c5 := cell_of_one HR2.out; clear K2))
  generalize W2.alloc (.cells #[.slice a2 n2 c2] 24) = W3 at *
  have c6 : (W3.setCell ⟨w.heap.size, 0, none⟩ (.slice none 0 0)).cell? ⟨w.heap.size, 0, none⟩ = some (.slice none 0 0) := cell_of_one (one_setCell HR2.out)
  refine bodyPost_ret (v := .tuple #[.agg #[.slice none 0 0], .iface 125 (.pointer (some EV))]) (by simp [results, Tryd.results9, go_sem, c6]) rfl ⟨rfl, ?_⟩
  exact HK2.out.trans (Kept.setCell _ _ _) (fun i hi => .inr (Nat.le_of_eq hi.symm))
end Go.Proofs.YtbhoplmbiomogaaDoor
namespace Go.Proofs.YtbhoplmbiomogaaDoor
open Go.ChangeShapes Go.WideShapes Go.ChangeAt Go.RowKit

theorem FsAt.putD {w : World} {a : Option Addr} {l : List Fd} (h : FsAt w a l) (br : Nat) {u : Value} (hne : ∀ b off, a = some ⟨b, off, none⟩ → ¬ b = br) : FsAt (w.setCell ⟨br, 0, none⟩ u) a l := by
  intro hl
  obtain ⟨b, off, rfl, hc⟩ := h hl
  have hb := hne b off rfl
  refine ⟨b, off, rfl, fun k hk => ?_⟩
  obtain ⟨x0, x1, x2, x3, x4⟩ := hc k hk
  exact ⟨(Kept.setCell _ _ _).cell x0 hb, (Kept.setCell _ _ _).cell x1 hb, (Kept.setCell _ _ _).cell x2 hb, (Kept.setCell _ _ _).cell x3 hb, (Kept.setCell _ _ _).cell x4 hb⟩
set_option maxRecDepth 20000 in
set_option maxHeartbeats 8000000 in
/-- Decode behind decodeFields, where that has none. -/
theorem decode_end (l : List Int) (a : Option Addr) (c : Nat) (ad : Nat → Addr) (F : List Fd) (ob : Nat) (w : World) (hB : BytesAt w a l) (hI : IsBytes l) (hl : l.length ≤ 140737488355328) (hO : ∀ f ∈ F, f.Ok) (hF : F.length ≤ 16) (hob : ob < 256) (hE : w.cell? ⟨0, 0, none⟩ = some (errV (ad 10)))
    (hc : ∀ W br v, Kept (fun _ => False) w W → w.heap.size ≤ br → Rd W br v l 0 → Calls Tryd.prog 26 #[.pointer (some ⟨br, 0, none⟩)] W fun e w' => (∃ a c, e = .returned (.tuple #[.agg #[.slice a F.length c], .int .u8 (ob : Nat), .nilIface]) ∧ FsAt w' a F ∧ ∀ b off, a = some ⟨b, off, none⟩ → w.heap.size < b) ∧ Kept (fun i => i = br) W w') :
    Calls Tryd.prog 9 #[.slice a l.length c] w fun e w' => ePost w.heap.size (if ob ≤ 31 ∧ gschema F = true then .ok F else .error 10) ad w' e ∧ Kept (fun _ => False) w w' := by
  have KA := Kept.alloc w (.cells #[.slice none 0 0] 24)
  have CN := hideD (newr_any l a c _ (hB.keptD KA) hI hl)
  have HK := hideD KA
  have HR : Hid ((w.alloc (.cells #[.slice none 0 0] 24)).heap[w.heap.size]? = some (.cells #[.slice none 0 0] 24 (0, 0))) := hideD (heap_alloc_new w _)
  have HC := hideD hc
  have hgl : 0 < w.heap.size := World.block_lt_of_cell? w _ hE
  obtain ⟨EV, hEV⟩ : ∃ a, errV (ad 10) = .iface 125 (.pointer (some a)) := ⟨_, rfl⟩
  have HEV := hideD hEV
  rw [hEV] at hE
  have HE := hideD hE
  have HCk : Hid (∀ W a c, FsAt W a F → W.cell? ⟨0, 0, none⟩ = some (.iface 125 (.pointer (some EV))) → Calls Tryd.prog 12 #[.agg #[.slice a F.length c]] W fun e w' => e = .returned (chkV (.iface 125 (.pointer (some EV))) F) ∧ Kept (fun _ => False) W w') := hideD (fun W a c h1 h2 => check_any F a c _ _ W h1 hO (by omega) h2)
  clear hc KA hB hI hEV hE hO
  generalize hnl : l.length = nl at *
  clear hnl
  obtain ⟨nF, hnF⟩ : ∃ nF, nF = F.length := ⟨_, rfl⟩
  rw [← hnF] at HC HCk
  have HNF := hideD hnF
  clear hnF
  obtain ⟨x, hx⟩ : ∃ x : Except Nat (List Fd), x = if ob ≤ 31 ∧ gschema F = true then .ok F else .error 10 := ⟨_, rfl⟩
  rw [← hx]
  have HX := hideD hx
  clear hx
  by_cases h31 : ob ≤ 31
  · have h31a : ¬ (31 : Int) < (ob : Int) := by omega
    have h31b : decide ((31 : Int) < (ob : Int)) = false := decide_eq_false (by omega)
    have h31c : decide (31 < ob) = false := decide_eq_false (by omega)
    cases hG : gschema F with
    | true =>
      have HXo : Hid (x = .ok F) := hideD (by rw [HX.out, if_pos ⟨h31, hG⟩])
      rw [chk_good _ hG] at HCk
      clear hG HX
      go_enter Tryd.func9, Tryd.ntmps9
      go_wp2_with (first
        | (go_at_call 27; refine CN.out.mono ?_; clear CN; rintro e W1 ⟨br, v, rfl, hRd, hbr, hv, K1⟩; have HRd := hideD hRd; have HK1 := hideD (HK.out.trans K1 (fun _ f => f.elim)); have HR1 := hideD (K1.heap HR.out (fun f => f)); have hbr2 : w.heap.size < br := (by simp at hbr; omega); clear hRd K1 hv)
        | (go_at_call 26; refine (HC.out _ br v HK1.out (by omega) HRd.out).mono ?_; clear HC; rintro e W2 ⟨⟨a2, c2, rfl, hF2, ha2⟩, K2⟩; have HA2 := hideD ha2; have HR2 := hideD ((Kept.alloc W2 (.cells #[.slice a2 nF c2] 24)).heap (K2.heap HR1.out (by omega)) (fun f => f)); have HK2 : Hid (Kept (fun _ => False) w (W2.alloc (.cells #[.slice a2 nF c2] 24))) := hideD ((HK1.out.trans K2 (fun i hi => .inr (by omega))).trans (Kept.alloc _ _) (fun _ f => f.elim)); have HF3 := hideD (hF2.kept (Kept.alloc W2 (.cells #[.slice a2 nF c2] 24))); have HX2 : Hid ((W2.alloc (.cells #[.slice a2 nF c2] 24)).heap[W2.heap.size]? = some (.cells #[.slice a2 nF c2] 24 (0, 0))) := hideD (heap_alloc_new W2 _); have x2 := cell_of_one HX2.out; have hb2 : w.heap.size < W2.heap.size := (by have := lt_of_block (K2.heap HR1.out (by omega)); exact this); clear K2 hF2 ha2)
        | (go_at_call 12; refine (HCk.out _ a2 c2 HF3.out (HK2.out.cell HE.out (fun f => f))).mono ?_; clear HCk; rintro e W4 ⟨rfl, K4⟩; have HR4 := hideD (K4.heap HR2.out (fun f => f)); have HX4 := hideD (K4.heap HX2.out (fun f => f)); have HF4 := hideD (HF3.out.kept K4); have HK4 := hideD (HK2.out.trans K4 (fun _ f => f.elim)); have f4 := free_of_one HR4.out; have c4 := cell_of_one HR4.out; have x4 := cell_of_one HX4.out; clear K4))
      have c6 : (W4.setCell ⟨w.heap.size, 0, none⟩ (.slice a2 nF c2)).cell? ⟨w.heap.size, 0, none⟩ = some (.slice a2 nF c2) := cell_of_one (one_setCell HR4.out)
      refine bodyPost_ret (v := .tuple #[.agg #[.slice a2 nF c2], .nilIface]) (by simp [results, Tryd.results9, go_sem, c6]) rfl ⟨?_, ?_⟩
      · rw [HXo.out]
        exact ⟨a2, c2, by rw [HNF.out], HF4.out.putD w.heap.size (fun b off e hb => by have := HA2.out b off e; omega), HA2.out⟩
      · exact HK4.out.trans (Kept.setCell _ _ _) (fun i hi => .inr (Nat.le_of_eq hi.symm))
    | false =>
      have HXo : Hid (x = .error 10) := hideD (by rw [HX.out, if_neg (fun e => by rw [hG] at e; cases e.2)])
      rw [chk_bad _ hG] at HCk
      clear hG HX
      go_enter Tryd.func9, Tryd.ntmps9
      go_wp2_with (first
        | (go_at_call 27; refine CN.out.mono ?_; clear CN; rintro e W1 ⟨br, v, rfl, hRd, hbr, hv, K1⟩; have HRd := hideD hRd; have HK1 := hideD (HK.out.trans K1 (fun _ f => f.elim)); have HR1 := hideD (K1.heap HR.out (fun f => f)); have hbr2 : w.heap.size < br := (by simp at hbr; omega); clear hRd K1 hv)
        | (go_at_call 26; refine (HC.out _ br v HK1.out (by omega) HRd.out).mono ?_; clear HC; rintro e W2 ⟨⟨a2, c2, rfl, hF2, -⟩, K2⟩; have HR2 := hideD ((Kept.alloc W2 (.cells #[.slice a2 nF c2] 24)).heap (K2.heap HR1.out (by omega)) (fun f => f)); have HK2 : Hid (Kept (fun _ => False) w (W2.alloc (.cells #[.slice a2 nF c2] 24))) := hideD ((HK1.out.trans K2 (fun i hi => .inr (by omega))).trans (Kept.alloc _ _) (fun _ f => f.elim)); have HF3 := hideD (hF2.kept (Kept.alloc W2 (.cells #[.slice a2 nF c2] 24))); have HX2 : Hid ((W2.alloc (.cells #[.slice a2 nF c2] 24)).heap[W2.heap.size]? = some (.cells #[.slice a2 nF c2] 24 (0, 0))) := hideD (heap_alloc_new W2 _); have x2 := cell_of_one HX2.out; clear K2 hF2)
        | (go_at_call 12; refine (HCk.out _ a2 c2 HF3.out (HK2.out.cell HE.out (fun f => f))).mono ?_; clear HCk; rintro e W4 ⟨rfl, K4⟩; have HR4 := hideD (K4.heap HR2.out (fun f => f)); have HK4 := hideD (HK2.out.trans K4 (fun _ f => f.elim)); clear K4))
      have e4 := HK4.out.cell HE.out (fun f => f)
      have f4 := free_of_one HR4.out
      have c4 := cell_of_one HR4.out
      have hne4 : ¬ 0 = w.heap.size := by omega
      have e5 : (W4.setCell ⟨w.heap.size, 0, none⟩ (.slice none 0 0)).cell? ⟨0, 0, none⟩ = some (.iface 125 (.pointer (some EV))) := (Kept.setCell _ _ _).cell e4 hne4
      have c6 : (W4.setCell ⟨w.heap.size, 0, none⟩ (.slice none 0 0)).cell? ⟨w.heap.size, 0, none⟩ = some (.slice none 0 0) := cell_of_one (one_setCell HR4.out)
      clear HR4 HRd HR1 HR2 HF3 HX2 HK1 HK2
      go_region
      all_goals go_wp2
      all_goals refine bodyPost_ret (v := .tuple #[.agg #[.slice none 0 0], .iface 125 (.pointer (some EV))]) (by simp [results, Tryd.results9, go_sem, c6]) rfl ⟨?_, ?_⟩
      all_goals first
        | (rw [HXo.out]; show _ = _; rw [HEV.out])
        | exact (HK4.out.trans (Kept.setCell _ _ _) (fun i hi => .inr (Nat.le_of_eq hi.symm))).trans (Kept.drew _) (fun _ f => f.elim)
        | exact (HK4.out.trans (Kept.drew _) (fun _ f => f.elim)).trans (Kept.setCell _ _ _) (fun i hi => .inr (Nat.le_of_eq hi.symm))
  · have h31a : (31 : Int) < (ob : Int) := by omega
    have h31b : decide ((31 : Int) < (ob : Int)) = true := decide_eq_true (by omega)
    have h31c : decide (31 < ob) = true := decide_eq_true (by omega)
    have HXo : Hid (x = .error 10) := hideD (by rw [HX.out, if_neg (fun e => h31 e.1)])
    clear HX HCk
    go_enter Tryd.func9, Tryd.ntmps9
    go_wp2_with (first
      | (go_at_call 27; refine CN.out.mono ?_; clear CN; rintro e W1 ⟨br, v, rfl, hRd, hbr, hv, K1⟩; have HRd := hideD hRd; have HK1 := hideD (HK.out.trans K1 (fun _ f => f.elim)); have HR1 := hideD (K1.heap HR.out (fun f => f)); have hbr2 : w.heap.size < br := (by simp at hbr; omega); clear hRd K1 hv)
      | (go_at_call 26; refine (HC.out _ br v HK1.out (by omega) HRd.out).mono ?_; clear HC; rintro e W2 ⟨⟨a2, c2, rfl, hF2, -⟩, K2⟩; have HR2 := hideD ((Kept.alloc W2 (.cells #[.slice a2 nF c2] 24)).heap (K2.heap HR1.out (by omega)) (fun f => f)); have HK2 : Hid (Kept (fun _ => False) w (W2.alloc (.cells #[.slice a2 nF c2] 24))) := hideD ((HK1.out.trans K2 (fun i hi => .inr (by omega))).trans (Kept.alloc _ _) (fun _ f => f.elim)); have HF3 := hideD (hF2.kept (Kept.alloc W2 (.cells #[.slice a2 nF c2] 24))); have HX2 : Hid ((W2.alloc (.cells #[.slice a2 nF c2] 24)).heap[W2.heap.size]? = some (.cells #[.slice a2 nF c2] 24 (0, 0))) := hideD (heap_alloc_new W2 _); have x2 := cell_of_one HX2.out; clear K2 hF2))
    have HKz := HK2
    have HRz := HR2
    generalize W2.alloc (.cells #[.slice a2 nF c2] 24) = Wz at *
    have e4 := HKz.out.cell HE.out (fun f => f)
    have f4 := free_of_one HRz.out
    have c4 := cell_of_one HRz.out
    have hne4 : ¬ 0 = w.heap.size := by omega
    have e5 : (Wz.setCell ⟨w.heap.size, 0, none⟩ (.slice none 0 0)).cell? ⟨0, 0, none⟩ = some (.iface 125 (.pointer (some EV))) := (Kept.setCell _ _ _).cell e4 hne4
    have c6 : (Wz.setCell ⟨w.heap.size, 0, none⟩ (.slice none 0 0)).cell? ⟨w.heap.size, 0, none⟩ = some (.slice none 0 0) := cell_of_one (one_setCell HRz.out)
    clear HRz HRd HR1 HR2 HF3 HX2 HK1 HK2
    go_region
    all_goals go_wp2
    all_goals refine bodyPost_ret (v := .tuple #[.agg #[.slice none 0 0], .iface 125 (.pointer (some EV))]) (by simp [results, Tryd.results9, go_sem, c6]) rfl ⟨?_, ?_⟩
    all_goals first
      | (rw [HXo.out]; show _ = _; rw [HEV.out])
      | exact (HKz.out.trans (Kept.setCell _ _ _) (fun i hi => .inr (Nat.le_of_eq hi.symm))).trans (Kept.drew _) (fun _ f => f.elim)
      | exact (HKz.out.trans (Kept.drew _) (fun _ f => f.elim)).trans (Kept.setCell _ _ _) (fun i hi => .inr (Nat.le_of_eq hi.symm))
end Go.Proofs.YtbhoplmbiomogaaDoor
namespace Go.Proofs.YtbhoplmbiomogaaDoor
open Go.ChangeShapes Go.WideShapes Go.ChangeAt Go.RowKit

theorem orL_lt : ∀ (B : List Nat), (∀ b ∈ B, b < 256) → orL B < 256 := by
  intro B h
  have : ∀ (B : List Nat) (a : Nat), a < 256 → (∀ b ∈ B, b < 256) → B.foldl (· ||| ·) a < 256 := by
    intro B
    induction B with
    | nil => intro a ha _; exact ha
    | cons b r ih => intro a ha hB; exact ih _ (Nat.or_lt_two_pow (n := 8) ha (hB b List.mem_cons_self)) (fun c hc => hB c (List.mem_cons_of_mem _ hc))
  exact this B 0 (by decide) h
theorem rfd_bytes {l : List Int} (hI : IsBytes l) : ∀ {n p : Nat} {F : List Fd} {B : List Nat} {r : Nat}, rfd l n p = .ok (F, B, r) → ∀ b ∈ B, b < 256
  | 0, p, F, B, r, h => by
    rw [rfd] at h
    injection h with h
    injection h with h1 h2
    injection h2 with h2 h3
    subst h2
    intro b hb; cases hb
  | n + 1, p, F, B, r, h => by
    rw [rfd] at h
    cases hT : rtx l p with
    | error e => rw [hT] at h; cases h
    | ok tq =>
      obtain ⟨t, q⟩ := tq
      rw [hT] at h
      simp only at h
      split at h
      · rename_i hq
        cases hR : rfd l n (q + 1) with
        | error e => rw [hR] at h; cases h
        | ok x =>
          obtain ⟨F', B', r'⟩ := x
          rw [hR] at h
          simp only at h
          injection h with h
          injection h with h1 h2
          injection h2 with h2 h3
          subst h2
          intro b hb
          rcases List.mem_cons.1 hb with rfl | hb
          · have := hI _ (List.getElem_mem hq)
            rw [List.getElem?_eq_getElem hq]
            simp only [Option.getD_some]
            omega
          · exact rfd_bytes hI hR b hb
      · cases h
/-- The project's Decode, at any bytes. -/
theorem decode_any (l : List Int) (a : Option Addr) (c : Nat) (ad : Nat → Addr) (w : World) (hB : BytesAt w a l) (hI : IsBytes l) (hl : l.length ≤ 140737488355328) (hE : Er5 w ad) (hE10 : w.cell? ⟨0, 0, none⟩ = some (errV (ad 10))) :
    Calls Tryd.prog 9 #[.slice a l.length c] w fun e w' => ePost w.heap.size (dec l) ad w' e ∧ Kept (fun _ => False) w w' := by
  have g0 := World.block_lt_of_cell? w _ hE.s0
  have g1 := World.block_lt_of_cell? w _ hE.s1
  have g2 := World.block_lt_of_cell? w _ hE.s2
  have g4 := World.block_lt_of_cell? w _ hE.s4
  cases hU : rup 16 l 0 with
  | error er =>
    rw [dec_up hU]
    exact decode_err l a c ad er w hB hI hl (fun W br v hk _ hR => (decF_up W hR (hE.kept hk (fun _ _ f => f)) hU).mono (fun e w' ⟨he, k⟩ => ⟨⟨none, 0, 0, 0, he⟩, k.mono (fun _ f => f.elim)⟩))
  | ok nk =>
    obtain ⟨n, k⟩ := nk
    have key : ∀ W br v, Kept (fun _ => False) w W → w.heap.size ≤ br → Rd W br v l 0 → Calls Tryd.prog 26 #[.pointer (some ⟨br, 0, none⟩)] W fun e w' => dPost W.heap.size l ad w' e ∧ Kept (fun i => i = br) W w' := fun W br v hk hb hR =>
      decF_ok W hR (hE.kept hk (fun _ _ f => f)) (by simp only at g0 g1 g2 g4; omega) hU
    cases hR : rfd l n k with
    | error er =>
      rw [dec_fd hU hR]
      refine decode_err l a c ad er w hB hI hl (fun W br v hk hb hRd => (key W br v hk hb hRd).mono (fun e w' ⟨hp, k⟩ => ?_))
      rw [dPost, hU] at hp
      simp only [hR] at hp
      exact ⟨⟨none, 0, 0, 0, hp⟩, k⟩
    | ok x =>
      obtain ⟨F, B, r⟩ := x
      rw [dec_ok hU hR]
      have hFo := rfd_ok hR
      have hn := (rup_ok hU).2
      by_cases hr : r < l.length
      · rw [if_pos hr]
        refine decode_err l a c ad 4 w hB hI hl (fun W br v hk hb hRd => (key W br v hk hb hRd).mono (fun e w' ⟨hp, k⟩ => ?_))
        rw [dPost, hU] at hp
        simp only [hR, if_pos hr] at hp
        obtain ⟨a', c', he, -, -⟩ := hp
        exact ⟨⟨a', c', _, _, he⟩, k⟩
      · rw [if_neg hr]
        refine decode_end l a c ad F (orL B) w hB hI hl hFo.2 (by omega) (orL_lt B (rfd_bytes hI hR)) hE10 (fun W br v hk hb hRd => (key W br v hk hb hRd).mono (fun e w' ⟨hp, k⟩ => ?_))
        rw [dPost, hU] at hp
        simp only [hR, if_neg hr] at hp
        obtain ⟨a', c', he, hF, ha⟩ := hp
        exact ⟨⟨a', c', he, hF, fun b off e => by have := ha b off e; have := hk.size; omega⟩, k⟩
end Go.Proofs.YtbhoplmbiomogaaDoor
