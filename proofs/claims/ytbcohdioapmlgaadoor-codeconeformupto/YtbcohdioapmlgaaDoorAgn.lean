import Derived.Test.YtbcohdioapmlgaaDoorAgw
namespace Go.Proofs.YtbcohdioapmlgaaDoor
open Go.ChangeShapes Go.WideShapes Go.ChangeAt Go.RowKit

theorem sb_str {l : List Int} (h : IsBytes l) : sb (strOfNums l) = l := by
  rw [sb, strOfNums_data, List.map_map]
  conv => rhs; rw [← List.map_id l]
  apply List.map_congr_left
  intro x hx
  have := h x hx
  show (((UInt8.ofNat x.toNat).toNat : Nat) : Int) = x
  rw [UInt8.toNat_ofNat']
  omega
/-- A Reader and an empty Writer, apart. -/
structure AgIn (w : World) (br bw : Nat) (rv : Value) (l : List Int) (p : Nat) (a0 a1 a2 a3 a7 : Addr) : Prop where
  rd : Rd w br rv l p
  wr : Wr w bw (.slice none 0 0) []
  ne : bw ≠ br
  far : rv.ownBlock ≠ some bw
  sm : l.length ≤ 1099511627776
  g0 : w.cell? ⟨3, 0, none⟩ = some (errV a0)
  g1 : w.cell? ⟨4, 0, none⟩ = some (errV a1)
  g2 : w.cell? ⟨2, 0, none⟩ = some (errV a2)
  g3 : w.cell? ⟨1, 0, none⟩ = some (errV a3)
  g7 : w.cell? ⟨0, 0, none⟩ = some (errV a7)
def AgOut (w : World) (br bw : Nat) (rv : Value) (l : List Int) (p' : Nat) (xs : List Int) (w2 : World) : Prop := ∃ v', Rd w2 br rv l p' ∧ Wr w2 bw v' xs ∧ Kept (fun i => i = br ∨ i = bw) w w2
def AgPost (w : World) (br bw : Nat) (rv : Value) (l : List Int) (p : Nat) (e : Ending) (w' : World) : Prop :=
  ∃ ok p' xs, e = .returned (.bool ok) ∧ AgOut w br bw rv l p' xs w' ∧ xs.length ≤ 17592186044416 ∧ p ≤ p' ∧ (ok = true → xs = (l.drop p).take (p' - p)) ∧ (ok = false → p' = p)
section
variable {w : World} {br bw : Nat} {rv : Value} {l : List Int} {p : Nat} {a0 a1 a2 a3 a7 : Addr}
theorem AgIn.alloc (h : AgIn w br bw rv l p a0 a1 a2 a3 a7) (o : Obj) : AgIn (w.alloc o) br bw rv l p a0 a1 a2 a3 a7 :=
  have k := Kept.alloc w o
  ⟨h.rd.alloc o, h.wr.alloc o, h.ne, h.far, h.sm, k.cell h.g0 (fun f => f), k.cell h.g1 (fun f => f), k.cell h.g2 (fun f => f), k.cell h.g3 (fun f => f), k.cell h.g7 (fun f => f)⟩
theorem AgIn.wr1 (h : AgIn w br bw rv l p a0 a1 a2 a3 a7) {o : Obj} {w1 : World} (k : Kept (fun i => i = br) (w.alloc o) w1) : Wr w1 bw (.slice none 0 0) [] := by
  refine (h.wr.alloc o).kept k ?_
  rintro i (e | e)
  · rw [e]; exact h.ne
  · simp [Value.ownBlock] at e
theorem AgIn.fin (h : AgIn w br bw rv l p a0 a1 a2 a3 a7) {o : Obj} {w1 w2 : World} {p' : Nat} {v' : Value} {xs : List Int} (hr : Rd w1 br rv l p') (k : Kept (fun i => i = br) (w.alloc o) w1) (hw2 : Wr w2 bw v' ([] ++ xs)) (hs : WStep w1 w2 bw (.slice none 0 0) v') : AgOut w br bw rv l p' xs w2 := by
  have hF : ∀ i, WF bw (.slice none 0 0) i → i = bw := by
    rintro i (e | e)
    · exact e
    · simp [Value.ownBlock] at e
  refine ⟨v', hr.kept hs.kept (fun f => h.ne (hF _ f).symm) (fun i hi f => ?_), by simpa using hw2, ?_⟩
  · rw [hF _ f] at hi
    exact h.far hi
  · have k1 : Kept (fun i => i = br ∨ i = bw) w w1 := ((Kept.alloc w o).mono (fun _ f => f.elim)).trans k (fun _ e => .inl (.inl e))
    exact k1.trans hs.kept (fun i f => .inl (.inr (hF i f)))
theorem quietly {e : Ending} {w0 w' : World} {z : Value} {ad : Addr} (h : Rd w0 br rv l p) (hq : e = .returned (.tuple #[z, errV ad]) ∧ ∃ n, w' = w0.drewN n) : e = .returned (.tuple #[z, erV false ad]) ∧ Hid (Rd w' br rv l p ∧ Kept (fun i => i = br) w0 w') := by
  obtain ⟨rfl, n, rfl⟩ := hq
  exact ⟨rfl, h.drewN n, (Kept.drewN _ _).mono (fun _ f => f.elim)⟩
theorem AgPost.yes {e : Ending} {w' : World} {p' : Nat} {xs : List Int} (hq : e = .returned (.bool true) ∧ AgOut w br bw rv l p' xs w') (hl : xs.length ≤ 17592186044416) (hp : p ≤ p') (hx : xs = (l.drop p).take (p' - p)) : AgPost w br bw rv l p e w' :=
  ⟨true, p', xs, hq.1, hq.2, hl, hp, fun _ => hx, (fun e => nomatch e)⟩
theorem AgPost.no {e : Ending} {w' : World} {xs : List Int} (hq : e = .returned (.bool false) ∧ AgOut w br bw rv l p xs w') (hl : xs.length ≤ 17592186044416) : AgPost w br bw rv l p e w' :=
  ⟨false, p, xs, hq.1, hq.2, hl, Nat.le_refl _, (fun e => nomatch e), fun _ => rfl⟩
theorem up_bad (h : AgIn w br bw rv l p a0 a1 a2 a3 a7) (nn : Int) (hm2 : nn ≤ 9223372036854775807) (hno : ∀ x k, rdu 0 0 (l.drop p) = .ok (x, k) → nn < (x : Int)) : ∃ ad, ∀ a c, BytesAt w a l → ∀ n, Calls Tryd.prog 42 #[.slice a l.length c, .int .i64 p, .int .i64 nn] (w.drewN n) fun e w' => e = .returned (.tuple #[.int .i64 0, .int .i64 0, errV ad]) ∧ ∃ m, w' = (w.drewN n).drewN m := by
  have hsm := h.sm
  cases hr : rdu 0 0 (l.drop p) with
  | error er =>
    obtain ⟨ad, had⟩ := errOf_form a0 a1 er
    refine ⟨ad, fun a c hb n => ?_⟩
    have q := upat_err l a c p er nn a0 a1 (w.drewN n) hb h.rd.isb h.rd.le (by omega) h.g0 h.g1 hr
    rw [had] at q
    exact q
  | ok xk =>
    obtain ⟨x, k⟩ := xk
    exact ⟨a2, fun a c hb n => upat_lim l a c p x k nn a0 a1 a2 (w.drewN n) hb h.rd.isb h.rd.le (by omega) h.g0 h.g1 h.g2 hr (hno x k hr) hm2⟩
theorem take_split {l : List Int} {p k n : Nat} : (l.drop p).take (k + n) = (l.drop p).take k ++ (l.drop (p + k)).take n := by
  rw [← List.drop_drop, ← List.take_append_drop k ((l.drop p).take (k + n)), List.take_take, Nat.min_eq_left (by omega), List.drop_take, Nat.add_sub_cancel_left]
variable (sec : Bool) (nn uu ii : Int) (bv : Value) (s : ByteArray) (lv : Value)
theorem again_1 (h : AgIn w br bw rv l p a0 a1 a2 a3 a7) : Calls Tryd.prog 8 #[.pointer (some ⟨br, 0, none⟩), .pointer (some ⟨bw, 0, none⟩), .agg #[.int .i64 1, .bool sec, .int .i64 nn, .int .u64 uu, .int .i64 ii, bv, .string s, lv]] w fun e w' => AgPost w br bw rv l p e w' := by
  have hA := h.alloc (opB 1 sec nn uu ii bv s lv)
  by_cases hp : p < l.length
  · refine (agw_1 br bw sec nn uu ii bv s lv (l[p]?.getD 0) true a0 w (fun w1 => Rd w1 br rv l (p + 1) ∧ Kept (fun i => i = br) (w.alloc (opB 1 sec nn uu ii bv s lv)) w1) (AgOut w br bw rv l (p + 1) [l[p]?.getD 0]) ?_ ?_).mono ?_
    · exact (rbyte_ok br rv l p _ hA.rd hp).mono fun e w1 q => ⟨q.1, q.2.1, q.2.2⟩
    · exact fun w1 q => (byte_any bw _ [] _ w1 (h.wr1 q.out.2) (by simp)).mono fun e w2 ⟨e1, v', r1, r2⟩ => ⟨e1, h.fin q.out.1 q.out.2 r1 r2⟩
    · intro e w' q
      refine AgPost.yes q (by simp) (by omega) ?_
      rw [Nat.add_sub_cancel_left, List.drop_eq_getElem_cons hp, List.getElem?_eq_getElem hp]
      rfl
  · have hpe : p = l.length := by have := h.rd.le; omega
    have hA1 := hA.rd
    refine (agw_1 br bw sec nn uu ii bv s lv 0 false a0 w (fun w1 => Rd w1 br rv l p ∧ Kept (fun i => i = br) (w.alloc (opB 1 sec nn uu ii bv s lv)) w1) (AgOut w br bw rv l p [0]) ?_ ?_).mono ?_
    · refine (rbyte_short br rv l a0 _ (by rw [← hpe]; exact hA1) hA.g0).mono fun e w1 q => quietly hA1 q
    · exact fun w1 q => (byte_any bw _ [] _ w1 (h.wr1 q.out.2) (by simp)).mono fun e w2 ⟨e1, v', r1, r2⟩ => ⟨e1, h.fin q.out.1 q.out.2 r1 r2⟩
    · exact fun e w' q => AgPost.no q (by simp)
theorem again_2 (h : AgIn w br bw rv l p a0 a1 a2 a3 a7) : Calls Tryd.prog 8 #[.pointer (some ⟨br, 0, none⟩), .pointer (some ⟨bw, 0, none⟩), .agg #[.int .i64 2, .bool sec, .int .i64 nn, .int .u64 uu, .int .i64 ii, bv, .string s, lv]] w fun e w' => AgPost w br bw rv l p e w' := by
  have hA := h.alloc (opB 2 sec nn uu ii bv s lv)
  cases hr : rdu 0 0 (l.drop p) with
  | ok xk =>
    obtain ⟨x, k⟩ := xk
    have hx := rdu_lt (l.drop p) 0 0 x k (by omega) (by decide) (fun y hy => h.rd.isb y (List.mem_of_mem_drop hy)) hr
    have hf := rdu_form (fun y hy => h.rd.isb y (List.mem_of_mem_drop hy)) hr
    refine (agw_2 br bw sec nn uu ii bv s lv x hx true a0 w (fun w1 => Rd w1 br rv l (p + k) ∧ Kept (fun i => i = br) (w.alloc (opB 2 sec nn uu ii bv s lv)) w1) (AgOut w br bw rv l (p + k) (uvb x)) ?_ ?_).mono ?_
    · exact (ruv_ok br rv l p x k a0 a1 _ hA.rd hr hA.g0 hA.g1).mono fun e w1 q => ⟨q.1, q.2.1, q.2.2⟩
    · exact fun w1 q => (wuv_any bw _ [] x w1 (h.wr1 q.out.2) hx (by simp)).mono fun e w2 ⟨e1, v', r1, r2⟩ => ⟨e1, h.fin q.out.1 q.out.2 r1 r2⟩
    · intro e w' q
      refine AgPost.yes q (by have := uvb_len x hx; omega) (by omega) ?_
      rw [Nat.add_sub_cancel_left, hf]
  | error er =>
    obtain ⟨ad, had⟩ := errOf_form a0 a1 er
    refine (agw_2 br bw sec nn uu ii bv s lv 0 (by decide) false ad w (fun w1 => Rd w1 br rv l p ∧ Kept (fun i => i = br) (w.alloc (opB 2 sec nn uu ii bv s lv)) w1) (AgOut w br bw rv l p (uvb 0)) ?_ ?_).mono ?_
    · refine (ruv_err br rv l p er a0 a1 _ hA.rd hr hA.g0 hA.g1).mono fun e w1 q => ?_
      rw [had] at q
      exact quietly hA.rd q
    · exact fun w1 q => (wuv_any bw _ [] 0 w1 (h.wr1 q.out.2) (by decide) (by simp)).mono fun e w2 ⟨e1, v', r1, r2⟩ => ⟨e1, h.fin q.out.1 q.out.2 r1 r2⟩
    · exact fun e w' q => AgPost.no q (by have := uvb_len 0 (by decide); omega)
theorem again_3 (h : AgIn w br bw rv l p a0 a1 a2 a3 a7) : Calls Tryd.prog 8 #[.pointer (some ⟨br, 0, none⟩), .pointer (some ⟨bw, 0, none⟩), .agg #[.int .i64 3, .bool sec, .int .i64 nn, .int .u64 uu, .int .i64 ii, bv, .string s, lv]] w fun e w' => AgPost w br bw rv l p e w' := by
  have hA := h.alloc (opB 3 sec nn uu ii bv s lv)
  cases hr : rdu 0 0 (l.drop p) with
  | ok xk =>
    obtain ⟨x, k⟩ := xk
    have hx := rdu_lt (l.drop p) 0 0 x k (by omega) (by decide) (fun y hy => h.rd.isb y (List.mem_of_mem_drop hy)) hr
    have hf := rdu_form (fun y hy => h.rd.isb y (List.mem_of_mem_drop hy)) hr
    have hz : (zig (zag x)).toNat = x := by rw [zig_zag _ (by omega)]; omega
    have hb1 : -9223372036854775808 ≤ zag x ∧ zag x ≤ 9223372036854775807 := by unfold zag; split <;> omega
    refine (agw_3 br bw sec nn uu ii bv s lv (zag x) true a0 w (fun w1 => Rd w1 br rv l (p + k) ∧ Kept (fun i => i = br) (w.alloc (opB 3 sec nn uu ii bv s lv)) w1) (AgOut w br bw rv l (p + k) (uvb x)) ?_ ?_).mono ?_
    · exact (rvar_ok br rv l p x k a0 a1 _ hA.rd hr hA.g0 hA.g1).mono fun e w1 q => ⟨q.1, q.2.1, q.2.2⟩
    · exact fun w1 q => (wvar_any bw _ [] (zag x) w1 (h.wr1 q.out.2) hb1.1 hb1.2 (by simp)).mono fun e w2 ⟨e1, v', r1, r2⟩ => ⟨e1, h.fin q.out.1 q.out.2 (by rw [hz] at r1; exact r1) r2⟩
    · intro e w' q
      refine AgPost.yes q (by have := uvb_len x hx; omega) (by omega) ?_
      rw [Nat.add_sub_cancel_left, hf]
  | error er =>
    obtain ⟨ad, had⟩ := errOf_form a0 a1 er
    refine (agw_3 br bw sec nn uu ii bv s lv 0 false ad w (fun w1 => Rd w1 br rv l p ∧ Kept (fun i => i = br) (w.alloc (opB 3 sec nn uu ii bv s lv)) w1) (AgOut w br bw rv l p (uvb (zig 0).toNat)) ?_ ?_).mono ?_
    · refine (rvar_err br rv l p er a0 a1 _ hA.rd hr hA.g0 hA.g1).mono fun e w1 q => ?_
      rw [had] at q
      exact quietly hA.rd q
    · exact fun w1 q => (wvar_any bw _ [] 0 w1 (h.wr1 q.out.2) (by decide) (by decide) (by simp)).mono fun e w2 ⟨e1, v', r1, r2⟩ => ⟨e1, h.fin q.out.1 q.out.2 r1 r2⟩
    · exact fun e w' q => AgPost.no q (by have := uvb_len (zig 0).toNat (by decide); omega)
theorem again_4 (h : AgIn w br bw rv l p a0 a1 a2 a3 a7) : Calls Tryd.prog 8 #[.pointer (some ⟨br, 0, none⟩), .pointer (some ⟨bw, 0, none⟩), .agg #[.int .i64 4, .bool sec, .int .i64 nn, .int .u64 uu, .int .i64 ii, bv, .string s, lv]] w fun e w' => AgPost w br bw rv l p e w' := by
  have hA := h.alloc (opB 4 sec nn uu ii bv s lv)
  by_cases hp : p + 4 ≤ l.length
  · have hB : IsBytes ((l.drop p).take 4) := fun y hy => h.rd.isb y (List.mem_of_mem_drop (List.mem_of_mem_take hy))
    have hlen : ((l.drop p).take 4).length = 4 := by rw [List.length_take, List.length_drop]; omega
    have hv := le_vle _ hB
    rw [hlen] at hv
    have hlt : vle ((l.drop p).take 4) < 4294967296 := by
      have := vle_lt _ hB
      rw [hlen] at this
      omega
    refine (agw_4 br bw sec nn uu ii bv s lv (vle ((l.drop p).take 4)) true a0 w (fun w1 => Rd w1 br rv l (p + 4) ∧ Kept (fun i => i = br) (w.alloc (opB 4 sec nn uu ii bv s lv)) w1) (AgOut w br bw rv l (p + 4) (le 4 (vle ((l.drop p).take 4)))) ?_ ?_).mono ?_
    · exact (rw32_ok br rv l p _ hA.rd hp).mono fun e w1 q => ⟨q.1, q.2.1, q.2.2⟩
    · exact fun w1 q => (w32_any bw _ [] _ w1 (h.wr1 q.out.2) hlt (by simp)).mono fun e w2 ⟨e1, v', r1, r2⟩ => ⟨e1, h.fin q.out.1 q.out.2 r1 r2⟩
    · intro e w' q
      refine AgPost.yes q (by rw [le_length]; omega) (by omega) ?_
      rw [Nat.add_sub_cancel_left, hv]
  · refine (agw_4 br bw sec nn uu ii bv s lv 0 false a0 w (fun w1 => Rd w1 br rv l p ∧ Kept (fun i => i = br) (w.alloc (opB 4 sec nn uu ii bv s lv)) w1) (AgOut w br bw rv l p (le 4 0)) ?_ ?_).mono ?_
    · exact (rw32_short br rv l p a0 _ hA.rd (by omega) hA.g0).mono fun e w1 q => quietly hA.rd q
    · exact fun w1 q => (w32_any bw _ [] 0 w1 (h.wr1 q.out.2) (by decide) (by simp)).mono fun e w2 ⟨e1, v', r1, r2⟩ => ⟨e1, h.fin q.out.1 q.out.2 r1 r2⟩
    · exact fun e w' q => AgPost.no q (by rw [le_length]; omega)
theorem again_5 (h : AgIn w br bw rv l p a0 a1 a2 a3 a7) : Calls Tryd.prog 8 #[.pointer (some ⟨br, 0, none⟩), .pointer (some ⟨bw, 0, none⟩), .agg #[.int .i64 5, .bool sec, .int .i64 nn, .int .u64 uu, .int .i64 ii, bv, .string s, lv]] w fun e w' => AgPost w br bw rv l p e w' := by
  have hA := h.alloc (opB 5 sec nn uu ii bv s lv)
  by_cases hp : p + 8 ≤ l.length
  · have hB : IsBytes ((l.drop p).take 8) := fun y hy => h.rd.isb y (List.mem_of_mem_drop (List.mem_of_mem_take hy))
    have hlen : ((l.drop p).take 8).length = 8 := by rw [List.length_take, List.length_drop]; omega
    have hv := le_vle _ hB
    rw [hlen] at hv
    have hlt : vle ((l.drop p).take 8) < 18446744073709551616 := by
      have := vle_lt _ hB
      rw [hlen] at this
      omega
    refine (agw_5 br bw sec nn uu ii bv s lv (vle ((l.drop p).take 8)) true a0 w (fun w1 => Rd w1 br rv l (p + 8) ∧ Kept (fun i => i = br) (w.alloc (opB 5 sec nn uu ii bv s lv)) w1) (AgOut w br bw rv l (p + 8) (le 8 (vle ((l.drop p).take 8)))) ?_ ?_).mono ?_
    · exact (rw64_ok br rv l p _ hA.rd hp).mono fun e w1 q => ⟨q.1, q.2.1, q.2.2⟩
    · exact fun w1 q => (w64_any bw _ [] _ w1 (h.wr1 q.out.2) hlt (by simp)).mono fun e w2 ⟨e1, v', r1, r2⟩ => ⟨e1, h.fin q.out.1 q.out.2 r1 r2⟩
    · intro e w' q
      refine AgPost.yes q (by rw [le_length]; omega) (by omega) ?_
      rw [Nat.add_sub_cancel_left, hv]
  · refine (agw_5 br bw sec nn uu ii bv s lv 0 false a0 w (fun w1 => Rd w1 br rv l p ∧ Kept (fun i => i = br) (w.alloc (opB 5 sec nn uu ii bv s lv)) w1) (AgOut w br bw rv l p (le 8 0)) ?_ ?_).mono ?_
    · exact (rw64_short br rv l p a0 _ hA.rd (by omega) hA.g0).mono fun e w1 q => quietly hA.rd q
    · exact fun w1 q => (w64_any bw _ [] 0 w1 (h.wr1 q.out.2) (by decide) (by simp)).mono fun e w2 ⟨e1, v', r1, r2⟩ => ⟨e1, h.fin q.out.1 q.out.2 r1 r2⟩
    · exact fun e w' q => AgPost.no q (by rw [le_length]; omega)
theorem again_10 (h : AgIn w br bw rv l p a0 a1 a2 a3 a7) (hm2 : nn ≤ 9223372036854775807) : Calls Tryd.prog 8 #[.pointer (some ⟨br, 0, none⟩), .pointer (some ⟨bw, 0, none⟩), .agg #[.int .i64 10, .bool sec, .int .i64 nn, .int .u64 uu, .int .i64 ii, bv, .string s, lv]] w fun e w' => AgPost w br bw rv l p e w' := by
  have hA := h.alloc (opB 10 sec nn uu ii bv s lv)
  by_cases hok : ∃ x k, rdu 0 0 (l.drop p) = .ok (x, k) ∧ (x : Int) ≤ nn
  · obtain ⟨x, k, hr, hm⟩ := hok
    have hx : x < 18446744073709551616 := by omega
    have hf := rdu_form (fun y hy => h.rd.isb y (List.mem_of_mem_drop hy)) hr
    refine (agw_10 br bw sec nn uu ii bv s lv x (by omega) true a0 w (fun w1 => Rd w1 br rv l (p + k) ∧ Kept (fun i => i = br) (w.alloc (opB 10 sec nn uu ii bv s lv)) w1) (AgOut w br bw rv l (p + k) (uvb x)) ?_ ?_).mono ?_
    · exact (rupto_ok br rv l p x k nn a0 a1 _ hA.rd hr hm hm2 hA.g0 hA.g1).mono fun e w1 q => ⟨q.1, q.2.1, q.2.2⟩
    · exact fun w1 q => (wuv_any bw _ [] x w1 (h.wr1 q.out.2) hx (by simp)).mono fun e w2 ⟨e1, v', r1, r2⟩ => ⟨e1, h.fin q.out.1 q.out.2 r1 r2⟩
    · intro e w' q
      refine AgPost.yes q (by have := uvb_len x hx; omega) (by omega) ?_
      rw [Nat.add_sub_cancel_left, hf]
  · obtain ⟨ad, had⟩ := up_bad hA nn hm2 (fun x k hr => by
      by_cases h1 : (x : Int) ≤ nn
      · exact absurd ⟨x, k, hr, h1⟩ hok
      · omega)
    refine (agw_10 br bw sec nn uu ii bv s lv 0 (by decide) false ad w (fun w1 => Rd w1 br rv l p ∧ Kept (fun i => i = br) (w.alloc (opB 10 sec nn uu ii bv s lv)) w1) (AgOut w br bw rv l p (uvb 0)) ?_ ?_).mono ?_
    · exact (rupto_bad br rv l p nn ad _ hA.rd had).mono fun e w1 q => quietly hA.rd q
    · exact fun w1 q => (wuv_any bw _ [] 0 w1 (h.wr1 q.out.2) (by decide) (by simp)).mono fun e w2 ⟨e1, v', r1, r2⟩ => ⟨e1, h.fin q.out.1 q.out.2 r1 r2⟩
    · exact fun e w' q => AgPost.no q (by have := uvb_len 0 (by decide); omega)
end
end Go.Proofs.YtbcohdioapmlgaaDoor
