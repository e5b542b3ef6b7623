import Derived.Test.YtcanbhbhdgogoaaDoorNpf
import Derived.Test.YtcanbhbhdgogoaaDoorMrg7
import Derived.Test.YtcanbhbhdgogoaaDoorMrg11
import Derived.Test.YtcanbhbhdgogoaaDoorAnyz
namespace Go.Proofs.YtcanbhbhdgogoaaDoor
open Go.ChangeShapes Go.WideShapes Go.ChangeAt Go.RowKit

/-- A Dict stays, whatever is written into elder memory. -/
theorem Dct.keptP {F : Nat → Prop} {w w' : World} {ws bd : Nat} {va : Value} {E : List En} (h : Dct w ws bd va E) (k : Kept F w w') (hF : ∀ i, F i → i < ws) : Dct w' ws bd va E :=
  ⟨k.heap h.blk (fun f => by have := hF _ f; have := h.new; omega), k.row h.own (fun i e f => by have := hF _ f; have := (h.own.lt i e).1; omega), h.new⟩
theorem EsAt.keptP {F : Nat → Prop} {w w' : World} {a : Option Addr} {l : List En} (h : EsAt w a l) (k : Kept F w w') (hF : ∀ p : Addr, a = some p → ¬ F p.block) : EsAt w' a l := by
  intro hne
  obtain ⟨b, off, e, hc⟩ := h hne
  have hb : ¬ F b := hF _ e
  refine ⟨b, off, e, fun j hj => ?_⟩
  obtain ⟨x0, x1, x2, x3, x4⟩ := hc j hj
  exact ⟨k.cell x0 hb, k.cell x1 hb, k.cell x2 hb, k.cell x3 hb, k.cell x4 hb⟩
theorem BytesAt.keptP {F : Nat → Prop} {w w' : World} {a : Option Addr} {l : List Int} (h : BytesAt w a l) (k : Kept F w w') (hF : ∀ p : Addr, a = some p → ¬ F p.block) : BytesAt w' a l := by
  intro hne
  obtain ⟨b, off, e, hc⟩ := h hne
  have hb : ¬ F b := hF _ e
  exact ⟨b, off, e, fun j hj => k.cell (hc j hj) hb⟩
/-- The number of Build's answer. -/
noncomputable def bkk (E : List En) : Int := open Classical in if E.all genB = false then 3 else if Rises E then 0 else 4
theorem bkk_lim {E : List En} (h : E.all genB = false) : bkk E = 3 := by unfold bkk; rw [if_pos h]
theorem bkk_good {E : List En} (h : E.all genB = true) (hr : Rises E) : bkk E = 0 := by unfold bkk; rw [if_neg (by rw [h]; simp), if_pos hr]
theorem bkk_ord {E : List En} (h : E.all genB = true) (hr : ¬ Rises E) : bkk E = 4 := by unfold bkk; rw [if_neg (by rw [h]; simp), if_neg hr]
theorem bkk_zero {E : List En} (h : bkk E = 0) : Good E := by
  cases hg : E.all genB with
  | false => rw [bkk_lim hg] at h; omega
  | true =>
    by_cases hr : Rises E
    · exact good_of (all_gen.1 hg) hr
    · rw [bkk_ord hg hr] at h; omega
theorem bkk_in (E : List En) : bkk E = 0 ∨ bkk E = 3 ∨ bkk E = 4 := by
  cases hg : E.all genB with
  | false => exact .inr (.inl (bkk_lim hg))
  | true =>
    by_cases hr : Rises E
    · exact .inl (bkk_good hg hr)
    · exact .inr (.inr (bkk_ord hg hr))
/-- What Build answers at any list. -/
structure BdR (E : List En) (ad : Nat → Addr) (base : Nat) (W : World) (vb ev : Value) : Prop where
  no : bkk E ≠ 0 → vb = .slice none 0 0
  e0 : bkk E = 0 → ev = .nilIface
  e3 : bkk E = 3 → ev = .iface 121 (.pointer (some (ad 2)))
  e4 : bkk E = 4 → ev = .iface 121 (.pointer (some (ad 3)))
  yes : bkk E = 0 → ∃ g, base ≤ g ∧ vb = .slice (some ⟨g, 0, none⟩) (img E).length (img E).length ∧ W.ownsRow base 5 1 vb (img E).length (bs (img E))
theorem build_all (E : List En) (a : Option Addr) (c : Nat) (ad : Nat → Addr) (w : World) (hE : EsAt w a E) (hl : E.length ≤ 1048576) (hc : E.length ≤ c) (hx : Errs13 w ad) :
    Calls Tryd.prog 6 #[.slice a E.length c] w fun e w' => (∃ vb ev, e = .returned (.tuple #[vb, ev]) ∧ BdR E ad w.heap.size w' vb ev) ∧ Kept (fun _ => False) w w' := by
  cases hg : E.all genB with
  | false =>
    refine (build_lim E a c (ad 2) w hE (by omega) hx.s2.var hg).mono ?_
    rintro e w' ⟨rfl, k⟩
    exact ⟨⟨_, _, rfl, ⟨fun _ => rfl, fun h => by rw [bkk_lim hg] at h; omega, fun _ => rfl, fun h => by rw [bkk_lim hg] at h; omega, fun h => by rw [bkk_lim hg] at h; omega⟩⟩, k⟩
  | true =>
    by_cases hr : Rises E
    · refine (build_good E a c w hE (by omega) hc (good_of (all_gen.1 hg) hr)).mono ?_
      rintro e w' ⟨⟨g, h1, rfl, h2⟩, k⟩
      exact ⟨⟨_, _, rfl, ⟨fun h => absurd (bkk_good hg hr) h, fun _ => rfl, fun h => by rw [bkk_good hg hr] at h; omega, fun h => by rw [bkk_good hg hr] at h; omega, fun _ => ⟨g, h1, rfl, h2⟩⟩⟩, k⟩
    · refine (build_ord E a c (ad 3) w hE (by omega) hx.s3.var hg hr).mono ?_
      rintro e w' ⟨rfl, k⟩
      exact ⟨⟨_, _, rfl, ⟨fun _ => rfl, fun h => by rw [bkk_ord hg hr] at h; omega, fun h => by rw [bkk_ord hg hr] at h; omega, fun _ => rfl, fun h => by rw [bkk_ord hg hr] at h; omega⟩⟩, k⟩
/-- The document's Build at any list. -/
theorem rbuild_all (E : List En) (a : Option Addr) (n c : Nat) (w : World) (hn : n = E.length) (hE : EsAt w a E) (hl : n ≤ 1048576) :
    Calls Tryd.prog 7 #[.slice a n c] w fun e w' => (∃ va vn vc, e = .returned (.tuple #[.slice va vn vc, .int .i64 (bkk E)]) ∧ (bkk E ≠ 0 → va = none ∧ vn = 0 ∧ vc = 0) ∧ (bkk E = 0 → vn = (img E).length ∧ BytesAt w' va (img E)) ∧ (va = none → vc = 0) ∧ (∀ p, va = some p → w.heap.size ≤ p.block)) ∧ Kept (fun _ => False) w w' := by
  cases hg : E.all genB with
  | false =>
    refine (rbuild_no 3 E a n c w hn hE (by omega) (.inl ⟨rfl, hg⟩)).mono ?_
    rintro e w' ⟨rfl, k⟩
    rw [bkk_lim hg]
    exact ⟨⟨_, _, _, rfl, fun _ => ⟨rfl, rfl, rfl⟩, fun h => by omega, fun _ => rfl, fun p e => by cases e⟩, k⟩
  | true =>
    by_cases hr : Rises E
    · rw [bkk_good hg hr]
      refine (rbuild_any E a n c w hn hE (by omega)).mono ?_
      rintro e w' (⟨-, v, rfl, hv⟩ | ⟨h, -⟩)
      · obtain ⟨va, vc, rfl, hb, hz, -⟩ := gb_at hv
        exact ⟨⟨_, _, _, rfl, fun h => absurd rfl h, fun _ => ⟨rfl, hb⟩, hz, fun p e => by subst e; exact (hv.own.lt p.block (by rcases hv.own.2 with ⟨e1, _⟩ | ⟨g, cap, cur, e1, _⟩ <;> simp only [Value.slice.injEq] at e1 <;> (try (cases e1.1)) <;> rfl)).1⟩, hv.kept⟩
      · exact absurd (good_of (all_gen.1 hg) hr) h
    · refine (rbuild_no 4 E a n c w hn hE (by omega) (.inr ⟨rfl, hg, hr⟩)).mono ?_
      rintro e w' ⟨rfl, k⟩
      rw [bkk_ord hg hr]
      exact ⟨⟨_, _, _, rfl, fun _ => ⟨rfl, rfl, rfl⟩, fun h => by omega, fun _ => rfl, fun p e => by cases e⟩, k⟩
/-- Its error's number. -/
theorem num_bdr {E : List En} {ad : Nat → Addr} {base : Nat} {W0 w : World} {vb ev : Value} (h : BdR E ad base W0 vb ev) (hx : Errs13 w ad) : Calls Tryd.prog 8 #[ev] w fun e w' => e = .returned (.int .i64 (bkk E)) ∧ w' = w := by
  rcases bkk_in E with q | q | q
  · rw [h.e0 q, q]; exact num_nil w
  · rw [h.e3 q, q]; exact num_limit hx
  · rw [h.e4 q, q]; exact num_order hx
/-- The keys written over. -/
def zzk : ByteArray := ⟨#[122, 122]⟩
def zzE (e : En) : En := ⟨zzk, e.d, e.t, e.p, e.s⟩
def zzl (i : Nat) (l : List En) : List En := (l.take i).map zzE ++ l.drop i
theorem zzl_len (i : Nat) (l : List En) : (zzl i l).length = l.length := by
  unfold zzl
  rw [List.length_append, List.length_map, List.length_take, List.length_drop]
  omega
theorem zzl_zero (l : List En) : zzl 0 l = l := by simp [zzl]
theorem zzl_all (l : List En) : zzl l.length l = l.map zzE := by simp [zzl]
theorem zzl_at {i : Nat} {l : List En} (h : i < l.length) : (zzl i l)[i]'(by rw [zzl_len]; exact h) = l[i] := by
  have e : ((l.take i).map zzE).length = i := by rw [List.length_map, List.length_take]; omega
  have : (zzl i l)[i]? = some l[i] := by
    unfold zzl
    rw [List.getElem?_append_right (by omega), e, Nat.sub_self, List.drop_eq_getElem_cons h]
    rfl
  rw [List.getElem?_eq_getElem (by rw [zzl_len]; exact h)] at this
  exact Option.some.inj this
theorem zzl_set {i : Nat} {l : List En} (h : i < l.length) : (zzl i l).set i (zzE l[i]) = zzl (i + 1) l := by
  have e : ((l.take i).map zzE).length = i := by rw [List.length_map, List.length_take]; omega
  unfold zzl
  rw [List.set_append_right _ _ (by omega), e, Nat.sub_self, List.drop_eq_getElem_cons h, List.take_succ_eq_append_getElem h, List.map_append, List.append_assoc]
  rfl
/-- A list's beginning. -/
theorem EsAt.take {W : World} {a : Option Addr} {l : List En} (h : EsAt W a l) (n : Nat) : EsAt W a (l.take n) := by
  intro hne
  obtain ⟨b, off, e, hc⟩ := h (by rintro rfl; simp at hne)
  refine ⟨b, off, e, fun k hk => ?_⟩
  have hk' : k < l.length := by rw [List.length_take] at hk; omega
  rw [List.getElem_take]
  exact hc k hk'
theorem EsAt.fore {W : World} {a : Option Addr} {l m : List En} (h : EsAt W a (l ++ m)) : EsAt W a l := by
  have := h.take l.length
  rwa [List.take_left' rfl] at this
/-- The bytes turned. -/
theorem xorD_byte (x : Int) : 0 ≤ bits .xor .u8 x 85 ∧ bits .xor .u8 x 85 ≤ 255 := by
  have h : bits .xor .u8 x 85 = IntKind.u8.wrap ((BitVec.ofInt 8 x ^^^ BitVec.ofInt 8 85).toNat : Int) := rfl
  rw [h, IntKind.wrap_u8]
  omega
def xoD (i : Nat) (l : List Int) : List Int := (l.take i).map (fun x => bits .xor .u8 x 85) ++ l.drop i
theorem xoD_len (i : Nat) (l : List Int) : (xoD i l).length = l.length := by
  unfold xoD
  rw [List.length_append, List.length_map, List.length_take, List.length_drop]
  omega
theorem xoD_zero (l : List Int) : xoD 0 l = l := by simp [xoD]
theorem xoD_succ (i : Nat) (l : List Int) (h : i < l.length) : (xoD i l).set i (bits .xor .u8 (l[i]?.getD 0) 85) = xoD (i + 1) l ∧ (xoD i l)[i]?.getD 0 = l[i]?.getD 0 := by
  have e : ((l.take i).map (fun x => bits .xor .u8 x 85)).length = i := by rw [List.length_map, List.length_take]; omega
  have hd := List.drop_eq_getElem_cons h
  constructor
  · unfold xoD
    rw [List.set_append_right _ _ (by omega), e, Nat.sub_self, hd, List.take_succ_eq_append_getElem h, List.map_append, List.append_assoc, List.getElem?_eq_getElem h]
    rfl
  · unfold xoD
    rw [List.getElem?_append_right (by omega), e, Nat.sub_self, hd, List.getElem?_eq_getElem h]
    rfl
theorem xoD_all (l : List Int) : xoD l.length l = l.map (fun x => bits .xor .u8 x 85) := by simp [xoD]
/-- The cells of a list of entries. -/
theorem es_cells {W : World} {b off : Nat} {F : List En} (h : EsAt W (some ⟨b, off, none⟩) F) : ∀ j u, (ecs F)[j]? = some u → W.cell? ((⟨b, off, none⟩ : Addr).add j) = some u := by
  intro j u hu
  have hlen : (ecs F).length = F.length * 5 := by
    unfold ecs
    rw [List.length_flatten, List.map_map]
    have : (List.length ∘ En.cells) = fun _ => 5 := by funext e; rfl
    rw [this, List.map_const']
    simp
  have hj : j < F.length * 5 := by rw [← hlen]; exact (List.getElem?_eq_some_iff.1 hu).1
  have hk : j / 5 < F.length := by omega
  obtain ⟨b', o', e, hc⟩ := h (by rintro rfl; simp at hk)
  injection e with e
  injection e with e1 e2
  subst e1 e2
  obtain ⟨x0, x1, x2, x3, x4⟩ := hc (j / 5) hk
  have hr : j % 5 < 5 := Nat.mod_lt _ (by decide)
  have hd : j / 5 * 5 + j % 5 = j := by omega
  have h2 := ecs_at F (j / 5) (j % 5) hk hr
  rw [hd, hu] at h2
  rw [Go.WideShapes.add_plain]
  have hm : j % 5 = 0 ∨ j % 5 = 1 ∨ j % 5 = 2 ∨ j % 5 = 3 ∨ j % 5 = 4 := by omega
  have ho : off + j = off + j / 5 * 5 + j % 5 := by omega
  rw [ho]
  rcases hm with q | q | q | q | q <;> rw [q] at h2 ⊢ <;> simp only [En.cells, List.getElem?_cons_zero, List.getElem?_cons_succ, Option.some.injEq] at h2 <;> subst h2
  · exact x0
  · exact x1
  · exact x2
  · exact x3
  · exact x4
theorem ecs_len (F : List En) : (ecs F).length = F.length * 5 := by
  unfold ecs
  rw [List.length_flatten, List.map_map]
  have : (List.length ∘ En.cells) = fun _ => 5 := by funext e; rfl
  rw [this, List.map_const']
  simp
theorem ecs_app (A B : List En) : ecs (A ++ B) = ecs A ++ ecs B := by simp [ecs]
theorem ecs_oneM (F : List En) : ∀ u ∈ ecs F, u.oneCell' = true := by
  intro u hu
  unfold ecs at hu
  obtain ⟨l, hl, hu⟩ := List.mem_flatten.1 hu
  obtain ⟨e, _, rfl⟩ := List.mem_map.1 hl
  simp only [En.cells, List.mem_cons, List.not_mem_nil, or_false] at hu
  rcases hu with rfl | rfl | rfl | rfl | rfl <;> rfl
/-- 'append(s, x...)' to an owned row, x empty or not. -/
theorem wpList_catO {base : Nat} {W : World} {ops : Array Oper} {rest : List Oper} {o : Oper} {act : Act} {Q : Exit → Act → World → Prop} (hgd : o.guard = none) (s x : Operand) (t : TypeId)
    (ho : o.op = .call { callee := .builtin .append, args := #[s, x], argTypes := #[t, t] }) (e : TypeId) (i : TypeInfo) (z : Value) (size bytes : Nat)
    (ht : Tryd.prog.underlying t = some (.slice e)) (hi : Tryd.prog.info? e = some i) (hz : i.zero = some z) (hsize : i.size = size) (hby : i.bytes = bytes) (hzs : z.cells.size = size) (hsz : 0 < size)
    (v : Value) (n : Nat) (xs news : List Value) (hs : act.eval s = v) (hG : Hid (W.ownsRow base e size v n xs)) (ad : Option Addr) (m c : Nat) (hx : act.eval x = .slice ad m c)
    (hl : Hid (news.length = m * size)) (hc : Hid (∀ p, ad = some p → ∀ j u, news[j]? = some u → W.cell? (p.add j) = some u)) (h1 : ∀ u ∈ news, u.oneCell' = true) (h0 : Hid (ad = none → m = 0 ∧ c = 0)) (hb : Hid ((n + m) * bytes ≤ 140737488355328)) (h63 : Hid (n + m ≤ maxLen)) (hb0 : Hid (base ≤ W.heap.size))
    (h : ∀ a' c' W', Hid (W'.ownsRow base e size (.slice a' (n + m) c') (n + m) (xs ++ news)) → Hid (Kept (fun k => v.ownBlock = some k) W W') → wpList Tryd.prog ops Q rest (act.put o.dst (.slice a' (n + m) c')) W') : wpList Tryd.prog ops Q (o :: rest) act W := by
  cases ad with
  | none =>
    obtain ⟨rfl, rfl⟩ := h0.out rfl
    obtain rfl : news = [] := List.eq_nil_of_length_eq_zero (by rw [hl.out]; simp)
    obtain ⟨a', c', rfl⟩ := row_shape hG.out
    refine wpList_append_own_none hgd s x t ho base e i size ht hi _ n xs hs hG.out hx ?_
    have := h a' c' W (hideQ (by rw [List.append_nil]; exact hG.out)) (hideQ (Kept.refl _ _))
    exact this
  | some p =>
    refine wpList_append_own W hgd s x t ho base e i z size bytes ht hi hz hsize hby hzs hsz v n xs hs hG.out p m c news hx hl.out (hc.out p rfl) h1 h63.out hb.out hb0.out ?_
    intro v' w1 ho1 hg1 _
    obtain ⟨a', c', rfl⟩ := row_shape ho1
    exact h a' c' w1 (hideQ ho1) (hideQ (Kept.grown hg1))
theorem row_base0 {W : World} {base n : Nat} {e : TypeId} {s : Nat} {v : Value} {xs : List Value} (h : W.ownsRow base e s v n xs) : W.ownsRow 0 e s v n xs := by
  refine ⟨h.1, ?_⟩
  rcases h.2 with q | ⟨g, cap, cur, e1, _, r⟩
  · exact .inl q
  · exact .inr ⟨g, cap, cur, e1, Nat.zero_le _, r⟩
theorem row_blockM {W : World} {base n : Nat} {v : Value} {E : List En} (h : W.ownsRow base 31 5 v n (ecs E)) (hn : 0 < n) : ∃ g c cur, v = .slice (some ⟨g, 0, none⟩) n c ∧ base ≤ g ∧ W.heap[g]? = some (.cells cur 31 (0, 0)) ∧ n * 5 ≤ cur.size ∧ n ≤ c := by
  rcases h.2 with ⟨e1, e2⟩ | ⟨g, cap, cur, e1, hg, hh, hn', hm, hs, ht⟩
  · omega
  · exact ⟨g, cap, cur, e1, hg, hh, by
      have h1 := h.1
      rw [← ht, List.length_take, Array.length_toList] at h1
      omega, by omega⟩
/-- A cell of a list of entries is written over. -/
theorem es_setM {W : World} {b : Nat} {E : List En} (h : EsAt W (some ⟨b, 0, none⟩) E) {i j : Nat} (hi : i < E.length) (hj : j < 5) (v : Value) (e' : En) (hv : ∀ j', j' < 5 → (e'.cells)[j']? = if j' = j then some v else (E[i]).cells[j']?) (hb : ∃ cs t, W.heap[b]? = some (.cells cs t (0, 0)) ∧ i * 5 + j < cs.size) : EsAt (W.setCell ⟨b, i * 5 + j, none⟩ v) (some ⟨b, 0, none⟩) (E.set i e') := by
  intro _
  obtain ⟨b', off, e, hc⟩ := h (by intro e; rw [e] at hi; simp at hi)
  injection e with e
  injection e with e1 e2
  subst e1 e2
  have key : ∀ o u, W.cell? ⟨b, o, none⟩ = some u → (W.setCell ⟨b, i * 5 + j, none⟩ v).cell? ⟨b, o, none⟩ = if o = i * 5 + j then some v else some u := by
    intro o u hu
    obtain ⟨cs, t, hh, hlt⟩ := hb
    have h2 := heap_setCell_same W b (i * 5 + j) cs t v hh
    rw [cell_of_row W b o _ _ _ hh] at hu
    rw [cell_of_row _ b o _ _ _ h2, Array.getElem?_setIfInBounds]
    by_cases q : o = i * 5 + j
    · rw [if_pos q.symm, if_pos hlt, if_pos q]
    · rw [if_neg (fun e => q e.symm), if_neg q]
      exact hu
  refine ⟨b, 0, rfl, fun k hk => ?_⟩
  have hk' : k < E.length := by rw [List.length_set] at hk; exact hk
  obtain ⟨c0, c1, c2, c3, c4⟩ := hc k hk'
  have d0 := key _ _ c0
  have d1 := key _ _ c1
  have d2 := key _ _ c2
  have d3 := key _ _ c3
  have d4 := key _ _ c4
  by_cases q : k = i
  · subst q
    have v0 := hv 0 (by omega)
    have v1 := hv 1 (by omega)
    have v2 := hv 2 (by omega)
    have v3 := hv 3 (by omega)
    have v4 := hv 4 (by omega)
    simp only [En.cells, List.getElem?_cons_zero, List.getElem?_cons_succ] at v0 v1 v2 v3 v4
    have eg : (E.set k e')[k] = e' := by simp
    rw [eg]
    simp only [Nat.zero_add] at d0 d1 d2 d3 d4 ⊢
    refine ⟨?_, ?_, ?_, ?_, ?_⟩
    · rw [d0, v0]; congr 1; simp only [eq_iff_iff]; omega
    · rw [d1, v1]; congr 1; simp only [eq_iff_iff]; omega
    · rw [d2, v2]; congr 1; simp only [eq_iff_iff]; omega
    · rw [d3, v3]; congr 1; simp only [eq_iff_iff]; omega
    · rw [d4, v4]; congr 1; simp only [eq_iff_iff]; omega
  · have eg : (E.set i e')[k] = E[k] := by
      rw [List.getElem_set, if_neg (fun e => q e.symm)]
    rw [eg]
    simp only [Nat.zero_add] at d0 d1 d2 d3 d4 ⊢
    refine ⟨?_, ?_, ?_, ?_, ?_⟩
    · rw [d0, if_neg (by omega)]
    · rw [d1, if_neg (by omega)]
    · rw [d2, if_neg (by omega)]
    · rw [d3, if_neg (by omega)]
    · rw [d4, if_neg (by omega)]
theorem Good.risesM {E : List En} (h : Good E) : Rises E := chn_rises E _ h.chn
/-- Both Opens over any bytes: the number and the error. -/
noncomputable def okk (l : List Int) : Int := open Classical in if opn l = none then 10 else 0
theorem ropen_all (l : List Int) (a : Option Addr) (n c : Nat) (w : World) (hn : n = l.length) (hB : BytesAt w a l) (hI : IsBytes l) (hl : n ≤ 1073741824) (hc : n ≤ c) :
    Calls Tryd.prog 14 #[.slice a n c] w fun e w' => (∃ x, e = .returned (.tuple #[x, .int .i64 (okk l)])) ∧ Kept (fun _ => False) w w' := by
  refine (ropen_any l a n c w hn hB hI hl hc).mono ?_
  rintro e w' ⟨hr, k⟩
  refine ⟨?_, k⟩
  rcases hr with ⟨h, rfl⟩ | ⟨E, va, vc, h, rfl, -⟩
  · exact ⟨_, by unfold okk; rw [if_pos h]⟩
  · exact ⟨_, by unfold okk; rw [if_neg (by rw [h]; simp)]⟩
theorem open_all (l : List Int) (a : Option Addr) (n c : Nat) (ad : Nat → Addr) (w : World) (hn : n = l.length) (hB : BytesAt w a l) (hI : IsBytes l) (hl : n ≤ 1073741824) (hx : Errs13 w ad) :
    Calls Tryd.prog 11 #[.slice a n c] w fun e w' => (∃ x ev, e = .returned (.tuple #[x, ev]) ∧ ∀ W, Errs13 W ad → Calls Tryd.prog 8 #[ev] W fun e w' => e = .returned (.int .i64 (okk l)) ∧ w' = W) ∧ Kept (fun _ => False) w w' := by
  subst hn
  refine (open_any l a c ad w hB hI (by omega) (errsO13 hx)).mono ?_
  rintro e w' ⟨hp, k⟩
  refine ⟨?_, k⟩
  unfold okk
  cases ho : opn l with
  | none =>
    rw [ho] at hp
    obtain rfl : e = .returned (.tuple #[.pointer none, errV (ad 9)]) := hp
    rw [if_pos rfl]
    exact ⟨_, _, rfl, fun W h => num_corrupt h⟩
  | some E =>
    rw [ho] at hp
    obtain ⟨bd, vd, rfl, -⟩ := hp
    rw [if_neg (by simp)]
    exact ⟨_, _, rfl, fun W _ => num_nil W⟩
/-- What two Builds of one list answer is alike. -/
theorem equal_bdr {E : List En} {ad : Nat → Addr} {base : Nat} {W0 W : World} {vb ev : Value} {va : Option Addr} {vn vc : Nat} (h : BdR E ad base W0 vb ev) (k : Kept (fun _ => False) W0 W) (h1 : bkk E ≠ 0 → va = none ∧ vn = 0 ∧ vc = 0) (h2 : bkk E = 0 → vn = (img E).length ∧ BytesAt W va (img E)) :
    Calls Tryd.prog 9 #[vb, .slice va vn vc] W fun e w' => e = .returned (.bool true) ∧ w' = W := by
  by_cases q : bkk E = 0
  · obtain ⟨rfl, hb⟩ := h2 q
    obtain ⟨g, -, rfl, hr⟩ := h.yes q
    have := equalD_any (img E) (img E) (some ⟨g, 0, none⟩) va (img E).length vc W (own_bytesFW (k.row hr (fun _ _ f => f))).1 hb
    rw [eqD_self] at this
    exact this
  · obtain ⟨rfl, rfl, rfl⟩ := h1 q
    rw [h.no q]
    have := equalD_any [] [] none none 0 0 W (bytes_none W) (bytes_none W)
    rw [eqD_self] at this
    exact this
end Go.Proofs.YtcanbhbhdgogoaaDoor
namespace Go.Proofs.YtcanbhbhdgogoaaDoor
open Go.ChangeShapes Go.WideShapes Go.ChangeAt Go.RowKit

set_option maxRecDepth 20000 in
set_option maxHeartbeats 16000000 in
/-- The law DictMemory. -/
theorem dmemory_walk (hCl : ClnOk) (mk : Nat → Nat → Int) (hmk : MarkIsW mk) (E : List En) (a : Option Addr) (c : Nat) (ad : Nat → Addr) (w : World) (hE : EsAt w a E) (hl : E.length ≤ 1048576) (hc : E.length ≤ c) (h0 : a = none → c = 0) (hx : Errs13 w ad) :
    Calls Tryd.prog 3 #[.slice a E.length c] w fun e w' => e = .returned (.bool true) ∧ Kept (fun _ => False) w w' := by
  have CF := hideQ (fixed_any ad w hx)
  have HE := hideQ hE
  have HX := hideQ hx
  have HMK := hideQ hmk
  have HCL := hideQ hCl
  obtain ⟨i0, hi0, hz0, hz1, hz2⟩ := info_parts Tryd.infoE
  obtain ⟨n, hn⟩ : ∃ n, n = E.length := ⟨_, rfl⟩
  rw [← hn] at hl hc ⊢
  have HN := hideQ hn
  have H0 : Hid (a = none → n = 0 ∧ c = 0) := hideQ (fun e => by have := h0 e; omega)
  have HCA : Hid (∀ W, Kept (fun _ => False) w W → ∀ p, a = some p → ∀ j u, (ecs E)[j]? = some u → W.cell? (p.add j) = some u) := hideQ (fun W k p e j u hu => by
    have hne : E ≠ [] := by rintro rfl; simp [ecs] at hu
    obtain ⟨b, off, e2, -⟩ := hE hne
    rw [e] at e2
    injection e2 with e2
    subst e2
    subst e
    exact es_cells (hE.kept k) j u hu)
  have hi3 : ((n : Int) + 3).toNat = n + 3 := by omega
  have hw3 : IntKind.i64.wrap ((n : Int) + 3) = (n : Int) + 3 := by rw [IntKind.wrap_i64]; omega
  clear hE hx hmk hCl hn h0
  go_enter Tryd.func3, Tryd.ntmps3
  go_wp2_with (go_at_call 4; refine Stp.go ?_)
  refine ⟨?_⟩
  refine CF.out.mono ?_
  clear CF
  rintro e W1 ⟨rfl, k1⟩
  obtain ⟨V1, hrun, hown, hgrow⟩ := run_make_own (P := Tryd.prog) (w := W1) W1.heap.size 22 31 i0 _ 5 Tryd.underlying22 hi0 hz0 hz1 .i64 .i64 (n + 3) (by rw [hz2]; omega) (by unfold maxLen; omega) (Nat.le_refl _)
  rw [show ((n + 3 : Nat) : Int) = (n : Int) + 3 by omega] at hrun
  have kV : Kept (fun _ => False) W1 V1 := (Kept.grown hgrow).mono (fun _ e => by cases e)
  have HK1 := hideQ k1
  have HKV := hideQ kV
  have HO1 := hideQ hown
  have HC1 := hideQ (HCA.out V1 (k1.trans kV (fun _ f => f.elim)))
  have HS1 : Hid (W1.heap.size ≤ V1.heap.size) := hideQ kV.size
  have HLc : Hid ((ecs E).length = n * 5) := hideQ (by rw [ecs_len, HN.out])
  clear k1 kV hown hgrow HCA
  go_wp2_with (at_builtin; refine Stp.go ?_)
  refine ⟨?_⟩
  refine wpList_catO (base := W1.heap.size) rfl _ _ 22 rfl 31 i0 _ 5 48 Tryd.underlying22 hi0 hz0 hz1 hz2 rfl (by decide) _ 0 [] (ecs E) rfl HO1 a n c rfl HLc HC1 (ecs_oneM E) H0 (hideQ (by omega)) (hideQ (by unfold maxLen; omega)) HS1 ?_
  intro a2 c2 V2 O2 K2
  rw [Nat.zero_add, List.nil_append] at O2
  rw [Nat.zero_add]
  have HK2 : Hid (Kept (fun _ => False) W1 V2) := hideQ (HKV.out.trans K2.out (fun i hi => .inr (HO1.out.lt i hi).1))
  clear HO1 HC1 HS1 K2 HKV hrun HLc
  go_wp2_with (go_at_call 5; refine Stp.go ?_)
  refine ⟨?_⟩
  refine (two_any _).mono ?_
  rintro e V3 ⟨rfl, hT3, k3⟩
  have HO3 := hideQ (k3.row O2.out (fun _ _ f => f))
  have HC3 : Hid (∀ p, some (⟨V2.heap.size, 0, none⟩ : Addr) = some p → ∀ j u, (ecs twoE)[j]? = some u → V3.cell? (p.add j) = some u) := hideQ (fun p e j u hu => by
    injection e with e
    subst e
    exact es_cells hT3 j u hu)
  have HK3 := hideQ (HK2.out.trans k3 (fun _ f => f.elim))
  have HS3 : Hid (W1.heap.size ≤ V3.heap.size) := hideQ HK3.out.size
  clear O2 HK2 k3 hT3
  go_wp2_with (at_builtin; refine Stp.go ?_)
  refine ⟨?_⟩
  refine wpList_catO (base := W1.heap.size) rfl _ _ 22 rfl 31 i0 _ 5 48 Tryd.underlying22 hi0 hz0 hz1 hz2 rfl (by decide) _ n (ecs E) (ecs twoE) rfl HO3 (some ⟨V2.heap.size, 0, none⟩) 2 2 rfl (hideQ (by rw [ecs_len]; rfl)) HC3 (ecs_oneM twoE) (hideQ (fun e => by cases e)) (hideQ (by omega)) (hideQ (by unfold maxLen; omega)) HS3 ?_
  intro a4 c4 V4 O4 K4
  have HK4 : Hid (Kept (fun _ => False) W1 V4) := hideQ (HK3.out.trans K4.out (fun i hi => .inr (HO3.out.lt i hi).1))
  have hO4 := O4.out
  rw [← ecs_app] at hO4
  obtain ⟨g, ci, cur, e4, hgb, hh4, hcs4, hcap⟩ := row_blockM hO4 (by omega)
  injection e4 with e5 e6 e7
  subst e5 e7
  have HEE := hideQ (es_of_own hO4 (by rw [List.length_append, HN.out]; rfl))
  have HH4 : Hid (∃ cs, V4.heap[g]? = some (.cells cs 31 (0, 0)) ∧ (n + 2) * 5 ≤ cs.size) := hideQ ⟨cur, hh4, hcs4⟩
  have hgl : g < V4.heap.size := (hO4.lt g rfl).2
  have hgw : w.heap.size ≤ g := Nat.le_trans HK1.out.size hgb
  have HKw4 := hideQ (HK1.out.trans HK4.out (fun _ f => f.elim))
  have j1 : (n : Int) ≤ (c4 : Int) := by omega
  have j2 : n ≤ c4 := by omega
  obtain ⟨ci, hci⟩ : ∃ ci, ci = c4 := ⟨_, rfl⟩
  rw [← hci] at j1 j2 ⊢
  clear HO3 HC3 HS3 K4 O4 HK3 hO4 hh4 hcs4 hgb HK1 HK4 hcap e6 hci
  have CB : Hid (∀ W, Kept (fun _ => False) V4 W → Calls Tryd.prog 6 #[.slice (some ⟨g, 0, none⟩) n ci] W fun e w' => (∃ vb ev, e = .returned (.tuple #[vb, ev]) ∧ BdR E ad W.heap.size w' vb ev) ∧ Kept (fun _ => False) W w') := hideQ (fun W k => by
    have := build_all E (some ⟨g, 0, none⟩) ci ad W (HEE.out.fore.kept k) (by rw [← HN.out]; exact hl) (by rw [← HN.out]; exact j2) (HX.out.kept (HKw4.out.trans k (fun _ f => f.elim)))
    rw [← HN.out] at this
    exact this)
  have CB4 := hideQ (CB.out V4 (Kept.refl _ _))
  go_wp2_with (go_at_call 6; refine Stp.go ?_)
  refine ⟨?_⟩
  refine CB4.out.mono ?_
  clear CB4
  rintro e V5 ⟨⟨vb, ev, rfl, hB5⟩, k5⟩
  have HB5 := hideQ hB5
  have HK5 := hideQ k5
  clear hB5 k5
  have n2 : ((n + 2 : Nat) : Int) = (n : Int) + 2 := by omega
  go_wp2
  go_loopw [38] (fun s38 wr => ∃ k : Nat, k ≤ n + 2 ∧ s38 = .int .i64 k ∧ Hid (Kept (fun _ => False) V5 wr)) (fun s38 _ => n + 2 - (intOf s38).toNat)
  case atStart => exact ⟨0, by omega, rfl, hideQ (Kept.refl _ _)⟩
  case round =>
  obtain ⟨k, hk, rfl, HKr⟩ := hrel
  by_cases hlt : k < n + 2
  · by_cases hkn : k < n
    · have hkE : k < E.length := by rw [← HN.out]; exact hkn
      have HKa := hideQ (HK5.out.trans HKr.out (fun _ f => f.elim))
      obtain ⟨la, lo, rfl, hlc⟩ := HE.out (by rintro rfl; simp at hkE)
      obtain ⟨y0, y1, y2, y3, y4⟩ := hlc k hkE
      obtain ⟨g', o', eg, hgc⟩ := HEE.out (by simp [twoE])
      injection eg with eg
      injection eg with eg1 eg2
      subst eg1 eg2
      obtain ⟨z0, z1, z2, z3, z4⟩ := hgc k (by rw [List.length_append]; omega)
      simp only [List.getElem_append_left hkE, Nat.zero_add] at z0 z1 z2 z3 z4
      generalize E[k] = x at y0 y1 y2 y3 y4 z0 z1 z2 z3 z4
      obtain ⟨ek, e1, e2, e3, e4⟩ := x
      dsimp only at y0 y1 y2 y3 y4 z0 z1 z2 z3 z4
      have HC : Hid (∀ W, Kept (fun _ => False) wr W → W.cell? ⟨g, k * 5, none⟩ = some (.string ek) ∧ W.cell? ⟨g, k * 5 + 1, none⟩ = some (.int .i64 e1) ∧ W.cell? ⟨g, k * 5 + 2, none⟩ = some (.int .i64 e2) ∧ W.cell? ⟨g, k * 5 + 3, none⟩ = some (.int .i64 e3) ∧ W.cell? ⟨g, k * 5 + 4, none⟩ = some (.int .i64 e4)) := hideQ (fun W q => by
        have kk := HKa.out.trans q (fun _ f => f.elim)
        exact ⟨kk.cell z0 (fun f => f), kk.cell z1 (fun f => f), kk.cell z2 (fun f => f), kk.cell z3 (fun f => f), kk.cell z4 (fun f => f)⟩)
      have HCl : Hid (∀ W, Kept (fun _ => False) wr W → W.cell? ⟨la, lo + k * 5, none⟩ = some (.string ek) ∧ W.cell? ⟨la, lo + k * 5 + 1, none⟩ = some (.int .i64 e1) ∧ W.cell? ⟨la, lo + k * 5 + 2, none⟩ = some (.int .i64 e2) ∧ W.cell? ⟨la, lo + k * 5 + 3, none⟩ = some (.int .i64 e3) ∧ W.cell? ⟨la, lo + k * 5 + 4, none⟩ = some (.int .i64 e4)) := hideQ (fun W q => by
        have kk := (HKw4.out.trans HKa.out (fun _ f => f.elim)).trans q (fun _ f => f.elim)
        exact ⟨kk.cell y0 (fun f => f), kk.cell y1 (fun f => f), kk.cell y2 (fun f => f), kk.cell y3 (fun f => f), kk.cell y4 (fun f => f)⟩)
      have hS8 : Kept (fun _ => False) wr wr.drew := Kept.drew wr
      have i1 : (k : Int) < (n : Int) := by omega
      have i2 : (k : Int) < (n : Int) + 2 := by omega
      have i3 : ¬ (n : Int) ≤ (k : Int) := by omega
      have i4 : k < n + 2 := by omega
      clear y0 y1 y2 y3 y4 z0 z1 z2 z3 z4 hlc hgc CB HKa HEE
      go_wp2_with fail
      refine wp_region_held (S := fun W' => Kept (fun _ => False) wr W') (by kernel_rfl) ?_
      change wpAnyH _ _ _ _ _ _ _ _ (World.drew _)
      refine takeZ (i := 0) (d := 41) (v := .int .i64 k) rfl rfl (by kernel_rfl) (by kernel_rfl) (by kernel_rfl) (fun _ _ _ h => h) (Or.inl ⟨by rfl, fun W hW => ?_⟩) hS8 ?_
      · (go_simp)
      simp only [Act.put, List.setIfInBounds_toArray, List.set_cons_zero, List.set_cons_succ]
      refine takeZ (i := 1) (d := 42) (v := .slice (some ⟨la, lo, none⟩) n c) rfl rfl (by kernel_rfl) (by kernel_rfl) (by kernel_rfl) (fun _ _ _ h => h) (Or.inl ⟨by rfl, fun W hW => ?_⟩) hS8 ?_
      · (go_simp)
      simp only [Act.put, List.setIfInBounds_toArray, List.set_cons_zero, List.set_cons_succ]
      refine takeZ (i := 2) (d := 43) (v := .int .i64 n) rfl rfl (by kernel_rfl) (by kernel_rfl) (by kernel_rfl) (fun _ _ _ h => h) (Or.inl ⟨by rfl, fun W hW => ?_⟩) hS8 ?_
      · (go_simp)
      simp only [Act.put, List.setIfInBounds_toArray, List.set_cons_zero, List.set_cons_succ]
      refine takeZ (i := 3) (d := 44) (v := .bool true) rfl rfl (by kernel_rfl) (by kernel_rfl) (by kernel_rfl) (fun _ _ _ h => h) (Or.inl ⟨by rfl, fun W hW => ?_⟩) hS8 ?_
      · (go_simp)
      simp only [Act.put, List.setIfInBounds_toArray, List.set_cons_zero, List.set_cons_succ]
      refine takeZ (i := 4) (d := 45) (v := .bool true) rfl rfl (by kernel_rfl) (by kernel_rfl) (by kernel_rfl) (fun _ _ _ h => h) (Or.inl ⟨by rfl, fun W hW => ?_⟩) hS8 ?_
      · (go_simp)
      simp only [Act.put, List.setIfInBounds_toArray, List.set_cons_zero, List.set_cons_succ]
      refine takeZ (i := 5) (d := 46) (v := .slice (some ⟨g, 0, none⟩) (n + 2) ci) rfl rfl (by kernel_rfl) (by kernel_rfl) (by kernel_rfl) (fun _ _ _ h => h) (Or.inl ⟨by rfl, fun W hW => ?_⟩) hS8 ?_
      · (go_simp)
      simp only [Act.put, List.setIfInBounds_toArray, List.set_cons_zero, List.set_cons_succ]
      refine takeZ (i := 6) (d := 47) (v := .int .i64 k) rfl rfl (by kernel_rfl) (by kernel_rfl) (by kernel_rfl) (fun _ _ _ h => h) (Or.inl ⟨by rfl, fun W hW => ?_⟩) hS8 ?_
      · (go_simp)
      simp only [Act.put, List.setIfInBounds_toArray, List.set_cons_zero, List.set_cons_succ]
      refine takeZ (i := 7) (d := 48) (v := .pointer (some ⟨g, k * 5, none⟩)) rfl rfl (by kernel_rfl) (by kernel_rfl) (by kernel_rfl) (fun _ _ _ h => h) (Or.inl ⟨by rfl, fun W hW => ?_⟩) hS8 ?_
      · (go_simp)
      simp only [Act.put, List.setIfInBounds_toArray, List.set_cons_zero, List.set_cons_succ]
      refine takeZ (i := 8) (d := 49) (v := .agg #[.string ek, .int .i64 e1, .int .i64 e2, .int .i64 e3, .int .i64 e4]) rfl rfl (by kernel_rfl) (by kernel_rfl) (by kernel_rfl) (fun _ _ _ h => h) (Or.inl ⟨by rfl, fun W hW => ?_⟩) hS8 ?_
      · ((obtain ⟨q0, q1, q2, q3, q4⟩ := HC.out _ hW; go_simp))
      simp only [Act.put, List.setIfInBounds_toArray, List.set_cons_zero, List.set_cons_succ]
      refine takeZ (i := 9) (d := 50) (v := .slice (some ⟨la, lo, none⟩) n c) rfl rfl (by kernel_rfl) (by kernel_rfl) (by kernel_rfl) (fun _ _ _ h => h) (Or.inl ⟨by rfl, fun W hW => ?_⟩) hS8 ?_
      · (go_simp)
      simp only [Act.put, List.setIfInBounds_toArray, List.set_cons_zero, List.set_cons_succ]
      refine takeZ (i := 10) (d := 51) (v := .int .i64 k) rfl rfl (by kernel_rfl) (by kernel_rfl) (by kernel_rfl) (fun _ _ _ h => h) (Or.inl ⟨by rfl, fun W hW => ?_⟩) hS8 ?_
      · (go_simp)
      simp only [Act.put, List.setIfInBounds_toArray, List.set_cons_zero, List.set_cons_succ]
      refine takeZ (i := 11) (d := 52) (v := .pointer (some ⟨la, lo + k * 5, none⟩)) rfl rfl (by kernel_rfl) (by kernel_rfl) (by kernel_rfl) (fun _ _ _ h => h) (Or.inl ⟨by rfl, fun W hW => ?_⟩) hS8 ?_
      · (go_simp)
      simp only [Act.put, List.setIfInBounds_toArray, List.set_cons_zero, List.set_cons_succ]
      refine takeZ (i := 12) (d := 53) (v := .agg #[.string ek, .int .i64 e1, .int .i64 e2, .int .i64 e3, .int .i64 e4]) rfl rfl (by kernel_rfl) (by kernel_rfl) (by kernel_rfl) (fun _ _ _ h => h) (Or.inl ⟨by rfl, fun W hW => ?_⟩) hS8 ?_
      · ((obtain ⟨q0, q1, q2, q3, q4⟩ := HCl.out _ hW; go_simp))
      simp only [Act.put, List.setIfInBounds_toArray, List.set_cons_zero, List.set_cons_succ]
      refine takeZ (i := 13) (d := 54) (v := .bool false) rfl rfl (by kernel_rfl) (by kernel_rfl) (by kernel_rfl) (fun _ _ _ h => h) (Or.inl ⟨by rfl, fun W hW => ?_⟩) hS8 ?_
      · (go_simp)
      simp only [Act.put, List.setIfInBounds_toArray, List.set_cons_zero, List.set_cons_succ]
      refine takeZ (i := 14) (d := 55) (v := .bool false) rfl rfl (by kernel_rfl) (by kernel_rfl) (by kernel_rfl) (fun _ _ _ h => h) (Or.inl ⟨by rfl, fun W hW => ?_⟩) hS8 ?_
      · (go_simp)
      simp only [Act.put, List.setIfInBounds_toArray, List.set_cons_zero, List.set_cons_succ]
      refine takeZ (i := 15) (d := 56) (v := .bool false) rfl rfl (by kernel_rfl) (by kernel_rfl) (by kernel_rfl) (fun _ _ _ h => h) (Or.inl ⟨by rfl, fun W hW => ?_⟩) hS8 ?_
      · (go_simp)
      simp only [Act.put, List.setIfInBounds_toArray, List.set_cons_zero, List.set_cons_succ]
      refine takeZ (i := 16) (d := 57) (v := .int .i64 k) rfl rfl (by kernel_rfl) (by kernel_rfl) (by kernel_rfl) (fun _ _ _ h => h) (Or.inl ⟨by rfl, fun W hW => ?_⟩) hS8 ?_
      · (go_simp)
      simp only [Act.put, List.setIfInBounds_toArray, List.set_cons_zero, List.set_cons_succ]
      refine takeZ (i := 17) (d := 58) (v := .slice (some ⟨la, lo, none⟩) n c) rfl rfl (by kernel_rfl) (by kernel_rfl) (by kernel_rfl) (fun _ _ _ h => h) (Or.inl ⟨by rfl, fun W hW => ?_⟩) hS8 ?_
      · (go_simp)
      simp only [Act.put, List.setIfInBounds_toArray, List.set_cons_zero, List.set_cons_succ]
      refine takeZ (i := 18) (d := 59) (v := .int .i64 n) rfl rfl (by kernel_rfl) (by kernel_rfl) (by kernel_rfl) (fun _ _ _ h => h) (Or.inl ⟨by rfl, fun W hW => ?_⟩) hS8 ?_
      · (go_simp)
      simp only [Act.put, List.setIfInBounds_toArray, List.set_cons_zero, List.set_cons_succ]
      refine takeZ (i := 19) (d := 60) (v := .bool false) rfl rfl (by kernel_rfl) (by kernel_rfl) (by kernel_rfl) (fun _ _ _ h => h) (Or.inl ⟨by rfl, fun W hW => ?_⟩) hS8 ?_
      · (go_simp)
      simp only [Act.put, List.setIfInBounds_toArray, List.set_cons_zero, List.set_cons_succ]
      refine takeZ (i := 20) (d := 61) (v := .bool false) rfl rfl (by kernel_rfl) (by kernel_rfl) (by kernel_rfl) (fun _ _ _ h => h) (Or.inl ⟨by rfl, fun W hW => ?_⟩) hS8 ?_
      · (go_simp)
      simp only [Act.put, List.setIfInBounds_toArray, List.set_cons_zero, List.set_cons_succ]
      refine takeZ (i := 21) (d := 62) (v := undef) rfl rfl (by kernel_rfl) (by kernel_rfl) (by kernel_rfl) (fun _ _ _ h => h) (Or.inr ⟨by rfl, rfl⟩) hS8 ?_
      simp only [Act.put, List.setIfInBounds_toArray, List.set_cons_zero, List.set_cons_succ]
      refine takeZ (i := 22) (d := 63) (v := undef) rfl rfl (by kernel_rfl) (by kernel_rfl) (by kernel_rfl) (fun _ _ _ h => h) (Or.inr ⟨by rfl, rfl⟩) hS8 ?_
      simp only [Act.put, List.setIfInBounds_toArray, List.set_cons_zero, List.set_cons_succ]
      refine takeZ (i := 23) (d := 64) (v := undef) rfl rfl (by kernel_rfl) (by kernel_rfl) (by kernel_rfl) (fun _ _ _ h => h) (Or.inr ⟨by rfl, rfl⟩) hS8 ?_
      simp only [Act.put, List.setIfInBounds_toArray, List.set_cons_zero, List.set_cons_succ]
      refine takeZ (i := 24) (d := 65) (v := undef) rfl rfl (by kernel_rfl) (by kernel_rfl) (by kernel_rfl) (fun _ _ _ h => h) (Or.inr ⟨by rfl, rfl⟩) hS8 ?_
      simp only [Act.put, List.setIfInBounds_toArray, List.set_cons_zero, List.set_cons_succ]
      refine takeZ (i := 25) (d := 66) (v := undef) rfl rfl (by kernel_rfl) (by kernel_rfl) (by kernel_rfl) (fun _ _ _ h => h) (Or.inr ⟨by rfl, rfl⟩) hS8 ?_
      simp only [Act.put, List.setIfInBounds_toArray, List.set_cons_zero, List.set_cons_succ]
      refine takeZ (i := 26) (d := 67) (v := undef) rfl rfl (by kernel_rfl) (by kernel_rfl) (by kernel_rfl) (fun _ _ _ h => h) (Or.inr ⟨by rfl, rfl⟩) hS8 ?_
      simp only [Act.put, List.setIfInBounds_toArray, List.set_cons_zero, List.set_cons_succ]
      refine takeZ (i := 27) (d := 68) (v := undef) rfl rfl (by kernel_rfl) (by kernel_rfl) (by kernel_rfl) (fun _ _ _ h => h) (Or.inr ⟨by rfl, rfl⟩) hS8 ?_
      simp only [Act.put, List.setIfInBounds_toArray, List.set_cons_zero, List.set_cons_succ]
      refine takeZ (i := 28) (d := 69) (v := undef) rfl rfl (by kernel_rfl) (by kernel_rfl) (by kernel_rfl) (fun _ _ _ h => h) (Or.inr ⟨by rfl, rfl⟩) hS8 ?_
      simp only [Act.put, List.setIfInBounds_toArray, List.set_cons_zero, List.set_cons_succ]
      refine takeZ (i := 29) (d := 70) (v := undef) rfl rfl (by kernel_rfl) (by kernel_rfl) (by kernel_rfl) (fun _ _ _ h => h) (Or.inr ⟨by rfl, rfl⟩) hS8 ?_
      simp only [Act.put, List.setIfInBounds_toArray, List.set_cons_zero, List.set_cons_succ]
      refine takeZ (i := 30) (d := 71) (v := undef) rfl rfl (by kernel_rfl) (by kernel_rfl) (by kernel_rfl) (fun _ _ _ h => h) (Or.inr ⟨by rfl, rfl⟩) hS8 ?_
      simp only [Act.put, List.setIfInBounds_toArray, List.set_cons_zero, List.set_cons_succ]
      refine takeZ (i := 31) (d := 72) (v := undef) rfl rfl (by kernel_rfl) (by kernel_rfl) (by kernel_rfl) (fun _ _ _ h => h) (Or.inr ⟨by rfl, rfl⟩) hS8 ?_
      simp only [Act.put, List.setIfInBounds_toArray, List.set_cons_zero, List.set_cons_succ]
      refine takeZ (i := 32) (d := 73) (v := undef) rfl rfl (by kernel_rfl) (by kernel_rfl) (by kernel_rfl) (fun _ _ _ h => h) (Or.inr ⟨by rfl, rfl⟩) hS8 ?_
      simp only [Act.put, List.setIfInBounds_toArray, List.set_cons_zero, List.set_cons_succ]
      refine takeZ (i := 33) (d := 74) (v := .bool false) rfl rfl (by kernel_rfl) (by kernel_rfl) (by kernel_rfl) (fun _ _ _ h => h) (Or.inl ⟨by rfl, fun W hW => ?_⟩) hS8 ?_
      · (go_simp)
      simp only [Act.put, List.setIfInBounds_toArray, List.set_cons_zero, List.set_cons_succ]
      refine takeZ (i := 34) (d := 75) (v := .bool false) rfl rfl (by kernel_rfl) (by kernel_rfl) (by kernel_rfl) (fun _ _ _ h => h) (Or.inl ⟨by rfl, fun W hW => ?_⟩) hS8 ?_
      · (go_simp)
      simp only [Act.put, List.setIfInBounds_toArray, List.set_cons_zero, List.set_cons_succ]
      refine wpAnyH_done (by kernel_rfl) ?_ _
      go_wp2
      go_roundw
      case rel => exact ⟨k + 1, by omega, by go_num, hideQ (HKr.out.trans (Kept.drew _) (fun _ f => f.elim))⟩
      case measure => simp [intOf]; omega
    · obtain ⟨j, rfl⟩ : ∃ j, k = n + j := ⟨k - n, by omega⟩
      have hj2 : j < 2 := by omega
      have HKa := hideQ (HK5.out.trans HKr.out (fun _ f => f.elim))
      obtain ⟨g', o', eg, hgc⟩ := HEE.out (by simp [twoE])
      injection eg with eg
      injection eg with eg1 eg2
      subst eg1 eg2
      obtain ⟨z0, z1, z2, z3, z4⟩ := hgc (n + j) (by rw [List.length_append, ← HN.out]; exact Nat.add_lt_add_left hj2 n)
      have ex : (E ++ twoE)[n + j]'(by rw [List.length_append, ← HN.out]; exact Nat.add_lt_add_left hj2 n) = twoE[j]'hj2 := by
        rw [List.getElem_append_right (by rw [← HN.out]; omega)]
        congr 1
        rw [← HN.out]; omega
      simp only [ex, Nat.zero_add] at z0 z1 z2 z3 z4
      have HT : Hid (∀ (W : World) (b : Nat), EsAt W (some ⟨b, 0, none⟩) twoE → W.cell? ⟨b, j * 5, none⟩ = some (.string (twoE[j]'hj2).k) ∧ W.cell? ⟨b, j * 5 + 1, none⟩ = some (.int .i64 (twoE[j]'hj2).d) ∧ W.cell? ⟨b, j * 5 + 2, none⟩ = some (.int .i64 (twoE[j]'hj2).t) ∧ W.cell? ⟨b, j * 5 + 3, none⟩ = some (.int .i64 (twoE[j]'hj2).p) ∧ W.cell? ⟨b, j * 5 + 4, none⟩ = some (.int .i64 (twoE[j]'hj2).s)) := hideQ (fun W b h => by
        obtain ⟨b', o', e, hc⟩ := h (by simp [twoE])
        injection e with e
        injection e with e1 e2
        subst e1 e2
        have := hc j hj2
        simp only [Nat.zero_add] at this
        exact this)
      generalize twoE[j]'hj2 = x at z0 z1 z2 z3 z4 HT
      obtain ⟨ek, e1, e2, e3, e4⟩ := x
      dsimp only at z0 z1 z2 z3 z4 HT
      have HC : Hid (∀ W, Kept (fun _ => False) wr W → W.cell? ⟨g, (n + j) * 5, none⟩ = some (.string ek) ∧ W.cell? ⟨g, (n + j) * 5 + 1, none⟩ = some (.int .i64 e1) ∧ W.cell? ⟨g, (n + j) * 5 + 2, none⟩ = some (.int .i64 e2) ∧ W.cell? ⟨g, (n + j) * 5 + 3, none⟩ = some (.int .i64 e3) ∧ W.cell? ⟨g, (n + j) * 5 + 4, none⟩ = some (.int .i64 e4)) := hideQ (fun W q => by
        have kk := HKa.out.trans q (fun _ f => f.elim)
        exact ⟨kk.cell z0 (fun f => f), kk.cell z1 (fun f => f), kk.cell z2 (fun f => f), kk.cell z3 (fun f => f), kk.cell z4 (fun f => f)⟩)
      have hS8 : Kept (fun _ => False) wr wr.drew := Kept.drew wr
      have i1 : ¬ ((n + j : Nat) : Int) < (n : Int) := by omega
      have i2 : ((n + j : Nat) : Int) < (n : Int) + 2 := by omega
      have i3 : (n : Int) ≤ ((n + j : Nat) : Int) := by omega
      have i5 : IntKind.i64.wrap (((n + j : Nat) : Int) - (n : Int)) = (j : Int) := by rw [IntKind.wrap_i64]; omega
      have i6 : (j : Int) < 2 := by omega
      have i7 : ((n : Int) + (j : Int)).toNat = n + j := by omega
      have i8 : (n : Int) + (j : Int) < (n : Int) + 2 := by omega
      have i9 : (0 : Int) ≤ (n : Int) + (j : Int) := by omega
      have i10 : (n : Int) ≤ (n : Int) + (j : Int) := by omega
      have i11 : ¬ (n : Int) + (j : Int) < (n : Int) := by omega
      have i12 : IntKind.i64.wrap ((n : Int) + (j : Int) - (n : Int)) = (j : Int) := by rw [IntKind.wrap_i64]; omega
      clear z0 z1 z2 z3 z4 ex hgc CB HKa HEE
      go_wp2_with fail
      refine wp_region_held (S := fun W' => Kept (fun _ => False) wr W') (by kernel_rfl) ?_
      change wpAnyH _ _ _ _ _ _ _ _ (World.drew _)
      refine takeZ (i := 0) (d := 41) (v := .int .i64 ((n + j : Nat) : Int)) rfl rfl (by kernel_rfl) (by kernel_rfl) (by kernel_rfl) (fun _ _ _ h => h) (Or.inl ⟨by rfl, fun W hW => ?_⟩) hS8 ?_
      · (go_simp)
      simp only [Act.put, List.setIfInBounds_toArray, List.set_cons_zero, List.set_cons_succ]
      refine takeZ (i := 1) (d := 42) (v := .slice a n c) rfl rfl (by kernel_rfl) (by kernel_rfl) (by kernel_rfl) (fun _ _ _ h => h) (Or.inl ⟨by rfl, fun W hW => ?_⟩) hS8 ?_
      · (go_simp)
      simp only [Act.put, List.setIfInBounds_toArray, List.set_cons_zero, List.set_cons_succ]
      refine takeZ (i := 2) (d := 43) (v := .int .i64 n) rfl rfl (by kernel_rfl) (by kernel_rfl) (by kernel_rfl) (fun _ _ _ h => h) (Or.inl ⟨by rfl, fun W hW => ?_⟩) hS8 ?_
      · (go_simp)
      simp only [Act.put, List.setIfInBounds_toArray, List.set_cons_zero, List.set_cons_succ]
      refine takeZ (i := 3) (d := 44) (v := .bool false) rfl rfl (by kernel_rfl) (by kernel_rfl) (by kernel_rfl) (fun _ _ _ h => h) (Or.inl ⟨by rfl, fun W hW => ?_⟩) hS8 ?_
      · (go_simp)
      simp only [Act.put, List.setIfInBounds_toArray, List.set_cons_zero, List.set_cons_succ]
      refine takeZ (i := 4) (d := 45) (v := .bool false) rfl rfl (by kernel_rfl) (by kernel_rfl) (by kernel_rfl) (fun _ _ _ h => h) (Or.inl ⟨by rfl, fun W hW => ?_⟩) hS8 ?_
      · (go_simp)
      simp only [Act.put, List.setIfInBounds_toArray, List.set_cons_zero, List.set_cons_succ]
      refine takeZ (i := 5) (d := 46) (v := undef) rfl rfl (by kernel_rfl) (by kernel_rfl) (by kernel_rfl) (fun _ _ _ h => h) (Or.inr ⟨by rfl, rfl⟩) hS8 ?_
      simp only [Act.put, List.setIfInBounds_toArray, List.set_cons_zero, List.set_cons_succ]
      refine takeZ (i := 6) (d := 47) (v := undef) rfl rfl (by kernel_rfl) (by kernel_rfl) (by kernel_rfl) (fun _ _ _ h => h) (Or.inr ⟨by rfl, rfl⟩) hS8 ?_
      simp only [Act.put, List.setIfInBounds_toArray, List.set_cons_zero, List.set_cons_succ]
      refine takeZ (i := 7) (d := 48) (v := undef) rfl rfl (by kernel_rfl) (by kernel_rfl) (by kernel_rfl) (fun _ _ _ h => h) (Or.inr ⟨by rfl, rfl⟩) hS8 ?_
      simp only [Act.put, List.setIfInBounds_toArray, List.set_cons_zero, List.set_cons_succ]
      refine takeZ (i := 8) (d := 49) (v := undef) rfl rfl (by kernel_rfl) (by kernel_rfl) (by kernel_rfl) (fun _ _ _ h => h) (Or.inr ⟨by rfl, rfl⟩) hS8 ?_
      simp only [Act.put, List.setIfInBounds_toArray, List.set_cons_zero, List.set_cons_succ]
      refine takeZ (i := 9) (d := 50) (v := undef) rfl rfl (by kernel_rfl) (by kernel_rfl) (by kernel_rfl) (fun _ _ _ h => h) (Or.inr ⟨by rfl, rfl⟩) hS8 ?_
      simp only [Act.put, List.setIfInBounds_toArray, List.set_cons_zero, List.set_cons_succ]
      refine takeZ (i := 10) (d := 51) (v := undef) rfl rfl (by kernel_rfl) (by kernel_rfl) (by kernel_rfl) (fun _ _ _ h => h) (Or.inr ⟨by rfl, rfl⟩) hS8 ?_
      simp only [Act.put, List.setIfInBounds_toArray, List.set_cons_zero, List.set_cons_succ]
      refine takeZ (i := 11) (d := 52) (v := undef) rfl rfl (by kernel_rfl) (by kernel_rfl) (by kernel_rfl) (fun _ _ _ h => h) (Or.inr ⟨by rfl, rfl⟩) hS8 ?_
      simp only [Act.put, List.setIfInBounds_toArray, List.set_cons_zero, List.set_cons_succ]
      refine takeZ (i := 12) (d := 53) (v := undef) rfl rfl (by kernel_rfl) (by kernel_rfl) (by kernel_rfl) (fun _ _ _ h => h) (Or.inr ⟨by rfl, rfl⟩) hS8 ?_
      simp only [Act.put, List.setIfInBounds_toArray, List.set_cons_zero, List.set_cons_succ]
      refine takeZ (i := 13) (d := 54) (v := undef) rfl rfl (by kernel_rfl) (by kernel_rfl) (by kernel_rfl) (fun _ _ _ h => h) (Or.inr ⟨by rfl, rfl⟩) hS8 ?_
      simp only [Act.put, List.setIfInBounds_toArray, List.set_cons_zero, List.set_cons_succ]
      refine takeZ (i := 14) (d := 55) (v := .bool false) rfl rfl (by kernel_rfl) (by kernel_rfl) (by kernel_rfl) (fun _ _ _ h => h) (Or.inl ⟨by rfl, fun W hW => ?_⟩) hS8 ?_
      · (go_simp)
      simp only [Act.put, List.setIfInBounds_toArray, List.set_cons_zero, List.set_cons_succ]
      refine takeZ (i := 15) (d := 56) (v := .bool false) rfl rfl (by kernel_rfl) (by kernel_rfl) (by kernel_rfl) (fun _ _ _ h => h) (Or.inl ⟨by rfl, fun W hW => ?_⟩) hS8 ?_
      · (go_simp)
      simp only [Act.put, List.setIfInBounds_toArray, List.set_cons_zero, List.set_cons_succ]
      refine takeZ (i := 16) (d := 57) (v := .int .i64 ((n + j : Nat) : Int)) rfl rfl (by kernel_rfl) (by kernel_rfl) (by kernel_rfl) (fun _ _ _ h => h) (Or.inl ⟨by rfl, fun W hW => ?_⟩) hS8 ?_
      · (go_simp)
      simp only [Act.put, List.setIfInBounds_toArray, List.set_cons_zero, List.set_cons_succ]
      refine takeZ (i := 17) (d := 58) (v := .slice a n c) rfl rfl (by kernel_rfl) (by kernel_rfl) (by kernel_rfl) (fun _ _ _ h => h) (Or.inl ⟨by rfl, fun W hW => ?_⟩) hS8 ?_
      · (go_simp)
      simp only [Act.put, List.setIfInBounds_toArray, List.set_cons_zero, List.set_cons_succ]
      refine takeZ (i := 18) (d := 59) (v := .int .i64 n) rfl rfl (by kernel_rfl) (by kernel_rfl) (by kernel_rfl) (fun _ _ _ h => h) (Or.inl ⟨by rfl, fun W hW => ?_⟩) hS8 ?_
      · (go_simp)
      simp only [Act.put, List.setIfInBounds_toArray, List.set_cons_zero, List.set_cons_succ]
      refine takeZ (i := 19) (d := 60) (v := .bool true) rfl rfl (by kernel_rfl) (by kernel_rfl) (by kernel_rfl) (fun _ _ _ h => h) (Or.inl ⟨by rfl, fun W hW => ?_⟩) hS8 ?_
      · (go_simp)
      simp only [Act.put, List.setIfInBounds_toArray, List.set_cons_zero, List.set_cons_succ]
      refine takeZ (i := 20) (d := 61) (v := .bool true) rfl rfl (by kernel_rfl) (by kernel_rfl) (by kernel_rfl) (fun _ _ _ h => h) (Or.inl ⟨by rfl, fun W hW => ?_⟩) hS8 ?_
      · (go_simp)
      simp only [Act.put, List.setIfInBounds_toArray, List.set_cons_zero, List.set_cons_succ]
      refine takeZ (i := 21) (d := 62) (v := .slice (some ⟨g, 0, none⟩) (n + 2) ci) rfl rfl (by kernel_rfl) (by kernel_rfl) (by kernel_rfl) (fun _ _ _ h => h) (Or.inl ⟨by rfl, fun W hW => ?_⟩) hS8 ?_
      · (go_simp)
      simp only [Act.put, List.setIfInBounds_toArray, List.set_cons_zero, List.set_cons_succ]
      refine takeZ (i := 22) (d := 63) (v := .int .i64 ((n + j : Nat) : Int)) rfl rfl (by kernel_rfl) (by kernel_rfl) (by kernel_rfl) (fun _ _ _ h => h) (Or.inl ⟨by rfl, fun W hW => ?_⟩) hS8 ?_
      · (go_simp)
      simp only [Act.put, List.setIfInBounds_toArray, List.set_cons_zero, List.set_cons_succ]
      refine takeZ (i := 23) (d := 64) (v := .pointer (some ⟨g, (n + j) * 5, none⟩)) rfl rfl (by kernel_rfl) (by kernel_rfl) (by kernel_rfl) (fun _ _ _ h => h) (Or.inl ⟨by rfl, fun W hW => ?_⟩) hS8 ?_
      · (go_simp)
      simp only [Act.put, List.setIfInBounds_toArray, List.set_cons_zero, List.set_cons_succ]
      refine takeZ (i := 24) (d := 65) (v := .agg #[.string ek, .int .i64 e1, .int .i64 e2, .int .i64 e3, .int .i64 e4]) rfl rfl (by kernel_rfl) (by kernel_rfl) (by kernel_rfl) (fun _ _ _ h => h) (Or.inl ⟨by rfl, fun W hW => ?_⟩) hS8 ?_
      · ((obtain ⟨q0, q1, q2, q3, q4⟩ := HC.out _ hW; go_simp))
      simp only [Act.put, List.setIfInBounds_toArray, List.set_cons_zero, List.set_cons_succ]
      refine takeZ (i := 26) (d := 67) (v := .int .i64 ((n + j : Nat) : Int)) rfl rfl (by kernel_rfl) (by kernel_rfl) (by kernel_rfl) (fun _ _ _ h => h) (Or.inl ⟨by rfl, fun W hW => ?_⟩) hS8 ?_
      · (go_simp)
      simp only [Act.put, List.setIfInBounds_toArray, List.set_cons_zero, List.set_cons_succ]
      refine takeZ (i := 27) (d := 68) (v := .slice a n c) rfl rfl (by kernel_rfl) (by kernel_rfl) (by kernel_rfl) (fun _ _ _ h => h) (Or.inl ⟨by rfl, fun W hW => ?_⟩) hS8 ?_
      · (go_simp)
      simp only [Act.put, List.setIfInBounds_toArray, List.set_cons_zero, List.set_cons_succ]
      refine takeZ (i := 28) (d := 69) (v := .int .i64 n) rfl rfl (by kernel_rfl) (by kernel_rfl) (by kernel_rfl) (fun _ _ _ h => h) (Or.inl ⟨by rfl, fun W hW => ?_⟩) hS8 ?_
      · (go_simp)
      simp only [Act.put, List.setIfInBounds_toArray, List.set_cons_zero, List.set_cons_succ]
      refine takeZ (i := 29) (d := 70) (v := .int .i64 j) rfl rfl (by kernel_rfl) (by kernel_rfl) (by kernel_rfl) (fun _ _ _ h => h) (Or.inl ⟨by rfl, fun W hW => ?_⟩) hS8 ?_
      · (go_simp)
      simp only [Act.put, List.setIfInBounds_toArray, List.set_cons_zero, List.set_cons_succ]
      refine wpAnyH_all (rs := [25]) (by kernel_rfl) (by simp) ?_
      intro i hi
      obtain rfl : i = 25 := by simpa using hi
      unfold wpOp
      go_simp
      first | refine (two_any _).mono ?_ | refine Or.inl ((two_any _).mono ?_)
      rintro e W9 ⟨rfl, hT9, k9⟩
      have hk9 := hS8.trans k9 (fun _ f => f.elim)
      refine ⟨hk9, ?_⟩
      obtain ⟨r0, r1, r2, r3, r4⟩ := HT.out _ _ (show EsAt W9 (some ⟨wr.heap.size, 0, none⟩) twoE from hT9)
      clear hT9 k9
      refine wpAnyH_all (rs := [30]) (by kernel_rfl) (by simp) ?_
      intro i hi
      obtain rfl : i = 30 := by simpa using hi
      unfold wpOp
      go_simp
      first | refine Or.inl ⟨hk9, ?_⟩ | refine ⟨hk9, ?_⟩ | (change wpAnyH _ _ _ _ _ _ _ _ _) | refine Or.inl ?_
      refine wpAnyH_all (rs := [31]) (by kernel_rfl) (by simp) ?_
      intro i hi
      obtain rfl : i = 31 := by simpa using hi
      unfold wpOp
      go_simp
      first | refine Or.inl ⟨hk9, ?_⟩ | refine ⟨hk9, ?_⟩ | (change wpAnyH _ _ _ _ _ _ _ _ _) | refine Or.inl ?_
      refine wpAnyH_all (rs := [32]) (by kernel_rfl) (by simp) ?_
      intro i hi
      obtain rfl : i = 32 := by simpa using hi
      unfold wpOp
      go_simp
      first | refine Or.inl ⟨hk9, ?_⟩ | refine ⟨hk9, ?_⟩ | (change wpAnyH _ _ _ _ _ _ _ _ _) | refine Or.inl ?_
      refine wpAnyH_all (rs := [33]) (by kernel_rfl) (by simp) ?_
      intro i hi
      obtain rfl : i = 33 := by simpa using hi
      unfold wpOp
      go_simp
      first | refine Or.inl ⟨hk9, ?_⟩ | refine ⟨hk9, ?_⟩ | (change wpAnyH _ _ _ _ _ _ _ _ _) | refine Or.inl ?_
      refine wpAnyH_all (rs := [34]) (by kernel_rfl) (by simp) ?_
      intro i hi
      obtain rfl : i = 34 := by simpa using hi
      unfold wpOp
      go_simp
      first | refine Or.inl ⟨hk9, ?_⟩ | refine ⟨hk9, ?_⟩ | (change wpAnyH _ _ _ _ _ _ _ _ _) | refine Or.inl ?_
      refine wpAnyH_done (by kernel_rfl) ?_ _
      go_wp2
      go_roundw
      case rel => exact ⟨n + j + 1, by omega, by go_num, hideQ (HKr.out.trans hk9 (fun _ f => f.elim))⟩
      case measure => simp [intOf]; omega
  obtain rfl : k = n + 2 := by omega
  have i2 : ¬ ((n + 2 : Nat) : Int) < (n : Int) + 2 := by omega
  have i2' : ¬ ((n + 2 : Nat) : Int) < ((n + 2 : Nat) : Int) := by omega
  obtain ⟨V6, hV6⟩ : ∃ V6, V6 = wr := ⟨_, rfl⟩
  rw [← hV6] at HKr ⊢
  clear hV6 hlt hk
  have hs46 : V4.heap.size ≤ V6.heap.size := (HK5.out.trans HKr.out (fun _ f => f.elim)).size
  have HKw6 := hideQ ((HKw4.out.trans HK5.out (fun _ f => f.elim)).trans HKr.out (fun _ f => f.elim))
  have CR6 := hideQ (rbuild_all E a n c V6 HN.out (HE.out.kept HKw6.out) hl)
  go_wp2_with (go_at_call 7; refine Stp.go ?_)
  refine ⟨?_⟩
  refine CR6.out.mono ?_
  clear CR6
  rintro e V7 ⟨⟨va, vn, vc, rfl, hv1, hv2, hv3, hv4⟩, k7⟩
  have HKw7 := hideQ (HKw6.out.trans k7 (fun _ f => f.elim))
  have CN7 := hideQ (num_bdr HB5.out (HX.out.kept HKw7.out))
  have HK7 := hideQ ((HK5.out.trans HKr.out (fun _ f => f.elim)).trans k7 (fun _ f => f.elim))
  have HK57 := hideQ (HKr.out.trans k7 (fun _ f => f.elim))
  have HV := hideQ (And.intro hv2 (And.intro hv3 hv4))
  have hk0 := bkk_in E
  have HZ0 : Hid (bkk E = 0 → Good E) := hideQ bkk_zero
  obtain ⟨kb, hkb⟩ : ∃ kb, kb = bkk E := ⟨_, rfl⟩
  rw [← hkb] at CN7 hk0 HV HZ0 ⊢
  have q0 : (kb != kb) = false := by simp
  have HKB := hideQ hkb
  clear hv1 hv2 hv3 hv4 hkb HKr
  by_cases hkz : kb = 0
  case neg =>
    have q1 : (kb != 0) = true := by rcases hk0 with rfl | rfl | rfl <;> first | rfl | exact absurd rfl hkz
    clear hk0 hkz
    go_wp2_with (go_at_call 8; refine CN7.out.mono ?_; clear CN7; rintro e V8 ⟨rfl, h8⟩; obtain rfl := h8.symm)
    go_ret
    exact ⟨rfl, HKw7.out⟩
  subst hkz
  clear hk0 q0
  have HG := hideQ (HZ0.out rfl)
  obtain ⟨hvn, hvb⟩ := HV.out.1 rfl
  have hv3 := HV.out.2.1
  have hv4 := HV.out.2.2
  obtain ⟨gB, hgB, rfl, hrB⟩ := HB5.out.yes HKB.out.symm
  have HIl := img_leP HG.out.gen (by rw [← HN.out]; exact hl)
  have HIb := hideQ (img_bytesP E)
  obtain ⟨I, hI⟩ : ∃ I, I = img E := ⟨_, rfl⟩
  rw [← hI] at hvn hvb hrB HIl HIb ⊢
  obtain ⟨L, hL⟩ : ∃ L, L = I.length := ⟨_, rfl⟩
  rw [← hL] at hvn hrB HIl ⊢
  have hvn' := hvn.symm
  clear hvn
  subst hvn'
  have HI := hideQ hI
  have HL := hideQ hL
  have HRB := hideQ (HK57.out.row hrB (fun _ _ f => f))
  have hgBl : gB < V7.heap.size := (HRB.out.lt gB rfl).2
  have HVB := hideQ hvb
  have HV3 := hideQ hv3
  have HV4 := hideQ hv4
  have CB7 := hideQ (CB.out V7 HK7.out)
  clear hvb hv3 hv4 hrB HV HZ0 HKB hI hL CB HB5
  go_wp2_with (first
    | (go_at_call 8; refine CN7.out.mono ?_; clear CN7; rintro e V8 ⟨rfl, h8⟩; obtain rfl := h8.symm)
    | (go_at_call 6; refine Stp.go ?_))
  refine ⟨?_⟩
  refine CB7.out.mono ?_
  clear CB7
  rintro e V8 ⟨⟨wc, ec, rfl, hB8⟩, k8⟩
  obtain ⟨gC, hgC, rfl, hrC⟩ := hB8.yes (bkk_good (all_gen.2 HG.out.gen) HG.out.risesM)
  rw [← HI.out, ← HL.out] at hrC ⊢
  have HRC := hideQ hrC
  have hs78 : V7.heap.size ≤ V8.heap.size := k8.size
  have hgCl : gC < V8.heap.size := (hrC.lt gC rfl).2
  have HRB8 := hideQ (k8.row HRB.out (fun _ _ f => f))
  have HVB8 := hideQ (HVB.out.keptO k8)
  have HKw8 := hideQ (HKw7.out.trans k8 (fun _ f => f.elim))
  have HEE8 := hideQ (HEE.out.kept (HK7.out.trans k8 (fun _ f => f.elim)))
  have HH8 : Hid (∃ cs, V8.heap[g]? = some (.cells cs 31 (0, 0)) ∧ (n + 2) * 5 ≤ cs.size) := hideQ (by
    obtain ⟨cs, h1, h2⟩ := HH4.out
    exact ⟨cs, (HK7.out.trans k8 (fun _ f => f.elim)).heap h1 (fun f => f), h2⟩)
  have hg8 : g < V8.heap.size := Nat.lt_of_lt_of_le hgl (HK7.out.trans k8 (fun _ f => f.elim)).size
  have hBg : g ≠ gB := by have := HK5.out.size; omega
  have hCg : g ≠ gC := by have := HK7.out.size; omega
  have hBC : gB ≠ gC := by omega
  have hgB7 : w.heap.size ≤ gB := Nat.le_trans HKw4.out.size hgB
  have hgC7 : w.heap.size ≤ gC := Nat.le_trans HKw7.out.size hgC
  have hVb8 : ∀ p, va = some p → p.block ≠ g := fun p e => by have := HV4.out p e; omega
  obtain ⟨EE, hEE⟩ : ∃ EE, EE = E ++ twoE := ⟨_, rfl⟩
  rw [← hEE] at HEE8
  have HEl : Hid (EE.length = n + 2) := hideQ (by rw [hEE, List.length_append, ← HN.out]; rfl)
  have HEq := hideQ hEE
  have QL : Hid (∀ W, Kept (fun q => q = g) V8 W → Kept (fun _ => False) w W) := hideQ (fun W k => HKw8.out.trans k (fun i e => .inr (by omega)))
  clear HEE HH4 HK7 HK57 HKw7 HVB HRB hB8 k8 hEE HKw6 HK5 HKw4 hgB hgC
  go_wp2
  go_loopw [98] (fun s98 wr => ∃ k : Nat, k ≤ n + 2 ∧ s98 = .int .i64 k ∧ Hid (EsAt wr (some ⟨g, 0, none⟩) (zzl k EE)) ∧ Hid (Kept (fun q => q = g) V8 wr) ∧ Hid (∃ cs, wr.heap[g]? = some (.cells cs 31 (0, 0)) ∧ (n + 2) * 5 ≤ cs.size)) (fun s98 _ => n + 2 - (intOf s98).toNat)
  case atStart => exact ⟨0, by omega, rfl, hideQ (by rw [zzl_zero]; exact HEE8.out), hideQ (Kept.refl _ _), HH8⟩
  case round =>
  obtain ⟨k, hk, rfl, HEr, HKr, HHr⟩ := hrel
  by_cases hlt : k < n + 2
  · have hkE : k < EE.length := by rw [HEl.out]; exact hlt
    have hkZ : k < (zzl k EE).length := by rw [zzl_len]; exact hkE
    obtain ⟨g', o', eg, hgc⟩ := HEr.out (by intro e; rw [e] at hkZ; simp at hkZ)
    injection eg with eg
    injection eg with eg1 eg2
    subst eg1 eg2
    obtain ⟨z0, -⟩ := hgc k hkZ
    rw [Nat.zero_add] at z0
    obtain ⟨cs, hcs1, hcs2⟩ := HHr.out
    have f0 : wr.frozen? ⟨g, k * 5, none⟩ = false := by simp [World.frozen?, hcs1]
    have hst := es_setM HEr.out hkZ (show 0 < 5 by decide) (.string zzk) (zzE EE[k]) (by
      intro j' hj'
      rw [zzl_at hkE]
      rcases j' with _ | j'
      · rfl
      · rw [if_neg (by omega)]
        rfl) ⟨cs, _, hcs1, by omega⟩
    rw [zzl_set hkE, Nat.add_zero] at hst
    have HS2 := hideQ hst
    have HK2 := hideQ (HKr.out.trans (Kept.setCell wr ⟨g, k * 5, none⟩ (.string zzk)) (fun i e => .inl e))
    have HH2 : Hid (∃ cs, (wr.setCell ⟨g, k * 5, none⟩ (.string zzk)).heap[g]? = some (.cells cs 31 (0, 0)) ∧ (n + 2) * 5 ≤ cs.size) := hideQ ⟨_, heap_setCell_same wr g (k * 5) cs _ _ hcs1, by simpa using hcs2⟩
    unfold zzk at HS2 HK2 HH2
    have i2 : (k : Int) < (n : Int) + 2 := by omega
    generalize (zzl k EE)[k].k = y0 at z0
    clear hgc hcs1 hcs2 hst HEr HKr HHr
    go_wp2
    go_roundw
    case rel => exact ⟨k + 1, by omega, by go_num, HS2, HK2, HH2⟩
    case measure => simp [intOf]; omega
  obtain rfl : k = n + 2 := by omega
  have i2 : ¬ ((n + 2 : Nat) : Int) < (n : Int) + 2 := by omega
  have i2' : ¬ ((n + 2 : Nat) : Int) < ((n + 2 : Nat) : Int) := by omega
  have hZ : zzl (n + 2) EE = E.map zzE ++ twoE.map zzE := by rw [← HEl.out, zzl_all, HEq.out, List.map_append]
  rw [hZ] at HEr
  obtain ⟨Z, hZe⟩ : ∃ Z, Z = E.map zzE := ⟨_, rfl⟩
  rw [← hZe] at HEr
  have HZN : Hid (n = Z.length) := hideQ (by rw [hZe, List.length_map]; exact HN.out)
  have HZ := hideQ HEr.out.fore
  obtain ⟨V9, hV9⟩ : ∃ V9, V9 = wr := ⟨_, rfl⟩
  rw [← hV9] at HZ HKr ⊢
  have HKw9 := hideQ (QL.out V9 HKr.out)
  have HRB9 := hideQ (HKr.out.row HRB8.out (fun k e1 e2 => hBg (e2.symm.trans (Option.some.inj e1).symm)))
  have HRC9 := hideQ (HKr.out.row HRC.out (fun k e1 e2 => hCg (e2.symm.trans (Option.some.inj e1).symm)))
  have HVB9 := hideQ (HVB8.out.keptP HKr.out hVb8)
  have CQ : Hid (∀ b1, V9.ownsRow b1 5 1 (.slice (some ⟨gB, 0, none⟩) L L) L (bs I) → True) := hideQ (fun _ _ => trivial)
  have CQ1 := hideQ (equalD_any I I (some ⟨gB, 0, none⟩) va L vc V9 (own_bytesFW HRB9.out).1 HVB9.out)
  have CQ2 := hideQ (equalD_any I I (some ⟨gC, 0, none⟩) va L vc V9 (own_bytesFW HRC9.out).1 HVB9.out)
  rw [eqD_self, ← HL.out] at CQ1 CQ2
  have CS9 := hideQ (spare_anyW mk HMK.out I va vc V9 HVB9.out HV3.out (by rw [← HL.out]; omega))
  rw [← HL.out] at CS9
  have hs89 : V8.heap.size ≤ V9.heap.size := HKr.out.size
  clear hZ hZe hV9 HEr HKr HHr HRB8 HRC HVB8 HEE8 HH8 QL HEq HEl CQ hlt hk hVb8 HKw8
  go_wp2_with (first
    | (go_at_call 9; first | (refine CQ1.out.mono ?_; clear CQ1; rintro e X1 ⟨rfl, h1⟩; obtain rfl := h1.symm) | (refine CQ2.out.mono ?_; clear CQ2; rintro e X2 ⟨rfl, h2⟩; obtain rfl := h2.symm))
    | (go_at_call 10; refine Stp.go ?_))
  refine ⟨?_⟩
  refine CS9.out.mono ?_
  clear CS9
  rintro e V10 ⟨gF, cF, rfl, hF⟩
  have HF := hideQ hF
  have hFl := hF.row.lt gF rfl
  obtain ⟨FM, hFM⟩ : ∃ FM, FM = I ++ mksW mk 7 80 := ⟨_, rfl⟩
  have hFMl : FM.length = L + 80 := by rw [hFM, List.length_append, mks_lengthW, HL.out]
  have HFR : Hid (V10.ownsRow V9.heap.size 5 1 (.slice (some ⟨gF, 0, none⟩) (L + 80) cF) (L + 80) (bs FM)) := hideQ (by have := hF.row; rw [← hFM, hFMl] at this; exact this)
  have hcF : L + 80 ≤ cF := by
    rcases HFR.out.2 with ⟨e1, _⟩ | ⟨g', cap, cur, e1, -, -, h, -⟩
    · cases e1
    · simp only [Value.slice.injEq] at e1
      omega
  have HBF : Hid (BytesAt V10 (some ⟨gF, 0, none⟩) (I ++ mksW mk 7 80)) := hideQ (by rw [← hFM]; exact (own_bytesFW HFR.out).1)
  have HBI : Hid (BytesAt V10 (some ⟨gF, 0, none⟩) I) := hideQ (fun hne => by
    obtain ⟨b, off, e, hc⟩ := HBF.out (by intro e; rw [List.append_eq_nil_iff] at e; exact hne e.1)
    refine ⟨b, off, e, fun j hj => ?_⟩
    have := hc j (by rw [List.length_append]; omega)
    rw [List.getElem?_append_left hj] at this
    exact this)
  have k10 := hF.kept
  have HKw10 := hideQ (HKw9.out.trans k10 (fun _ f => f.elim))
  have CO : Hid (Calls Tryd.prog 11 #[.slice (some ⟨gF, 0, none⟩) L cF] V10 fun e w' => (∃ bd vd, e = .returned (.tuple #[.pointer (some ⟨bd, 0, none⟩), .nilIface]) ∧ Dct w' V10.heap.size bd vd E) ∧ Kept (fun _ => False) V10 w') := hideQ (by
    have := open_any I (some ⟨gF, 0, none⟩) cF ad V10 HBI.out HIb.out (by rw [← HL.out]; omega) (errsO13 (HX.out.kept HKw10.out))
    rw [← HL.out] at this
    refine this.mono ?_
    rintro e w' ⟨hp, k2⟩
    rw [HI.out, opn_put HG.out (by rw [← HI.out, ← HL.out]; omega)] at hp
    exact ⟨hp, k2⟩)
  have HK10 := hideQ k10
  clear hF k10
  go_wp2_with (go_at_call 11; refine Stp.go ?_)
  refine ⟨?_⟩
  refine CO.out.mono ?_
  clear CO
  rintro e V11 ⟨⟨bd, vd, rfl, hD⟩, k11⟩
  have CKp := hideQ (keptm_anyW mk HMK.out I gF cF va vc L (L + 80) V11 (bytes_keptFW HBF.out k11) (HVB9.out.keptO (HK10.out.trans k11 (fun _ f => f.elim))) HL.out rfl (by rw [← HL.out]; omega))
  have HD := hideQ hD
  have HK11 := hideQ k11
  clear hD k11 HF HBF HBI
  go_wp2_with (go_at_call 12; refine Stp.go ?_)
  refine ⟨?_⟩
  refine CKp.out.mono ?_
  clear CKp
  rintro e V12 ⟨rfl, k12⟩
  have HD12 := hideQ (HD.out.kept k12)
  have hk12 := HK11.out.trans k12 (fun _ f => f.elim)
  have HFR12 := hideQ (hk12.row HFR.out (fun _ _ f => f))
  have h912 := HK10.out.trans hk12 (fun _ f => f.elim)
  have HK912 := hideQ h912
  have HRB12 := hideQ (h912.row HRB9.out (fun _ _ f => f))
  have HRC12 := hideQ (h912.row HRC9.out (fun _ _ f => f))
  have HZ12 := hideQ (HZ.out.kept h912)
  have HKw12 := hideQ (HKw9.out.trans h912 (fun _ f => f.elim))
  have hwF : w.heap.size ≤ gF := Nat.le_trans HKw9.out.size hFl.1
  have hFB : gF ≠ gB := by omega
  have hFC : gF ≠ gC := by omega
  have hFg : gF ≠ g := by omega
  have n80 : ((L + 80 : Nat) : Int) = (L : Int) + 80 := by omega
  clear k12 hk12 h912 HD HK11 HFR HRB9 HRC9 HZ HK10 HKw9 HKw10 HK912 HVB9
  go_wp2
  go_loopw [140] (fun s140 wr => ∃ k : Nat, k ≤ L + 80 ∧ s140 = .int .i64 k ∧ Hid (wr.ownsRow V9.heap.size 5 1 (.slice (some ⟨gF, 0, none⟩) (L + 80) cF) (L + 80) (bs (xoD k FM))) ∧ Hid (Kept (fun q => q = gF) V12 wr)) (fun s140 _ => L + 80 - (intOf s140).toNat)
  case atStart => exact ⟨0, by omega, rfl, hideQ (by rw [xoD_zero]; exact HFR12.out), hideQ (Kept.refl _ _)⟩
  case round =>
  obtain ⟨k, hk, rfl, HFr, HKr⟩ := hrel
  by_cases hlt : k < L + 80
  · obtain ⟨x1, x2⟩ := xoD_succ k FM (by rw [hFMl]; exact hlt)
    obtain ⟨r1, r2, r3⟩ := row_setW (x := bits .xor .u8 (FM[k]?.getD 0) 85) HFr.out hlt (by rw [xoD_len, hFMl])
    rw [x1] at r1
    rw [x2] at r2
    have HF1 := hideQ r1
    have HK1 := hideQ (HKr.out.trans (Kept.setCell wr ⟨gF, k, none⟩ (.int .u8 (bits .xor .u8 (FM[k]?.getD 0) 85))) (fun i e => .inl e))
    generalize FM[k]?.getD 0 = y at *
    have i1 : (k : Int) < (L : Int) + 80 := by omega
    clear x1 x2 r1 HFr HKr
    go_wp2
    go_roundw
    case rel => exact ⟨k + 1, by omega, by go_num, HF1, HK1⟩
    case measure => simp [intOf]; omega
  obtain rfl : k = L + 80 := by omega
  have i3 : ¬ ((L + 80 : Nat) : Int) < (L : Int) + 80 := by omega
  have i3' : ¬ ((L + 80 : Nat) : Int) < ((L + 80 : Nat) : Int) := by omega
  obtain ⟨X0, hX0⟩ : ∃ X0, X0 = wr := ⟨_, rfl⟩
  rw [← hX0] at HFr HKr ⊢
  rw [← hFMl, xoD_all] at HFr
  obtain ⟨XI, hXI⟩ : ∃ XI : List Int, XI = I.map (fun x => bits .xor .u8 x 85) := ⟨_, rfl⟩
  have HXl : Hid (L = XI.length) := hideQ (by rw [hXI, List.length_map]; exact HL.out)
  have HXb : Hid (IsBytes XI) := hideQ (by
    rw [hXI]
    intro y hy
    obtain ⟨x, _, rfl⟩ := List.mem_map.1 hy
    exact xorD_byte x)
  have HBX : Hid (BytesAt X0 (some ⟨gF, 0, none⟩) XI) := hideQ (fun hne => by
    have h := (own_bytesFW HFr.out).1
    obtain ⟨b, off, e, hc⟩ := h (by rw [hFM, List.map_append]; intro e; rw [List.append_eq_nil_iff] at e; exact hne (by rw [hXI]; exact e.1))
    refine ⟨b, off, e, fun j hj => ?_⟩
    have h2 := hc j (by rw [hFM, List.length_map, List.length_append]; rw [hXI, List.length_map] at hj; omega)
    rw [hFM, List.map_append, List.getElem?_append_left (by rw [← hXI]; exact hj), ← hXI] at h2
    exact h2)
  have HRB0 := hideQ (HKr.out.row HRB12.out (fun k e1 e2 => hFB (e2.symm.trans (Option.some.inj e1).symm)))
  have HRC0 := hideQ (HKr.out.row HRC12.out (fun k e1 e2 => hFC (e2.symm.trans (Option.some.inj e1).symm)))
  have HZ0 := hideQ (HZ12.out.keptP HKr.out (fun p e f => hFg (by injection e with e; rw [← e] at f; exact f.symm)))
  have HD0 := hideQ (HD12.out.keptP HKr.out (fun i e => by rw [e]; exact hFl.2))
  have HKw0 := hideQ (HKw12.out.trans HKr.out (fun i e => .inr (by rw [e]; exact hwF)))
  have hsz : V10.heap.size ≤ X0.heap.size := by have := (lt_of_block HD0.out.blk); have := HD0.out.new; omega
  have h8X : V8.heap.size ≤ X0.heap.size := by omega
  obtain ⟨X1, hX1⟩ : ∃ X1, X1 = X0.alloc (.cells #[.slice (some ⟨gB, 0, none⟩) L L, .slice (some ⟨gC, 0, none⟩) L L] 25) := ⟨_, rfl⟩
  have kX1 : Kept (fun _ => False) X0 X1 := by rw [hX1]; exact Kept.alloc X0 _
  have hbl : X1.heap[X0.heap.size]? = some (.cells #[.slice (some ⟨gB, 0, none⟩) L L, .slice (some ⟨gC, 0, none⟩) L L] 25 (0, 0)) := by rw [hX1]; exact heap_alloc_new X0 _
  have hbs : X0.heap.size < X1.heap.size := lt_of_block hbl
  obtain ⟨VV, hVV⟩ : ∃ VV : List Value, VV = [.slice (some ⟨gB, 0, none⟩) L L, .slice (some ⟨gC, 0, none⟩) L L] := ⟨_, rfl⟩
  have CW := hideQ (own_anyW mk HMK.out VV (fun _ => I) X0.heap.size 0 2 2 X1 ⟨fun t ht => by
      subst hVV
      rw [Nat.zero_add, cell_of_row _ _ t _ _ _ hbl]
      match t, ht with
      | 0, _ => rfl
      | 1, _ => rfl, fun t ht => by
      subst hVV
      have e1 := row_base0 (kX1.row HRB0.out (fun _ _ f => f))
      have e2 := row_base0 (kX1.row HRC0.out (fun _ _ f => f))
      rw [HL.out] at e1 e2
      match t, ht with
      | 0, _ => rw [HL.out]; exact e1
      | 1, _ => rw [HL.out]; exact e2, Kept.refl _ _⟩ ⟨fun t s ht hs hts q e1 e2 => by
      subst hVV
      match t, s, ht, hs, hts, e1, e2 with
      | 0, 0, _, _, h, _, _ => exact h rfl
      | 1, 1, _, _, h, _, _ => exact h rfl
      | 0, 1, _, _, _, e1, e2 => exact hBC ((Option.some.inj e1).trans (Option.some.inj e2).symm)
      | 1, 0, _, _, _, e1, e2 => exact hBC ((Option.some.inj e2).trans (Option.some.inj e1).symm), fun v hv e => by
      subst hVV
      simp only [List.mem_cons, List.not_mem_nil, or_false] at hv
      rcases hv with rfl | rfl
      · have h9 : gB = X0.heap.size := Option.some.inj e
        omega
      · have h9 : gC = X0.heap.size := Option.some.inj e
        omega⟩ (by rw [hVV]; rfl) (by decide) (by decide) (fun t _ => by rw [← HL.out]; omega) hbs)
  have HKX1 := hideQ kX1
  have HVV := hideQ hVV
  have HX1e := hideQ hX1
  clear kX1 hbl hbs hVV hX0 hXI HFr HKr HRB0 HRC0 HRB12 HRC12 HZ12 HD12 HKw12 HFR12 hFM hFMl hlt hk
  rw [hX1] at CW
  clear hX1
  go_wp2_with (go_at_call 13; refine Stp.go ?_)
  refine ⟨?_⟩
  refine CW.out.mono ?_
  clear CW
  rintro e X2 ⟨rfl, hP⟩
  rw [← HX1e.out] at hP
  have KB2 : Kept (fun q => q = gB ∨ q = gC) X0 X2 := (HKX1.out.mono (G := fun q => q = gB ∨ q = gC) (fun _ f => f.elim)).trans hP.kept (fun i hi => by
    obtain ⟨v, hv, e⟩ := hi
    rw [HVV.out] at hv
    simp only [List.mem_cons, List.not_mem_nil, or_false] at hv
    rcases hv with rfl | rfl
    · exact .inl (.inl (Option.some.inj e).symm)
    · exact .inl (.inr (Option.some.inj e).symm))
  have KW : Hid (∀ W, Kept (fun q => q = gB ∨ q = gC) X0 W → Kept (fun _ => False) w W) := hideQ (fun W k => HKw0.out.trans k (fun i e => .inr (by rcases e with e | e <;> omega)))
  have KZ : Hid (∀ W, Kept (fun q => q = gB ∨ q = gC) X0 W → EsAt W (some ⟨g, 0, none⟩) Z) := hideQ (fun W k => HZ0.out.keptP k (fun p e f => by injection e with e; rw [← e] at f; rcases f with f | f; exact hBg f; exact hCg f))
  have KI : Hid (∀ W, Kept (fun q => q = gB ∨ q = gC) X0 W → BytesAt W (some ⟨gF, 0, none⟩) XI) := hideQ (fun W k => HBX.out.keptP k (fun p e f => by injection e with e; rw [← e] at f; rcases f with f | f; exact hFB f; exact hFC f))
  have KD : Hid (∀ W, Kept (fun q => q = gB ∨ q = gC) X0 W → Dct W V10.heap.size bd vd E) := hideQ (fun W k => HD0.out.keptP k (fun i e => by rcases e with e | e <;> omega))
  have KB2h := hideQ KB2
  have HO2 : Hid ((X2.alloc (.cells #[] 31)).ownsRow X2.heap.size 31 5 (.slice (some ⟨X2.heap.size, 0, none⟩) 0 0) 0 []) := hideQ ⟨rfl, .inr ⟨X2.heap.size, 0, #[], rfl, Nat.le_refl _, heap_alloc_new X2 _, Nat.le_refl _, Nat.zero_le _, rfl, rfl⟩⟩
  have hk3 : Kept (fun q => q = gB ∨ q = gC) X0 (X2.alloc (.cells #[] 31)) := KB2.trans (Kept.alloc X2 _) (fun _ f => f.elim)
  have HC2 : Hid (∀ p, some (⟨g, 0, none⟩ : Addr) = some p → ∀ j u, (ecs Z)[j]? = some u → (X2.alloc (.cells #[] 31)).cell? (p.add j) = some u) := hideQ (fun p e j u hu => by
    injection e with e
    subst e
    exact es_cells (KZ.out _ hk3) j u hu)
  have HL2 : Hid ((ecs Z).length = n * 5) := hideQ (by rw [ecs_len, HZN.out])
  have HS2 : Hid (X2.heap.size ≤ (X2.alloc (.cells #[] 31)).heap.size) := hideQ (by simp)
  have HK3 := hideQ hk3
  clear hP KB2 hk3 HKX1 HVV HX1e HKw0 HZ0 HBX HD0
  go_wp2_with (at_builtin; refine Stp.go ?_)
  refine ⟨?_⟩
  refine wpList_catO (base := X2.heap.size) rfl _ _ 22 rfl 31 i0 _ 5 48 Tryd.underlying22 hi0 hz0 hz1 hz2 rfl (by decide) _ 0 [] (ecs Z) rfl HO2 (some ⟨g, 0, none⟩) n ci rfl HL2 HC2 (ecs_oneM Z) (hideQ (fun e => by cases e)) (hideQ (by omega)) (hideQ (by unfold maxLen; omega)) HS2 ?_
  intro a5 c5 X3 O5 K5
  rw [Nat.zero_add, List.nil_append] at O5
  rw [Nat.zero_add]
  have hk5 : Kept (fun q => q = gB ∨ q = gC) X0 X3 := HK3.out.trans K5.out (fun i hi => .inr (by
    have h9 : X2.heap.size = i := Option.some.inj hi
    have := KB2h.out.size
    omega))
  have CR5 := hideQ (rbuild_all Z a5 n c5 X3 HZN.out (es_of_own O5.out HZN.out) hl)
  have HK5 := hideQ hk5
  clear O5 K5 hk5 HO2 HC2 HL2 HS2 HK3 KB2h
  go_wp2_with (go_at_call 7; refine Stp.go ?_)
  refine ⟨?_⟩
  refine CR5.out.mono ?_
  clear CR5
  rintro e X4 ⟨⟨ta, tn, tc, rfl, ht1, ht2, -, -⟩, k6⟩
  have hk6 := HK5.out.trans k6 (fun _ f => f.elim)
  have CB6 := hideQ (build_all Z (some ⟨g, 0, none⟩) ci ad X4 (KZ.out X4 hk6) (by rw [← HZN.out]; exact hl) (by rw [← HZN.out]; exact j2) (HX.out.kept (KW.out X4 hk6)))
  rw [← HZN.out] at CB6
  have HK6 := hideQ hk6
  clear k6 hk6 HK5
  go_wp2_with (go_at_call 6; refine Stp.go ?_)
  refine ⟨?_⟩
  refine CB6.out.mono ?_
  clear CB6
  rintro e X5 ⟨⟨vf, ef, rfl, hB5⟩, k7⟩
  have hk7 := HK6.out.trans k7 (fun _ f => f.elim)
  have CN := hideQ (num_bdr hB5 (HX.out.kept (KW.out X5 hk7)))
  have CQ := hideQ (equal_bdr hB5 (Kept.refl _ _) ht1 (fun q => ⟨(ht2 q).1, (ht2 q).2.keptO k7⟩))
  generalize bkk Z = kz at CN ht1 ht2 ⊢
  have q0 : (kz != kz) = false := by simp
  have HK7 := hideQ hk7
  have HO7 : Hid ((X5.alloc (.cells #[] 5)).ownsRow X5.heap.size 5 1 (.slice (some ⟨X5.heap.size, 0, none⟩) 0 0) 0 (bs [])) := hideQ ⟨rfl, .inr ⟨X5.heap.size, 0, #[], rfl, Nat.le_refl _, heap_alloc_new X5 _, Nat.le_refl _, Nat.zero_le _, rfl, rfl⟩⟩
  have hk8 : Kept (fun q => q = gB ∨ q = gC) X0 (X5.alloc (.cells #[] 5)) := hk7.trans (Kept.alloc X5 _) (fun _ f => f.elim)
  have HC7 : Hid (∀ p, some (⟨gF, 0, none⟩ : Addr) = some p → ∀ j u, (bs XI)[j]? = some u → (X5.alloc (.cells #[] 5)).cell? (p.add j) = some u) := hideQ (fun p e j u hu => by
    injection e with e
    subst e
    have hne : XI ≠ [] := by rintro rfl; simp [bs] at hu
    obtain ⟨b, off, e, hc⟩ := KI.out _ hk8 hne
    injection e with e
    injection e with e1 e2
    subst e1 e2
    exact BytesAt.cells hc j u hu)
  have HK8 := hideQ hk8
  have HS7 : Hid (X5.heap.size ≤ (X5.alloc (.cells #[] 5)).heap.size) := hideQ (by simp)
  have HLX : Hid ((bs XI).length = L * 1) := hideQ (by rw [bs_length, Nat.mul_one]; exact HXl.out.symm)
  obtain ⟨b0, hb0, hy0, hy1, hy2⟩ := info_parts Tryd.infoB
  have jL1 : (L : Int) ≤ (cF : Int) := by omega
  clear k7 hk7 hk8 hB5 ht1 ht2 HK6
  go_wp2_with (first
    | (go_at_call 8; refine CN.out.mono ?_; clear CN; rintro e Y1 ⟨rfl, h1⟩; obtain rfl := h1.symm)
    | (go_at_call 9; refine CQ.out.mono ?_; clear CQ; rintro e Y2 ⟨rfl, h2⟩; obtain rfl := h2.symm)
    | (at_builtin; refine Stp.go ?_))
  refine ⟨?_⟩
  refine wpList_catO (base := X5.heap.size) rfl _ _ 25 rfl 5 b0 _ 1 1 Tryd.underlying25 hb0 hy0 hy1 hy2 rfl (by decide) _ 0 (bs []) (bs XI) rfl HO7 (some ⟨gF, 0, none⟩) L cF rfl HLX HC7 (bs_one XI) (hideQ (fun e => by cases e)) (hideQ (by omega)) (hideQ (by unfold maxLen; omega)) HS7 ?_
  intro a6 c6 X6 O6 K6
  rw [Nat.zero_add] at O6 ⊢
  have hk9 : Kept (fun q => q = gB ∨ q = gC) X0 X6 := HK8.out.trans K6.out (fun i hi => .inr (by
    have h9 : X5.heap.size = i := Option.some.inj hi
    have := HK7.out.size
    omega))
  obtain ⟨a7, c7, e7, hb7, -⟩ := bytes_of_own O6.out
  simp only [Value.slice.injEq] at e7
  obtain ⟨e71, -, e72⟩ := e7
  rw [← e71] at hb7
  have hc7 : L ≤ c6 := by
    rcases O6.out.2 with ⟨e1, e2⟩ | ⟨g', cap, cur, e1, -, -, h, -⟩
    · omega
    · simp only [Value.slice.injEq] at e1
      omega
  clear e71 e72
  have CRo := hideQ (ropen_all XI a6 L c6 X6 HXl.out hb7 HXb.out (by omega) hc7)
  have HK9 := hideQ hk9
  clear O6 K6 hk9 HO7 HC7 HS7 HLX HK8 HK7 hb7
  go_wp2_with (go_at_call 14; refine Stp.go ?_)
  refine ⟨?_⟩
  refine CRo.out.mono ?_
  clear CRo
  rintro e X7 ⟨⟨x7, rfl⟩, k10⟩
  have hk10 := HK9.out.trans k10 (fun _ f => f.elim)
  have COo := hideQ (open_all XI (some ⟨gF, 0, none⟩) L cF ad X7 HXl.out (KI.out X7 hk10) HXb.out (by omega) (HX.out.kept (KW.out X7 hk10)))
  have HK10 := hideQ hk10
  clear k10 hk10 HK9
  go_wp2_with (go_at_call 11; refine Stp.go ?_)
  refine ⟨?_⟩
  refine COo.out.mono ?_
  clear COo
  rintro e X8 ⟨⟨x8, e8, rfl, hn8⟩, k11⟩
  have hk11 := HK10.out.trans k11 (fun _ f => f.elim)
  have CN8 := hideQ (hn8 X8 (HX.out.kept (KW.out X8 hk11)))
  have CWk := hideQ (walked_any HCL.out 0 X8 V10.heap.size bd vd E a c (KD.out X8 hk11) (HE.out.kept (KW.out X8 hk11)) (by rw [← HN.out]; omega) (fun e he => by have := (HG.out.gen e he).k2; omega) (by decide) (by decide))
  have CA : Hid (∀ W, Kept (fun _ => False) X8 W → Calls Tryd.prog 16 #[.pointer (some ⟨bd, 0, none⟩), .slice a n c, .agg #[.int .i64 6, .int .i64 0, .string ⟨#[]⟩]] W fun e w' => e = .returned (.bool true) ∧ Kept (fun _ => False) W w') := hideQ (fun W k => by
    have := answer_size W V10.heap.size bd vd E a c ((KD.out X8 hk11).kept k) (by rw [← HN.out]; omega)
    rw [← HN.out] at this
    exact this)
  rw [← HN.out] at CWk
  have HFin := hideQ (KW.out X8 hk11)
  generalize okk XI = ko at CN8 ⊢
  have q9 : (ko != ko) = false := by simp
  clear k11 hk11 hn8 HK10 KW KZ KI KD HE HX
  go_wp2_with (first
    | (go_at_call 8; refine CN8.out.mono ?_; clear CN8; rintro e Y3 ⟨rfl, h3⟩; obtain rfl := h3.symm)
    | (go_at_call 15; refine CWk.out.mono ?_; clear CWk; rintro e Y4 ⟨rfl, k4⟩; have CA4 := hideQ (CA.out Y4 k4); have HF4 := hideQ (HFin.out.trans k4 (fun _ f => f.elim)); clear CA k4)
    | (go_at_call 16; refine CA4.out.mono ?_; clear CA4; rintro e Y5 ⟨rfl, k5⟩; have HF5 := hideQ (HF4.out.trans k5 (fun _ f => f.elim)); clear k5))
  go_ret
  exact ⟨rfl, HF5.out⟩
end Go.Proofs.YtcanbhbhdgogoaaDoor
namespace Go.Proofs.YtcanbhbhdgogoaaDoor
open Go.ChangeShapes Go.WideShapes Go.ChangeAt Go.RowKit

/-- A nil list of entries has no room. -/
theorem entries_nil {H : Type} {enc : TypeId × Value → H} {W : World} {fuel : Nat} {cs : List Value} {a : Option Addr} {n c : Nat} {x : DataW H × List MemPlace} (hf : DataW.trod enc Tryd.prog W 0 (fun _ => true) true fuel 22 cs = some x) (hcs : cs = [.slice a n c]) (ha : a = none) : c = 0 := by
  subst hcs
  rcases DataW.trod_slice Tryd.underlying22 hf with ⟨h1, -⟩ | ⟨a', len, cap, elems, rest, m, _, h1, -, _, hl, hm, hlen, _, _, _⟩
  · simp only [List.cons.injEq, Value.slice.injEq, and_true] at h1
    exact h1.2.2
  · simp only [List.cons.injEq, Value.slice.injEq, and_true] at h1
    rw [ha] at h1
    cases h1.1
/-- The law. -/
theorem dmemory_all (hCl : ClnOk) (E : List En) (a : Option Addr) (c : Nat) (ad : Nat → Addr) (w : World) (hE : EsAt w a E) (hl : E.length ≤ 1048576) (hc : E.length ≤ c) (h0 : a = none → c = 0) (hx : Errs13 w ad) :
    Calls Tryd.prog 3 #[.slice a E.length c] w fun e w' => e = .returned (.bool true) ∧ Kept (fun _ => False) w w' := by
  obtain ⟨mk, hmk⟩ := mark_funW
  exact dmemory_walk hCl mk hmk E a c ad w hE hl hc h0 hx
end Go.Proofs.YtcanbhbhdgogoaaDoor
