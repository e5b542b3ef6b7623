import Derived.Test.YtcnnnkdbbiflfaaDoorDwm
import Derived.Test.YtcnnnkdbbiflfaaDoorMrg3
import Derived.Test.YtcnnnkdbbiflfaaDoorWrG
import Derived.Test.YtcnnnkdbbiflfaaDoorMrg1
namespace Go.Proofs.YtcnnnkdbbiflfaaDoor
open Go.ChangeShapes Go.WideShapes Go.ChangeAt Go.RowKit Go.Sort Go.Shelf
attribute [local go_sem] Oper.semAt_some

def mkDW (D : Nat) : Deferred := { target := .collected D, args := #[] }
theorem leaves_marksW {F : Fence} {n : Nat} {P : Program} {fn : Func} {tmps : Array Value} {R : Ending → World → Prop} : ∀ (Ds : List Nat) (W : World), Ds.Nodup → (∀ D ∈ Ds, W.heap[D]? = some (.deferred (some []))) → (∀ W', Kept (fun i => i ∈ Ds) W W' → LeavesInM F n P fn tmps R [] .returning W') → LeavesInM F n P fn tmps R (Ds.map mkDW) .returning W
  | [], W, _, _, h => h W (Kept.refl _ _)
  | D :: Ds, W, hn, ha, h => by
    refine ⟨by simp, .inl ⟨D, _, rfl, run_takeDeferred (ha D (by simp)), leaves_marksW Ds _ (List.nodup_cons.1 hn).2 (fun E hE => ?_) (fun W' k => h W' ?_)⟩⟩
    · rw [World.putObj_heap_other (fun e => (List.nodup_cons.1 hn).1 (by rw [← e]; exact hE))]
      exact ha E (by simp [hE])
    · exact ((kept_put1 W D _).mono fun i hi => .inl (by simp [hi])).trans k (fun i hi => .inl (by simp [hi]))
theorem isb_appW {a b : List Int} (ha : IsBytes a) (hb : IsBytes b) : IsBytes (a ++ b) := fun x hx => by
  rcases List.mem_append.1 hx with h | h
  · exact ha x h
  · exact hb x h
theorem uvb_bytesW : ∀ n, IsBytes (uvb n) := by
  intro n
  induction n using Nat.strongRecOn with
  | _ n ih =>
    by_cases h : n < 128
    · rw [uvb_small h]
      intro x hx
      simp only [List.mem_cons, List.not_mem_nil, or_false] at hx
      omega
    · rw [uvb_big h]
      intro x hx
      rcases List.mem_cons.1 hx with rfl | hx
      · omega
      · exact ih (n / 128) (by omega) x hx
theorem een_bytesW (b : ByteArray) (e : En) : IsBytes (een b e) := by
  unfold een
  repeat (first | exact uvb_bytesW _ | exact (fun x hx => sb_bytes _ x (List.mem_of_mem_drop hx)) | refine isb_appW ?_ ?_)
theorem ebl_bytesW : ∀ (b : ByteArray) (l : List En), IsBytes (ebl b l)
  | _, [] => fun x hx => by cases hx
  | b, e :: r => isb_appW (een_bytesW b e) (ebl_bytesW e.k r)
theorem img_bytesW (l : List En) : IsBytes (img l) := by
  unfold img hdL bdL
  refine isb_appW (isb_appW (uvb_bytesW _) ?_) ?_
  · intro x hx
    obtain ⟨y, hy, hx⟩ := List.mem_flatten.1 hx
    obtain ⟨F, _, rfl⟩ := List.mem_map.1 hy
    exact uvb_bytesW _ x hx
  · intro x hx
    obtain ⟨y, hy, hx⟩ := List.mem_flatten.1 hx
    obtain ⟨F, _, rfl⟩ := List.mem_map.1 hy
    exact ebl_bytesW _ _ x hx
theorem img_leW {l : List En} (hg : ∀ e ∈ l, Gen e) (hl : l.length ≤ 1048576) : (img l).length ≤ 1000000000 := by
  have h1 := bdL_le (nbk l.length) hg
  have h2 := uvb_le10 l.length (by omega)
  have h3 : nbk l.length ≤ 65536 := by unfold nbk; omega
  unfold img
  rw [List.length_append, List.length_append]
  omega
theorem ks_of_ownW {w : World} {base : Nat} {a : Option Addr} {n c : Nat} {T : List (List UInt8)} (h : w.ownsRow base 9 1 (.slice a n c) n (T.map encStr)) : KsAt w a T := by
  intro hne
  have hpos : 0 < T.length := List.length_pos_iff.2 hne
  have hx := h.1
  rw [List.length_map] at hx
  rcases h.2 with ⟨e1, e2⟩ | ⟨g, cap, cur, e1, _⟩
  · omega
  · injection e1 with e1 e2 e3
    subst e1
    exact ⟨g, 0, rfl, fun j hj => by rw [Nat.zero_add]; exact own_cellK h hj⟩
/-- What the law's two walks read; z is the block of 'at'. -/
structure WlF (w : World) (z b7 b12 : Nat) (stop : Int) (f n : Nat) (aE : Option Addr) (cE : Nat) (E : List En) (ws bd bf bp : Nat) (va : Value) (W : World) : Prop where
  k : Kept (fun _ => False) w W
  h5 : W.heap[w.heap.size]? = some (.cells #[.int .i64 stop] 3 (0, 0))
  h6 : W.heap[w.heap.size + 1]? = some (.cells #[.bool false] 4 (0, 0))
  h7 : W.heap[b7]? = some (.cells #[.slice aE n cE] 24 (0, 0))
  h12 : W.heap[b12]? = some (.cells #[.pointer (some ⟨bd, 0, none⟩)] 33 (0, 0))
  h15 : W.heap[z + 1]? = some (.cells #[.int .i64 (f : Int)] 3 (0, 0))
  es : EsAt W aE E
  wk : WkK E ws bd va bf bp f W
  lt : w.heap.size + 1 < z ∧ b7 < z ∧ b12 < z ∧ bd < z ∧ bf < z ∧ bp < z
  l1 : ∀ j, va.ownBlock = some j → j < z
  l2 : ∀ a, aE = some a → a.block < z
theorem WlF.kept {w : World} {z b7 b12 : Nat} {stop : Int} {f n : Nat} {aE : Option Addr} {cE : Nat} {E : List En} {ws bd bf bp : Nat} {va : Value} {W W' : World} (h : WlF w z b7 b12 stop f n aE cE E ws bd bf bp va W) (k : Kept (fun j => j = z) W W') : WlF w z b7 b12 stop f n aE cE E ws bd bf bp va W' := by
  obtain ⟨q1, q2, q3, q4, q5, q6⟩ := h.lt
  refine ⟨h.k.trans k (fun j hj => .inr (by omega)), k.heap h.h5 (fun e => by omega), k.heap h.h6 (fun e => by omega), k.heap h.h7 (fun e => by omega), k.heap h.h12 (fun e => by omega), k.heap h.h15 (fun e => by omega), ?_, ?_, h.lt, h.l1, h.l2⟩
  · intro hne
    obtain ⟨b, o, e, hc⟩ := h.es hne
    have hb : b < z := h.l2 _ e
    refine ⟨b, o, e, fun x hx => ?_⟩
    obtain ⟨w0, w1, w2, w3, w4⟩ := hc x hx
    exact ⟨k.cell w0 (fun e => by simp only at e; omega), k.cell w1 (fun e => by simp only at e; omega), k.cell w2 (fun e => by simp only at e; omega), k.cell w3 (fun e => by simp only at e; omega), k.cell w4 (fun e => by simp only at e; omega)⟩
  · exact ⟨⟨k.heap h.wk.dct.blk (fun e => by omega), k.row h.wk.dct.own (fun j hj e => by have := h.l1 j hj; omega), h.wk.dct.new⟩, k.cell h.wk.fst (fun e => by simp only at e; omega), k.cell h.wk.ptr (fun e => by simp only at e; omega)⟩
set_option maxRecDepth 20000 in
set_option maxHeartbeats 8000000 in
theorem walks_walk (hC : ClnOk) (K : List (List UInt8)) (aK : Option Addr) (cK : Nat) (fr stop : Int) (ad : Nat → Addr) (w : World) (hK : KsAt w aK K) (hk : K.length ≤ 1048576) (hE : Errs13 w ad) (hf1 : -9223372036854775808 ≤ fr) (hf2 : fr ≤ 9223372036854775807) :
    Calls Tryd.prog 3 #[.slice aK K.length cK, .int .i64 fr, .int .i64 stop] w fun e w' => e = .returned (.bool true) ∧ Kept (fun _ => False) w w' := by
  have A1 := Kept.alloc w (.cells #[.int .i64 stop] 3)
  have A2 := Kept.alloc (w.alloc (.cells #[.int .i64 stop] 3)) (.cells #[.bool false] 4)
  have KA := A1.trans A2 (fun _ f => f.elim)
  have b5 := A2.heap (heap_alloc_new w (.cells #[.int .i64 stop] 3)) (fun f => f)
  have b6 := heap_alloc_new (w.alloc (.cells #[.int .i64 stop] 3)) (.cells #[.bool false] 4)
  rw [World.size_alloc] at b6
  have CF := hideQ (fixed_any ad _ (hE.kept KA))
  have CS : Hid (∀ W, Kept (fun _ => False) w W → Calls Tryd.prog 5 #[.slice aK K.length cK] W fun e w' => (∃ v T, e = .returned v ∧ KsOut w' W.heap.size v T ∧ StrictK T ∧ (∀ x ∈ T, okK x) ∧ T.length ≤ K.length) ∧ Kept (fun _ => False) W w') := hideQ (fun W k => sorted_any K aK cK W (hK.kept k) hk)
  have EF := fun (W : World) (f : Fn) (ts lb : Array Value) => run_eql_funcD (P := Tryd.prog) W f ts lb Tryd.underlying37
  have HE := hideQ hE
  have HCl := hideQ hC
  have HKA := hideQ KA
  have B5 := hideQ b5
  have B6 := hideQ b6
  obtain ⟨nK, hnK⟩ : ∃ nK, nK = K.length := ⟨_, rfl⟩
  rw [← hnK] at CS hk ⊢
  obtain ⟨i0, hi0, hz0, hz1, hz2⟩ := info_parts Tryd.infoE
  clear hnK hK hC hE A1 A2 KA b5 b6
  refine (callsIn_wide (n := 9)).1 ?_
  refine callsIn_of_wp_marks Tryd.func3 rfl trivial ?_ rfl
  refine wpIn_wide.2 ?_
  simp only [Tryd.ntmps3, List.size_toArray, List.length_cons, List.length_nil, Nat.reduceAdd, Nat.reduceSub, Array.replicate_succ, Array.replicate_zero, List.push_toArray, List.append_toArray, List.nil_append, List.cons_append]
  go_wp2_with (first
    | (go_at_call 4; refine CF.out.mono ?_; clear CF; rintro e W1 ⟨rfl, K1⟩; have HK1 := hideQ (HKA.out.trans K1 (fun _ f => f.elim)); have H5 := hideQ (K1.heap B5.out (fun f => f)); have H6 := hideQ (K1.heap B6.out (fun f => f)); clear K1 B5 B6 HKA)
    | (go_at_call 5; refine Stp.go ?_))
  refine ⟨?_⟩
  have A3 := Kept.alloc W1 (.cells #[.slice none 0 0] 24)
  refine (CS.out _ (HK1.out.trans A3 (fun _ f => f.elim))).mono ?_
  rintro e W2 ⟨⟨vT, T, rfl, hO, hSt, hOk, hTl⟩, K2⟩
  obtain ⟨aT, cT, rfl⟩ := row_shape hO
  have K13 := A3.trans K2 (fun _ f => f.elim)
  have G5 := hideQ (K13.heap H5.out (fun f => f))
  have G6 := hideQ (K13.heap H6.out (fun f => f))
  have G7 := K2.heap (heap_alloc_new W1 (.cells #[.slice none 0 0] 24)) (fun f => f)
  have HK2 := hideQ (HK1.out.trans K13 (fun _ f => f.elim))
  have o7 : w.heap.size + 1 < W1.heap.size := size_of_some H6.out
  have o72 : W1.heap.size < W2.heap.size := size_of_some G7
  rw [World.size_alloc] at hO
  have hO : W2.ownsRow (W1.heap.size + 1) 9 1 (.slice aT T.length cT) T.length (T.map encStr) := hO
  obtain ⟨nT, hnT⟩ : ∃ nT, nT = T.length := ⟨_, rfl⟩
  rw [← hnT] at hTl hO ⊢
  have HO := hideQ hO
  have HG := hideQ (entW_good hSt hOk (by rw [← hnT]; omega))
  have HNT := hideQ hnT
  have hnt : nT ≤ 1048576 := by omega
  clear CS K2 HK1 hO hSt hOk hnT hTl A3 K13 H5 H6
  have G7 := hideQ G7
  generalize W1.heap.size = b7 at *
  go_wp2
  go_loopw [25] (fun v25 wr => ∃ (i : Nat) (a : Option Addr) (c : Nat), i ≤ nT ∧ v25 = .int .i64 i ∧ Hid (wr.heap[b7]? = some (.cells #[.slice a i c] 24 (0, 0))) ∧ Hid (wr.ownsRow W2.heap.size 27 5 (.slice a i c) i (ecs ((entW T).take i))) ∧ Hid (Kept (fun j => j = b7) W2 wr)) (fun v25 _ => nT - (intOf v25).toNat)
  case atStart => exact ⟨0, none, 0, by omega, rfl, G7, hideQ ⟨rfl, .inl ⟨rfl, rfl⟩⟩, hideQ (Kept.refl _ _)⟩
  case round =>
    obtain ⟨i, aE, cE, hi, rfl, HB7, HOr, HKr⟩ := hrel
    clear G7
    by_cases hlt : i < nT
    · have hii : (i : Int) < (nT : Int) := by omega
      have hiT : i < T.length := by rw [← HNT.out]; exact hlt
      obtain ⟨bT, oT, rfl, hcT⟩ := ks_of_ownW (HKr.out.row HO.out (fun k hk e => by have := (HO.out.lt k hk).1; omega)) (by intro e; rw [e] at hiT; simp at hiT)
      have x0 := hcT i hiT
      have HTk : Hid (ecs ((entW T).take (i + 1)) = ecs ((entW T).take i) ++ (enW i T[i]).cells) := hideQ (by rw [entW_take hiT, ecs_snoc])
      unfold enW En.cells at HTk
      simp only [] at HTk
      generalize T[i] = x at *
      obtain ⟨kb, hkb⟩ : ∃ kb : ByteArray, kb = ⟨x.toArray⟩ := ⟨_, rfl⟩
      rw [← hkb] at x0 HTk
      have x7 := cell_of_one HB7.out
      have m2 : (2 : Int) * (i : Int) = ((2 * i : Nat) : Int) := by omega
      have m3 : (3 : Int) * (i : Int) = ((3 * i : Nat) : Int) := by omega
      have l2 : (2 * i : Nat) ≤ 2097152 := by omega
      have l3 : (3 * i : Nat) ≤ 3145728 := by omega
      generalize 2 * i = i2 at *
      generalize 3 * i = i3 at *
      have hb : W2.heap.size ≤ wr.heap.size := HKr.out.size
      clear hcT hkb
      go_wp2_with (at_builtin; refine Stp.go ?_)
      refine ⟨?_⟩
      refine wpList_pushR (base := W2.heap.size) rfl (.tmp 30) (.tmp 38) 24 rfl 27 i0 _ 5 48 Tryd.underlying24 hi0 hz0 hz1 hz2 rfl (by decide) _ i (ecs ((entW T).take i)) [.string kb, .int .i64 i, .int .i64 i2, .int .i64 i3, .int .i64 1] rfl HOr hb (by first | rfl | (simp; rfl)) rfl ?one (hideQ (by omega)) (hideQ (by unfold maxLen; omega)) ?_
      case one => intro u hu; simp at hu; rcases hu with rfl | rfl | rfl | rfl | rfl <;> rfl
      intro a7 c7 W7 HO7 HK7
      have y7 := HK7.out.heap HB7.out (fun e => by have := (HOr.out.lt _ e).1; omega)
      have c7' := cell_of_one y7
      have z7' := free_of_one y7
      have ks := Kept.setCell W7 ⟨b7, 0, none⟩ (.slice a7 (i + 1) c7)
      have HN7 := hideQ (one_setCell (u := .slice a7 (i + 1) c7) y7)
      have HO8 := hideQ (ks.row HO7.out (fun k hk e => by have := (HO7.out.lt k hk).1; simp only at e; omega))
      have HK8 := hideQ ((HKr.out.trans HK7.out (fun j hj => .inr (HOr.out.lt _ hj).1)).trans ks (fun j hj => .inl hj))
      clear y7 ks
      go_wp2
      go_roundw
      case rel => exact ⟨i + 1, _, _, hlt, by go_num, HN7, hideQ (by rw [HTk.out]; exact HO8.out), HK8⟩
      case measure => simp [intOf]; omega
    · obtain rfl : i = nT := by omega
      obtain ⟨E, hEe⟩ : ∃ E, E = entW T := ⟨_, rfl⟩
      have hTk : (entW T).take i = E := by rw [hEe]; exact List.take_of_length_le (by rw [entW_len, HNT.out]; exact Nat.le_refl _)
      rw [hTk] at HOr
      have HLn : Hid (i = E.length) := hideQ (by rw [hEe, entW_len]; exact HNT.out)
      rw [← hEe] at HG
      clear hTk hEe
      have hcap := own_capS HOr.out
      have HEs := hideQ (es_of_own HOr.out HLn.out)
      have HLo : Hid (∀ a, aE = some a → a.block < wr.heap.size) := hideQ (fun a e => by
        rcases HOr.out.2 with ⟨e1, _⟩ | ⟨g, cap, cur, e1, hb, hg, _⟩
        · injection e1 with e1; rw [e] at e1; cases e1
        · injection e1 with e1; rw [e] at e1; cases e1; exact size_of_some hg)
      have HKw := hideQ (HK2.out.trans HKr.out (fun j hj => .inr (by omega)))
      have P5 := hideQ (HKr.out.heap G5.out (fun e => by omega))
      have P6 := hideQ (HKr.out.heap G6.out (fun e => by omega))
      have x7 := cell_of_one HB7.out
      have CB := hideQ (build_good E aE cE wr HEs.out (by rw [← HLn.out]; omega) (by rw [← HLn.out]; exact hcap) HG.out)
      rw [← HLn.out] at CB
      have hil := img_leW HG.out.gen (by rw [← HLn.out]; exact hnt)
      obtain ⟨I, hI⟩ : ∃ I, I = img E := ⟨_, rfl⟩
      rw [← hI] at CB hil
      have HI := hideQ hI
      obtain ⟨nI, hnI⟩ : ∃ nI, nI = I.length := ⟨_, rfl⟩
      rw [← hnI] at CB hil
      have HNI := hideQ hnI
      clear hI hnI HOr HKr HK2 hi0 hz0 hz1 hz2 G5 G6 HO
      go_wp2_with (go_at_call 6; refine Stp.go ?_)
      refine ⟨?_⟩
      refine CB.out.mono ?_
      rintro e W3 ⟨⟨g, hgg, rfl, ho⟩, K3⟩
      have hB3 : BytesAt W3 (some ⟨g, 0, none⟩) I := by
        obtain ⟨a', c', e', h', -⟩ := bytes_of_own ho
        simp only [Value.slice.injEq, true_and] at e'
        exact e'.1 ▸ h'
      have HK3 := hideQ (HKw.out.trans K3 (fun _ f => f.elim))
      have CO := hideQ (open_any I (some ⟨g, 0, none⟩) nI ad W3 hB3 (by rw [HI.out]; exact img_bytesW _) (by rw [← HNI.out]; omega) (HE.out.kept HK3.out).toO)
      rw [← HNI.out, HI.out, opn_put HG.out (by rw [← HI.out, ← HNI.out]; omega)] at CO
      have HK3w := hideQ K3
      clear CB K3 ho hB3 HKw x7
      go_wp2_with (go_at_call 7; refine Stp.go ?_)
      refine ⟨?_⟩
      refine CO.out.mono ?_
      rintro e W4 ⟨⟨bd, va, rfl, hD⟩, K4⟩
      have A12 := Kept.alloc W4 (.cells #[.pointer (some ⟨bd, 0, none⟩)] 33)
      have Kr4 := (HK3w.out.trans K4 (fun _ f => f.elim)).trans A12 (fun _ f => f.elim)
      have HKr4 := hideQ Kr4
      have HK4 := hideQ ((HK3.out.trans K4 (fun _ f => f.elim)).trans A12 (fun _ f => f.elim))
      have Q12 := hideQ (heap_alloc_new W4 (.cells #[.pointer (some ⟨bd, 0, none⟩)] 33))
      have l12 : wr.heap.size ≤ W4.heap.size := (HK3w.out.trans K4 (fun _ f => f.elim)).size
      have lbd : bd < W4.heap.size := size_of_some hD.blk
      have HD := hideQ (hD.kept A12)
      have HLd := hideQ (fun j hj => (hD.own.lt j hj).2)
      have CW := hideQ (walk_any fr _ _ bd va E (hD.kept A12) hf1 hf2)
      have y12 := cell_of_one Q12.out
      clear K4 hD CO HK3 HI HNI HK3w A12 Kr4
      go_wp2_with (go_at_call 8; refine Stp.go ?_)
      refine ⟨?_⟩
      refine CW.out.mono ?_
      rintro e Wk ⟨⟨bf, bp, rfl, hWk, hbf, hbp⟩, K5⟩
      have lk : W4.heap.size < Wk.heap.size := by have := K5.size; simp at this; omega
      have lf : bf < Wk.heap.size := World.block_lt_of_cell? Wk _ hWk.fst
      have lp : bp < Wk.heap.size := World.block_lt_of_cell? Wk _ hWk.ptr
      have KrK := HKr4.out.trans K5 (fun _ f => f.elim)
      have l7 : b7 < wr.heap.size := size_of_some HB7.out
      obtain ⟨f, hf⟩ : ∃ f, f = fr.toNat := ⟨_, rfl⟩
      rw [← hf] at hWk
      have START : Hid (∀ (v : Int), v = (f : Int) → ∀ Wc, Wc = (Wk.alloc (.cells #[.int .i64 v] 3)).alloc (.cells #[.int .i64 v] 3) → WlF w Wk.heap.size b7 W4.heap.size stop f i aE cE E W3.heap.size bd bf bp va Wc ∧ Wc.heap[Wk.heap.size]? = some (.cells #[.int .i64 (f : Int)] 3 (0, 0)) ∧ Wk.heap.size + 1 < Wc.heap.size) := hideQ (by
        rintro v rfl Wc rfl
        have A14 := Kept.alloc Wk (.cells #[.int .i64 (f : Int)] 3)
        have A15 := Kept.alloc (Wk.alloc (.cells #[.int .i64 (f : Int)] 3)) (.cells #[.int .i64 (f : Int)] 3)
        have kk := A14.trans A15 (fun _ f => f.elim)
        have b15 := heap_alloc_new (Wk.alloc (.cells #[.int .i64 (f : Int)] 3)) (.cells #[.int .i64 (f : Int)] 3)
        rw [World.size_alloc] at b15
        have krc := KrK.trans kk (fun _ f => f.elim)
        refine ⟨⟨(HK4.out.trans K5 (fun _ f => f.elim)).trans kk (fun _ f => f.elim), krc.heap P5.out (fun f => f), krc.heap P6.out (fun f => f), krc.heap HB7.out (fun f => f), kk.heap (K5.heap Q12.out (fun f => f)) (fun f => f), b15, HEs.out.kept krc, hWk.kept kk, ⟨by omega, by omega, by omega, by omega, lf, lp⟩, fun j hj => by have := HLd.out j hj; omega, fun a e => by have := HLo.out a e; omega⟩, A15.heap (heap_alloc_new Wk _) (fun f => f), by simp⟩)
      have hel : E.length ≤ 1099511627776 := by rw [← HLn.out]; omega
      have hks : ∀ e ∈ E, e.k.size ≤ 281474976710656 := fun e he => by have := (HG.out.gen e he).k2; omega
      have SQ := hideQ (walk_seq HCl.out 8 (by decide) E W3.heap.size bd va bf bp f hel hks)
      have CWd : Hid (∀ W, WlF w Wk.heap.size b7 W4.heap.size stop f i aE cE E W3.heap.size bd bf bp va W → (f : Int) + 1 ≤ 9223372036854775807 → Calls Tryd.prog 9 #[.pointer (some ⟨bd, 0, none⟩), .slice aE i cE, .int .i64 ((f : Int) + 1)] W fun e w' => e = .returned (.bool true) ∧ Kept (fun _ => False) W w') := hideQ (fun W h hb => by
        have := walked_any HCl.out ((f : Int) + 1) W _ bd va E aE cE h.wk.dct h.es hel hks (by omega) hb
        rw [← HLn.out] at this
        exact this)
      have HF := hideQ hf
      clear CW K5 hWk KrK HKr4 HK4 P5 P6 HB7 HEs HLo HLd HD Q12 y12 HG hks hel HE HCl hf
      by_cases hneg : fr < 0
      · have d0 : decide (fr < 0) = true := decide_eq_true hneg
        obtain ⟨hS1, hS2, hS3⟩ := START.out 0 (by have := HF.out; omega) _ rfl
        have HS1 := hideQ hS1
        have HS2 := hideQ hS2
        clear hS1 hS2 START
        go_wp2
        refine (wpIn_wide (n := 9)).1 ?_
        generalize World.alloc (World.alloc Wk (.cells #[.int .i64 0] 3)) (.cells #[.int .i64 0] 3) = Wc at HS1 HS2 hS3 ⊢
        obtain ⟨q1, q2, q3, q4, q5, q6⟩ := HS1.out.lt
        generalize Wk.heap.size = z at *
        generalize W4.heap.size = b12 at *
        refine' range_mf (α := Nat) rfl (by decide) (gf := 24) (lb := #[.pointer (some ⟨bf, 0, none⟩), .pointer (some ⟨bp, 0, none⟩)]) rfl trivial (enters_of Tryd.func24 (by kernel_rfl) rfl) SQ.out (fun _ => rfl)
          (fun p A => WdI z Wc f p A) (fun cd _ A => cd = .exit 2 ∧ ∃ p, WdI z Wc f p A ∧ (p.length : Int) = stop) ?hK ?hI ?hIx ?hM ?h0 (fun x => .cells #[.string (eat E x).k, .int .i64 (eat E x).d, .int .i64 (eat E x).t, .int .i64 (eat E x).p, .int .i64 (eat E x).s] 27 (0, 0)) (fun x r e => by cases e) _ ?assign ?body ?done ?stop
        case hK => exact fun p A h => (HS1.out.kept h.k).wk
        case hI => exact fun p A r r' h _ => ⟨h.k.trans (kept_put1 A _ _) (fun j hj => .inr (by omega)), (kept_put1 A _ _).heap h.i (fun e => by omega)⟩
        case hIx =>
          rintro cd p A r r' ⟨e, q, h, hq⟩ _
          exact ⟨e, q, ⟨h.k.trans (kept_put1 A _ _) (fun j hj => .inr (by omega)), (kept_put1 A _ _).heap h.i (fun e => by omega)⟩, hq⟩
        case hM => exact fun pre x s B B' r h _ _ => h
        case h0 =>
          intro r
          have kk : Kept (fun _ => False) Wc ((Wc.alloc (.deferred (some []))).alloc (.loop r)) := (Kept.alloc _ _).trans (Kept.alloc _ _) (fun _ f => f.elim)
          exact ⟨kk.mono fun _ f => f.elim, kk.heap HS2.out (fun f => f)⟩
        case assign =>
          intro l s x B K hs hK
          have hX := heap_alloc_new B (.cells #[.string (eat E x).k, .int .i64 (eat E x).d, .int .i64 (eat E x).t, .int .i64 (eat E x).p, .int .i64 (eat E x).s] 27)
          simp only [encW, enV]
          gi_wp2
          generalize B.heap.size = Bx at hX hs ⊢
          exact hK Bx _ hs (Kept.alloc _ _) hX
        case body =>
          rintro l p x Bx A B hI kAB hM hlt hBx hX
          obtain ⟨hx, hxE⟩ := hM
          have hB := hI.same kAB
          have FB := HS1.out.kept hB.k
          have r14 := hB.i
          rw [← hx] at r14
          have c14 := cell_of_one r14
          have z14 := free_of_one r14
          have c7 := cell_of_one FB.h7
          have c15 := cell_of_one FB.h15
          have c5 := cell_of_one FB.h5
          have c12 := cell_of_one FB.h12
          obtain ⟨bE, oE, rfl, hcE⟩ := FB.es (by intro e; rw [e] at hxE; simp at hxE)
          obtain ⟨y0, y1, y2, y3, y4⟩ := hcE x hxE
          have x0 : B.cell? ⟨Bx, 0, none⟩ = some (.string (eat E x).k) := cell_of_row _ _ 0 _ _ _ hX
          have x1 : B.cell? ⟨Bx, 1, none⟩ = some (.int .i64 (eat E x).d) := cell_of_row _ _ 1 _ _ _ hX
          have x2 : B.cell? ⟨Bx, 2, none⟩ = some (.int .i64 (eat E x).t) := cell_of_row _ _ 2 _ _ _ hX
          have x3 : B.cell? ⟨Bx, 3, none⟩ = some (.int .i64 (eat E x).p) := cell_of_row _ _ 3 _ _ _ hX
          have x4 : B.cell? ⟨Bx, 4, none⟩ = some (.int .i64 (eat E x).s) := cell_of_row _ _ 4 _ _ _ hX
          rw [eat_at hxE] at x0 x1 x2 x3 x4
          have hxn : x < i := by rw [HLn.out]; exact hxE
          have HQ : Hid (∀ j, ∀ C, Kept (fun _ => False) (B.drewN j) C → (C.cell? ⟨z, 0, none⟩ = some (.int .i64 (x : Int)) ∧ C.frozen? ⟨z, 0, none⟩ = false ∧ C.cell? ⟨z + 1, 0, none⟩ = some (.int .i64 (f : Int)) ∧ C.cell? ⟨w.heap.size, 0, none⟩ = some (.int .i64 stop) ∧ (∀ v, (C.setCell ⟨z, 0, none⟩ v).cell? ⟨z, 0, none⟩ = some v ∧ (C.setCell ⟨z, 0, none⟩ v).cell? ⟨z + 1, 0, none⟩ = some (.int .i64 (f : Int)) ∧ (C.setCell ⟨z, 0, none⟩ v).cell? ⟨w.heap.size, 0, none⟩ = some (.int .i64 stop)))) := hideQ (by
            intro j C kC
            have kd := (Kept.drewN B j).trans kC (fun _ f => f.elim)
            have t14 := kd.heap r14 (fun f => f)
            have t15 := cell_of_one (kd.heap FB.h15 (fun f => f))
            have t5 := cell_of_one (kd.heap FB.h5 (fun f => f))
            refine ⟨cell_of_one t14, free_of_one t14, t15, t5, fun v => ⟨cell_of_one (one_setCell t14), (Kept.setCell C ⟨z, 0, none⟩ v).cell t15 (fun e => by simp only at e; omega), (Kept.setCell C ⟨z, 0, none⟩ v).cell t5 (fun e => by simp only at e; omega)⟩⟩)
          have FIN : Hid (∀ j C, Kept (fun _ => False) (B.drewN j) C → Still Wc.heap.size B (C.setCell ⟨z, 0, none⟩ (.int .i64 ((x : Int) + 1))) ∧ WdI z Wc f (p ++ [x]) (C.setCell ⟨z, 0, none⟩ (.int .i64 ((x : Int) + 1)))) := hideQ (by
            intro j C kC
            have kd := (Kept.drewN B j).trans kC (fun _ f => f.elim)
            have ks := (kd.mono fun _ f => f.elim (C := _ ∨ _)).trans (Kept.setCell C ⟨z, 0, none⟩ (.int .i64 ((x : Int) + 1))) (fun k hk => .inl hk)
            refine ⟨Still.of_kept ks (by have := kAB.size; omega) (fun k hk h => by simp only at h; omega), hB.k.trans ks (fun k hk => .inl hk), ?_⟩
            have := one_setCell (w := C) (u := .int .i64 ((x : Int) + 1)) (kd.heap r14 (fun f => f))
            rw [show ((f + (p ++ [x]).length : Nat) : Int) = (x : Int) + 1 by rw [List.length_append]; simp; omega]
            exact this)
          have CWr : Hid (∀ j, Calls Tryd.prog 9 #[.pointer (some ⟨bd, 0, none⟩), .slice (some ⟨bE, oE, none⟩) i cE, .int .i64 ((f : Int) + 1)] (B.drewN j) fun e w' => e = .returned (.bool true) ∧ Kept (fun _ => False) (B.drewN j) w') := hideQ (fun j => CWd.out _ (FB.kept ((Kept.drewN B j).mono fun _ f => f.elim)) (by omega))
          have hfx : f ≤ x ∧ x ≤ 1048576 ∧ f ≤ 1048576 := by omega
          obtain ⟨hfx1, hfx2, hfx3⟩ := hfx
          have LEN : Hid (((p ++ [x]).length : Int) = (x : Int) + 1 - (f : Int)) := hideQ (by rw [List.length_append]; simp; omega)
          generalize E[x] = en at *
          obtain ⟨k, d, t, p', s⟩ := en
          simp only at x0 x1 x2 x3 x4 y0 y1 y2 y3 y4
          have i1 : (x : Int) < (i : Int) := by omega
          have i2 : decide (i ≤ x) = false := decide_eq_false (by omega)
          have i3 : decide ((i : Int) ≤ (x : Int)) = false := decide_eq_false (by omega)
          clear hI kAB hB FB r14 hX hcE hxE hx hlt hBx
          gi_wp2
          refine quiet_round rfl (by kernel_rfl) (by kernel_rfl) (by kernel_rfl) ?_
          repeat (gi_big_quiet_step (fail))
          refine wpQuietIn_nil ?_
          intro _ hw'
          obtain ⟨nq, hw''⟩ := hw'
          subst hw''
          by_cases hx1 : (x : Int) = (f : Int) + 1
          · have d1 : decide ((x : Int) = (f : Int) + 1) = true := decide_eq_true hx1
            rw [hx1] at HQ FIN LEN
            obtain ⟨g1, g2, g3, g4, g5⟩ := HQ.out nq _ (Kept.refl _ _)
            have HX1 := hideQ hx1
            clear g4 g5 hx1
            have g7 : (B.drewN nq).cell? ⟨b7, 0, none⟩ = some (.slice (some ⟨bE, oE, none⟩) i cE) := (Kept.drewN B nq).cell c7 (fun f => f)
            have g12 : (B.drewN nq).cell? ⟨b12, 0, none⟩ = some (.pointer (some ⟨bd, 0, none⟩)) := (Kept.drewN B nq).cell c12 (fun f => f)
            gi_wp2_with (refine ⟨trivial, ?_⟩; gi_at_call 9; refine Stp.go ?_)
            refine ⟨?_⟩
            refine (CallsIn.inRound l (callsIn_wide.2 (CWr.out nq))).mono ?_
            rintro e C ⟨rfl, kC⟩
            obtain ⟨g1, g2, g3, g4, g5⟩ := HQ.out nq C kC
            obtain ⟨g6, g8, g9⟩ := g5 (.int .i64 (((f : Int) + 1) + 1))
            clear g5 g7 g12
            by_cases hst : ((f : Int) + 1) + 1 - (f : Int) = stop
            · have s1 : decide (((f : Int) + 1) + 1 - (f : Int) = stop) = true := decide_eq_true hst
              have s2 : decide ((2 : Int) = stop) = true := decide_eq_true (by omega)
              gi_wp2
              exact ⟨(FIN.out nq _ kC).1, rfl, _, (FIN.out nq _ kC).2, by rw [LEN.out]; exact hst⟩
            · have s1 : decide (((f : Int) + 1) + 1 - (f : Int) = stop) = false := decide_eq_false hst
              have s2 : decide ((2 : Int) = stop) = false := decide_eq_false (by omega)
              gi_wp2
              exact ⟨(FIN.out nq _ kC).1, (FIN.out nq _ kC).2⟩

          · have d1 : decide ((x : Int) = (f : Int) + 1) = false := decide_eq_false hx1
            have d2 : decide (x = f + 1) = false := decide_eq_false (by omega)
            have d3 : ¬ (x = f + 1) := by omega
            obtain ⟨g1, g2, g3, g4, g5⟩ := HQ.out nq _ (Kept.refl _ _)
            obtain ⟨g6, g8, g9⟩ := g5 (.int .i64 ((x : Int) + 1))
            clear g5
            by_cases hst : (x : Int) + 1 - (f : Int) = stop
            · have s1 : decide ((x : Int) + 1 - (f : Int) = stop) = true := decide_eq_true hst
              gi_wp2_with (refine ⟨trivial, ?_⟩)
              exact ⟨(FIN.out nq _ (Kept.refl _ _)).1, rfl, _, (FIN.out nq _ (Kept.refl _ _)).2, by rw [LEN.out]; exact hst⟩
            · have s1 : decide ((x : Int) + 1 - (f : Int) = stop) = false := decide_eq_false hst
              gi_wp2_with (refine ⟨trivial, ?_⟩)
              exact ⟨(FIN.out nq _ (Kept.refl _ _)).1, (FIN.out nq _ (Kept.refl _ _)).2⟩
        case done =>
          intro xs A W5 hS hI k hD
          have hB := hI.same k
          have F5 := HS1.out.kept hB.k
          obtain ⟨y, hy⟩ : ∃ y, y = f + xs.length := ⟨_, rfl⟩
          have r14 := hB.i
          rw [← hy] at r14
          have hyn : i ≤ y := by rw [HLn.out]; omega
          have c14 := cell_of_one r14
          have z14 := free_of_one r14
          have c7 := cell_of_one F5.h7
          have c15 := cell_of_one F5.h15
          have c5 := cell_of_one F5.h5
          have i0 : ¬ ((y : Int) < (i : Int)) := by omega
          have i2 : decide ((y : Int) < (i : Int)) = false := decide_eq_false (by omega)
          have HF5 := hideQ F5
          have HD5 := hideQ hD
          have HR14 := hideQ r14
          clear hB hI k hD hS hy r14 F5
          go_wp2
          refine (wpIn_wide (n := 9)).1 ?_
          have ks := Kept.setCell W5 ⟨z, 0, none⟩ (.int .i64 (f : Int))
          have T14 := hideQ (one_setCell (u := .int .i64 (f : Int)) HR14.out)
          have T1 := hideQ (HF5.out.kept ks)
          have TD := hideQ (ks.heap HD5.out (fun e => by simp only at e; omega))
          have hzV : Wc.heap.size < (W5.setCell ⟨z, 0, none⟩ (.int .i64 (f : Int))).heap.size := size_of_some TD.out
          clear ks HR14 HF5 HD5
          generalize W5.setCell ⟨z, 0, none⟩ (.int .i64 (f : Int)) = V at *
          refine' range_mf (α := Nat) rfl (by decide) (gf := 24) (lb := #[.pointer (some ⟨bf, 0, none⟩), .pointer (some ⟨bp, 0, none⟩)]) rfl trivial (enters_of Tryd.func24 (by kernel_rfl) rfl) SQ.out (fun _ => rfl)
            (fun p A => WdI z V f p A) (fun _ _ _ => False) ?hK2 ?hI2 ?hIx2 ?hM2 ?h02 (fun x => .cells #[.string (eat E x).k, .int .i64 (eat E x).d, .int .i64 (eat E x).t, .int .i64 (eat E x).p, .int .i64 (eat E x).s] 27 (0, 0)) (fun x r e => by cases e) _ ?assign2 ?body2 ?done2 ?stop2
          case hK2 => exact fun p A h => (T1.out.kept h.k).wk
          case hI2 => exact fun p A r r' h _ => ⟨h.k.trans (kept_put1 A _ _) (fun j hj => .inr (by omega)), (kept_put1 A _ _).heap h.i (fun e => by omega)⟩
          case hIx2 => exact fun _ _ _ _ _ h _ => h
          case hM2 => exact fun pre x s B B' r h _ _ => h
          case h02 =>
            intro r
            have kk : Kept (fun _ => False) V ((V.alloc (.deferred (some []))).alloc (.loop r)) := (Kept.alloc _ _).trans (Kept.alloc _ _) (fun _ f => f.elim)
            exact ⟨kk.mono fun _ f => f.elim, kk.heap T14.out (fun f => f)⟩
          case assign2 =>
            intro l s x B K hs hK
            have hX := heap_alloc_new B (.cells #[.string (eat E x).k, .int .i64 (eat E x).d, .int .i64 (eat E x).t, .int .i64 (eat E x).p, .int .i64 (eat E x).s] 27)
            simp only [encW, enV]
            gi_wp2
            generalize B.heap.size = Bx at hX hs ⊢
            exact hK Bx _ hs (Kept.alloc _ _) hX
          case body2 =>
            rintro l p x Bx A B hI kAB hM hlt hBx hX
            obtain ⟨hx, hxE⟩ := hM
            have hB := hI.same kAB
            have FB := T1.out.kept hB.k
            have r14 := hB.i
            rw [← hx] at r14
            have c14 := cell_of_one r14
            have z14 := free_of_one r14
            have c7 := cell_of_one FB.h7
            obtain ⟨bE, oE, rfl, hcE⟩ := FB.es (by intro e; rw [e] at hxE; simp at hxE)
            obtain ⟨y0, y1, y2, y3, y4⟩ := hcE x hxE
            have x0 : B.cell? ⟨Bx, 0, none⟩ = some (.string (eat E x).k) := cell_of_row _ _ 0 _ _ _ hX
            have x1 : B.cell? ⟨Bx, 1, none⟩ = some (.int .i64 (eat E x).d) := cell_of_row _ _ 1 _ _ _ hX
            have x2 : B.cell? ⟨Bx, 2, none⟩ = some (.int .i64 (eat E x).t) := cell_of_row _ _ 2 _ _ _ hX
            have x3 : B.cell? ⟨Bx, 3, none⟩ = some (.int .i64 (eat E x).p) := cell_of_row _ _ 3 _ _ _ hX
            have x4 : B.cell? ⟨Bx, 4, none⟩ = some (.int .i64 (eat E x).s) := cell_of_row _ _ 4 _ _ _ hX
            rw [eat_at hxE] at x0 x1 x2 x3 x4
            have hxn : x < i := by rw [HLn.out]; exact hxE
            have FIN : Hid (∀ j, Still V.heap.size B ((B.drewN j).setCell ⟨z, 0, none⟩ (.int .i64 ((x : Int) + 1))) ∧ WdI z V f (p ++ [x]) ((B.drewN j).setCell ⟨z, 0, none⟩ (.int .i64 ((x : Int) + 1)))) := hideQ (by
              intro j
              have ks := ((Kept.drewN B j).mono fun _ f => f.elim (C := _ ∨ _)).trans (Kept.setCell (B.drewN j) ⟨z, 0, none⟩ (.int .i64 ((x : Int) + 1))) (fun k hk => .inl hk)
              refine ⟨Still.of_kept ks (by have := kAB.size; omega) (fun k hk h => by simp only at h; omega), hB.k.trans ks (fun k hk => .inl hk), ?_⟩
              have := one_setCell (w := B.drewN j) (u := .int .i64 ((x : Int) + 1)) r14
              rw [show ((f + (p ++ [x]).length : Nat) : Int) = (x : Int) + 1 by rw [List.length_append]; simp; omega]
              exact this)
            generalize E[x] = en at *
            obtain ⟨k, d, t, p', s⟩ := en
            simp only at x0 x1 x2 x3 x4 y0 y1 y2 y3 y4
            have i1 : (x : Int) < (i : Int) := by omega
            have i2 : decide (i ≤ x) = false := decide_eq_false (by omega)
            have i3 : decide ((i : Int) ≤ (x : Int)) = false := decide_eq_false (by omega)
            clear hI kAB hB FB r14 hX hcE hxE hx hlt hBx
            gi_wp2
            refine quiet_round rfl (by kernel_rfl) (by kernel_rfl) (by kernel_rfl) ?_
            repeat (gi_big_quiet_step (fail))
            refine wpQuietIn_nil ?_
            intro _ hw'
            obtain ⟨nq, hw''⟩ := hw'
            subst hw''
            gi_wp2
            all_goals exact FIN.out nq
          case stop2 => exact fun _ _ _ _ h _ _ => h.elim
          case done2 =>
            intro xs A W6 hS hI k hD
            have hB := hI.same k
            have F6 := T1.out.kept hB.k
            obtain ⟨y, hy⟩ : ∃ y, y = f + xs.length := ⟨_, rfl⟩
            have r14 := hB.i
            rw [← hy] at r14
            have hyn : i ≤ y := by rw [HLn.out]; omega
            have c14 := cell_of_one r14
            have c7 := cell_of_one F6.h7
            have c6 := cell_of_one F6.h6
            have z6 := free_of_one F6.h6
            have i1 : (i : Int) ≤ (y : Int) := by omega
            have i2 : decide ((i : Int) ≤ (y : Int)) = true := decide_eq_true i1
            have i3 : decide (i ≤ y) = true := decide_eq_true hyn
            have HF6 := hideQ F6
            have E1 := hideQ (hB.k.heap TD.out (fun e => by omega))
            have E2 := hideQ hD
            have vz : V.heap.size < W6.heap.size := size_of_some hD
            clear hB hI k hD hS hy r14 F6
            go_wp2
            have ks := Kept.setCell W6 ⟨w.heap.size + 1, 0, none⟩ (.bool true)
            refine leaves_marksW [V.heap.size, Wc.heap.size] _ (by simp; omega) (fun D hD => ?_) (fun W' kk => ?_)
            · rcases List.mem_cons.1 hD with rfl | hD
              · exact ks.heap E2.out (fun e => by simp only at e; omega)
              · rw [List.mem_singleton] at hD
                subst hD
                exact ks.heap E1.out (fun e => by simp only at e; omega)
            · have h4 := kk.heap (one_setCell (u := .bool true) HF6.out.h6) (fun e => by simp only [List.mem_cons, List.not_mem_nil, or_false] at e; omega)
              refine ⟨.bool true, by simp [results, Tryd.results3, go_sem, cell_of_one h4], rfl, ?_⟩
              exact (HF6.out.k.trans ks (fun i hi => .inr (by simp only at hi; omega))).trans kk (fun i hi => .inr (by simp only [List.mem_cons, List.not_mem_nil, or_false] at hi; omega))
        case stop =>
          rintro cd p0 A W5 ⟨rfl, q, hI, hq⟩ k hD
          have hB := hI.same k
          have F5 := HS1.out.kept hB.k
          obtain ⟨y, hy⟩ : ∃ y, y = f + q.length := ⟨_, rfl⟩
          have r14 := hB.i
          rw [← hy] at r14
          have c14 := cell_of_one r14
          have z14 := free_of_one r14
          have c7 := cell_of_one F5.h7
          have c15 := cell_of_one F5.h15
          have c5 := cell_of_one F5.h5
          have hyq : (y : Int) - (f : Int) = stop := by omega
          have hfy : f ≤ y := by omega
          have i9 : decide ((y : Int) - (f : Int) = stop) = true := decide_eq_true hyq
          have HF5 := hideQ F5
          have HD5 := hideQ hD
          have HR14 := hideQ r14
          clear hB hI k hD hy r14 F5 hq
          refine wpIn_wide.2 ?_
          by_cases hyi : y < i
          · have i0 : (y : Int) < (i : Int) := by omega
            have i2 : decide ((y : Int) < (i : Int)) = true := decide_eq_true i0
            have hyb : y ≤ 1048576 := by omega
            have hfb : f ≤ 1048576 := by omega
            go_wp2
            refine (wpIn_wide (n := 9)).1 ?_
            have ks := Kept.setCell W5 ⟨z, 0, none⟩ (.int .i64 (f : Int))
            have T14 := hideQ (one_setCell (u := .int .i64 (f : Int)) HR14.out)
            have T1 := hideQ (HF5.out.kept ks)
            have TD := hideQ (ks.heap HD5.out (fun e => by simp only at e; omega))
            have hzV : Wc.heap.size < (W5.setCell ⟨z, 0, none⟩ (.int .i64 (f : Int))).heap.size := size_of_some TD.out
            clear ks HR14 HF5 HD5
            generalize W5.setCell ⟨z, 0, none⟩ (.int .i64 (f : Int)) = V at *
            refine' range_mf (α := Nat) rfl (by decide) (gf := 24) (lb := #[.pointer (some ⟨bf, 0, none⟩), .pointer (some ⟨bp, 0, none⟩)]) rfl trivial (enters_of Tryd.func24 (by kernel_rfl) rfl) SQ.out (fun _ => rfl)
              (fun p A => WdI z V f p A) (fun _ _ _ => False) ?hK3 ?hI3 ?hIx3 ?hM3 ?h03 (fun x => .cells #[.string (eat E x).k, .int .i64 (eat E x).d, .int .i64 (eat E x).t, .int .i64 (eat E x).p, .int .i64 (eat E x).s] 27 (0, 0)) (fun x r e => by cases e) _ ?assign3 ?body3 ?done3 ?stop3
            case hK3 => exact fun p A h => (T1.out.kept h.k).wk
            case hI3 => exact fun p A r r' h _ => ⟨h.k.trans (kept_put1 A _ _) (fun j hj => .inr (by omega)), (kept_put1 A _ _).heap h.i (fun e => by omega)⟩
            case hIx3 => exact fun _ _ _ _ _ h _ => h
            case hM3 => exact fun pre x s B B' r h _ _ => h
            case h03 =>
              intro r
              have kk : Kept (fun _ => False) V ((V.alloc (.deferred (some []))).alloc (.loop r)) := (Kept.alloc _ _).trans (Kept.alloc _ _) (fun _ f => f.elim)
              exact ⟨kk.mono fun _ f => f.elim, kk.heap T14.out (fun f => f)⟩
            case assign3 =>
              intro l s x B K hs hK
              have hX := heap_alloc_new B (.cells #[.string (eat E x).k, .int .i64 (eat E x).d, .int .i64 (eat E x).t, .int .i64 (eat E x).p, .int .i64 (eat E x).s] 27)
              simp only [encW, enV]
              gi_wp2
              generalize B.heap.size = Bx at hX hs ⊢
              exact hK Bx _ hs (Kept.alloc _ _) hX
            case body3 =>
              rintro l p x Bx A B hI kAB hM hlt hBx hX
              obtain ⟨hx, hxE⟩ := hM
              have hB := hI.same kAB
              have FB := T1.out.kept hB.k
              have r14 := hB.i
              rw [← hx] at r14
              have c14 := cell_of_one r14
              have z14 := free_of_one r14
              have c7 := cell_of_one FB.h7
              obtain ⟨bE, oE, rfl, hcE⟩ := FB.es (by intro e; rw [e] at hxE; simp at hxE)
              obtain ⟨y0, y1, y2, y3, y4⟩ := hcE x hxE
              have x0 : B.cell? ⟨Bx, 0, none⟩ = some (.string (eat E x).k) := cell_of_row _ _ 0 _ _ _ hX
              have x1 : B.cell? ⟨Bx, 1, none⟩ = some (.int .i64 (eat E x).d) := cell_of_row _ _ 1 _ _ _ hX
              have x2 : B.cell? ⟨Bx, 2, none⟩ = some (.int .i64 (eat E x).t) := cell_of_row _ _ 2 _ _ _ hX
              have x3 : B.cell? ⟨Bx, 3, none⟩ = some (.int .i64 (eat E x).p) := cell_of_row _ _ 3 _ _ _ hX
              have x4 : B.cell? ⟨Bx, 4, none⟩ = some (.int .i64 (eat E x).s) := cell_of_row _ _ 4 _ _ _ hX
              rw [eat_at hxE] at x0 x1 x2 x3 x4
              have hxn : x < i := by rw [HLn.out]; exact hxE
              have FIN : Hid (∀ j, Still V.heap.size B ((B.drewN j).setCell ⟨z, 0, none⟩ (.int .i64 ((x : Int) + 1))) ∧ WdI z V f (p ++ [x]) ((B.drewN j).setCell ⟨z, 0, none⟩ (.int .i64 ((x : Int) + 1)))) := hideQ (by
                intro j
                have ks := ((Kept.drewN B j).mono fun _ f => f.elim (C := _ ∨ _)).trans (Kept.setCell (B.drewN j) ⟨z, 0, none⟩ (.int .i64 ((x : Int) + 1))) (fun k hk => .inl hk)
                refine ⟨Still.of_kept ks (by have := kAB.size; omega) (fun k hk h => by simp only at h; omega), hB.k.trans ks (fun k hk => .inl hk), ?_⟩
                have := one_setCell (w := B.drewN j) (u := .int .i64 ((x : Int) + 1)) r14
                rw [show ((f + (p ++ [x]).length : Nat) : Int) = (x : Int) + 1 by rw [List.length_append]; simp; omega]
                exact this)
              generalize E[x] = en at *
              obtain ⟨k, d, t, p', s⟩ := en
              simp only at x0 x1 x2 x3 x4 y0 y1 y2 y3 y4
              have i1 : (x : Int) < (i : Int) := by omega
              have i2 : decide (i ≤ x) = false := decide_eq_false (by omega)
              have i3 : decide ((i : Int) ≤ (x : Int)) = false := decide_eq_false (by omega)
              clear hI kAB hB FB r14 hX hcE hxE hx hlt hBx
              gi_wp2
              refine quiet_round rfl (by kernel_rfl) (by kernel_rfl) (by kernel_rfl) ?_
              repeat (gi_big_quiet_step (fail))
              refine wpQuietIn_nil ?_
              intro _ hw'
              obtain ⟨nq, hw''⟩ := hw'
              subst hw''
              gi_wp2
              all_goals exact FIN.out nq
            case stop3 => exact fun _ _ _ _ h _ _ => h.elim
            case done3 =>
              intro xs A W6 hS hI k hD
              have hB := hI.same k
              have F6 := T1.out.kept hB.k
              obtain ⟨y, hy⟩ : ∃ y, y = f + xs.length := ⟨_, rfl⟩
              have r14 := hB.i
              rw [← hy] at r14
              have hyn : i ≤ y := by rw [HLn.out]; omega
              have c14 := cell_of_one r14
              have c7 := cell_of_one F6.h7
              have c6 := cell_of_one F6.h6
              have z6 := free_of_one F6.h6
              have i1 : (i : Int) ≤ (y : Int) := by omega
              have i2 : decide ((i : Int) ≤ (y : Int)) = true := decide_eq_true i1
              have i3 : decide (i ≤ y) = true := decide_eq_true hyn
              have HF6 := hideQ F6
              have E1 := hideQ (hB.k.heap TD.out (fun e => by omega))
              have E2 := hideQ hD
              have vz : V.heap.size < W6.heap.size := size_of_some hD
              clear hB hI k hD hS hy r14 F6
              go_wp2
              have ks := Kept.setCell W6 ⟨w.heap.size + 1, 0, none⟩ (.bool true)
              refine leaves_marksW [V.heap.size, Wc.heap.size] _ (by simp; omega) (fun D hD => ?_) (fun W' kk => ?_)
              · rcases List.mem_cons.1 hD with rfl | hD
                · exact ks.heap E2.out (fun e => by simp only at e; omega)
                · rw [List.mem_singleton] at hD
                  subst hD
                  exact ks.heap E1.out (fun e => by simp only at e; omega)
              · have h4 := kk.heap (one_setCell (u := .bool true) HF6.out.h6) (fun e => by simp only [List.mem_cons, List.not_mem_nil, or_false] at e; omega)
                refine ⟨.bool true, by simp [results, Tryd.results3, go_sem, cell_of_one h4], rfl, ?_⟩
                exact (HF6.out.k.trans ks (fun i hi => .inr (by simp only at hi; omega))).trans kk (fun i hi => .inr (by simp only [List.mem_cons, List.not_mem_nil, or_false] at hi; omega))
          · have i0 : ¬ ((y : Int) < (i : Int)) := by omega
            have i2 : decide ((y : Int) < (i : Int)) = false := decide_eq_false (by omega)
            go_wp2
            refine (wpIn_wide (n := 9)).1 ?_
            have ks := Kept.setCell W5 ⟨z, 0, none⟩ (.int .i64 (f : Int))
            have T14 := hideQ (one_setCell (u := .int .i64 (f : Int)) HR14.out)
            have T1 := hideQ (HF5.out.kept ks)
            have TD := hideQ (ks.heap HD5.out (fun e => by simp only at e; omega))
            have hzV : Wc.heap.size < (W5.setCell ⟨z, 0, none⟩ (.int .i64 (f : Int))).heap.size := size_of_some TD.out
            clear ks HR14 HF5 HD5
            generalize W5.setCell ⟨z, 0, none⟩ (.int .i64 (f : Int)) = V at *
            refine' range_mf (α := Nat) rfl (by decide) (gf := 24) (lb := #[.pointer (some ⟨bf, 0, none⟩), .pointer (some ⟨bp, 0, none⟩)]) rfl trivial (enters_of Tryd.func24 (by kernel_rfl) rfl) SQ.out (fun _ => rfl)
              (fun p A => WdI z V f p A) (fun _ _ _ => False) ?hK4 ?hI4 ?hIx4 ?hM4 ?h04 (fun x => .cells #[.string (eat E x).k, .int .i64 (eat E x).d, .int .i64 (eat E x).t, .int .i64 (eat E x).p, .int .i64 (eat E x).s] 27 (0, 0)) (fun x r e => by cases e) _ ?assign4 ?body4 ?done4 ?stop4
            case hK4 => exact fun p A h => (T1.out.kept h.k).wk
            case hI4 => exact fun p A r r' h _ => ⟨h.k.trans (kept_put1 A _ _) (fun j hj => .inr (by omega)), (kept_put1 A _ _).heap h.i (fun e => by omega)⟩
            case hIx4 => exact fun _ _ _ _ _ h _ => h
            case hM4 => exact fun pre x s B B' r h _ _ => h
            case h04 =>
              intro r
              have kk : Kept (fun _ => False) V ((V.alloc (.deferred (some []))).alloc (.loop r)) := (Kept.alloc _ _).trans (Kept.alloc _ _) (fun _ f => f.elim)
              exact ⟨kk.mono fun _ f => f.elim, kk.heap T14.out (fun f => f)⟩
            case assign4 =>
              intro l s x B K hs hK
              have hX := heap_alloc_new B (.cells #[.string (eat E x).k, .int .i64 (eat E x).d, .int .i64 (eat E x).t, .int .i64 (eat E x).p, .int .i64 (eat E x).s] 27)
              simp only [encW, enV]
              gi_wp2
              generalize B.heap.size = Bx at hX hs ⊢
              exact hK Bx _ hs (Kept.alloc _ _) hX
            case body4 =>
              rintro l p x Bx A B hI kAB hM hlt hBx hX
              obtain ⟨hx, hxE⟩ := hM
              have hB := hI.same kAB
              have FB := T1.out.kept hB.k
              have r14 := hB.i
              rw [← hx] at r14
              have c14 := cell_of_one r14
              have z14 := free_of_one r14
              have c7 := cell_of_one FB.h7
              obtain ⟨bE, oE, rfl, hcE⟩ := FB.es (by intro e; rw [e] at hxE; simp at hxE)
              obtain ⟨y0, y1, y2, y3, y4⟩ := hcE x hxE
              have x0 : B.cell? ⟨Bx, 0, none⟩ = some (.string (eat E x).k) := cell_of_row _ _ 0 _ _ _ hX
              have x1 : B.cell? ⟨Bx, 1, none⟩ = some (.int .i64 (eat E x).d) := cell_of_row _ _ 1 _ _ _ hX
              have x2 : B.cell? ⟨Bx, 2, none⟩ = some (.int .i64 (eat E x).t) := cell_of_row _ _ 2 _ _ _ hX
              have x3 : B.cell? ⟨Bx, 3, none⟩ = some (.int .i64 (eat E x).p) := cell_of_row _ _ 3 _ _ _ hX
              have x4 : B.cell? ⟨Bx, 4, none⟩ = some (.int .i64 (eat E x).s) := cell_of_row _ _ 4 _ _ _ hX
              rw [eat_at hxE] at x0 x1 x2 x3 x4
              have hxn : x < i := by rw [HLn.out]; exact hxE
              have FIN : Hid (∀ j, Still V.heap.size B ((B.drewN j).setCell ⟨z, 0, none⟩ (.int .i64 ((x : Int) + 1))) ∧ WdI z V f (p ++ [x]) ((B.drewN j).setCell ⟨z, 0, none⟩ (.int .i64 ((x : Int) + 1)))) := hideQ (by
                intro j
                have ks := ((Kept.drewN B j).mono fun _ f => f.elim (C := _ ∨ _)).trans (Kept.setCell (B.drewN j) ⟨z, 0, none⟩ (.int .i64 ((x : Int) + 1))) (fun k hk => .inl hk)
                refine ⟨Still.of_kept ks (by have := kAB.size; omega) (fun k hk h => by simp only at h; omega), hB.k.trans ks (fun k hk => .inl hk), ?_⟩
                have := one_setCell (w := B.drewN j) (u := .int .i64 ((x : Int) + 1)) r14
                rw [show ((f + (p ++ [x]).length : Nat) : Int) = (x : Int) + 1 by rw [List.length_append]; simp; omega]
                exact this)
              generalize E[x] = en at *
              obtain ⟨k, d, t, p', s⟩ := en
              simp only at x0 x1 x2 x3 x4 y0 y1 y2 y3 y4
              have i1 : (x : Int) < (i : Int) := by omega
              have i2 : decide (i ≤ x) = false := decide_eq_false (by omega)
              have i3 : decide ((i : Int) ≤ (x : Int)) = false := decide_eq_false (by omega)
              clear hI kAB hB FB r14 hX hcE hxE hx hlt hBx
              gi_wp2
              refine quiet_round rfl (by kernel_rfl) (by kernel_rfl) (by kernel_rfl) ?_
              repeat (gi_big_quiet_step (fail))
              refine wpQuietIn_nil ?_
              intro _ hw'
              obtain ⟨nq, hw''⟩ := hw'
              subst hw''
              gi_wp2
              all_goals exact FIN.out nq
            case stop4 => exact fun _ _ _ _ h _ _ => h.elim
            case done4 =>
              intro xs A W6 hS hI k hD
              have hB := hI.same k
              have F6 := T1.out.kept hB.k
              obtain ⟨y, hy⟩ : ∃ y, y = f + xs.length := ⟨_, rfl⟩
              have r14 := hB.i
              rw [← hy] at r14
              have hyn : i ≤ y := by rw [HLn.out]; omega
              have c14 := cell_of_one r14
              have c7 := cell_of_one F6.h7
              have c6 := cell_of_one F6.h6
              have z6 := free_of_one F6.h6
              have i1 : (i : Int) ≤ (y : Int) := by omega
              have i2 : decide ((i : Int) ≤ (y : Int)) = true := decide_eq_true i1
              have i3 : decide (i ≤ y) = true := decide_eq_true hyn
              have HF6 := hideQ F6
              have E1 := hideQ (hB.k.heap TD.out (fun e => by omega))
              have E2 := hideQ hD
              have vz : V.heap.size < W6.heap.size := size_of_some hD
              clear hB hI k hD hS hy r14 F6
              go_wp2
              have ks := Kept.setCell W6 ⟨w.heap.size + 1, 0, none⟩ (.bool true)
              refine leaves_marksW [V.heap.size, Wc.heap.size] _ (by simp; omega) (fun D hD => ?_) (fun W' kk => ?_)
              · rcases List.mem_cons.1 hD with rfl | hD
                · exact ks.heap E2.out (fun e => by simp only at e; omega)
                · rw [List.mem_singleton] at hD
                  subst hD
                  exact ks.heap E1.out (fun e => by simp only at e; omega)
              · have h4 := kk.heap (one_setCell (u := .bool true) HF6.out.h6) (fun e => by simp only [List.mem_cons, List.not_mem_nil, or_false] at e; omega)
                refine ⟨.bool true, by simp [results, Tryd.results3, go_sem, cell_of_one h4], rfl, ?_⟩
                exact (HF6.out.k.trans ks (fun i hi => .inr (by simp only at hi; omega))).trans kk (fun i hi => .inr (by simp only [List.mem_cons, List.not_mem_nil, or_false] at hi; omega))
      · have d0 : decide (fr < 0) = false := decide_eq_false hneg
        obtain ⟨hS1, hS2, hS3⟩ := START.out fr (by have := HF.out; omega) _ rfl
        have HS1 := hideQ hS1
        have HS2 := hideQ hS2
        clear hS1 hS2 START
        go_wp2
        refine (wpIn_wide (n := 9)).1 ?_
        generalize World.alloc (World.alloc Wk (.cells #[.int .i64 fr] 3)) (.cells #[.int .i64 fr] 3) = Wc at HS1 HS2 hS3 ⊢
        obtain ⟨q1, q2, q3, q4, q5, q6⟩ := HS1.out.lt
        generalize Wk.heap.size = z at *
        generalize W4.heap.size = b12 at *
        refine' range_mf (α := Nat) rfl (by decide) (gf := 24) (lb := #[.pointer (some ⟨bf, 0, none⟩), .pointer (some ⟨bp, 0, none⟩)]) rfl trivial (enters_of Tryd.func24 (by kernel_rfl) rfl) SQ.out (fun _ => rfl)
          (fun p A => WdI z Wc f p A) (fun cd _ A => cd = .exit 2 ∧ ∃ p, WdI z Wc f p A ∧ (p.length : Int) = stop) ?hK ?hI ?hIx ?hM ?h0 (fun x => .cells #[.string (eat E x).k, .int .i64 (eat E x).d, .int .i64 (eat E x).t, .int .i64 (eat E x).p, .int .i64 (eat E x).s] 27 (0, 0)) (fun x r e => by cases e) _ ?assign ?body ?done ?stop
        case hK => exact fun p A h => (HS1.out.kept h.k).wk
        case hI => exact fun p A r r' h _ => ⟨h.k.trans (kept_put1 A _ _) (fun j hj => .inr (by omega)), (kept_put1 A _ _).heap h.i (fun e => by omega)⟩
        case hIx =>
          rintro cd p A r r' ⟨e, q, h, hq⟩ _
          exact ⟨e, q, ⟨h.k.trans (kept_put1 A _ _) (fun j hj => .inr (by omega)), (kept_put1 A _ _).heap h.i (fun e => by omega)⟩, hq⟩
        case hM => exact fun pre x s B B' r h _ _ => h
        case h0 =>
          intro r
          have kk : Kept (fun _ => False) Wc ((Wc.alloc (.deferred (some []))).alloc (.loop r)) := (Kept.alloc _ _).trans (Kept.alloc _ _) (fun _ f => f.elim)
          exact ⟨kk.mono fun _ f => f.elim, kk.heap HS2.out (fun f => f)⟩
        case assign =>
          intro l s x B K hs hK
          have hX := heap_alloc_new B (.cells #[.string (eat E x).k, .int .i64 (eat E x).d, .int .i64 (eat E x).t, .int .i64 (eat E x).p, .int .i64 (eat E x).s] 27)
          simp only [encW, enV]
          gi_wp2
          generalize B.heap.size = Bx at hX hs ⊢
          exact hK Bx _ hs (Kept.alloc _ _) hX
        case body =>
          rintro l p x Bx A B hI kAB hM hlt hBx hX
          obtain ⟨hx, hxE⟩ := hM
          have hB := hI.same kAB
          have FB := HS1.out.kept hB.k
          have r14 := hB.i
          rw [← hx] at r14
          have c14 := cell_of_one r14
          have z14 := free_of_one r14
          have c7 := cell_of_one FB.h7
          have c15 := cell_of_one FB.h15
          have c5 := cell_of_one FB.h5
          have c12 := cell_of_one FB.h12
          obtain ⟨bE, oE, rfl, hcE⟩ := FB.es (by intro e; rw [e] at hxE; simp at hxE)
          obtain ⟨y0, y1, y2, y3, y4⟩ := hcE x hxE
          have x0 : B.cell? ⟨Bx, 0, none⟩ = some (.string (eat E x).k) := cell_of_row _ _ 0 _ _ _ hX
          have x1 : B.cell? ⟨Bx, 1, none⟩ = some (.int .i64 (eat E x).d) := cell_of_row _ _ 1 _ _ _ hX
          have x2 : B.cell? ⟨Bx, 2, none⟩ = some (.int .i64 (eat E x).t) := cell_of_row _ _ 2 _ _ _ hX
          have x3 : B.cell? ⟨Bx, 3, none⟩ = some (.int .i64 (eat E x).p) := cell_of_row _ _ 3 _ _ _ hX
          have x4 : B.cell? ⟨Bx, 4, none⟩ = some (.int .i64 (eat E x).s) := cell_of_row _ _ 4 _ _ _ hX
          rw [eat_at hxE] at x0 x1 x2 x3 x4
          have hxn : x < i := by rw [HLn.out]; exact hxE
          have HQ : Hid (∀ j, ∀ C, Kept (fun _ => False) (B.drewN j) C → (C.cell? ⟨z, 0, none⟩ = some (.int .i64 (x : Int)) ∧ C.frozen? ⟨z, 0, none⟩ = false ∧ C.cell? ⟨z + 1, 0, none⟩ = some (.int .i64 (f : Int)) ∧ C.cell? ⟨w.heap.size, 0, none⟩ = some (.int .i64 stop) ∧ (∀ v, (C.setCell ⟨z, 0, none⟩ v).cell? ⟨z, 0, none⟩ = some v ∧ (C.setCell ⟨z, 0, none⟩ v).cell? ⟨z + 1, 0, none⟩ = some (.int .i64 (f : Int)) ∧ (C.setCell ⟨z, 0, none⟩ v).cell? ⟨w.heap.size, 0, none⟩ = some (.int .i64 stop)))) := hideQ (by
            intro j C kC
            have kd := (Kept.drewN B j).trans kC (fun _ f => f.elim)
            have t14 := kd.heap r14 (fun f => f)
            have t15 := cell_of_one (kd.heap FB.h15 (fun f => f))
            have t5 := cell_of_one (kd.heap FB.h5 (fun f => f))
            refine ⟨cell_of_one t14, free_of_one t14, t15, t5, fun v => ⟨cell_of_one (one_setCell t14), (Kept.setCell C ⟨z, 0, none⟩ v).cell t15 (fun e => by simp only at e; omega), (Kept.setCell C ⟨z, 0, none⟩ v).cell t5 (fun e => by simp only at e; omega)⟩⟩)
          have FIN : Hid (∀ j C, Kept (fun _ => False) (B.drewN j) C → Still Wc.heap.size B (C.setCell ⟨z, 0, none⟩ (.int .i64 ((x : Int) + 1))) ∧ WdI z Wc f (p ++ [x]) (C.setCell ⟨z, 0, none⟩ (.int .i64 ((x : Int) + 1)))) := hideQ (by
            intro j C kC
            have kd := (Kept.drewN B j).trans kC (fun _ f => f.elim)
            have ks := (kd.mono fun _ f => f.elim (C := _ ∨ _)).trans (Kept.setCell C ⟨z, 0, none⟩ (.int .i64 ((x : Int) + 1))) (fun k hk => .inl hk)
            refine ⟨Still.of_kept ks (by have := kAB.size; omega) (fun k hk h => by simp only at h; omega), hB.k.trans ks (fun k hk => .inl hk), ?_⟩
            have := one_setCell (w := C) (u := .int .i64 ((x : Int) + 1)) (kd.heap r14 (fun f => f))
            rw [show ((f + (p ++ [x]).length : Nat) : Int) = (x : Int) + 1 by rw [List.length_append]; simp; omega]
            exact this)
          have CWr : Hid (∀ j, Calls Tryd.prog 9 #[.pointer (some ⟨bd, 0, none⟩), .slice (some ⟨bE, oE, none⟩) i cE, .int .i64 ((f : Int) + 1)] (B.drewN j) fun e w' => e = .returned (.bool true) ∧ Kept (fun _ => False) (B.drewN j) w') := hideQ (fun j => CWd.out _ (FB.kept ((Kept.drewN B j).mono fun _ f => f.elim)) (by omega))
          have hfx : f ≤ x ∧ x ≤ 1048576 ∧ f ≤ 1048576 := by omega
          obtain ⟨hfx1, hfx2, hfx3⟩ := hfx
          have LEN : Hid (((p ++ [x]).length : Int) = (x : Int) + 1 - (f : Int)) := hideQ (by rw [List.length_append]; simp; omega)
          generalize E[x] = en at *
          obtain ⟨k, d, t, p', s⟩ := en
          simp only at x0 x1 x2 x3 x4 y0 y1 y2 y3 y4
          have i1 : (x : Int) < (i : Int) := by omega
          have i2 : decide (i ≤ x) = false := decide_eq_false (by omega)
          have i3 : decide ((i : Int) ≤ (x : Int)) = false := decide_eq_false (by omega)
          clear hI kAB hB FB r14 hX hcE hxE hx hlt hBx
          gi_wp2
          refine quiet_round rfl (by kernel_rfl) (by kernel_rfl) (by kernel_rfl) ?_
          repeat (gi_big_quiet_step (fail))
          refine wpQuietIn_nil ?_
          intro _ hw'
          obtain ⟨nq, hw''⟩ := hw'
          subst hw''
          by_cases hx1 : (x : Int) = (f : Int) + 1
          · have d1 : decide ((x : Int) = (f : Int) + 1) = true := decide_eq_true hx1
            rw [hx1] at HQ FIN LEN
            obtain ⟨g1, g2, g3, g4, g5⟩ := HQ.out nq _ (Kept.refl _ _)
            have HX1 := hideQ hx1
            clear g4 g5 hx1
            have g7 : (B.drewN nq).cell? ⟨b7, 0, none⟩ = some (.slice (some ⟨bE, oE, none⟩) i cE) := (Kept.drewN B nq).cell c7 (fun f => f)
            have g12 : (B.drewN nq).cell? ⟨b12, 0, none⟩ = some (.pointer (some ⟨bd, 0, none⟩)) := (Kept.drewN B nq).cell c12 (fun f => f)
            gi_wp2_with (refine ⟨trivial, ?_⟩; gi_at_call 9; refine Stp.go ?_)
            refine ⟨?_⟩
            refine (CallsIn.inRound l (callsIn_wide.2 (CWr.out nq))).mono ?_
            rintro e C ⟨rfl, kC⟩
            obtain ⟨g1, g2, g3, g4, g5⟩ := HQ.out nq C kC
            obtain ⟨g6, g8, g9⟩ := g5 (.int .i64 (((f : Int) + 1) + 1))
            clear g5 g7 g12
            by_cases hst : ((f : Int) + 1) + 1 - (f : Int) = stop
            · have s1 : decide (((f : Int) + 1) + 1 - (f : Int) = stop) = true := decide_eq_true hst
              have s2 : decide ((2 : Int) = stop) = true := decide_eq_true (by omega)
              gi_wp2
              exact ⟨(FIN.out nq _ kC).1, rfl, _, (FIN.out nq _ kC).2, by rw [LEN.out]; exact hst⟩
            · have s1 : decide (((f : Int) + 1) + 1 - (f : Int) = stop) = false := decide_eq_false hst
              have s2 : decide ((2 : Int) = stop) = false := decide_eq_false (by omega)
              gi_wp2
              exact ⟨(FIN.out nq _ kC).1, (FIN.out nq _ kC).2⟩

          · have d1 : decide ((x : Int) = (f : Int) + 1) = false := decide_eq_false hx1
            have d2 : decide (x = f + 1) = false := decide_eq_false (by omega)
            have d3 : ¬ (x = f + 1) := by omega
            obtain ⟨g1, g2, g3, g4, g5⟩ := HQ.out nq _ (Kept.refl _ _)
            obtain ⟨g6, g8, g9⟩ := g5 (.int .i64 ((x : Int) + 1))
            clear g5
            by_cases hst : (x : Int) + 1 - (f : Int) = stop
            · have s1 : decide ((x : Int) + 1 - (f : Int) = stop) = true := decide_eq_true hst
              gi_wp2_with (refine ⟨trivial, ?_⟩)
              exact ⟨(FIN.out nq _ (Kept.refl _ _)).1, rfl, _, (FIN.out nq _ (Kept.refl _ _)).2, by rw [LEN.out]; exact hst⟩
            · have s1 : decide ((x : Int) + 1 - (f : Int) = stop) = false := decide_eq_false hst
              gi_wp2_with (refine ⟨trivial, ?_⟩)
              exact ⟨(FIN.out nq _ (Kept.refl _ _)).1, (FIN.out nq _ (Kept.refl _ _)).2⟩
        case done =>
          intro xs A W5 hS hI k hD
          have hB := hI.same k
          have F5 := HS1.out.kept hB.k
          obtain ⟨y, hy⟩ : ∃ y, y = f + xs.length := ⟨_, rfl⟩
          have r14 := hB.i
          rw [← hy] at r14
          have hyn : i ≤ y := by rw [HLn.out]; omega
          have c14 := cell_of_one r14
          have z14 := free_of_one r14
          have c7 := cell_of_one F5.h7
          have c15 := cell_of_one F5.h15
          have c5 := cell_of_one F5.h5
          have i0 : ¬ ((y : Int) < (i : Int)) := by omega
          have i2 : decide ((y : Int) < (i : Int)) = false := decide_eq_false (by omega)
          have HF5 := hideQ F5
          have HD5 := hideQ hD
          have HR14 := hideQ r14
          clear hB hI k hD hS hy r14 F5
          go_wp2
          refine (wpIn_wide (n := 9)).1 ?_
          have ks := Kept.setCell W5 ⟨z, 0, none⟩ (.int .i64 (f : Int))
          have T14 := hideQ (one_setCell (u := .int .i64 (f : Int)) HR14.out)
          have T1 := hideQ (HF5.out.kept ks)
          have TD := hideQ (ks.heap HD5.out (fun e => by simp only at e; omega))
          have hzV : Wc.heap.size < (W5.setCell ⟨z, 0, none⟩ (.int .i64 (f : Int))).heap.size := size_of_some TD.out
          clear ks HR14 HF5 HD5
          generalize W5.setCell ⟨z, 0, none⟩ (.int .i64 (f : Int)) = V at *
          refine' range_mf (α := Nat) rfl (by decide) (gf := 24) (lb := #[.pointer (some ⟨bf, 0, none⟩), .pointer (some ⟨bp, 0, none⟩)]) rfl trivial (enters_of Tryd.func24 (by kernel_rfl) rfl) SQ.out (fun _ => rfl)
            (fun p A => WdI z V f p A) (fun _ _ _ => False) ?hK2 ?hI2 ?hIx2 ?hM2 ?h02 (fun x => .cells #[.string (eat E x).k, .int .i64 (eat E x).d, .int .i64 (eat E x).t, .int .i64 (eat E x).p, .int .i64 (eat E x).s] 27 (0, 0)) (fun x r e => by cases e) _ ?assign2 ?body2 ?done2 ?stop2
          case hK2 => exact fun p A h => (T1.out.kept h.k).wk
          case hI2 => exact fun p A r r' h _ => ⟨h.k.trans (kept_put1 A _ _) (fun j hj => .inr (by omega)), (kept_put1 A _ _).heap h.i (fun e => by omega)⟩
          case hIx2 => exact fun _ _ _ _ _ h _ => h
          case hM2 => exact fun pre x s B B' r h _ _ => h
          case h02 =>
            intro r
            have kk : Kept (fun _ => False) V ((V.alloc (.deferred (some []))).alloc (.loop r)) := (Kept.alloc _ _).trans (Kept.alloc _ _) (fun _ f => f.elim)
            exact ⟨kk.mono fun _ f => f.elim, kk.heap T14.out (fun f => f)⟩
          case assign2 =>
            intro l s x B K hs hK
            have hX := heap_alloc_new B (.cells #[.string (eat E x).k, .int .i64 (eat E x).d, .int .i64 (eat E x).t, .int .i64 (eat E x).p, .int .i64 (eat E x).s] 27)
            simp only [encW, enV]
            gi_wp2
            generalize B.heap.size = Bx at hX hs ⊢
            exact hK Bx _ hs (Kept.alloc _ _) hX
          case body2 =>
            rintro l p x Bx A B hI kAB hM hlt hBx hX
            obtain ⟨hx, hxE⟩ := hM
            have hB := hI.same kAB
            have FB := T1.out.kept hB.k
            have r14 := hB.i
            rw [← hx] at r14
            have c14 := cell_of_one r14
            have z14 := free_of_one r14
            have c7 := cell_of_one FB.h7
            obtain ⟨bE, oE, rfl, hcE⟩ := FB.es (by intro e; rw [e] at hxE; simp at hxE)
            obtain ⟨y0, y1, y2, y3, y4⟩ := hcE x hxE
            have x0 : B.cell? ⟨Bx, 0, none⟩ = some (.string (eat E x).k) := cell_of_row _ _ 0 _ _ _ hX
            have x1 : B.cell? ⟨Bx, 1, none⟩ = some (.int .i64 (eat E x).d) := cell_of_row _ _ 1 _ _ _ hX
            have x2 : B.cell? ⟨Bx, 2, none⟩ = some (.int .i64 (eat E x).t) := cell_of_row _ _ 2 _ _ _ hX
            have x3 : B.cell? ⟨Bx, 3, none⟩ = some (.int .i64 (eat E x).p) := cell_of_row _ _ 3 _ _ _ hX
            have x4 : B.cell? ⟨Bx, 4, none⟩ = some (.int .i64 (eat E x).s) := cell_of_row _ _ 4 _ _ _ hX
            rw [eat_at hxE] at x0 x1 x2 x3 x4
            have hxn : x < i := by rw [HLn.out]; exact hxE
            have FIN : Hid (∀ j, Still V.heap.size B ((B.drewN j).setCell ⟨z, 0, none⟩ (.int .i64 ((x : Int) + 1))) ∧ WdI z V f (p ++ [x]) ((B.drewN j).setCell ⟨z, 0, none⟩ (.int .i64 ((x : Int) + 1)))) := hideQ (by
              intro j
              have ks := ((Kept.drewN B j).mono fun _ f => f.elim (C := _ ∨ _)).trans (Kept.setCell (B.drewN j) ⟨z, 0, none⟩ (.int .i64 ((x : Int) + 1))) (fun k hk => .inl hk)
              refine ⟨Still.of_kept ks (by have := kAB.size; omega) (fun k hk h => by simp only at h; omega), hB.k.trans ks (fun k hk => .inl hk), ?_⟩
              have := one_setCell (w := B.drewN j) (u := .int .i64 ((x : Int) + 1)) r14
              rw [show ((f + (p ++ [x]).length : Nat) : Int) = (x : Int) + 1 by rw [List.length_append]; simp; omega]
              exact this)
            generalize E[x] = en at *
            obtain ⟨k, d, t, p', s⟩ := en
            simp only at x0 x1 x2 x3 x4 y0 y1 y2 y3 y4
            have i1 : (x : Int) < (i : Int) := by omega
            have i2 : decide (i ≤ x) = false := decide_eq_false (by omega)
            have i3 : decide ((i : Int) ≤ (x : Int)) = false := decide_eq_false (by omega)
            clear hI kAB hB FB r14 hX hcE hxE hx hlt hBx
            gi_wp2
            refine quiet_round rfl (by kernel_rfl) (by kernel_rfl) (by kernel_rfl) ?_
            repeat (gi_big_quiet_step (fail))
            refine wpQuietIn_nil ?_
            intro _ hw'
            obtain ⟨nq, hw''⟩ := hw'
            subst hw''
            gi_wp2
            all_goals exact FIN.out nq
          case stop2 => exact fun _ _ _ _ h _ _ => h.elim
          case done2 =>
            intro xs A W6 hS hI k hD
            have hB := hI.same k
            have F6 := T1.out.kept hB.k
            obtain ⟨y, hy⟩ : ∃ y, y = f + xs.length := ⟨_, rfl⟩
            have r14 := hB.i
            rw [← hy] at r14
            have hyn : i ≤ y := by rw [HLn.out]; omega
            have c14 := cell_of_one r14
            have c7 := cell_of_one F6.h7
            have c6 := cell_of_one F6.h6
            have z6 := free_of_one F6.h6
            have i1 : (i : Int) ≤ (y : Int) := by omega
            have i2 : decide ((i : Int) ≤ (y : Int)) = true := decide_eq_true i1
            have i3 : decide (i ≤ y) = true := decide_eq_true hyn
            have HF6 := hideQ F6
            have E1 := hideQ (hB.k.heap TD.out (fun e => by omega))
            have E2 := hideQ hD
            have vz : V.heap.size < W6.heap.size := size_of_some hD
            clear hB hI k hD hS hy r14 F6
            go_wp2
            have ks := Kept.setCell W6 ⟨w.heap.size + 1, 0, none⟩ (.bool true)
            refine leaves_marksW [V.heap.size, Wc.heap.size] _ (by simp; omega) (fun D hD => ?_) (fun W' kk => ?_)
            · rcases List.mem_cons.1 hD with rfl | hD
              · exact ks.heap E2.out (fun e => by simp only at e; omega)
              · rw [List.mem_singleton] at hD
                subst hD
                exact ks.heap E1.out (fun e => by simp only at e; omega)
            · have h4 := kk.heap (one_setCell (u := .bool true) HF6.out.h6) (fun e => by simp only [List.mem_cons, List.not_mem_nil, or_false] at e; omega)
              refine ⟨.bool true, by simp [results, Tryd.results3, go_sem, cell_of_one h4], rfl, ?_⟩
              exact (HF6.out.k.trans ks (fun i hi => .inr (by simp only at hi; omega))).trans kk (fun i hi => .inr (by simp only [List.mem_cons, List.not_mem_nil, or_false] at hi; omega))
        case stop =>
          rintro cd p0 A W5 ⟨rfl, q, hI, hq⟩ k hD
          have hB := hI.same k
          have F5 := HS1.out.kept hB.k
          obtain ⟨y, hy⟩ : ∃ y, y = f + q.length := ⟨_, rfl⟩
          have r14 := hB.i
          rw [← hy] at r14
          have c14 := cell_of_one r14
          have z14 := free_of_one r14
          have c7 := cell_of_one F5.h7
          have c15 := cell_of_one F5.h15
          have c5 := cell_of_one F5.h5
          have hyq : (y : Int) - (f : Int) = stop := by omega
          have hfy : f ≤ y := by omega
          have i9 : decide ((y : Int) - (f : Int) = stop) = true := decide_eq_true hyq
          have HF5 := hideQ F5
          have HD5 := hideQ hD
          have HR14 := hideQ r14
          clear hB hI k hD hy r14 F5 hq
          refine wpIn_wide.2 ?_
          by_cases hyi : y < i
          · have i0 : (y : Int) < (i : Int) := by omega
            have i2 : decide ((y : Int) < (i : Int)) = true := decide_eq_true i0
            have hyb : y ≤ 1048576 := by omega
            have hfb : f ≤ 1048576 := by omega
            go_wp2
            refine (wpIn_wide (n := 9)).1 ?_
            have ks := Kept.setCell W5 ⟨z, 0, none⟩ (.int .i64 (f : Int))
            have T14 := hideQ (one_setCell (u := .int .i64 (f : Int)) HR14.out)
            have T1 := hideQ (HF5.out.kept ks)
            have TD := hideQ (ks.heap HD5.out (fun e => by simp only at e; omega))
            have hzV : Wc.heap.size < (W5.setCell ⟨z, 0, none⟩ (.int .i64 (f : Int))).heap.size := size_of_some TD.out
            clear ks HR14 HF5 HD5
            generalize W5.setCell ⟨z, 0, none⟩ (.int .i64 (f : Int)) = V at *
            refine' range_mf (α := Nat) rfl (by decide) (gf := 24) (lb := #[.pointer (some ⟨bf, 0, none⟩), .pointer (some ⟨bp, 0, none⟩)]) rfl trivial (enters_of Tryd.func24 (by kernel_rfl) rfl) SQ.out (fun _ => rfl)
              (fun p A => WdI z V f p A) (fun _ _ _ => False) ?hK3 ?hI3 ?hIx3 ?hM3 ?h03 (fun x => .cells #[.string (eat E x).k, .int .i64 (eat E x).d, .int .i64 (eat E x).t, .int .i64 (eat E x).p, .int .i64 (eat E x).s] 27 (0, 0)) (fun x r e => by cases e) _ ?assign3 ?body3 ?done3 ?stop3
            case hK3 => exact fun p A h => (T1.out.kept h.k).wk
            case hI3 => exact fun p A r r' h _ => ⟨h.k.trans (kept_put1 A _ _) (fun j hj => .inr (by omega)), (kept_put1 A _ _).heap h.i (fun e => by omega)⟩
            case hIx3 => exact fun _ _ _ _ _ h _ => h
            case hM3 => exact fun pre x s B B' r h _ _ => h
            case h03 =>
              intro r
              have kk : Kept (fun _ => False) V ((V.alloc (.deferred (some []))).alloc (.loop r)) := (Kept.alloc _ _).trans (Kept.alloc _ _) (fun _ f => f.elim)
              exact ⟨kk.mono fun _ f => f.elim, kk.heap T14.out (fun f => f)⟩
            case assign3 =>
              intro l s x B K hs hK
              have hX := heap_alloc_new B (.cells #[.string (eat E x).k, .int .i64 (eat E x).d, .int .i64 (eat E x).t, .int .i64 (eat E x).p, .int .i64 (eat E x).s] 27)
              simp only [encW, enV]
              gi_wp2
              generalize B.heap.size = Bx at hX hs ⊢
              exact hK Bx _ hs (Kept.alloc _ _) hX
            case body3 =>
              rintro l p x Bx A B hI kAB hM hlt hBx hX
              obtain ⟨hx, hxE⟩ := hM
              have hB := hI.same kAB
              have FB := T1.out.kept hB.k
              have r14 := hB.i
              rw [← hx] at r14
              have c14 := cell_of_one r14
              have z14 := free_of_one r14
              have c7 := cell_of_one FB.h7
              obtain ⟨bE, oE, rfl, hcE⟩ := FB.es (by intro e; rw [e] at hxE; simp at hxE)
              obtain ⟨y0, y1, y2, y3, y4⟩ := hcE x hxE
              have x0 : B.cell? ⟨Bx, 0, none⟩ = some (.string (eat E x).k) := cell_of_row _ _ 0 _ _ _ hX
              have x1 : B.cell? ⟨Bx, 1, none⟩ = some (.int .i64 (eat E x).d) := cell_of_row _ _ 1 _ _ _ hX
              have x2 : B.cell? ⟨Bx, 2, none⟩ = some (.int .i64 (eat E x).t) := cell_of_row _ _ 2 _ _ _ hX
              have x3 : B.cell? ⟨Bx, 3, none⟩ = some (.int .i64 (eat E x).p) := cell_of_row _ _ 3 _ _ _ hX
              have x4 : B.cell? ⟨Bx, 4, none⟩ = some (.int .i64 (eat E x).s) := cell_of_row _ _ 4 _ _ _ hX
              rw [eat_at hxE] at x0 x1 x2 x3 x4
              have hxn : x < i := by rw [HLn.out]; exact hxE
              have FIN : Hid (∀ j, Still V.heap.size B ((B.drewN j).setCell ⟨z, 0, none⟩ (.int .i64 ((x : Int) + 1))) ∧ WdI z V f (p ++ [x]) ((B.drewN j).setCell ⟨z, 0, none⟩ (.int .i64 ((x : Int) + 1)))) := hideQ (by
                intro j
                have ks := ((Kept.drewN B j).mono fun _ f => f.elim (C := _ ∨ _)).trans (Kept.setCell (B.drewN j) ⟨z, 0, none⟩ (.int .i64 ((x : Int) + 1))) (fun k hk => .inl hk)
                refine ⟨Still.of_kept ks (by have := kAB.size; omega) (fun k hk h => by simp only at h; omega), hB.k.trans ks (fun k hk => .inl hk), ?_⟩
                have := one_setCell (w := B.drewN j) (u := .int .i64 ((x : Int) + 1)) r14
                rw [show ((f + (p ++ [x]).length : Nat) : Int) = (x : Int) + 1 by rw [List.length_append]; simp; omega]
                exact this)
              generalize E[x] = en at *
              obtain ⟨k, d, t, p', s⟩ := en
              simp only at x0 x1 x2 x3 x4 y0 y1 y2 y3 y4
              have i1 : (x : Int) < (i : Int) := by omega
              have i2 : decide (i ≤ x) = false := decide_eq_false (by omega)
              have i3 : decide ((i : Int) ≤ (x : Int)) = false := decide_eq_false (by omega)
              clear hI kAB hB FB r14 hX hcE hxE hx hlt hBx
              gi_wp2
              refine quiet_round rfl (by kernel_rfl) (by kernel_rfl) (by kernel_rfl) ?_
              repeat (gi_big_quiet_step (fail))
              refine wpQuietIn_nil ?_
              intro _ hw'
              obtain ⟨nq, hw''⟩ := hw'
              subst hw''
              gi_wp2
              all_goals exact FIN.out nq
            case stop3 => exact fun _ _ _ _ h _ _ => h.elim
            case done3 =>
              intro xs A W6 hS hI k hD
              have hB := hI.same k
              have F6 := T1.out.kept hB.k
              obtain ⟨y, hy⟩ : ∃ y, y = f + xs.length := ⟨_, rfl⟩
              have r14 := hB.i
              rw [← hy] at r14
              have hyn : i ≤ y := by rw [HLn.out]; omega
              have c14 := cell_of_one r14
              have c7 := cell_of_one F6.h7
              have c6 := cell_of_one F6.h6
              have z6 := free_of_one F6.h6
              have i1 : (i : Int) ≤ (y : Int) := by omega
              have i2 : decide ((i : Int) ≤ (y : Int)) = true := decide_eq_true i1
              have i3 : decide (i ≤ y) = true := decide_eq_true hyn
              have HF6 := hideQ F6
              have E1 := hideQ (hB.k.heap TD.out (fun e => by omega))
              have E2 := hideQ hD
              have vz : V.heap.size < W6.heap.size := size_of_some hD
              clear hB hI k hD hS hy r14 F6
              go_wp2
              have ks := Kept.setCell W6 ⟨w.heap.size + 1, 0, none⟩ (.bool true)
              refine leaves_marksW [V.heap.size, Wc.heap.size] _ (by simp; omega) (fun D hD => ?_) (fun W' kk => ?_)
              · rcases List.mem_cons.1 hD with rfl | hD
                · exact ks.heap E2.out (fun e => by simp only at e; omega)
                · rw [List.mem_singleton] at hD
                  subst hD
                  exact ks.heap E1.out (fun e => by simp only at e; omega)
              · have h4 := kk.heap (one_setCell (u := .bool true) HF6.out.h6) (fun e => by simp only [List.mem_cons, List.not_mem_nil, or_false] at e; omega)
                refine ⟨.bool true, by simp [results, Tryd.results3, go_sem, cell_of_one h4], rfl, ?_⟩
                exact (HF6.out.k.trans ks (fun i hi => .inr (by simp only at hi; omega))).trans kk (fun i hi => .inr (by simp only [List.mem_cons, List.not_mem_nil, or_false] at hi; omega))
          · have i0 : ¬ ((y : Int) < (i : Int)) := by omega
            have i2 : decide ((y : Int) < (i : Int)) = false := decide_eq_false (by omega)
            go_wp2
            refine (wpIn_wide (n := 9)).1 ?_
            have ks := Kept.setCell W5 ⟨z, 0, none⟩ (.int .i64 (f : Int))
            have T14 := hideQ (one_setCell (u := .int .i64 (f : Int)) HR14.out)
            have T1 := hideQ (HF5.out.kept ks)
            have TD := hideQ (ks.heap HD5.out (fun e => by simp only at e; omega))
            have hzV : Wc.heap.size < (W5.setCell ⟨z, 0, none⟩ (.int .i64 (f : Int))).heap.size := size_of_some TD.out
            clear ks HR14 HF5 HD5
            generalize W5.setCell ⟨z, 0, none⟩ (.int .i64 (f : Int)) = V at *
            refine' range_mf (α := Nat) rfl (by decide) (gf := 24) (lb := #[.pointer (some ⟨bf, 0, none⟩), .pointer (some ⟨bp, 0, none⟩)]) rfl trivial (enters_of Tryd.func24 (by kernel_rfl) rfl) SQ.out (fun _ => rfl)
              (fun p A => WdI z V f p A) (fun _ _ _ => False) ?hK4 ?hI4 ?hIx4 ?hM4 ?h04 (fun x => .cells #[.string (eat E x).k, .int .i64 (eat E x).d, .int .i64 (eat E x).t, .int .i64 (eat E x).p, .int .i64 (eat E x).s] 27 (0, 0)) (fun x r e => by cases e) _ ?assign4 ?body4 ?done4 ?stop4
            case hK4 => exact fun p A h => (T1.out.kept h.k).wk
            case hI4 => exact fun p A r r' h _ => ⟨h.k.trans (kept_put1 A _ _) (fun j hj => .inr (by omega)), (kept_put1 A _ _).heap h.i (fun e => by omega)⟩
            case hIx4 => exact fun _ _ _ _ _ h _ => h
            case hM4 => exact fun pre x s B B' r h _ _ => h
            case h04 =>
              intro r
              have kk : Kept (fun _ => False) V ((V.alloc (.deferred (some []))).alloc (.loop r)) := (Kept.alloc _ _).trans (Kept.alloc _ _) (fun _ f => f.elim)
              exact ⟨kk.mono fun _ f => f.elim, kk.heap T14.out (fun f => f)⟩
            case assign4 =>
              intro l s x B K hs hK
              have hX := heap_alloc_new B (.cells #[.string (eat E x).k, .int .i64 (eat E x).d, .int .i64 (eat E x).t, .int .i64 (eat E x).p, .int .i64 (eat E x).s] 27)
              simp only [encW, enV]
              gi_wp2
              generalize B.heap.size = Bx at hX hs ⊢
              exact hK Bx _ hs (Kept.alloc _ _) hX
            case body4 =>
              rintro l p x Bx A B hI kAB hM hlt hBx hX
              obtain ⟨hx, hxE⟩ := hM
              have hB := hI.same kAB
              have FB := T1.out.kept hB.k
              have r14 := hB.i
              rw [← hx] at r14
              have c14 := cell_of_one r14
              have z14 := free_of_one r14
              have c7 := cell_of_one FB.h7
              obtain ⟨bE, oE, rfl, hcE⟩ := FB.es (by intro e; rw [e] at hxE; simp at hxE)
              obtain ⟨y0, y1, y2, y3, y4⟩ := hcE x hxE
              have x0 : B.cell? ⟨Bx, 0, none⟩ = some (.string (eat E x).k) := cell_of_row _ _ 0 _ _ _ hX
              have x1 : B.cell? ⟨Bx, 1, none⟩ = some (.int .i64 (eat E x).d) := cell_of_row _ _ 1 _ _ _ hX
              have x2 : B.cell? ⟨Bx, 2, none⟩ = some (.int .i64 (eat E x).t) := cell_of_row _ _ 2 _ _ _ hX
              have x3 : B.cell? ⟨Bx, 3, none⟩ = some (.int .i64 (eat E x).p) := cell_of_row _ _ 3 _ _ _ hX
              have x4 : B.cell? ⟨Bx, 4, none⟩ = some (.int .i64 (eat E x).s) := cell_of_row _ _ 4 _ _ _ hX
              rw [eat_at hxE] at x0 x1 x2 x3 x4
              have hxn : x < i := by rw [HLn.out]; exact hxE
              have FIN : Hid (∀ j, Still V.heap.size B ((B.drewN j).setCell ⟨z, 0, none⟩ (.int .i64 ((x : Int) + 1))) ∧ WdI z V f (p ++ [x]) ((B.drewN j).setCell ⟨z, 0, none⟩ (.int .i64 ((x : Int) + 1)))) := hideQ (by
                intro j
                have ks := ((Kept.drewN B j).mono fun _ f => f.elim (C := _ ∨ _)).trans (Kept.setCell (B.drewN j) ⟨z, 0, none⟩ (.int .i64 ((x : Int) + 1))) (fun k hk => .inl hk)
                refine ⟨Still.of_kept ks (by have := kAB.size; omega) (fun k hk h => by simp only at h; omega), hB.k.trans ks (fun k hk => .inl hk), ?_⟩
                have := one_setCell (w := B.drewN j) (u := .int .i64 ((x : Int) + 1)) r14
                rw [show ((f + (p ++ [x]).length : Nat) : Int) = (x : Int) + 1 by rw [List.length_append]; simp; omega]
                exact this)
              generalize E[x] = en at *
              obtain ⟨k, d, t, p', s⟩ := en
              simp only at x0 x1 x2 x3 x4 y0 y1 y2 y3 y4
              have i1 : (x : Int) < (i : Int) := by omega
              have i2 : decide (i ≤ x) = false := decide_eq_false (by omega)
              have i3 : decide ((i : Int) ≤ (x : Int)) = false := decide_eq_false (by omega)
              clear hI kAB hB FB r14 hX hcE hxE hx hlt hBx
              gi_wp2
              refine quiet_round rfl (by kernel_rfl) (by kernel_rfl) (by kernel_rfl) ?_
              repeat (gi_big_quiet_step (fail))
              refine wpQuietIn_nil ?_
              intro _ hw'
              obtain ⟨nq, hw''⟩ := hw'
              subst hw''
              gi_wp2
              all_goals exact FIN.out nq
            case stop4 => exact fun _ _ _ _ h _ _ => h.elim
            case done4 =>
              intro xs A W6 hS hI k hD
              have hB := hI.same k
              have F6 := T1.out.kept hB.k
              obtain ⟨y, hy⟩ : ∃ y, y = f + xs.length := ⟨_, rfl⟩
              have r14 := hB.i
              rw [← hy] at r14
              have hyn : i ≤ y := by rw [HLn.out]; omega
              have c14 := cell_of_one r14
              have c7 := cell_of_one F6.h7
              have c6 := cell_of_one F6.h6
              have z6 := free_of_one F6.h6
              have i1 : (i : Int) ≤ (y : Int) := by omega
              have i2 : decide ((i : Int) ≤ (y : Int)) = true := decide_eq_true i1
              have i3 : decide (i ≤ y) = true := decide_eq_true hyn
              have HF6 := hideQ F6
              have E1 := hideQ (hB.k.heap TD.out (fun e => by omega))
              have E2 := hideQ hD
              have vz : V.heap.size < W6.heap.size := size_of_some hD
              clear hB hI k hD hS hy r14 F6
              go_wp2
              have ks := Kept.setCell W6 ⟨w.heap.size + 1, 0, none⟩ (.bool true)
              refine leaves_marksW [V.heap.size, Wc.heap.size] _ (by simp; omega) (fun D hD => ?_) (fun W' kk => ?_)
              · rcases List.mem_cons.1 hD with rfl | hD
                · exact ks.heap E2.out (fun e => by simp only at e; omega)
                · rw [List.mem_singleton] at hD
                  subst hD
                  exact ks.heap E1.out (fun e => by simp only at e; omega)
              · have h4 := kk.heap (one_setCell (u := .bool true) HF6.out.h6) (fun e => by simp only [List.mem_cons, List.not_mem_nil, or_false] at e; omega)
                refine ⟨.bool true, by simp [results, Tryd.results3, go_sem, cell_of_one h4], rfl, ?_⟩
                exact (HF6.out.k.trans ks (fun i hi => .inr (by simp only at hi; omega))).trans kk (fun i hi => .inr (by simp only [List.mem_cons, List.not_mem_nil, or_false] at hi; omega))
end Go.Proofs.YtcnnnkdbbiflfaaDoor
