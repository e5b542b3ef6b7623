import Derived.Test.YtmpneljkpcniiaaDoorHnp
namespace Go.Proofs.YtmpneljkpcniiaaDoor
open Go.ChangeShapes Go.WideShapes Go.ChangeAt Go.RowKit

theorem Tw.stepo {w0 bw : Nat} {v : Value} {Dt : List Int} {kb : Nat} {vs : Value} {s : List Int} {st : ByteArray} {base : Nat} {W W' : World} {o : Nat → Nat} {i : Nat} {vW vB vI : Value} {V I : List Value} {LB LI : Nat → List Int} {F : Nat → Prop} (o' : Nat → Nat) (h : Tw w0 bw v Dt kb vs s st base W o i vW vB vI V I LB LI) (k : Kept (F) W W') (hF : ∀ q, F q → q < W.heap.size → o q = 6 ∨ o q = 8) (key : ∀ q, q < W.heap.size → o' q = o q) : Tw w0 bw v Dt kb vs s st base W' o' i vW vB vI V I LB LI := by
  have kl : kb < W.heap.size := lt_of_block h.bk.obj
  exact { wr := h.wr.kept k (fun j hj f => by have h1 := hF j f (h.wr.wf_lt hj); have h2 := h.ow j hj; omega)
          ow := fun k hk => (key k (h.wr.wf_lt hk)).trans (h.ow k hk)
          so := h.so.kept k (fun j hj f => by have h1 := hF j f (h.so.lt hj); have h2 := h.os j hj; omega)
          os := fun k hk => (key k (h.so.lt hk)).trans (h.os k hk)
          wh := k.row h.wh (fun j hj f => by have h1 := hF j f (h.wh.lt j hj).2; have h2 := h.oh j hj; omega)
          oh := fun k hk => (key k (h.wh.lt k hk).2).trans (h.oh k hk)
          bk := h.bk.kept k (fun f => by have h1 := hF kb f kl; have h2 := h.ok; omega) (fun j hj f => by have h1 := hF j f (h.bk.rowB.lt j hj).2; have h2 := h.oB j hj; omega) (fun j hj f => by have h1 := hF j f (h.bk.rowI.lt j hj).2; have h2 := h.oI j hj; omega)
          ok := (key kb kl).trans h.ok
          oB := fun k hk => (key k (h.bk.rowB.lt k hk).2).trans (h.oB k hk)
          oI := fun k hk => (key k (h.bk.rowI.lt k hk).2).trans (h.oI k hk)
          bl := fun t ht => (h.bl t ht).kept k (fun j hj f => by have h1 := hF j f ((h.bl t ht).lt hj); have h2 := h.bo t ht j hj; omega)
          bo := fun t ht k hk => (key k ((h.bl t ht).lt hk)).trans (h.bo t ht k hk)
          il := fun t ht => (h.il t ht).kept k (fun j hj f => by have h1 := hF j f ((h.il t ht).lt hj); have h2 := h.io t ht j hj; omega)
          io := fun t ht k hk => (key k ((h.il t ht).lt hk)).trans (h.io t ht k hk)
          lo := fun k hk => (key k (Nat.lt_of_lt_of_le hk h.sz)).trans (h.lo k hk)
          sz := Nat.le_trans h.sz k.size }
/-- What the law holds, with the numbers of the book's lists alone. -/
structure Tn (w : World) (bw : Nat) (v : Value) (Dt : List Int) (kb : Nat) (vs : Value) (s : List Int) (st : ByteArray) (base : Nat) (W : World) (o : Nat → Nat) (i : Nat) (vW : Value) (nb ni : Nat) : Prop where
  ex : ∃ (vB vI : Value) (V I : List Value) (LB LI : Nat → List Int), Tw w.heap.size bw v Dt kb vs s st base W o i vW vB vI V I LB LI ∧ V.length = nb ∧ I.length = ni ∧ (∀ t, t < nb → (LB t).length ≤ 33554432) ∧ (∀ t, t < ni → (LI t).length ≤ 33554432)
  kp : Kept (fun _ => False) w W
  bz : base ≤ W.heap.size
theorem Tn.old {w : World} {bw : Nat} {v : Value} {Dt : List Int} {kb : Nat} {vs : Value} {s : List Int} {st : ByteArray} {base : Nat} {W : World} {o : Nat → Nat} {i : Nat} {vW : Value} {nb ni : Nat} (h : Tn w bw v Dt kb vs s st base W o i vW nb ni) {k : Nat} (hk : o k ≠ 7) : w.heap.size ≤ k := by
  obtain ⟨vB, vI, V, I, LB, LI, tw, -⟩ := h.ex
  apply Classical.byContradiction
  intro q
  exact hk (tw.lo k (by omega))
theorem Tn.wr {w : World} {bw : Nat} {v : Value} {Dt : List Int} {kb : Nat} {vs : Value} {s : List Int} {st : ByteArray} {base : Nat} {W : World} {o : Nat → Nat} {i : Nat} {vW : Value} {nb ni : Nat} (h : Tn w bw v Dt kb vs s st base W o i vW nb ni) : Wr W bw v Dt ∧ (∀ k, WF bw v k → o k = 0) ∧ LibI W vs s ∧ (∀ k, vs.ownBlock = some k → o k = 1) ∧ W.ownsRow base 9 1 vW i (List.replicate i (.string st)) ∧ (∀ k, vW.ownBlock = some k → o k = 2) := by
  obtain ⟨vB, vI, V, I, LB, LI, tw, -⟩ := h.ex
  exact ⟨tw.wr, tw.ow, tw.so, tw.os, tw.wh, tw.oh⟩
theorem Tn.step {w : World} {bw : Nat} {v : Value} {Dt : List Int} {kb : Nat} {vs : Value} {s : List Int} {st : ByteArray} {base : Nat} {W W' : World} {o : Nat → Nat} {i : Nat} {vW : Value} {nb ni : Nat} {F : Nat → Prop} (h : Tn w bw v Dt kb vs s st base W o i vW nb ni) (k : Kept F W W') (hF : ∀ q, F q → q < W.heap.size → o q = 6 ∨ o q = 8) (o' : Nat → Nat) (key : ∀ q, q < W.heap.size → o' q = o q) : Tn w bw v Dt kb vs s st base W' o' i vW nb ni := by
  obtain ⟨vB, vI, V, I, LB, LI, tw, h1, h2, h3, h4⟩ := h.ex
  refine ⟨⟨vB, vI, V, I, LB, LI, tw.stepo o' k hF key, h1, h2, h3, h4⟩, h.kp.trans k (fun q f => .inr ?_), Nat.le_trans h.bz k.size⟩
  apply Classical.byContradiction
  intro c
  have e1 := tw.lo q (by omega)
  have e2 := hF q f (by have := tw.sz; omega)
  omega
theorem Tn.later {w : World} {bw : Nat} {v : Value} {Dt : List Int} {kb : Nat} {vs : Value} {s : List Int} {st : ByteArray} {base : Nat} {W W' : World} {o : Nat → Nat} {i : Nat} {vW : Value} {nb ni : Nat} (h : Tn w bw v Dt kb vs s st base W o i vW nb ni) (k : Kept (fun _ => False) W W') : Tn w bw v Dt kb vs s st base W' o i vW nb ni := h.step k (fun _ f => f.elim) o (fun _ _ => rfl)
theorem Tn.whole {w : World} {bw : Nat} {v : Value} {Dt : List Int} {kb : Nat} {vs : Value} {s : List Int} {st : ByteArray} {base : Nat} {W W' : World} {o : Nat → Nat} {i : Nat} {vW : Value} {nb ni : Nat} {vW' : Value} (h : Tn w bw v Dt kb vs s st base W o i vW nb ni) (k : Kept (fun q => vW.ownBlock = some q) W W') (r : W'.ownsRow base 9 1 vW' (i + 1) (List.replicate (i + 1) (.string st))) (nw : ∀ q, vW'.ownBlock = some q → vW.ownBlock = some q ∨ W.heap.size ≤ q) : Tn w bw v Dt kb vs s st base W' (fun q => if W.heap.size ≤ q then 2 else o q) (i + 1) vW' nb ni := by
  obtain ⟨vB, vI, V, I, LB, LI, tw, h1, h2, h3, h4⟩ := h.ex
  exact ⟨⟨vB, vI, V, I, LB, LI, tw.whole k r nw, h1, h2, h3, h4⟩, h.kp.trans k (fun q f => .inr (h.old (by rw [tw.oh q f]; decide))), Nat.le_trans h.bz k.size⟩
/-- A list of bytes goes into the book. -/
theorem tn_bytes {w : World} {bw : Nat} {v : Value} {Dt : List Int} {kb : Nat} {vs : Value} {s : List Int} {st : ByteArray} {base : Nat} {W : World} {o : Nat → Nat} {i : Nat} {vW : Value} {nb ni : Nat} {a : Option Addr} {m c : Nat} {l : List Int} (h : Tn w bw v Dt kb vs s st base W o i vW nb ni) (hb : Lib W (.slice a m c) l) (ho : ∀ q, (Value.slice a m c).ownBlock = some q → o q = 10 + 2 * nb) (hl : l.length ≤ 33554432) (hnb : nb ≤ 1000) :
    Calls Tryd.prog 11 #[.pointer (some ⟨kb, 0, none⟩), .slice a m c] W fun e W' => e = .returned (.tuple #[]) ∧ ∃ o', Tn w bw v Dt kb vs s st base W' o' i vW (nb + 1) ni ∧ (∀ q, q < W.heap.size → o' q = o q) ∧ Kept (fun q => o q = 3 ∨ o q = 4) W W' := by
  obtain ⟨vB, vI, V, I, LB, LI, tw, h1, h2, h3, h4⟩ := h.ex
  refine (book2_bytes base kb nb vB vI V I a m c W tw.bk h1.symm (by omega) h.bz).mono ?_
  rintro e W' ⟨rfl, v', b2, k, nw⟩
  have k2 : Kept (fun q => o q = 3 ∨ o q = 4) W W' := k.mono (fun q f => .inl (f.elim (fun e => .inl (by rw [e]; exact tw.ok)) (fun e => .inr (tw.oB q e))))
  have t2 := tw.bytes k b2 nw hb (fun q e => by rw [h1]; exact ho q e)
  refine ⟨rfl, _, ⟨⟨_, _, _, _, _, _, t2, by rw [List.length_append, List.length_singleton, h1], h2, fun t ht => ?_, h4⟩, h.kp.trans k2 (fun q f => .inr (h.old (by omega))), Nat.le_trans h.bz k.size⟩, fun q hq => if_neg (by omega), k2⟩
  show (if t < V.length then LB t else l).length ≤ 33554432
  by_cases c : t < V.length
  · rw [if_pos c]; exact h3 t (by omega)
  · rw [if_neg c]; exact hl
/-- A list of numbers goes into the book. -/
theorem tn_ints {w : World} {bw : Nat} {v : Value} {Dt : List Int} {kb : Nat} {vs : Value} {s : List Int} {st : ByteArray} {base : Nat} {W : World} {o : Nat → Nat} {i : Nat} {vW : Value} {nb ni : Nat} {a : Option Addr} {m c : Nat} {l : List Int} (h : Tn w bw v Dt kb vs s st base W o i vW nb ni) (hb : LibI W (.slice a m c) l) (ho : ∀ q, (Value.slice a m c).ownBlock = some q → o q = 11 + 2 * ni) (hl : l.length ≤ 33554432) (hnb : ni ≤ 1000) :
    Calls Tryd.prog 16 #[.pointer (some ⟨kb, 0, none⟩), .slice a m c] W fun e W' => e = .returned (.tuple #[]) ∧ ∃ o', Tn w bw v Dt kb vs s st base W' o' i vW nb (ni + 1) ∧ (∀ q, q < W.heap.size → o' q = o q) ∧ Kept (fun q => o q = 3 ∨ o q = 5) W W' := by
  obtain ⟨vB, vI, V, I, LB, LI, tw, h1, h2, h3, h4⟩ := h.ex
  refine (book2_ints base kb ni vB vI V I a m c W tw.bk h2.symm (by omega) h.bz).mono ?_
  rintro e W' ⟨rfl, v', b2, k, nw⟩
  have k2 : Kept (fun q => o q = 3 ∨ o q = 5) W W' := k.mono (fun q f => .inl (f.elim (fun e => .inl (by rw [e]; exact tw.ok)) (fun e => .inr (tw.oI q e))))
  have t2 := tw.ints k b2 nw hb (fun q e => by rw [h2]; exact ho q e)
  refine ⟨rfl, _, ⟨⟨_, _, _, _, _, _, t2, h1, by rw [List.length_append, List.length_singleton, h2], h3, fun t ht => ?_⟩, h.kp.trans k2 (fun q f => .inr (h.old (by omega))), Nat.le_trans h.bz k.size⟩, fun q hq => if_neg (by omega), k2⟩
  show (if t < I.length then LI t else l).length ≤ 33554432
  by_cases c : t < I.length
  · rw [if_pos c]; exact h4 t (by omega)
  · rw [if_neg c]; exact hl
/-- The book's lists share nothing. -/
theorem tn_unshared {w : World} {bw : Nat} {v : Value} {Dt : List Int} {kb : Nat} {vs : Value} {s : List Int} {st : ByteArray} {base : Nat} {W : World} {o : Nat → Nat} {i : Nat} {vW : Value} {nb ni : Nat} (bm im : Nat → Nat → Int) (hbm : BmI bm) (him : BmII im) (h : Tn w bw v Dt kb vs s st base W o i vW nb ni) (hb : nb ≤ 1000) (hi : ni ≤ 1000) :
    Calls Tryd.prog 17 #[.pointer (some ⟨kb, 0, none⟩)] W fun e W' => e = .returned (.bool true) ∧ Wr W' bw v Dt ∧ LibI W' vs s ∧ W'.ownsRow base 9 1 vW i (List.replicate i (.string st)) ∧ Kept (fun _ => False) w W' := by
  obtain ⟨vB, vI, V, I, LB, LI, tw, h1, h2, h3, h4⟩ := h.ex
  let oB : Nat → Nat := fun q => if 10 ≤ o q ∧ o q % 2 = 0 then (o q - 10) / 2 else 2000
  let oI : Nat → Nat := fun q => if 10 ≤ o q ∧ o q % 2 = 1 then (o q - 11) / 2 else 2000
  have eB : ∀ q, o q < 10 → oB q = 2000 := fun q hq => if_neg (by omega)
  have eI : ∀ q, o q < 10 → oI q = 2000 := fun q hq => if_neg (by omega)
  have big : ∀ q, o q < 10 → V.length ≤ oB q ∧ I.length ≤ oI q := fun q hq => by rw [eB q hq, eI q hq]; omega
  refine (unshared2 bm im hbm him base kb vB vI V I LB LI oB oI W tw.bk ⟨tw.bl, fun t ht k e => ?_⟩ ⟨tw.il, fun t ht k e => ?_⟩ (big kb (by rw [tw.ok]; decide)) (fun k e => big k (by rw [tw.oB k e]; decide)) (fun k e => big k (by rw [tw.oI k e]; decide)) (fun t ht k e => ?_) (by omega) (by omega) (fun t ht => Nat.le_trans (h3 t (by omega)) (by decide)) (fun t ht => Nat.le_trans (h4 t (by omega)) (by decide))).mono ?_
  · have q := tw.bo t ht k e
    show (if 10 ≤ o k ∧ o k % 2 = 0 then (o k - 10) / 2 else 2000) = t
    rw [if_pos (by omega)]
    omega
  · have q := tw.io t ht k e
    show (if 10 ≤ o k ∧ o k % 2 = 1 then (o k - 11) / 2 else 2000) = t
    rw [if_pos (by omega)]
    omega
  · have q := tw.io t ht k e
    show V.length ≤ (if 10 ≤ o k ∧ o k % 2 = 0 then (o k - 10) / 2 else 2000)
    rw [if_neg (by omega)]
    omega
  · rintro e W' ⟨rfl, k⟩
    have lo : ∀ q, (oB q < V.length ∨ oI q < I.length) → 10 ≤ o q := fun q f => by
      apply Classical.byContradiction
      intro c
      have := big q (by omega)
      omega
    exact ⟨rfl, tw.wr.kept k (fun j hj f => by have h5 := lo j f; have h6 := tw.ow j hj; omega), tw.so.kept k (fun j hj f => by have h5 := lo j f; have h6 := tw.os j hj; omega), k.row tw.wh (fun j hj f => by have h5 := lo j f; have h6 := tw.oh j hj; omega), h.kp.trans k (fun q f => .inr (h.old (by have := lo q f; omega)))⟩
/-- The two Readers, those from j on at the beginning, and the list that holds them. -/
structure Rs (W : World) (o : Nat → Nat) (g : Nat) (rb : Nat → Nat) (rv : Nat → Value) (D : List Int) (j : Nat) : Prop where
  rd : ∀ q, j ≤ q → q < 2 → Rd W (rb q) (rv q) D 0
  ob : ∀ q, j ≤ q → q < 2 → o (rb q) = 6 + 2 * q
  ov : ∀ q, j ≤ q → q < 2 → ∀ k, (rv q).ownBlock = some k → o k = 9
  pc : ∀ q, q < 2 → W.cell? ⟨g, q, none⟩ = some (.pointer (some ⟨rb q, 0, none⟩))
  og : o g = 9
theorem Rd.br_lt {W : World} {br : Nat} {v : Value} {l : List Int} {p : Nat} (h : Rd W br v l p) : br < W.heap.size := lt_of_block h.blk
theorem Rs.step {W W' : World} {o o' : Nat → Nat} {g : Nat} {rb : Nat → Nat} {rv : Nat → Value} {D : List Int} {j j' : Nat} {F : Nat → Prop} (h : Rs W o g rb rv D j) (hj : j ≤ j') (k : Kept F W W') (hF : ∀ q, F q → q < W.heap.size → o q ≠ 9 ∧ (o q < 6 + 2 * j' ∨ 9 < o q)) (key : ∀ q, q < W.heap.size → o' q = o q) : Rs W' o' g rb rv D j' := by
  have gl : g < W.heap.size := World.block_lt_of_cell? W ⟨g, 0, none⟩ (h.pc 0 (by decide))
  refine ⟨fun q h1 h2 => ?_, fun q h1 h2 => ?_, fun q h1 h2 k2 e => ?_, fun q h2 => ?_, (key g gl).trans h.og⟩
  · have hr := h.rd q (by omega) h2
    refine hr.kept k (fun f => ?_) (fun t e f => ?_)
    · have h3 := hF _ f hr.br_lt
      have h4 := h.ob q (by omega) h2
      omega
    · have h3 := hF _ f (hr.own.lt t e).2
      have h4 := h.ov q (by omega) h2 t e
      omega
  · have hr := h.rd q (by omega) h2
    rw [key _ hr.br_lt]
    exact h.ob q (by omega) h2
  · have hr := h.rd q (by omega) h2
    rw [key _ (hr.own.lt k2 e).2]
    exact h.ov q (by omega) h2 k2 e
  · exact k.cell (h.pc q h2) (fun f => (hF g f gl).1 h.og)
theorem Rs.later {W W' : World} {o : Nat → Nat} {g : Nat} {rb : Nat → Nat} {rv : Nat → Value} {D : List Int} {j : Nat} (h : Rs W o g rb rv D j) (k : Kept (fun _ => False) W W') : Rs W' o g rb rv D j := h.step (Nat.le_refl _) k (fun _ f => f.elim) (fun _ _ => rfl)
theorem uvb_bytesQ : ∀ n, IsBytes (uvb n) := by
  intro n
  induction n using Nat.strongRecOn with
  | ind n ih =>
    intro x hx
    by_cases h : n < 128
    · rw [uvb_small h] at hx
      simp at hx
      omega
    · rw [uvb_big h] at hx
      rcases List.mem_cons.1 hx with rfl | hx
      · omega
      · exact ih (n / 128) (by omega) x hx
theorem app_bytesQ {a b : List Int} (ha : IsBytes a) (hb : IsBytes b) : IsBytes (a ++ b) := by
  intro x hx
  rcases List.mem_append.1 hx with h | h
  · exact ha x h
  · exact hb x h
theorem risb_bytesQ : ∀ (l : List Int) (s : Nat), IsBytes (risb l s) := by
  intro l
  induction l with
  | nil => intro s x hx; cases hx
  | cons y r ih => intro s; rw [risb]; exact app_bytesQ (uvb_bytesQ _) (ih _)
theorem packed_bytesQ {l : List Int} (h0 : ∀ x ∈ l, 0 ≤ x) (hI : IsInts l) : IsBytes (packed l) := by
  rw [packed_eq]
  refine app_bytesQ (uvb_bytesQ _) ?_
  unfold pbody
  split
  · intro x hx; cases hx
  · intro x hx
    have := orl_bits l h0 hI
    rcases List.mem_cons.1 hx with rfl | hx
    · omega
    · exact le_bytes _ _ x hx
theorem twd_bytes {s : List Int} (hs : Rsn s) {x : Int} (hx : 1 ≤ x) (hx2 : x ≤ 9223372036854775807) {R : List Int} (hR : IsBytes R) : IsBytes (twd s x R) := by
  have h := rsn_more hs hx hx2
  unfold twd rising
  exact app_bytesQ (app_bytesQ (uvb_bytesQ _) (risb_bytesQ _ _)) (app_bytesQ (packed_bytesQ h.2 h.1) hR)
theorem Tryd.infoStQ : (Tryd.prog.info? 9).map (fun i => (i.zero, i.size, i.bytes)) = some (some (.string ⟨#[]⟩), 1, 16) := by kernel_rfl
theorem conv_atQ {W : World} {a : Option Addr} {B : List Int} {c : Nat} (h : BytesAt W a B) : (convert 23 9 (.slice a B.length c)).run Tryd.prog W = .ok (.string (strOfNums B)) W := by
  by_cases hne : B = []
  · subst hne
    cases a with
    | none => exact run_convert_bytes_nil W 23 5 Tryd.underlying23 Tryd.underlying5 0 c 9 Tryd.underlying9
    | some ad =>
      have hl : (loadCells ad 0).run Tryd.prog W = .ok (([] : List Int).map (Value.int .u8)).toArray W := by
        have := run_loadCells_list (P := Tryd.prog) W ad [] (fun j v hj => by simp at hj)
        simpa using this
      show (convert 23 9 (.slice (some ad) 0 c)).run Tryd.prog W = _
      rw [run_convert_bytes_string W 23 9 5 _ 0 c Tryd.underlying23 Tryd.underlying5 Tryd.underlying9, run_bytesToString W _ 0 c [] hl]
      rfl
  · obtain ⟨b, off, rfl, hc⟩ := h hne
    refine run_convert_bytes_arg W 23 5 Tryd.underlying23 Tryd.underlying5 b off B.length c B rfl (fun i hi => ?_) 9 Tryd.underlying9
    simpa [List.getD] using hc i hi
theorem LibI.lastQ {W : World} {a : Option Addr} {n c : Nat} {s : List Int} {x : Int} (h : LibI W (.slice a (n + 1) c) (s ++ [x])) (hn : n = s.length) : ∃ b, a = some ⟨b, 0, none⟩ ∧ W.cell? ⟨b, n, none⟩ = some (.int .i64 x) ∧ IntsAt W (some ⟨b, 0, none⟩) s ∧ n + 1 ≤ c := by
  subst hn
  obtain ⟨hi, -, -, hc⟩ := h.ints
  obtain ⟨b, c', e, hx, -⟩ := h.cells (j := s.length) (by simp)
  simp only [Value.slice.injEq] at e
  obtain ⟨rfl, -, -⟩ := e
  refine ⟨b, rfl, ?_, fun hne => ?_, hc⟩
  · rw [hx]
    simp
  · obtain ⟨b', off, e, hk⟩ := hi (by simp)
    refine ⟨b', off, e, fun k hlt => ?_⟩
    have := hk k (by rw [List.length_append]; omega)
    rw [List.getElem?_append_left hlt] at this
    exact this
theorem IntsAt.laterQ {w w' : World} {a : Option Addr} {l : List Int} (h : IntsAt w a l) (k : Kept (fun _ => False) w w') : IntsAt w' a l := by
  intro hne
  obtain ⟨b, off, e, hc⟩ := h hne
  exact ⟨b, off, e, fun j hj => k.cell (hc j hj) (fun f => f)⟩
theorem Rs.cur {W : World} {o : Nat → Nat} {g : Nat} {rb : Nat → Nat} {rv : Nat → Value} {D : List Int} {j : Nat} (h : Rs W o g rb rv D j) (hj : j < 2) : Rd W (rb j) (rv j) D 0 ∧ o (rb j) = 6 + 2 * j ∧ (∀ k, (rv j).ownBlock = some k → o k = 9) ∧ W.cell? ⟨g, j, none⟩ = some (.pointer (some ⟨rb j, 0, none⟩)) := ⟨h.rd j (Nat.le_refl _) hj, h.ob j (Nat.le_refl _) hj, h.ov j (Nat.le_refl _) hj, h.pc j hj⟩
end Go.Proofs.YtmpneljkpcniiaaDoor
