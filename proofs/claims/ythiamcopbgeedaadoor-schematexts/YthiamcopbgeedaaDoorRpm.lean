import Derived.Test.YthiamcopbgeedaaDoorRct
import Derived.Test.YthiamcopbgeedaaDoorRtx
import Derived.Test.YthiamcopbgeedaaDoorPrs2
namespace Go.Proofs.YthiamcopbgeedaaDoor
open Go.ChangeShapes Go.WideShapes Go.ChangeAt Go.RowKit

theorem bstr_l (T : List UInt8) : (bstr T).toList = T := by rw [ByteArray.toList_eq]; rfl
theorem bstr_eq (T U : List UInt8) : ((bstr T).toList == U) = decide (T = U) := by rw [bstr_l]; exact (by by_cases h : T = U <;> simp [h])
theorem own_slice2 {w : World} {base e sz n : Nat} {v : Value} {xs : List Value} (h : w.ownsRow base e sz v n xs) : ∃ a c, v = .slice a n c := by
  rcases h.2 with ⟨rfl, e⟩ | ⟨g, cap, cur, rfl, _⟩
  · rw [e]; exact ⟨_, _, rfl⟩
  · exact ⟨_, _, rfl⟩
theorem headD_at {l : List (List UInt8)} (h : 0 < l.length) : l.headD [] = l[0] := by
  match l, h with
  | x :: r, _ => rfl
theorem fd_one (f : Fd) : ∀ u ∈ f.cells, u.oneCell' = true := by
  intro u hu
  simp [Fd.cells] at hu
  rcases hu with rfl | rfl | rfl | rfl | rfl <;> rfl
theorem rcut_l (p : List UInt8) (c : UInt8) (z : Int) (w : World) (hz : z = (c.toNat : Int)) (hp : p.length ≤ 1280) :
    Calls Tryd.prog 19 #[.string (bstr p), .int .u8 z] w fun e w' => ∃ a cp, e = .returned (.slice a (cutL c p).length cp) ∧ Gro w w' 9 1 (.slice a (cutL c p).length cp) (cutL c p).length (txs (cutL c p)) :=
  rcut_any (bstr p) c z w hz (by show p.toArray.size ≤ 1280; rw [List.size_toArray]; exact hp)
/-- One field more in the schema's list. -/
theorem sbox_step {W1 wr Wz W' : World} {bs i : Nat} {v v' : Value} {F : List Fd} {f : Fd} {o : Obj} (h0 : bs < W1.heap.size) (hb : wr.heap[bs]? = some (.cells #[v] 24 (0, 0))) (ho : wr.ownsRow W1.heap.size 40 5 v i (fcells F)) (hk : Kept (fun k => k = bs) W1 wr) (kz : Kept (fun _ => False) wr Wz) (ho' : W'.ownsRow W1.heap.size 40 5 v' (i + 1) (fcells F ++ f.cells)) (hg : (Wz.alloc o).grownBy W' v.ownBlock) :
    W'.cell? ⟨bs, 0, none⟩ = some v ∧ W'.frozen? ⟨bs, 0, none⟩ = false ∧ (W'.setCell ⟨bs, 0, none⟩ v').heap[bs]? = some (.cells #[v'] 24 (0, 0)) ∧ (W'.setCell ⟨bs, 0, none⟩ v').ownsRow W1.heap.size 40 5 v' (i + 1) (fcells (F ++ [f])) ∧ Kept (fun k => k = bs) W1 (W'.setCell ⟨bs, 0, none⟩ v') := by
  have hv : ∀ k, v.ownBlock = some k → W1.heap.size ≤ k := fun k hk => (ho.lt k hk).1
  have k1 : Kept (fun k => v.ownBlock = some k) wr W' := (((kz.trans (Kept.alloc Wz o) (fun _ f => f.elim)).mono (fun _ f => f.elim)).trans (Kept.grown hg) (fun i hi => .inl hi))
  have hb' : W'.heap[bs]? = some (.cells #[v] 24 (0, 0)) := k1.heap hb (fun e => by have := hv _ e; omega)
  have hn : v'.ownBlock ≠ some bs := fun e => by have := (ho'.lt _ e).1; omega
  refine ⟨by simp [World.cell?, hb'], by simp [World.frozen?, hb'], ?_, ?_, ?_⟩
  · rw [Go.heap_setCell_same W' bs 0 _ _ _ hb']
    rfl
  · rw [fcells_snoc]
    exact ownsRow_setCell_other ho' hn _
  · exact (hk.trans k1 (fun i hi => .inr (hv i hi))).trans (Kept.setCell _ _ _) (fun i hi => .inl hi)
theorem fbox2 {w : World} {bx : Nat} {n : ByteArray} {k : Int} {fo st se : Bool} (h : w.heap[bx]? = some (.cells #[.string n, .int .i64 k, .bool fo, .bool st, .bool se] 40 (0, 0))) :
    (w.cell? ⟨bx, 0, none⟩ = some (.string n) ∧ w.cell? ⟨bx, 1, none⟩ = some (.int .i64 k) ∧ w.cell? ⟨bx, 2, none⟩ = some (.bool fo) ∧ w.cell? ⟨bx, 3, none⟩ = some (.bool st) ∧ w.cell? ⟨bx, 4, none⟩ = some (.bool se)) ∧ w.frozen? ⟨bx, 0, none⟩ = false ∧ w.frozen? ⟨bx, 1, none⟩ = false ∧ w.frozen? ⟨bx, 2, none⟩ = false ∧ w.frozen? ⟨bx, 3, none⟩ = false ∧ w.frozen? ⟨bx, 4, none⟩ = false := by
  refine ⟨⟨?_, ?_, ?_, ?_, ?_⟩, ?_, ?_, ?_, ?_, ?_⟩ <;> simp [World.cell?, World.frozen?, h]
theorem mem_take_succ {l : List (List UInt8)} {j : Nat} (h : j < l.length) (x : List UInt8) : (decide (x ∈ l.take (j + 1))) = (decide (x ∈ l.take j) || decide (l[j] = x)) := by
  rw [List.take_succ_eq_append_getElem h, Bool.eq_iff_iff]
  simp only [List.mem_append, List.mem_singleton, decide_eq_true_eq, Bool.or_eq_true]
  exact or_congr Iff.rfl eq_comm
/-- The kind as the document's loop finds it. -/
def kdN (hs : List (List UInt8)) : Nat → Int
  | 0 => 0
  | k + 1 => if hs.length = 2 ∧ hs[1]?.getD [] = kW ((k + 1 : Nat) : Int) then ((k + 1 : Nat) : Int) else kdN hs k
theorem kd_gk (hs : List (List UInt8)) : kdN hs 3 = gkN hs := by
  have e1 : kW ((0 + 1 : Nat) : Int) = wText := rfl
  have e2 : kW ((1 + 1 : Nat) : Int) = wKey := rfl
  have e3 : kW ((2 + 1 : Nat) : Int) = wNum := rfl
  unfold kdN kdN kdN kdN gkN
  rw [e1, e2, e3]
  by_cases hl : hs.length = 2
  · simp only [hl, true_and, if_true]
    rfl
  · simp only [hl, false_and, if_false]
theorem FsAt.put {w : World} {a : Option Addr} {l : List Fd} (h : FsAt w a l) (br : Nat) {u : Value} (hne : ∀ b off, a = some ⟨b, off, none⟩ → ¬ b = br) : FsAt (w.setCell ⟨br, 0, none⟩ u) a l := by
  intro hl
  obtain ⟨b, off, rfl, hc⟩ := h hl
  have hb := hne b off rfl
  refine ⟨b, off, rfl, fun k hk => ?_⟩
  obtain ⟨x0, x1, x2, x3, x4⟩ := hc k hk
  exact ⟨(Kept.setCell _ _ _).cell x0 hb, (Kept.setCell _ _ _).cell x1 hb, (Kept.setCell _ _ _).cell x2 hb, (Kept.setCell _ _ _).cell x3 hb, (Kept.setCell _ _ _).cell x4 hb⟩
/-- What the document's Parse answers, F being its guess. -/
def rpPost (F : List Fd) (tl : List UInt8) (w' : World) (e : Ending) : Prop := if gschema F = true ∧ stx F = tl then ∃ a c, e = .returned (.tuple #[.agg #[.slice a F.length c], .int .i64 0]) ∧ FsAt w' a F else e = .returned (.tuple #[.agg #[.slice none 0 0], .int .i64 11])
theorem rp_no {F : List Fd} {tl : List UInt8} {w' : World} {e : Ending} (h : ¬ (gschema F = true ∧ stx F = tl)) (he : e = .returned (.tuple #[.agg #[.slice none 0 0], .int .i64 11])) : rpPost F tl w' e := by rw [rpPost, if_neg h]; exact he
theorem rp_yes {F : List Fd} {tl : List UInt8} {w' : World} {e : Ending} {a : Option Addr} {n c : Nat} (h : gschema F = true ∧ stx F = tl) (hn : F.length = n) (he : e = .returned (.tuple #[.agg #[.slice a n c], .int .i64 0])) (hF : FsAt w' a F) : rpPost F tl w' e := by rw [rpPost, if_pos h, hn]; exact ⟨a, c, he, hF⟩
theorem gk_bound (hs : List (List UInt8)) : 0 ≤ gkN hs ∧ gkN hs ≤ 3 := by
  unfold gkN
  split
  · split
    · decide
    · split
      · decide
      · split <;> decide
  · decide
theorem gsF_ok (p : List UInt8) (h : p.length ≤ 1280) : (gsF p).Ok := by
  have h1 : ((cutL 44 p).headD []).length ≤ 1280 := by
    rw [headD_at (List.length_pos_iff.2 (cut_ne p))]
    exact Nat.le_trans ((cut_bound p).2 _ (List.getElem_mem _)) h
  have h2 : ((cutL 58 ((cutL 44 p).headD [])).headD []).length ≤ 1280 := by
    rw [headD_at (List.length_pos_iff.2 (cut_ne _))]
    exact Nat.le_trans ((cut_bound _).2 _ (List.getElem_mem _)) h1
  have h3 := gk_bound (cutL 58 ((cutL 44 p).headD []))
  refine ⟨?_, ?_, ?_⟩
  · show (List.toArray _).size ≤ maxLen
    rw [List.size_toArray]
    exact Nat.le_trans h2 (by decide)
  · show -9223372036854775808 ≤ gkN _
    omega
  · show gkN _ ≤ 9223372036854775807
    omega
end Go.Proofs.YthiamcopbgeedaaDoor
