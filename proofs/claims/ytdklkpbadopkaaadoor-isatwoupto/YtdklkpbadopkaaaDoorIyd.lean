import Derived.Test.YtdklkpbadopkaaaDoorIyc
namespace Go.Proofs.YtdklkpbadopkaaaDoor
open Go.ChangeShapes Go.WideShapes Go.ChangeAt Go.RowKit

/-- A line's first word, and what it tells of. -/
def wd1 (x : List UInt8) : List UInt8 := x.takeWhile (fun c => decide (c ≠ 32))
def clN (x : List UInt8) : Nat := if wd1 x = avW then 0 else if wd1 x = cuW then 1 else if wd1 x = nrW then 2 else if wd1 x = evW then 3 else if wd1 x = drW then 4 else 5
theorem wd1_of : ∀ (wd r : List UInt8), (32 : UInt8) ∉ wd → (r = [] ∨ r.head? = some 32) → wd1 (wd ++ r) = wd
  | [], r, _, h => by
    rcases h with rfl | h
    · rfl
    · cases r with
      | nil => rfl
      | cons c r => simp at h; subst h; simp [wd1]
  | c :: wd, r, hn, h => by
    have h1 : c ≠ 32 := fun e => hn (by simp [e])
    have h2 := wd1_of wd r (fun e => hn (List.mem_cons_of_mem _ e)) h
    unfold wd1 at h2 ⊢
    rw [List.cons_append, List.takeWhile_cons_of_pos (by simpa using h1), h2]
theorem pt_head (L : List (List UInt8)) : ptB 32 L = [] ∨ (ptB 32 L).head? = some 32 := by
  cases L with
  | nil => exact .inl rfl
  | cons x L => exact .inr (by simp [ptB])
theorem wd1_wd (wd : List UInt8) (ns : List Nat) (h : (32 : UInt8) ∉ wd) : wd1 (wdLn wd ns) = wd := wd1_of _ _ h (pt_head _)
theorem wd1_cu (c : Lf) : wd1 (cuLn c) = cuW := wd1_of _ _ (by decide) (.inr rfl)
theorem wd1_nr (n : Nr) : wd1 (nrLn n) = nrW := wd1_of _ _ (by decide) (.inr rfl)
theorem wd1_cd (x : In) : wd1 (cdLn x) = nmN x.op := wd1_wd _ _ (nm_not _ _ (by decide))
theorem nm_cl (op : Int) : nmN op ≠ avW ∧ nmN op ≠ cuW ∧ nmN op ≠ nrW ∧ nmN op ≠ evW ∧ nmN op ≠ drW := by
  unfold nmN
  by_cases hk : op.toNat < 17
  · have q : ∀ k : Fin 17, nameL.getD k.val [] ≠ avW ∧ nameL.getD k.val [] ≠ cuW ∧ nameL.getD k.val [] ≠ nrW ∧ nameL.getD k.val [] ≠ evW ∧ nameL.getD k.val [] ≠ drW := by decide +kernel
    exact q ⟨op.toNat, hk⟩
  · rw [List.getD_eq_getElem?_getD, List.getElem?_eq_none (show nameL.length ≤ op.toNat by show 17 ≤ op.toNat; omega)]
    decide
theorem cl_av (ns : List Nat) : clN (wdLn avW ns) = 0 := by unfold clN; rw [wd1_wd _ _ (by decide)]; decide
theorem cl_cu (c : Lf) : clN (cuLn c) = 1 := by unfold clN; rw [wd1_cu]; decide
theorem cl_nr (n : Nr) : clN (nrLn n) = 2 := by unfold clN; rw [wd1_nr]; decide
theorem cl_ev : clN evW = 3 := by decide
theorem cl_dr (ns : List Nat) : clN (wdLn drW ns) = 4 := by unfold clN; rw [wd1_wd _ _ (by decide)]; decide
theorem cl_cd (x : In) : clN (cdLn x) = 5 := by
  obtain ⟨h1, h2, h3, h4, h5⟩ := nm_cl x.op
  unfold clN
  rw [wd1_cd, if_neg h1, if_neg h2, if_neg h3, if_neg h4, if_neg h5]
/-- The lines of one kind. -/
theorem fl_in {k : Nat} {l : List (List UInt8)} (h : ∀ x ∈ l, clN x = k) : l.filter (fun x => decide (clN x = k)) = l := List.filter_eq_self.2 (fun x hx => by simp [h x hx])
theorem fl_out {k j : Nat} (hj : j ≠ k) {l : List (List UInt8)} (h : ∀ x ∈ l, clN x = j) : l.filter (fun x => decide (clN x = k)) = [] := List.filter_eq_nil_iff.2 (fun x hx => by simp [h x hx, hj])
def sgm (p : Pg) (m : List In) : Nat → List (List UInt8)
  | 0 => [wdLn avW (tnl p.av)]
  | 1 => p.cu.map cuLn
  | 2 => p.nr.map nrLn
  | 3 => if p.al then [evW] else []
  | 4 => if p.dr = [] then [] else [wdLn drW (tnl p.dr)]
  | 5 => m.map cdLn
  | _ => []
theorem sgm_cl (p : Pg) (m : List In) : ∀ k, ∀ x ∈ sgm p m k, clN x = k := by
  intro k x hx
  match k, hx with
  | 0, hx => simp [sgm] at hx; subst hx; exact cl_av _
  | 1, hx => obtain ⟨c, _, rfl⟩ := List.mem_map.1 hx; exact cl_cu c
  | 2, hx => obtain ⟨c, _, rfl⟩ := List.mem_map.1 hx; exact cl_nr c
  | 3, hx =>
    simp only [sgm] at hx
    split at hx
    · simp at hx; subst hx; exact cl_ev
    · simp at hx
  | 4, hx =>
    simp only [sgm] at hx
    split at hx
    · simp at hx
    · simp at hx; subst hx; exact cl_dr _
  | 5, hx => obtain ⟨c, _, rfl⟩ := List.mem_map.1 hx; exact cl_cd c
  | _ + 6, hx => simp [sgm] at hx
theorem lns_sgm (p : Pg) (m : List In) : lns p m = sgm p m 0 ++ sgm p m 1 ++ sgm p m 2 ++ sgm p m 3 ++ sgm p m 4 ++ sgm p m 5 := rfl
theorem sgm_fl (p : Pg) (m : List In) (k j : Nat) : (sgm p m j).filter (fun x => decide (clN x = k)) = if j = k then sgm p m k else [] := by
  by_cases h : j = k
  · subst h; rw [if_pos rfl, fl_in (sgm_cl p m j)]
  · rw [if_neg h, fl_out h (sgm_cl p m j)]
theorem lns_fl (p : Pg) (m : List In) (k : Nat) (hk : k < 6) : (lns p m).filter (fun x => decide (clN x = k)) = sgm p m k := by
  rw [lns_sgm]
  simp only [List.filter_append, sgm_fl]
  match k, hk with
  | 0, _ => simp
  | 1, _ => simp
  | 2, _ => simp
  | 3, _ => simp
  | 4, _ => simp
  | 5, _ => simp
theorem map_injI {α β : Type} {f : α → β} : ∀ (l m : List α), (∀ x ∈ l, ∀ y ∈ m, f x = f y → x = y) → l.map f = m.map f → l = m
  | [], [], _, _ => rfl
  | [], y :: m, _, h => by simp at h
  | x :: l, [], _, h => by simp at h
  | x :: l, y :: m, hi, h => by
    simp only [List.map_cons, List.cons.injEq] at h
    rw [hi x List.mem_cons_self y List.mem_cons_self h.1, map_injI l m (fun a ha b hb => hi a (List.mem_cons_of_mem _ ha) b (List.mem_cons_of_mem _ hb)) h.2]
theorem wdLn_inj {wd wd' : List UInt8} {a b : List Nat} (hw : (32 : UInt8) ∉ wd) (hw' : (32 : UInt8) ∉ wd') (h : wdLn wd a = wdLn wd' b) : wd = wd' ∧ a = b := by
  obtain ⟨h1, h2⟩ := pt_inj _ _ _ _ hw hw' (dds_not (by decide) a) (dds_not (by decide) b) h
  exact ⟨h1, map_injI _ _ (fun x _ y _ e => dd_inj x y e) h2⟩
theorem tnl_inj {a b : List Int} (ha : hbl a = false) (hb : hbl b = false) (h : tnl a = tnl b) : a = b := by
  have h1 := nz_tnl ha
  rw [h, nz_tnl hb] at h1
  exact h1.symm
theorem cuLn_inj {c d : Lf} (hc : 0 ≤ c.f) (hd : 0 ≤ d.f) (h : cuLn c = cuLn d) : c = d := by
  unfold cuLn at h
  have h1 := List.append_cancel_left h
  simp only [List.cons.injEq, true_and] at h1
  obtain ⟨h2, h3⟩ := cut_eq _ _ _ _ (dd_not (by decide)) (dd_not (by decide)) h1
  unfold quB at h3
  simp only [List.cons.injEq, true_and] at h3
  have h4 := lt_inj _ _ (List.append_cancel_right h3)
  have h5 := dd_inj _ _ h2
  obtain ⟨f, t⟩ := c
  obtain ⟨g, u⟩ := d
  obtain ⟨⟨t⟩⟩ := t
  obtain ⟨⟨u⟩⟩ := u
  simp only at hc hd h4 h5
  obtain rfl : t = u := h4
  obtain rfl : f = g := by omega
  rfl
theorem pyB_inj {a b c d : Nat} (h : pyB a b = pyB c d) : a = c ∧ b = d := by
  obtain ⟨h1, h2⟩ := cut_eq _ _ _ _ (dd_not (by decide)) (dd_not (by decide)) h
  exact ⟨dd_inj _ _ h1, dd_inj _ _ h2⟩
theorem zip_inj : ∀ (a b c d : List Nat), a.length = b.length → c.length = d.length → List.zipWith pyB a b = List.zipWith pyB c d → a = c ∧ b = d
  | [], [], [], [], _, _, _ => ⟨rfl, rfl⟩
  | [], [], _ :: _, [], _, h, _ => by simp at h
  | [], [], [], _ :: _, _, h, _ => by simp at h
  | [], [], _ :: _, _ :: _, _, _, h => by simp at h
  | _ :: _, _ :: _, [], [], _, _, h => by simp at h
  | _ :: _, _ :: _, _ :: _, [], _, h, _ => by simp at h
  | _ :: _, _ :: _, [], _ :: _, _, h, _ => by simp at h
  | [], _ :: _, _, _, h, _, _ => by simp at h
  | _ :: _, [], _, _, h, _, _ => by simp at h
  | x :: a, y :: b, u :: c, v :: d, h1, h2, h => by
    simp only [List.zipWith_cons_cons, List.cons.injEq] at h
    obtain ⟨e1, e2⟩ := pyB_inj h.1
    obtain ⟨e3, e4⟩ := zip_inj a b c d (by simpa using h1) (by simpa using h2) h.2
    exact ⟨by rw [e1, e3], by rw [e2, e4]⟩
theorem nrLn_inj {c d : Nr} (hc : gdN c = true) (hd : gdN d = true) (h : nrLn c = nrLn d) : c = d := by
  simp only [gdN, Bool.and_eq_true, decide_eq_true_eq, Bool.not_eq_true'] at hc hd
  obtain ⟨⟨⟨c1, c2⟩, c3⟩, c4⟩ := hc
  obtain ⟨⟨⟨d1, d2⟩, d3⟩, d4⟩ := hd
  unfold nrLn at h
  have h1 := List.append_cancel_left h
  simp only [List.cons.injEq, true_and] at h1
  obtain ⟨h2, h3⟩ := pt_inj _ _ _ _ (dd_not (by decide)) (dd_not (by decide)) (pys_not (by decide) _ _) (pys_not (by decide) _ _) h1
  obtain ⟨h4, h5⟩ := zip_inj _ _ _ _ (by rw [tnl_len, tnl_len, c4]) (by rw [tnl_len, tnl_len, d4]) h3
  have h6 := dd_inj _ _ h2
  have h7 := tnl_inj c2 d2 h4
  have h8 := tnl_inj c3 d3 h5
  obtain ⟨cs, os, sl⟩ := c
  obtain ⟨ds, ps, tl⟩ := d
  simp only at c1 d1 h6 h7 h8
  obtain rfl : sl = tl := by omega
  rw [h7, h8]
theorem nm_inj {a b : Int} (ha : isO a = true) (hb : isO b = true) (h : nmN a = nmN b) : a = b := by
  rw [isO_iff] at ha hb
  have q : ∀ k j : Fin 17, nameL.getD k.val [] = nameL.getD j.val [] → k = j := by decide +kernel
  have := congrArg Fin.val (q ⟨a.toNat, by omega⟩ ⟨b.toNat, by omega⟩ h)
  simp only at this
  omega
theorem cdLn_inj {x y : In} (hx : okI x = true) (hy : okI y = true) (h : cdLn x = cdLn y) : x = y := by
  obtain ⟨h1, h2⟩ := wdLn_inj (nm_not _ _ (by decide)) (nm_not _ _ (by decide)) h
  have h3 := nm_inj (okI_isO hx) (okI_isO hy) h1
  obtain ⟨_, x1, x2⟩ := okI_iff.1 hx
  obtain ⟨_, y1, y2⟩ := okI_iff.1 hy
  have hle := arN_le x.op
  unfold opsI at h2
  rw [← h3] at h2 y1 y2
  obtain ⟨o, a, b⟩ := x
  obtain ⟨o', a', b'⟩ := y
  simp only at h3 h2 x1 x2 y1 y2 hle
  subst h3
  obtain ⟨k, hk⟩ : ∃ k, k = arN o := ⟨_, rfl⟩
  rw [← hk] at h2 x1 x2 y1 y2 hle
  match k, hle with
  | 0, _ => simp at x1 x2 y1 y2; rw [x1, x2, y1, y2]
  | 1, _ => simp at x2 y2 h2; rw [x2, y2, h2]
  | 2, _ => simp at h2; rw [h2.1, h2.2]
  | _ + 3, h => omega
/-- Two programs that can be listed have one listing just if they are alike. -/
theorem txt_inj {p q : Pg} {m n : List In} (hp : gdT p = true) (hq : gdT q = true) (bp : IsBytes p.co) (bq : IsBytes q.co) (hm : dcI p.co = some m) (hn : dcI q.co = some n) (h : txt p m = txt q n) : p = q := by
  have hl := lns_inj h
  have seg : ∀ k, k < 6 → sgm p m k = sgm q n k := fun k hk => by rw [← lns_fl p m k hk, hl, lns_fl q n k hk]
  obtain ⟨m1, _, m2⟩ := dcI_form _ _ _ (Nat.le_refl _) bp hm
  obtain ⟨n1, _, n2⟩ := dcI_form _ _ _ (Nat.le_refl _) bq hn
  simp only [gdT, Bool.and_eq_true, Bool.not_eq_true'] at hp hq
  obtain ⟨⟨⟨p1, p2⟩, p3⟩, p4⟩ := hp
  obtain ⟨⟨⟨q1, q2⟩, q3⟩, q4⟩ := hq
  rw [List.all_eq_true] at p3 p4 q3 q4
  have e0 : p.av = q.av := by
    have := seg 0 (by decide)
    simp only [sgm, List.cons.injEq, and_true] at this
    exact tnl_inj p1 q1 (wdLn_inj (by decide) (by decide) this).2
  have e1 : p.cu = q.cu := map_injI _ _ (fun x hx y hy e => cuLn_inj (by have := p3 x hx; simpa [gdL] using this) (by have := q3 y hy; simpa [gdL] using this) e) (seg 1 (by decide))
  have e2 : p.nr = q.nr := map_injI _ _ (fun x hx y hy e => nrLn_inj (p4 x hx) (q4 y hy) e) (seg 2 (by decide))
  have e3 : p.al = q.al := by
    have := seg 3 (by decide)
    simp only [sgm] at this
    revert this
    cases p.al <;> cases q.al <;> simp
  have e4 : p.dr = q.dr := by
    have := seg 4 (by decide)
    simp only [sgm] at this
    by_cases hd : p.dr = []
    · by_cases hd' : q.dr = []
      · rw [hd, hd']
      · rw [if_pos hd, if_neg hd'] at this; simp at this
    · by_cases hd' : q.dr = []
      · rw [if_neg hd, if_pos hd'] at this; simp at this
      · rw [if_neg hd, if_neg hd'] at this
        simp only [List.cons.injEq, and_true] at this
        exact tnl_inj p2 q2 (wdLn_inj (by decide) (by decide) this).2
  have e5 : m = n := map_injI _ _ (fun x hx y hy e => cdLn_inj (m2 x hx) (n2 y hy) e) (seg 5 (by decide))
  have e6 : p.co = q.co := by rw [← m1, ← n1, e5]
  cases p; cases q
  simp only at e0 e1 e2 e3 e4 e6
  rw [e0, e1, e2, e3, e4, e6]
theorem txt_ne (p : Pg) (m : List In) : txt p m ≠ [] := by
  unfold txt lnB
  simp [avW]
end Go.Proofs.YtdklkpbadopkaaaDoor
