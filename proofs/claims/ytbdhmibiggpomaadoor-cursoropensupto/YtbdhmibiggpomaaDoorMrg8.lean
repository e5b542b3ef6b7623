import Derived.Test.YtbdhmibiggpomaaDoorBp
import Derived.Test.YtbdhmibiggpomaaDoorRpb
namespace Go.Proofs.YtbdhmibiggpomaaDoor
open Go.ChangeShapes Go.WideShapes Go.ChangeAt Go.RowKit

/-- A posting: its document, its positions. -/
structure Po where
  d : Int
  ps : List Int
/-- The documents' numbers of a block behind the document b. -/
def gps : Int → List Po → List Int
  | _, [] => []
  | b, p :: r => (p.d - 1 - b) :: gps p.d r
def mos (F : List Po) : List Int := F.map (fun p => (p.ps.length : Int) - 1)
def psb (F : List Po) : List Int := (F.map (fun p => risb p.ps 0)).flatten
def blk (b : Int) (F : List Po) : List Int := (packed (gps b F) ++ packed (mos F)) ++ psb F
def lastd : Int → List Po → Int
  | b, [] => b
  | _, p :: r => lastd p.d r
def tot : List Po → Nat
  | [] => 0
  | p :: r => p.ps.length + tot r
def chp : Nat → List Po → List (List Po)
  | 0, _ => []
  | m + 1, l => l.take 16 :: chp m (l.drop 16)
def nbp (n : Nat) : Nat := (n + 15) / 16
def skb : Int → List (List Po) → List Int
  | _, [] => []
  | b, F :: R => (uvb (lastd b F - 1 - b).toNat ++ uvb (blk b F).length) ++ skb (lastd b F) R
def bkb : Int → List (List Po) → List Int
  | _, [] => []
  | b, F :: R => blk b F ++ bkb (lastd b F) R
/-- The bytes of a list of postings. -/
def img (L : List Po) : List Int := (uvb L.length ++ uvb (tot L)) ++ (skb (-1) (chp (nbp L.length) L) ++ bkb (-1) (chp (nbp L.length) L))
structure Gd1 (b : Int) (p : Po) : Prop where
  lo : 0 ≤ p.d
  hi : p.d ≤ 2147483646
  up : b < p.d
  ne : p.ps ≠ []
  ri : Ris p.ps 0
def gdl : Int → List Po → Prop
  | _, [] => True
  | b, p :: r => Gd1 b p ∧ gdl p.d r
def lasB : Int → List (List Po) → Int
  | b, [] => b
  | b, F :: R => lasB (lastd b F) R

theorem lastd_append : ∀ (F R : List Po) (b : Int), lastd b (F ++ R) = lastd (lastd b F) R
  | [], _, _ => rfl
  | p :: F, R, b => by rw [List.cons_append, lastd, lastd_append F R, lastd]
theorem gps_append : ∀ (F R : List Po) (b : Int), gps b (F ++ R) = gps b F ++ gps (lastd b F) R
  | [], _, _ => rfl
  | p :: F, R, b => by rw [List.cons_append, gps, gps_append F R, gps, lastd, List.cons_append]
theorem gdl_append : ∀ (F R : List Po) (b : Int), gdl b (F ++ R) ↔ gdl b F ∧ gdl (lastd b F) R
  | [], R, b => by simp [gdl, lastd]
  | p :: F, R, b => by rw [List.cons_append, gdl, gdl_append F R, gdl, lastd, and_assoc]
theorem gps_length : ∀ (F : List Po) (b : Int), (gps b F).length = F.length
  | [], _ => rfl
  | p :: F, b => by rw [gps, List.length_cons, List.length_cons, gps_length F]
theorem mos_length (F : List Po) : (mos F).length = F.length := by simp [mos]
theorem tot_append : ∀ (F R : List Po), tot (F ++ R) = tot F + tot R
  | [], R => by simp [tot]
  | p :: F, R => by rw [List.cons_append, tot, tot_append F R, tot]; omega
theorem gdl_last : ∀ (F : List Po) (b : Int), gdl b F → b ≤ lastd b F ∧ (F ≠ [] → b < lastd b F ∧ lastd b F ≤ 2147483646)
  | [], b, _ => ⟨Int.le_refl _, fun h => absurd rfl h⟩
  | p :: F, b, h => by
    obtain ⟨h1, h2⟩ := h
    have := gdl_last F p.d h2
    have u := h1.up
    have v := h1.hi
    rw [lastd]
    refine ⟨by omega, fun _ => ⟨by omega, ?_⟩⟩
    by_cases hF : F = []
    · subst hF; exact v
    · exact (this.2 hF).2
theorem chp_snoc : ∀ (m : Nat) (l : List Po), chp (m + 1) l = chp m l ++ [(l.drop (16 * m)).take 16]
  | 0, l => by simp [chp]
  | m + 1, l => by
    rw [chp, chp_snoc m, chp, List.cons_append, List.drop_drop]
    congr 4
    congr 1
    omega
theorem skb_snoc : ∀ (B : List (List Po)) (F : List Po) (b : Int), skb b (B ++ [F]) = skb b B ++ (uvb (lastd (lasB b B) F - 1 - lasB b B).toNat ++ uvb (blk (lasB b B) F).length)
  | [], F, b => by simp [skb, lasB]
  | G :: B, F, b => by rw [List.cons_append, skb, skb_snoc B, skb, lasB]; simp only [List.append_assoc]
theorem bkb_snoc : ∀ (B : List (List Po)) (F : List Po) (b : Int), bkb b (B ++ [F]) = bkb b B ++ blk (lasB b B) F
  | [], F, b => by simp [bkb, lasB]
  | G :: B, F, b => by rw [List.cons_append, bkb, bkb_snoc B, bkb, lasB, List.append_assoc]
theorem lasB_chp : ∀ (m : Nat) (l : List Po) (b : Int), lasB b (chp m l) = lastd b (l.take (16 * m))
  | 0, l, b => by simp [chp, lasB, lastd]
  | m + 1, l, b => by
    rw [chp, lasB, lasB_chp m, ← lastd_append]
    congr 1
    rw [show 16 * (m + 1) = 16 + 16 * m by omega, List.take_add]

/-- A number that is read: most at the most. -/
def upn (most : Int) (l : List Int) (p : Nat) : Option (Nat × Nat) := match rdu 0 0 (l.drop p) with
  | .error _ => none
  | .ok (x, k) => if (x : Int) ≤ most then some (x, p + k) else none
def pkn (most : Int) (l : List Int) (p : Nat) : Option (List Int × Nat) := match upn most l p with
  | none => none
  | some (n, q) => match rdp n (l.drop q) with
    | .error _ => none
    | .ok (xs, m) => some (xs, q + m)
def dcs (last : Int) : Int → List Int → Option (List Int)
  | b, [] => if b = last then some [] else none
  | b, g :: r => if g ≤ last - 1 - b then (match dcs last (b + (g + 1)) r with
      | none => none
      | some D => some ((b + (g + 1)) :: D)) else none
def rps (l : List Int) (m p : Nat) : Option (List Int × Nat) := if l.length - p ≤ m then none else match rdr (m + 1) 0 (l.drop p) with
  | .error _ => none
  | .ok (xs, k) => some (xs, p + k)
def rpl (l : List Int) : List Int → List Int → Nat → Option (List Po × Nat)
  | [], _, p => some ([], p)
  | _ :: _, [], _ => none
  | d :: D, m :: M, p => match rps l m.toNat p with
    | none => none
    | some (xs, q) => match rpl l D M q with
      | none => none
      | some (F, r) => some (⟨d, xs⟩ :: F, r)
/-- A block behind the document b, of n documents the last of which is last. -/
def rbk (l : List Int) (b last : Int) (n : Nat) : Option (List Po) := match pkn n l 0 with
  | none => none
  | some (G, q) => if G.length = n then (match dcs last b G with
    | none => none
    | some D => match pkn n l q with
      | none => none
      | some (M, q2) => if M.length = n then (match rpl l D M q2 with
        | none => none
        | some (F, r) => if r = l.length then some F else none) else none) else none
structure Sk where
  last : Int
  n : Nat
  z : Nat
def rsk (l : List Int) : Nat → Nat → Int → Nat → Option (List Sk × Nat)
  | 0, _, _, p => some ([], p)
  | m + 1, left, b, p => match upn (2147483645 - b) l p with
    | none => none
    | some (g, q) => match upn ((l.length - q : Nat) : Int) l q with
      | none => none
      | some (z, r) => match rsk l m (left - 16) (b + 1 + g) r with
        | none => none
        | some (S, t) => some (⟨b + 1 + g, min left 16, z⟩ :: S, t)
def szs : List Sk → Nat
  | [] => 0
  | s :: S => s.z + szs S
def ral (l : List Int) : List Sk → Int → Nat → Option (List Po)
  | [], _, _ => some []
  | s :: S, b, p => match rbk ((l.drop p).take s.z) b s.last s.n with
    | none => none
    | some F => match ral l S s.last (p + s.z) with
      | none => none
      | some R => some (F ++ R)
structure Hd where
  n : Nat
  t : Nat
  S : List Sk
  p : Nat
/-- What the head tells. -/
def hdr (l : List Int) : Option Hd := match upn l.length l 0 with
  | none => none
  | some (n, q) => match upn ((l.length - q : Nat) : Int) l q with
    | none => none
    | some (t, r) => match rsk l (nbp n) n (-1) r with
      | none => none
      | some (S, p) => if szs S = l.length - p then some ⟨n, t, S, p⟩ else none
/-- What the bytes are the postings of. -/
def opn (l : List Int) : Option (List Po) := match hdr l with
  | none => none
  | some h => match ral l h.S (-1) h.p with
    | none => none
    | some L => if tot L = h.t then some L else none

theorem isb_drop {l : List Int} (h : IsBytes l) (p : Nat) : IsBytes (l.drop p) := fun x hx => h x (List.mem_of_mem_drop hx)
theorem isb_take {l : List Int} (h : IsBytes l) (p : Nat) : IsBytes (l.take p) := fun x hx => h x (List.mem_of_mem_take hx)
theorem drop_next {l X R : List Int} {p : Nat} (h : l.drop p = X ++ R) : l.drop (p + X.length) = R := by
  rw [← List.drop_drop, h, List.drop_left]
theorem uvb_pos (n : Nat) : 1 ≤ (uvb n).length := by
  by_cases h : n < 128
  · rw [uvb_small h]; simp
  · rw [uvb_big h]; simp
theorem risb_geP : ∀ (l : List Int) (s : Nat), l.length ≤ (risb l s).length
  | [], _ => Nat.zero_le _
  | x :: r, s => by
    have h := risb_geP r (x.toNat + 1)
    have h2 := uvb_pos (x.toNat - s)
    have e : risb (x :: r) s = uvb (x.toNat - s) ++ risb r (x.toNat + 1) := rfl
    rw [e, List.length_append, List.length_cons]
    omega
theorem upn_back {m : Int} {l : List Int} {p x q : Nat} (hI : IsBytes l) (h : upn m l p = some (x, q)) : p < q ∧ q ≤ l.length ∧ (x : Int) ≤ m ∧ l.drop p = uvb x ++ l.drop q := by
  unfold upn at h
  split at h
  · cases h
  · rename_i x' k hr
    split at h
    · rename_i hx
      injection h with h
      injection h with h1 h2
      subst h1 h2
      have h3 := rdu_le _ _ _ _ _ hr
      rw [List.length_drop] at h3
      have h4 := rdu_form (isb_drop hI p) hr
      refine ⟨by omega, by omega, hx, ?_⟩
      rw [← h4, ← List.drop_drop, List.take_append_drop]
    · cases h
theorem upn_put {m : Int} {l R : List Int} {p x : Nat} (h : l.drop p = uvb x ++ R) (hm : (x : Int) ≤ m) (hx : x < 18446744073709551616) : upn m l p = some (x, p + (uvb x).length) := by
  unfold upn
  rw [h, rdu_uvb x R hx]
  simp [hm]
theorem pkn_back {m : Int} {l xs : List Int} {p q : Nat} (hI : IsBytes l) (h : pkn m l p = some (xs, q)) : p < q ∧ q ≤ l.length ∧ IsInts xs ∧ (∀ x ∈ xs, 0 ≤ x) ∧ l.drop p = packed xs ++ l.drop q := by
  unfold pkn at h
  split at h
  · cases h
  · rename_i n q' hu
    obtain ⟨h1, h2, h3, h4⟩ := upn_back hI hu
    split at h
    · cases h
    · rename_i ys k hr
      injection h with h
      injection h with e1 e2
      subst e1 e2
      obtain ⟨f1, f2, f3, _, f5, f6⟩ := rdp_form (isb_drop hI q') hr
      rw [List.length_drop] at f6
      refine ⟨by omega, by omega, f2, f3, ?_⟩
      rw [packed_eq, f1, h4, List.append_assoc, ← f5, ← List.drop_drop, List.take_append_drop]
theorem pkn_put {m : Int} {l xs R : List Int} {p : Nat} (h : l.drop p = packed xs ++ R) (hI : IsInts xs) (h0 : ∀ x ∈ xs, 0 ≤ x) (hs : xs.length ≤ 16) (hm : (xs.length : Int) ≤ m) : pkn m l p = some (xs, p + (packed xs).length) := by
  rw [packed_eq, List.append_assoc] at h
  unfold pkn
  rw [upn_put h hm (by omega)]
  simp only
  rw [drop_next h, rdp_back xs R hI h0 (by rintro ⟨_, h⟩; omega), packed_eq, List.length_append]
  simp [Nat.add_assoc]
/-- The documents rise from b on. -/
def upd : Int → List Po → Prop
  | _, [] => True
  | b, p :: r => b < p.d ∧ upd p.d r
theorem dcs_back {last : Int} : ∀ {G : List Int} {b : Int} {D : List Int}, dcs last b G = some D → (∀ g ∈ G, 0 ≤ g) → ∀ F : List Po, F.map (·.d) = D → gps b F = G ∧ lastd b F = last ∧ upd b F ∧ (∀ p ∈ F, p.d ≤ last)
  | [], b, D, h, _, F, hF => by
    rw [dcs] at h
    split at h
    · injection h with h
      subst h
      rw [List.map_eq_nil_iff] at hF
      subst hF
      exact ⟨rfl, by assumption, trivial, fun _ hx => nomatch hx⟩
    · cases h
  | g :: r, b, D, h, h0, F, hF => by
    rw [dcs] at h
    split at h
    · rename_i hg
      split at h
      · cases h
      · rename_i D' hD
        injection h with h
        subst h
        cases F with
        | nil => simp at hF
        | cons p F =>
          rw [List.map_cons] at hF
          injection hF with e1 e2
          have g0 := h0 g (List.mem_cons_self ..)
          obtain ⟨i1, i2, i3, i4⟩ := dcs_back hD (fun x hx => h0 x (List.mem_cons_of_mem _ hx)) F e2
          rw [← e1] at i1 i2 i3
          refine ⟨?_, by rw [lastd]; exact i2, ⟨by omega, i3⟩, ?_⟩
          · rw [gps, i1]
            congr 1
            omega
          · intro x hx
            rcases List.mem_cons.1 hx with rfl | hx
            · omega
            · exact i4 x hx
    · cases h
theorem dcs_put : ∀ {F : List Po} {b : Int}, upd b F → dcs (lastd b F) b (gps b F) = some (F.map (·.d))
  | [], b, _ => by simp [gps, dcs, lastd]
  | p :: F, b, h => by
    have hl : ∀ (F : List Po) (c : Int), upd c F → c ≤ lastd c F := by
      intro F
      induction F with
      | nil => intro c _; exact Int.le_refl _
      | cons q F ih => intro c h; have := ih _ h.2; have := h.1; rw [lastd]; omega
    have h3 := hl F p.d h.2
    have hi := dcs_put h.2
    rw [gps, dcs, lastd, if_pos (by omega), show b + (p.d - 1 - b + 1) = p.d by omega, hi]
    rfl
theorem upd_of : ∀ {F : List Po} {b : Int}, gdl b F → upd b F
  | [], _, _ => trivial
  | _ :: _, _, h => ⟨h.1.up, upd_of h.2⟩
theorem psb_cons (p : Po) (F : List Po) : psb (p :: F) = risb p.ps 0 ++ psb F := by simp [psb]
theorem psb_append (F R : List Po) : psb (F ++ R) = psb F ++ psb R := by simp [psb]
theorem mos_append (F R : List Po) : mos (F ++ R) = mos F ++ mos R := by simp [mos]
theorem rpl_back {l : List Int} (hI : IsBytes l) : ∀ {D M : List Int} {p q : Nat} {F : List Po}, rpl l D M p = some (F, q) → p ≤ l.length → D.length = M.length → (∀ m ∈ M, 0 ≤ m) → F.map (·.d) = D ∧ mos F = M ∧ q ≤ l.length ∧ l.drop p = psb F ++ l.drop q ∧ (∀ x ∈ F, x.ps ≠ [] ∧ Ris x.ps 0)
  | [], M, p, q, F, h, hp, hl, h0 => by
    rw [rpl] at h
    injection h with h
    injection h with e1 e2
    subst e1 e2
    cases M with
    | nil => exact ⟨rfl, rfl, hp, by simp [psb], fun _ hx => nomatch hx⟩
    | cons a b => simp at hl
  | d :: D, [], p, q, F, h, hp, hl, h0 => by simp at hl
  | d :: D, m :: M, p, q, F, h, hp, hl, h0 => by
    rw [rpl] at h
    split at h
    · cases h
    · rename_i xs r hr
      split at h
      · cases h
      · rename_i F' t hF
        injection h with h
        injection h with e1 e2
        subst e1 e2
        have m0 := h0 m (List.mem_cons_self ..)
        unfold rps at hr
        split at hr
        · cases hr
        · split at hr
          · cases hr
          · rename_i ys k hy
            injection hr with hr
            injection hr with e1 e2
            subst e1 e2
            obtain ⟨y1, y2, y3, y4⟩ := rdr_form _ _ _ _ _ (isb_drop hI p) hy
            rw [List.length_drop] at y4
            obtain ⟨i1, i2, i3, i4, i5⟩ := rpl_back hI hF (by omega) (by simpa using hl) (fun x hx => h0 x (List.mem_cons_of_mem _ hx))
            refine ⟨by rw [List.map_cons, i1], ?_, i3, ?_, ?_⟩
            · unfold mos at i2 ⊢
              rw [List.map_cons, i2]
              congr 1
              simp only
              omega
            · rw [psb_cons, List.append_assoc, ← i4, ← y3, ← List.drop_drop, List.take_append_drop]
            · intro x hx
              rcases List.mem_cons.1 hx with rfl | hx
              · refine ⟨?_, y2⟩
                intro e
                simp only at e
                rw [e] at y1
                simp at y1
              · exact i5 x hx
theorem gdl_of : ∀ {F : List Po} {b last : Int}, -1 ≤ b → upd b F → (∀ p ∈ F, p.d ≤ last) → last ≤ 2147483646 → (∀ x ∈ F, x.ps ≠ [] ∧ Ris x.ps 0) → gdl b F
  | [], _, _, _, _, _, _, _ => trivial
  | p :: F, b, last, hb, hu, hd, hl, hp => by
    have h1 := hd p (List.mem_cons_self ..)
    have h2 := hp p (List.mem_cons_self ..)
    have h3 := hu.1
    exact ⟨⟨by omega, by omega, h3, h2.1, h2.2⟩, gdl_of (by omega) hu.2 (fun x hx => hd x (List.mem_cons_of_mem _ hx)) hl (fun x hx => hp x (List.mem_cons_of_mem _ hx))⟩
theorem rbk_back {l : List Int} {b last : Int} {n : Nat} {F : List Po} (hI : IsBytes l) (h : rbk l b last n = some F) (hb : -1 ≤ b) (hl : last ≤ 2147483646) : l = blk b F ∧ gdl b F ∧ F.length = n ∧ lastd b F = last := by
  unfold rbk at h
  split at h
  · cases h
  · rename_i G q hG
    split at h
    · rename_i hGn
      split at h
      · cases h
      · rename_i D hD
        split at h
        · cases h
        · rename_i M q2 hM
          split at h
          · rename_i hMn
            split at h
            · cases h
            · rename_i F' r hF
              split at h
              · rename_i hr
                injection h with h
                subst h
                obtain ⟨a1, a2, a3, a4, a5⟩ := pkn_back hI hG
                obtain ⟨b1, b2, b3, b4, b5⟩ := pkn_back hI hM
                have hDl : D.length = G.length := by
                  have : ∀ (G : List Int) (b : Int) (D : List Int), dcs last b G = some D → D.length = G.length := by
                    intro G
                    induction G with
                    | nil => intro b D h; rw [dcs] at h; split at h <;> first | (injection h with h; subst h; rfl) | cases h
                    | cons g G ih =>
                      intro b D h
                      rw [dcs] at h
                      split at h
                      · split at h
                        · cases h
                        · rename_i D' hD'
                          injection h with h
                          subst h
                          simp [ih _ _ hD']
                      · cases h
                  exact this _ _ _ hD
                obtain ⟨c1, c2, c3, c4, c5⟩ := rpl_back hI hF b2 (by omega) b4
                obtain ⟨d1, d2, d3, d4⟩ := dcs_back hD a4 F' c1
                refine ⟨?_, gdl_of hb d3 d4 hl c5, ?_, d2⟩
                · rw [blk, d1, c2]
                  rw [List.drop_zero] at a5
                  rw [a5, List.append_assoc]
                  congr 1
                  rw [b5, c4, hr, List.drop_length, List.append_nil]
                · rw [← hMn, ← c2, mos_length]
              · cases h
          · cases h
    · cases h
theorem rpl_put {l : List Int} : ∀ {F : List Po} {p : Nat} {R : List Int}, (∀ x ∈ F, x.ps ≠ [] ∧ Ris x.ps 0) → p ≤ l.length → l.drop p = psb F ++ R → rpl l (F.map (·.d)) (mos F) p = some (F, p + (psb F).length)
  | [], p, R, _, _, _ => by simp [mos, rpl, psb]
  | x :: F, p, R, h, hp, hl => by
    have h1 := h x (List.mem_cons_self ..)
    have hx : x.ps.length ≠ 0 := fun e => h1.1 (List.eq_nil_of_length_eq_zero e)
    rw [psb_cons, List.append_assoc] at hl
    have hg := risb_geP x.ps 0
    have hle := congrArg List.length hl
    rw [List.length_drop, List.length_append] at hle
    have e : mos (x :: F) = ((x.ps.length : Int) - 1) :: mos F := by simp [mos]
    have e2 : ((x.ps.length : Int) - 1).toNat + 1 = x.ps.length := by omega
    have hr : rps l ((x.ps.length : Int) - 1).toNat p = some (x.ps, p + (risb x.ps 0).length) := by
      unfold rps
      rw [if_neg (by omega), e2, hl, rdr_back _ _ _ h1.2]
    rw [e, List.map_cons, rpl, hr]
    simp only
    rw [rpl_put (fun y hy => h y (List.mem_cons_of_mem _ hy)) (by omega) (drop_next hl)]
    simp [psb_cons, Nat.add_assoc]
theorem gps_ints : ∀ {F : List Po} {b : Int}, gdl b F → -1 ≤ b → ∀ x ∈ gps b F, 0 ≤ x ∧ x ≤ 2147483646
  | [], _, _, _, x, hx => nomatch hx
  | p :: F, b, h, hb, x, hx => by
    have u := h.1.up
    have v := h.1.hi
    have z := h.1.lo
    rcases List.mem_cons.1 hx with rfl | hx
    · omega
    · exact gps_ints h.2 (by omega) x hx
theorem gdl_pos : ∀ {F : List Po} {b : Int}, gdl b F → ∀ x ∈ F, x.ps ≠ [] ∧ Ris x.ps 0
  | [], _, _, x, hx => nomatch hx
  | p :: F, b, h, x, hx => by
    rcases List.mem_cons.1 hx with rfl | hx
    · exact ⟨h.1.ne, h.1.ri⟩
    · exact gdl_pos h.2 x hx
theorem mos_ints {F : List Po} (h : ∀ x ∈ F, x.ps ≠ [] ∧ Ris x.ps 0) (hs : ∀ x ∈ F, x.ps.length ≤ 9223372036854775807) : ∀ x ∈ mos F, 0 ≤ x ∧ x ≤ 9223372036854775807 := by
  intro x hx
  unfold mos at hx
  rw [List.mem_map] at hx
  obtain ⟨p, hp, rfl⟩ := hx
  have h1 := (h p hp).1
  have h3 := hs p hp
  have h2 : p.ps.length ≠ 0 := fun e => h1 (List.eq_nil_of_length_eq_zero e)
  omega
theorem ris_small : ∀ {l : List Int} {s : Nat}, Ris l s → s ≤ 9223372036854775808 → l.length + s ≤ 9223372036854775808
  | [], s, _, hs => by simpa using hs
  | x :: r, s, h, hs => by
    obtain ⟨h1, h2, h3⟩ := h
    have := ris_small h3 (by omega)
    rw [List.length_cons]
    omega
theorem mos_intsG {F : List Po} {b : Int} (h : gdl b F) : ∀ x ∈ mos F, 0 ≤ x ∧ x ≤ 9223372036854775807 := by
  intro x hx
  unfold mos at hx
  rw [List.mem_map] at hx
  obtain ⟨p, hp, rfl⟩ := hx
  obtain ⟨h1, h4⟩ := gdl_pos h p hp
  have h3 := ris_small h4 (by omega)
  have h2 : p.ps.length ≠ 0 := fun e => h1 (List.eq_nil_of_length_eq_zero e)
  omega
theorem rbk_put {b : Int} {F : List Po} (h : gdl b F) (hb : -1 ≤ b) (hn : F.length ≤ 16) : rbk (blk b F) b (lastd b F) F.length = some F := by
  have g1 := gps_ints h hb
  have m1 := mos_intsG h
  obtain ⟨l, hl⟩ : ∃ l, l = blk b F := ⟨_, rfl⟩
  have e0 : l.drop 0 = packed (gps b F) ++ (packed (mos F) ++ psb F) := by rw [List.drop_zero, hl, blk, List.append_assoc]
  have p1 := pkn_put (m := (F.length : Int)) e0 (fun x hx => by have := g1 x hx; omega) (fun x hx => (g1 x hx).1) (by rw [gps_length]; exact hn) (by rw [gps_length]; exact Int.le_refl _)
  have e1 := drop_next e0
  have p2 := pkn_put (m := (F.length : Int)) e1 (fun x hx => by have := m1 x hx; omega) (fun x hx => (m1 x hx).1) (by rw [mos_length]; exact hn) (by rw [mos_length]; exact Int.le_refl _)
  have e2 := drop_next e1
  have hL : l.length = (packed (gps b F)).length + (packed (mos F)).length + (psb F).length := by rw [hl, blk, List.length_append, List.length_append]
  have p3 := rpl_put (l := l) (F := F) (p := 0 + (packed (gps b F)).length + (packed (mos F)).length) (R := []) (gdl_pos h) (by omega) (by rw [List.append_nil]; exact e2)
  rw [← hl]
  unfold rbk
  rw [p1]
  simp only
  rw [if_pos (gps_length _ _), dcs_put (upd_of h)]
  simp only
  rw [p2]
  simp only
  rw [if_pos (mos_length _), p3]
  simp only
  rw [if_pos (by omega)]
end Go.Proofs.YtbdhmibiggpomaaDoor
namespace Go.Proofs.YtbdhmibiggpomaaDoor
open Go.ChangeShapes Go.WideShapes Go.ChangeAt Go.RowKit

/-- The skip entries of the blocks, their places left out. -/
def skl : Int → List (List Po) → List Sk
  | _, [] => []
  | b, F :: R => ⟨lastd b F, F.length, (blk b F).length⟩ :: skl (lastd b F) R
theorem szs_skl : ∀ (B : List (List Po)) (b : Int), szs (skl b B) = (bkb b B).length
  | [], _ => rfl
  | F :: B, b => by rw [skl, szs, szs_skl B, bkb, List.length_append]
theorem split16 {F R : List Po} {left : Nat} (hF : F.length = min left 16) (hR : R.length = left - 16) : (F ++ R).take 16 = F ∧ (F ++ R).drop 16 = R := by
  by_cases h : 16 ≤ left
  · have e : F.length = 16 := by omega
    exact ⟨by rw [← e, List.take_left], by rw [← e, List.drop_left]⟩
  · have e : R = [] := List.eq_nil_of_length_eq_zero (by omega)
    subst e
    rw [List.append_nil]
    exact ⟨List.take_of_length_le (by omega), List.drop_of_length_le (by omega)⟩
theorem both_back {l : List Int} (hI : IsBytes l) : ∀ {m left : Nat} {b : Int} {p q r : Nat} {S : List Sk} {L : List Po}, rsk l m left b p = some (S, q) → ral l S b r = some L → m = nbp left → -1 ≤ b → p ≤ l.length → r + szs S ≤ l.length →
    q ≤ l.length ∧ L.length = left ∧ gdl b L ∧ l.drop p = skb b (chp m L) ++ l.drop q ∧ (l.drop r).take (szs S) = bkb b (chp m L) ∧ S = skl b (chp m L)
  | 0, left, b, p, q, r, S, L, h, h2, hm, hb, hp, hr => by
    rw [rsk] at h
    injection h with h
    injection h with e1 e2
    subst e1 e2
    rw [ral] at h2
    injection h2 with h2
    subst h2
    unfold nbp at hm
    exact ⟨hp, by simp; omega, trivial, by simp [chp, skb], by simp [szs, chp, bkb], by simp [chp, skl]⟩
  | m + 1, left, b, p, q, r, S, L, h, h2, hm, hb, hp, hr => by
    rw [rsk] at h
    split at h
    · cases h
    · rename_i g q1 hu
      split at h
      · cases h
      · rename_i z q2 hz
        split at h
        · cases h
        · rename_i S' t hS
          injection h with h
          injection h with e1 e2
          subst e1 e2
          rw [ral] at h2
          simp only at h2
          split at h2
          · cases h2
          · rename_i F hF
            split at h2
            · cases h2
            · rename_i R hR
              injection h2 with h2
              subst h2
              obtain ⟨a1, a2, a3, a4⟩ := upn_back hI hu
              obtain ⟨b1, b2, b3, b4⟩ := upn_back hI hz
              rw [szs] at hr
              simp only at hr
              obtain ⟨c1, c2, c3, c4⟩ := rbk_back (isb_take (isb_drop hI r) z) hF hb (by omega)
              obtain ⟨i1, i2, i3, i4, i5, i6⟩ := both_back hI hS hR (by unfold nbp at hm ⊢; omega) (by omega) b2 (by omega)
              obtain ⟨s1, s2⟩ := split16 c3 i2
              have hz' : (blk b F).length = z := by rw [← c1, List.length_take, List.length_drop]; omega
              have hg : (lastd b F - 1 - b).toNat = g := by omega
              rw [chp, s1, s2, skb, bkb, skl, hz', hg, c4]
              refine ⟨i1, ?_, ?_, ?_, ?_, ?_⟩
              · rw [List.length_append]; unfold nbp at hm; omega
              · rw [gdl_append, c4]; exact ⟨c2, i3⟩
              · rw [a4, b4, i4]; simp [List.append_assoc]
              · rw [szs, List.take_add, List.drop_drop, i5, ← c1]
              · rw [i6, c3]
theorem opn_back {l : List Int} {L : List Po} (hI : IsBytes l) (h : opn l = some L) : l = img L ∧ gdl (-1) L ∧ ∃ p, hdr l = some ⟨L.length, tot L, skl (-1) (chp (nbp L.length) L), p⟩ ∧ p + (bkb (-1) (chp (nbp L.length) L)).length = l.length := by
  unfold opn at h
  split at h
  · cases h
  · rename_i hd hh
    split at h
    · cases h
    · rename_i L' hL
      split at h
      · rename_i ht
        injection h with h
        subst h
        have hh0 := hh
        unfold hdr at hh
        split at hh
        · cases hh
        · rename_i n q hn
          split at hh
          · cases hh
          · rename_i t r ht'
            split at hh
            · cases hh
            · rename_i S p hS
              split at hh
              · rename_i hz
                injection hh with hh
                subst hh
                simp only at hL ht
                obtain ⟨a1, a2, a3, a4⟩ := upn_back hI hn
                obtain ⟨b1, b2, b3, b4⟩ := upn_back hI ht'
                have hp : p ≤ l.length := by
                  have : ∀ (m left : Nat) (b : Int) (p q : Nat) (S : List Sk), rsk l m left b p = some (S, q) → p ≤ l.length → q ≤ l.length := by
                    intro m
                    induction m with
                    | zero => intro left b p q S h hp; rw [rsk] at h; injection h with h; injection h with e1 e2; subst e2; exact hp
                    | succ m ih =>
                      intro left b p q S h hp
                      rw [rsk] at h
                      split at h
                      · cases h
                      · rename_i hu
                        split at h
                        · cases h
                        · rename_i hv
                          split at h
                          · cases h
                          · rename_i hw
                            injection h with h
                            injection h with e1 e2
                            subst e2
                            exact ih _ _ _ _ _ hw (upn_back hI hv).2.1
                  exact this _ _ _ _ _ _ hS b2
                obtain ⟨c1, c2, c3, c4, c5, c6⟩ := both_back hI hS hL rfl (by omega) b2 (by omega)
                refine ⟨?_, c3, p, ?_, ?_⟩
                · rw [hz, List.take_of_length_le (by rw [List.length_drop]; exact Nat.le_refl _)] at c5
                  unfold img
                  rw [List.drop_zero] at a4
                  rw [c2, ← c5, ht, ← c4, List.append_assoc, ← b4, ← a4]
                · rw [hh0, c2, ht]
                  congr 2
                · rw [← szs_skl, c2, ← c6]; omega
              · cases hh
      · cases h
theorem tot_psb : ∀ (F : List Po), tot F ≤ (psb F).length
  | [] => Nat.zero_le _
  | p :: F => by
    have := tot_psb F
    have := risb_geP p.ps 0
    rw [tot, psb_cons, List.length_append]
    omega
theorem tot_blk (F : List Po) (b : Int) : tot F ≤ (blk b F).length := by
  have := tot_psb F
  rw [blk, List.length_append]
  omega
theorem len_tot : ∀ {F : List Po} {b : Int}, gdl b F → F.length ≤ tot F
  | [], _, _ => Nat.zero_le _
  | p :: F, b, h => by
    have := len_tot h.2
    have h2 : p.ps.length ≠ 0 := fun e => h.1.ne (List.eq_nil_of_length_eq_zero e)
    rw [tot, List.length_cons]
    omega
theorem tot_bkb : ∀ {m : Nat} {L : List Po} {b : Int}, m = nbp L.length → tot L ≤ (bkb b (chp m L)).length
  | 0, L, b, h => by
    have e : L = [] := List.eq_nil_of_length_eq_zero (by unfold nbp at h; omega)
    subst e
    exact Nat.zero_le _
  | m + 1, L, b, h => by
    have := tot_bkb (m := m) (L := L.drop 16) (b := lastd b (L.take 16)) (by rw [List.length_drop]; unfold nbp at h ⊢; omega)
    have h2 := tot_blk (L.take 16) b
    have h3 := tot_append (L.take 16) (L.drop 16)
    rw [List.take_append_drop] at h3
    rw [chp, bkb, List.length_append]
    omega
theorem gdl_split {L : List Po} {b : Int} (h : gdl b L) : gdl b (L.take 16) ∧ gdl (lastd b (L.take 16)) (L.drop 16) := by
  rw [← gdl_append, List.take_append_drop]
  exact h
theorem rsk_put {l : List Int} (hl : l.length < 9223372036854775808) : ∀ {m : Nat} {L : List Po} {b : Int} {p : Nat} {R : List Int}, m = nbp L.length → gdl b L → -1 ≤ b → (bkb b (chp m L)).length ≤ R.length → l.drop p = skb b (chp m L) ++ R →
    rsk l m L.length b p = some (skl b (chp m L), p + (skb b (chp m L)).length)
  | 0, L, b, p, R, hm, hg, hb, hR, h => by simp [rsk, chp, skl, skb]
  | m + 1, L, b, p, R, hm, hg, hb, hR, h => by
    obtain ⟨g1, g2⟩ := gdl_split hg
    obtain ⟨F, hF⟩ : ∃ F, F = L.take 16 := ⟨_, rfl⟩
    obtain ⟨L', hL'⟩ : ∃ L', L' = L.drop 16 := ⟨_, rfl⟩
    have n1 : F.length = min L.length 16 := by rw [hF, List.length_take, Nat.min_comm]
    have n2 : L'.length = L.length - 16 := by rw [hL', List.length_drop]
    rw [chp, bkb, ← hF, ← hL', List.length_append] at hR
    rw [chp, skb, ← hF, ← hL'] at h
    rw [← hF] at g1
    rw [← hF, ← hL'] at g2
    rw [chp, skl, skb, ← hF, ← hL']
    have hne : F ≠ [] := by
      intro e
      rw [e] at n1
      unfold nbp at hm
      simp at n1
      omega
    obtain ⟨q0, q3⟩ := gdl_last F b g1
    obtain ⟨q1, q2⟩ := q3 hne
    obtain ⟨g, hgq⟩ : ∃ g, g = (lastd b F - 1 - b).toNat := ⟨_, rfl⟩
    obtain ⟨z, hz⟩ : ∃ z, z = (blk b F).length := ⟨_, rfl⟩
    rw [← hgq, ← hz] at h ⊢
    rw [← hz] at hR
    rw [List.append_assoc, List.append_assoc] at h
    have u1 := upn_put (m := 2147483645 - b) h (by omega) (by omega)
    have e1 := drop_next h
    have k1 := congrArg List.length e1
    rw [List.length_drop, List.length_append, List.length_append] at k1
    have u2 := upn_put (m := ((l.length - (p + (uvb g).length) : Nat) : Int)) e1 (by omega) (by omega)
    have e2 := drop_next e1
    have i := rsk_put hl (m := m) (L := L') (by rw [n2]; unfold nbp at hm ⊢; omega) g2 (by omega) (by omega) e2
    rw [rsk, u1]
    simp only
    rw [u2]
    simp only
    rw [← n2, show b + 1 + (g : Int) = lastd b F by omega, i]
    simp only [Option.some.injEq, Prod.mk.injEq, List.cons.injEq, Sk.mk.injEq, and_true, true_and]
    refine ⟨n1.symm, ?_⟩
    rw [List.length_append, List.length_append]
    omega
theorem ral_put {l : List Int} : ∀ {m : Nat} {L : List Po} {b : Int} {r : Nat} {R : List Int}, m = nbp L.length → gdl b L → -1 ≤ b → l.drop r = bkb b (chp m L) ++ R → ral l (skl b (chp m L)) b r = some L
  | 0, L, b, r, R, hm, hg, hb, h => by
    have e : L = [] := List.eq_nil_of_length_eq_zero (by unfold nbp at hm; omega)
    subst e
    simp [chp, skl, ral]
  | m + 1, L, b, r, R, hm, hg, hb, h => by
    obtain ⟨g1, g2⟩ := gdl_split hg
    obtain ⟨F, hF⟩ : ∃ F, F = L.take 16 := ⟨_, rfl⟩
    obtain ⟨L', hL'⟩ : ∃ L', L' = L.drop 16 := ⟨_, rfl⟩
    have n1 : F.length = min L.length 16 := by rw [hF, List.length_take, Nat.min_comm]
    have n2 : L'.length = L.length - 16 := by rw [hL', List.length_drop]
    rw [chp, bkb, ← hF, ← hL', List.append_assoc] at h
    rw [← hF] at g1
    rw [← hF, ← hL'] at g2
    rw [chp, skl, ← hF, ← hL', ral]
    simp only
    have q0 := gdl_last F b g1
    rw [h, List.take_left, rbk_put g1 hb (by omega)]
    simp only
    rw [ral_put (m := m) (L := L') (by rw [n2]; unfold nbp at hm ⊢; omega) g2 (by omega) (drop_next h)]
    simp only
    rw [hF, hL', List.take_append_drop]
theorem hdr_put {L : List Po} {R : List Int} (hg : gdl (-1) L) (hl : (img L ++ R).length < 9223372036854775808) :
    hdr (img L ++ R) = if R.length = 0 then some ⟨L.length, tot L, skl (-1) (chp (nbp L.length) L), ((uvb L.length ++ uvb (tot L)) ++ skb (-1) (chp (nbp L.length) L)).length⟩ else none := by
  obtain ⟨l, hL⟩ : ∃ l, l = img L ++ R := ⟨_, rfl⟩
  rw [← hL] at hl ⊢
  obtain ⟨B, hB⟩ : ∃ B, B = chp (nbp L.length) L := ⟨_, rfl⟩
  have t1 := tot_bkb (L := L) (b := -1) rfl
  have t2 := len_tot hg
  rw [← hB] at t1 ⊢
  have e0 : l.drop 0 = uvb L.length ++ (uvb (tot L) ++ (skb (-1) B ++ (bkb (-1) B ++ R))) := by rw [List.drop_zero, hL, img, ← hB]; simp [List.append_assoc]
  have k0 := congrArg List.length e0
  rw [List.length_drop, List.length_append, List.length_append, List.length_append, List.length_append] at k0
  have u1 := upn_put (m := (l.length : Int)) e0 (by omega) (by omega)
  have e1 := drop_next e0
  have u2 := upn_put (m := ((l.length - (0 + (uvb L.length).length) : Nat) : Int)) e1 (by omega) (by omega)
  have e2 := drop_next e1
  have u3 := rsk_put hl (L := L) (b := -1) (R := bkb (-1) B ++ R) rfl hg (by omega) (by rw [← hB, List.length_append]; omega) (by rw [← hB]; exact e2)
  rw [← hB] at u3
  unfold hdr
  rw [u1]
  simp only
  rw [u2]
  simp only
  rw [u3]
  simp only
  rw [szs_skl]
  have e3 : (0 + (uvb L.length).length + (uvb (tot L)).length + (skb (-1) B).length) = ((uvb L.length ++ uvb (tot L)) ++ skb (-1) B).length := by rw [List.length_append, List.length_append]; omega
  rw [e3]
  have e4 : ((uvb L.length ++ uvb (tot L)) ++ skb (-1) B).length = (uvb L.length).length + (uvb (tot L)).length + (skb (-1) B).length := by rw [List.length_append, List.length_append]
  by_cases h : R.length = 0
  · rw [if_pos h, if_pos (by omega)]
  · rw [if_neg h, if_neg (by omega)]
theorem opn_put {L : List Po} (hg : gdl (-1) L) (hl : (img L).length < 9223372036854775808) : opn (img L) = some L := by
  have h := hdr_put (R := []) hg (by rw [List.append_nil]; exact hl)
  rw [List.append_nil, if_pos List.length_nil] at h
  unfold opn
  rw [h]
  simp only
  have e : (img L).drop ((uvb L.length ++ uvb (tot L)) ++ skb (-1) (chp (nbp L.length) L)).length = bkb (-1) (chp (nbp L.length) L) ++ [] := by
    rw [img, ← List.append_assoc, List.drop_left, List.append_nil]
  rw [ral_put rfl hg (by omega) e]
  simp
theorem opn_more {L : List Po} {R : List Int} (hg : gdl (-1) L) (hR : R ≠ []) (hl : (img L ++ R).length < 9223372036854775808) : opn (img L ++ R) = none := by
  have h := hdr_put hg hl
  rw [if_neg (fun e => hR (List.eq_nil_of_length_eq_zero e))] at h
  unfold opn
  rw [h]
theorem opn_less {L : List Po} {c : Nat} (hI : IsBytes (img L)) (hg : gdl (-1) L) (hc : c < (img L).length) (hl : (img L).length < 9223372036854775808) : opn ((img L).take c) = none := by
  cases h : opn ((img L).take c) with
  | none => rfl
  | some M =>
    exfalso
    obtain ⟨h1, h2, _⟩ := opn_back (isb_take hI c) h
    have h3 : img L = img M ++ (img L).drop c := by rw [← h1, List.take_append_drop]
    have h4 := opn_more (R := (img L).drop c) h2 (fun e => by have := congrArg List.length e; rw [List.length_drop] at this; simp at this; omega) (by rw [← h3]; exact hl)
    rw [← h3, opn_put hg hl] at h4
    cases h4
theorem uvb_bytesP : ∀ n, IsBytes (uvb n) := by
  intro n
  induction n using Nat.strongRecOn with
  | ind n ih =>
    by_cases h : n < 128
    · rw [uvb_small h]
      intro x hx
      rw [List.mem_singleton] at hx
      omega
    · rw [uvb_big h]
      intro x hx
      rcases List.mem_cons.1 hx with rfl | hx
      · omega
      · exact ih _ (by omega) x hx
theorem isb_appP {a b : List Int} (h : IsBytes a) (k : IsBytes b) : IsBytes (a ++ b) := fun x hx => (List.mem_append.1 hx).elim (h x) (k x)
theorem risb_bytesP : ∀ (l : List Int) (s : Nat), IsBytes (risb l s)
  | [], _ => fun _ hx => nomatch hx
  | _ :: r, _ => isb_appP (uvb_bytesP _) (risb_bytesP r _)
theorem packed_bytesP {l : List Int} (hI : IsInts l) (h0 : ∀ x ∈ l, 0 ≤ x) : IsBytes (packed l) := by
  rw [packed_eq]
  refine isb_appP (uvb_bytesP _) ?_
  unfold pbody
  split
  · exact fun _ hx => nomatch hx
  · have := orl_bits l h0 hI
    intro x hx
    rcases List.mem_cons.1 hx with rfl | hx
    · omega
    · exact le_bytes _ _ x hx
theorem psb_bytesP : ∀ F : List Po, IsBytes (psb F)
  | [] => fun _ hx => nomatch hx
  | p :: F => by rw [psb_cons]; exact isb_appP (risb_bytesP _ _) (psb_bytesP F)
theorem blk_bytesP {F : List Po} {b : Int} (hg : gdl b F) (hb : -1 ≤ b) : IsBytes (blk b F) := by
  have g1 := gps_ints hg hb
  have m1 := mos_intsG hg
  exact isb_appP (isb_appP (packed_bytesP (fun x hx => by have := g1 x hx; omega) (fun x hx => (g1 x hx).1)) (packed_bytesP (fun x hx => by have := m1 x hx; omega) (fun x hx => (m1 x hx).1))) (psb_bytesP F)
theorem skb_bytesP : ∀ (B : List (List Po)) (b : Int), IsBytes (skb b B)
  | [], _ => fun _ hx => nomatch hx
  | _ :: B, _ => isb_appP (isb_appP (uvb_bytesP _) (uvb_bytesP _)) (skb_bytesP B _)
theorem bkb_bytesP : ∀ {m : Nat} {L : List Po} {b : Int}, gdl b L → -1 ≤ b → IsBytes (bkb b (chp m L))
  | 0, _, _, _, _ => fun _ hx => nomatch hx
  | m + 1, L, b, hg, hb => by
    obtain ⟨g1, g2⟩ := gdl_split hg
    have := (gdl_last _ _ g1).1
    exact isb_appP (blk_bytesP g1 hb) (bkb_bytesP g2 (by omega))
theorem img_bytes {L : List Po} (hg : gdl (-1) L) : IsBytes (img L) :=
  isb_appP (isb_appP (uvb_bytesP _) (uvb_bytesP _)) (isb_appP (skb_bytesP _ _) (bkb_bytesP hg (by omega)))
end Go.Proofs.YtbdhmibiggpomaaDoor
