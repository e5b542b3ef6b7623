import Derived.Test.YtjkbongfampgjaaGreatDoorBp
import Derived.Test.YtjkbongfampgjaaGreatDoorRpb
namespace Go.Proofs.YtjkbongfampgjaaGreatDoor
open Go.ChangeShapes Go.WideShapes Go.ChangeAt Go.RowKit

/-- A posting: its document, its positions. -/
structure Po where
  d : Int
  ps : List Int
/-- The documents' numbers of a block behind the document b. -/
def gps : Int → List Po → List Int
  | _, [] => []
  | b, p :: r => (p.d - 1 - b) :: gps p.d r
def mos (F : List Po) : List Int := F.map (fun p => (p.ps.length : Int) - 1)
def psb (F : List Po) : List Int := (F.map (fun p => risb p.ps 0)).flatten
def blk (b : Int) (F : List Po) : List Int := (packed (gps b F) ++ packed (mos F)) ++ psb F
def lastd : Int → List Po → Int
  | b, [] => b
  | _, p :: r => lastd p.d r
def tot : List Po → Nat
  | [] => 0
  | p :: r => p.ps.length + tot r
def chp : Nat → List Po → List (List Po)
  | 0, _ => []
  | m + 1, l => l.take 16 :: chp m (l.drop 16)
def nbp (n : Nat) : Nat := (n + 15) / 16
def skb : Int → List (List Po) → List Int
  | _, [] => []
  | b, F :: R => (uvb (lastd b F - 1 - b).toNat ++ uvb (blk b F).length) ++ skb (lastd b F) R
def bkb : Int → List (List Po) → List Int
  | _, [] => []
  | b, F :: R => blk b F ++ bkb (lastd b F) R
/-- The bytes of a list of postings. -/
def img (L : List Po) : List Int := (uvb L.length ++ uvb (tot L)) ++ (skb (-1) (chp (nbp L.length) L) ++ bkb (-1) (chp (nbp L.length) L))
structure Gd1 (b : Int) (p : Po) : Prop where
  lo : 0 ≤ p.d
  hi : p.d ≤ 2147483646
  up : b < p.d
  ne : p.ps ≠ []
  ri : Ris p.ps 0
def gdl : Int → List Po → Prop
  | _, [] => True
  | b, p :: r => Gd1 b p ∧ gdl p.d r
def lasB : Int → List (List Po) → Int
  | b, [] => b
  | b, F :: R => lasB (lastd b F) R

theorem lastd_append : ∀ (F R : List Po) (b : Int), lastd b (F ++ R) = lastd (lastd b F) R
  | [], _, _ => rfl
  | p :: F, R, b => by rw [List.cons_append, lastd, lastd_append F R, lastd]
theorem gps_append : ∀ (F R : List Po) (b : Int), gps b (F ++ R) = gps b F ++ gps (lastd b F) R
  | [], _, _ => rfl
  | p :: F, R, b => by rw [List.cons_append, gps, gps_append F R, gps, lastd, List.cons_append]
theorem gdl_append : ∀ (F R : List Po) (b : Int), gdl b (F ++ R) ↔ gdl b F ∧ gdl (lastd b F) R
  | [], R, b => by simp [gdl, lastd]
  | p :: F, R, b => by rw [List.cons_append, gdl, gdl_append F R, gdl, lastd, and_assoc]
theorem gps_length : ∀ (F : List Po) (b : Int), (gps b F).length = F.length
  | [], _ => rfl
  | p :: F, b => by rw [gps, List.length_cons, List.length_cons, gps_length F]
theorem mos_length (F : List Po) : (mos F).length = F.length := by simp [mos]
theorem tot_append : ∀ (F R : List Po), tot (F ++ R) = tot F + tot R
  | [], R => by simp [tot]
  | p :: F, R => by rw [List.cons_append, tot, tot_append F R, tot]; omega
theorem gdl_last : ∀ (F : List Po) (b : Int), gdl b F → b ≤ lastd b F ∧ (F ≠ [] → b < lastd b F ∧ lastd b F ≤ 2147483646)
  | [], b, _ => ⟨Int.le_refl _, fun h => absurd rfl h⟩
  | p :: F, b, h => by
    obtain ⟨h1, h2⟩ := h
    have := gdl_last F p.d h2
    have u := h1.up
    have v := h1.hi
    rw [lastd]
    refine ⟨by omega, fun _ => ⟨by omega, ?_⟩⟩
    by_cases hF : F = []
    · subst hF; exact v
    · exact (this.2 hF).2
theorem chp_snoc : ∀ (m : Nat) (l : List Po), chp (m + 1) l = chp m l ++ [(l.drop (16 * m)).take 16]
  | 0, l => by simp [chp]
  | m + 1, l => by
    rw [chp, chp_snoc m, chp, List.cons_append, List.drop_drop]
    congr 4
    congr 1
    omega
theorem skb_snoc : ∀ (B : List (List Po)) (F : List Po) (b : Int), skb b (B ++ [F]) = skb b B ++ (uvb (lastd (lasB b B) F - 1 - lasB b B).toNat ++ uvb (blk (lasB b B) F).length)
  | [], F, b => by simp [skb, lasB]
  | G :: B, F, b => by rw [List.cons_append, skb, skb_snoc B, skb, lasB]; simp only [List.append_assoc]
theorem bkb_snoc : ∀ (B : List (List Po)) (F : List Po) (b : Int), bkb b (B ++ [F]) = bkb b B ++ blk (lasB b B) F
  | [], F, b => by simp [bkb, lasB]
  | G :: B, F, b => by rw [List.cons_append, bkb, bkb_snoc B, bkb, lasB, List.append_assoc]
theorem lasB_chp : ∀ (m : Nat) (l : List Po) (b : Int), lasB b (chp m l) = lastd b (l.take (16 * m))
  | 0, l, b => by simp [chp, lasB, lastd]
  | m + 1, l, b => by
    rw [chp, lasB, lasB_chp m, ← lastd_append]
    congr 1
    rw [show 16 * (m + 1) = 16 + 16 * m by omega, List.take_add]

/-- A number that is read: most at the most. -/
def upn (most : Int) (l : List Int) (p : Nat) : Option (Nat × Nat) := match rdu 0 0 (l.drop p) with
  | .error _ => none
  | .ok (x, k) => if (x : Int) ≤ most then some (x, p + k) else none
def pkn (most : Int) (l : List Int) (p : Nat) : Option (List Int × Nat) := match upn most l p with
  | none => none
  | some (n, q) => match rdp n (l.drop q) with
    | .error _ => none
    | .ok (xs, m) => some (xs, q + m)
def dcs (last : Int) : Int → List Int → Option (List Int)
  | b, [] => if b = last then some [] else none
  | b, g :: r => if g ≤ last - 1 - b then (match dcs last (b + (g + 1)) r with
      | none => none
      | some D => some ((b + (g + 1)) :: D)) else none
def rps (l : List Int) (m p : Nat) : Option (List Int × Nat) := if l.length - p ≤ m then none else match rdr (m + 1) 0 (l.drop p) with
  | .error _ => none
  | .ok (xs, k) => some (xs, p + k)
def rpl (l : List Int) : List Int → List Int → Nat → Option (List Po × Nat)
  | [], _, p => some ([], p)
  | _ :: _, [], _ => none
  | d :: D, m :: M, p => match rps l m.toNat p with
    | none => none
    | some (xs, q) => match rpl l D M q with
      | none => none
      | some (F, r) => some (⟨d, xs⟩ :: F, r)
/-- A block behind the document b, of n documents the last of which is last. -/
def rbk (l : List Int) (b last : Int) (n : Nat) : Option (List Po) := match pkn n l 0 with
  | none => none
  | some (G, q) => if G.length = n then (match dcs last b G with
    | none => none
    | some D => match pkn n l q with
      | none => none
      | some (M, q2) => if M.length = n then (match rpl l D M q2 with
        | none => none
        | some (F, r) => if r = l.length then some F else none) else none) else none
structure Sk where
  last : Int
  n : Nat
  z : Nat
def rsk (l : List Int) : Nat → Nat → Int → Nat → Option (List Sk × Nat)
  | 0, _, _, p => some ([], p)
  | m + 1, left, b, p => match upn (2147483645 - b) l p with
    | none => none
    | some (g, q) => match upn ((l.length - q : Nat) : Int) l q with
      | none => none
      | some (z, r) => match rsk l m (left - 16) (b + 1 + g) r with
        | none => none
        | some (S, t) => some (⟨b + 1 + g, min left 16, z⟩ :: S, t)
def szs : List Sk → Nat
  | [] => 0
  | s :: S => s.z + szs S
def ral (l : List Int) : List Sk → Int → Nat → Option (List Po)
  | [], _, _ => some []
  | s :: S, b, p => match rbk ((l.drop p).take s.z) b s.last s.n with
    | none => none
    | some F => match ral l S s.last (p + s.z) with
      | none => none
      | some R => some (F ++ R)
structure Hd where
  n : Nat
  t : Nat
  S : List Sk
  p : Nat
/-- What the head tells. -/
def hdr (l : List Int) : Option Hd := match upn l.length l 0 with
  | none => none
  | some (n, q) => match upn ((l.length - q : Nat) : Int) l q with
    | none => none
    | some (t, r) => match rsk l (nbp n) n (-1) r with
      | none => none
      | some (S, p) => if szs S = l.length - p then some ⟨n, t, S, p⟩ else none
/-- What the bytes are the postings of. -/
def opn (l : List Int) : Option (List Po) := match hdr l with
  | none => none
  | some h => match ral l h.S (-1) h.p with
    | none => none
    | some L => if tot L = h.t then some L else none

theorem isb_drop {l : List Int} (h : IsBytes l) (p : Nat) : IsBytes (l.drop p) := fun x hx => h x (List.mem_of_mem_drop hx)
theorem isb_take {l : List Int} (h : IsBytes l) (p : Nat) : IsBytes (l.take p) := fun x hx => h x (List.mem_of_mem_take hx)
theorem drop_next {l X R : List Int} {p : Nat} (h : l.drop p = X ++ R) : l.drop (p + X.length) = R := by
  rw [← List.drop_drop, h, List.drop_left]
theorem uvb_pos (n : Nat) : 1 ≤ (uvb n).length := by
  by_cases h : n < 128
  · rw [uvb_small h]; simp
  · rw [uvb_big h]; simp
theorem risb_geP : ∀ (l : List Int) (s : Nat), l.length ≤ (risb l s).length
  | [], _ => Nat.zero_le _
  | x :: r, s => by
    have h := risb_geP r (x.toNat + 1)
    have h2 := uvb_pos (x.toNat - s)
    have e : risb (x :: r) s = uvb (x.toNat - s) ++ risb r (x.toNat + 1) := rfl
    rw [e, List.length_append, List.length_cons]
    omega
theorem upn_back {m : Int} {l : List Int} {p x q : Nat} (hI : IsBytes l) (h : upn m l p = some (x, q)) : p < q ∧ q ≤ l.length ∧ (x : Int) ≤ m ∧ l.drop p = uvb x ++ l.drop q := by
  unfold upn at h
  split at h
  · cases h
  · rename_i x' k hr
    split at h
    · rename_i hx
      injection h with h
      injection h with h1 h2
      subst h1 h2
      have h3 := rdu_le _ _ _ _ _ hr
      rw [List.length_drop] at h3
      have h4 := rdu_form (isb_drop hI p) hr
      refine ⟨by omega, by omega, hx, ?_⟩
      rw [← h4, ← List.drop_drop, List.take_append_drop]
    · cases h
theorem upn_put {m : Int} {l R : List Int} {p x : Nat} (h : l.drop p = uvb x ++ R) (hm : (x : Int) ≤ m) (hx : x < 18446744073709551616) : upn m l p = some (x, p + (uvb x).length) := by
  unfold upn
  rw [h, rdu_uvb x R hx]
  simp [hm]
theorem pkn_back {m : Int} {l xs : List Int} {p q : Nat} (hI : IsBytes l) (h : pkn m l p = some (xs, q)) : p < q ∧ q ≤ l.length ∧ IsInts xs ∧ (∀ x ∈ xs, 0 ≤ x) ∧ l.drop p = packed xs ++ l.drop q := by
  unfold pkn at h
  split at h
  · cases h
  · rename_i n q' hu
    obtain ⟨h1, h2, h3, h4⟩ := upn_back hI hu
    split at h
    · cases h
    · rename_i ys k hr
      injection h with h
      injection h with e1 e2
      subst e1 e2
      obtain ⟨f1, f2, f3, _, f5, f6⟩ := rdp_form (isb_drop hI q') hr
      rw [List.length_drop] at f6
      refine ⟨by omega, by omega, f2, f3, ?_⟩
      rw [packed_eq, f1, h4, List.append_assoc, ← f5, ← List.drop_drop, List.take_append_drop]
theorem pkn_put {m : Int} {l xs R : List Int} {p : Nat} (h : l.drop p = packed xs ++ R) (hI : IsInts xs) (h0 : ∀ x ∈ xs, 0 ≤ x) (hs : xs.length ≤ 16) (hm : (xs.length : Int) ≤ m) : pkn m l p = some (xs, p + (packed xs).length) := by
  rw [packed_eq, List.append_assoc] at h
  unfold pkn
  rw [upn_put h hm (by omega)]
  simp only
  rw [drop_next h, rdp_back xs R hI h0 (by rintro ⟨_, h⟩; omega), packed_eq, List.length_append]
  simp [Nat.add_assoc]
/-- The documents rise from b on. -/
def upd : Int → List Po → Prop
  | _, [] => True
  | b, p :: r => b < p.d ∧ upd p.d r
theorem dcs_back {last : Int} : ∀ {G : List Int} {b : Int} {D : List Int}, dcs last b G = some D → (∀ g ∈ G, 0 ≤ g) → ∀ F : List Po, F.map (·.d) = D → gps b F = G ∧ lastd b F = last ∧ upd b F ∧ (∀ p ∈ F, p.d ≤ last)
  | [], b, D, h, _, F, hF => by
    rw [dcs] at h
    split at h
    · injection h with h
      subst h
      rw [List.map_eq_nil_iff] at hF
      subst hF
      exact ⟨rfl, by assumption, trivial, fun _ hx => nomatch hx⟩
    · cases h
  | g :: r, b, D, h, h0, F, hF => by
    rw [dcs] at h
    split at h
    · rename_i hg
      split at h
      · cases h
      · rename_i D' hD
        injection h with h
        subst h
        cases F with
        | nil => simp at hF
        | cons p F =>
          rw [List.map_cons] at hF
          injection hF with e1 e2
          have g0 := h0 g (List.mem_cons_self ..)
          obtain ⟨i1, i2, i3, i4⟩ := dcs_back hD (fun x hx => h0 x (List.mem_cons_of_mem _ hx)) F e2
          rw [← e1] at i1 i2 i3
          refine ⟨?_, by rw [lastd]; exact i2, ⟨by omega, i3⟩, ?_⟩
          · rw [gps, i1]
            congr 1
            omega
          · intro x hx
            rcases List.mem_cons.1 hx with rfl | hx
            · omega
            · exact i4 x hx
    · cases h
theorem dcs_put : ∀ {F : List Po} {b : Int}, upd b F → dcs (lastd b F) b (gps b F) = some (F.map (·.d))
  | [], b, _ => by simp [gps, dcs, lastd]
  | p :: F, b, h => by
    have hl : ∀ (F : List Po) (c : Int), upd c F → c ≤ lastd c F := by
      intro F
      induction F with
      | nil => intro c _; exact Int.le_refl _
      | cons q F ih => intro c h; have := ih _ h.2; have := h.1; rw [lastd]; omega
    have h3 := hl F p.d h.2
    have hi := dcs_put h.2
    rw [gps, dcs, lastd, if_pos (by omega), show b + (p.d - 1 - b + 1) = p.d by omega, hi]
    rfl
theorem upd_of : ∀ {F : List Po} {b : Int}, gdl b F → upd b F
  | [], _, _ => trivial
  | _ :: _, _, h => ⟨h.1.up, upd_of h.2⟩
theorem psb_cons (p : Po) (F : List Po) : psb (p :: F) = risb p.ps 0 ++ psb F := by simp [psb]
theorem psb_append (F R : List Po) : psb (F ++ R) = psb F ++ psb R := by simp [psb]
theorem mos_append (F R : List Po) : mos (F ++ R) = mos F ++ mos R := by simp [mos]
theorem rpl_back {l : List Int} (hI : IsBytes l) : ∀ {D M : List Int} {p q : Nat} {F : List Po}, rpl l D M p = some (F, q) → p ≤ l.length → D.length = M.length → (∀ m ∈ M, 0 ≤ m) → F.map (·.d) = D ∧ mos F = M ∧ q ≤ l.length ∧ l.drop p = psb F ++ l.drop q ∧ (∀ x ∈ F, x.ps ≠ [] ∧ Ris x.ps 0)
  | [], M, p, q, F, h, hp, hl, h0 => by
    rw [rpl] at h
    injection h with h
    injection h with e1 e2
    subst e1 e2
    cases M with
    | nil => exact ⟨rfl, rfl, hp, by simp [psb], fun _ hx => nomatch hx⟩
    | cons a b => simp at hl
  | d :: D, [], p, q, F, h, hp, hl, h0 => by simp at hl
  | d :: D, m :: M, p, q, F, h, hp, hl, h0 => by
    rw [rpl] at h
    split at h
    · cases h
    · rename_i xs r hr
      split at h
      · cases h
      · rename_i F' t hF
        injection h with h
        injection h with e1 e2
        subst e1 e2
        have m0 := h0 m (List.mem_cons_self ..)
        unfold rps at hr
        split at hr
        · cases hr
        · split at hr
          · cases hr
          · rename_i ys k hy
            injection hr with hr
            injection hr with e1 e2
            subst e1 e2
            obtain ⟨y1, y2, y3, y4⟩ := rdr_form _ _ _ _ _ (isb_drop hI p) hy
            rw [List.length_drop] at y4
            obtain ⟨i1, i2, i3, i4, i5⟩ := rpl_back hI hF (by omega) (by simpa using hl) (fun x hx => h0 x (List.mem_cons_of_mem _ hx))
            refine ⟨by rw [List.map_cons, i1], ?_, i3, ?_, ?_⟩
            · unfold mos at i2 ⊢
              rw [List.map_cons, i2]
              congr 1
              simp only
              omega
            · rw [psb_cons, List.append_assoc, ← i4, ← y3, ← List.drop_drop, List.take_append_drop]
            · intro x hx
              rcases List.mem_cons.1 hx with rfl | hx
              · refine ⟨?_, y2⟩
                intro e
                simp only at e
                rw [e] at y1
                simp at y1
              · exact i5 x hx
theorem gdl_of : ∀ {F : List Po} {b last : Int}, -1 ≤ b → upd b F → (∀ p ∈ F, p.d ≤ last) → last ≤ 2147483646 → (∀ x ∈ F, x.ps ≠ [] ∧ Ris x.ps 0) → gdl b F
  | [], _, _, _, _, _, _, _ => trivial
  | p :: F, b, last, hb, hu, hd, hl, hp => by
    have h1 := hd p (List.mem_cons_self ..)
    have h2 := hp p (List.mem_cons_self ..)
    have h3 := hu.1
    exact ⟨⟨by omega, by omega, h3, h2.1, h2.2⟩, gdl_of (by omega) hu.2 (fun x hx => hd x (List.mem_cons_of_mem _ hx)) hl (fun x hx => hp x (List.mem_cons_of_mem _ hx))⟩
theorem rbk_back {l : List Int} {b last : Int} {n : Nat} {F : List Po} (hI : IsBytes l) (h : rbk l b last n = some F) (hb : -1 ≤ b) (hl : last ≤ 2147483646) : l = blk b F ∧ gdl b F ∧ F.length = n ∧ lastd b F = last := by
  unfold rbk at h
  split at h
  · cases h
  · rename_i G q hG
    split at h
    · rename_i hGn
      split at h
      · cases h
      · rename_i D hD
        split at h
        · cases h
        · rename_i M q2 hM
          split at h
          · rename_i hMn
            split at h
            · cases h
            · rename_i F' r hF
              split at h
              · rename_i hr
                injection h with h
                subst h
                obtain ⟨a1, a2, a3, a4, a5⟩ := pkn_back hI hG
                obtain ⟨b1, b2, b3, b4, b5⟩ := pkn_back hI hM
                have hDl : D.length = G.length := by
                  have : ∀ (G : List Int) (b : Int) (D : List Int), dcs last b G = some D → D.length = G.length := by
                    intro G
                    induction G with
                    | nil => intro b D h; rw [dcs] at h; split at h <;> first | (injection h with h; subst h; rfl) | cases h
                    | cons g G ih =>
                      intro b D h
                      rw [dcs] at h
                      split at h
                      · split at h
                        · cases h
                        · rename_i D' hD'
                          injection h with h
                          subst h
                          simp [ih _ _ hD']
                      · cases h
                  exact this _ _ _ hD
                obtain ⟨c1, c2, c3, c4, c5⟩ := rpl_back hI hF b2 (by omega) b4
                obtain ⟨d1, d2, d3, d4⟩ := dcs_back hD a4 F' c1
                refine ⟨?_, gdl_of hb d3 d4 hl c5, ?_, d2⟩
                · rw [blk, d1, c2]
                  rw [List.drop_zero] at a5
                  rw [a5, List.append_assoc]
                  congr 1
                  rw [b5, c4, hr, List.drop_length, List.append_nil]
                · rw [← hMn, ← c2, mos_length]
              · cases h
          · cases h
    · cases h
theorem rpl_put {l : List Int} : ∀ {F : List Po} {p : Nat} {R : List Int}, (∀ x ∈ F, x.ps ≠ [] ∧ Ris x.ps 0) → p ≤ l.length → l.drop p = psb F ++ R → rpl l (F.map (·.d)) (mos F) p = some (F, p + (psb F).length)
  | [], p, R, _, _, _ => by simp [mos, rpl, psb]
  | x :: F, p, R, h, hp, hl => by
    have h1 := h x (List.mem_cons_self ..)
    have hx : x.ps.length ≠ 0 := fun e => h1.1 (List.eq_nil_of_length_eq_zero e)
    rw [psb_cons, List.append_assoc] at hl
    have hg := risb_geP x.ps 0
    have hle := congrArg List.length hl
    rw [List.length_drop, List.length_append] at hle
    have e : mos (x :: F) = ((x.ps.length : Int) - 1) :: mos F := by simp [mos]
    have e2 : ((x.ps.length : Int) - 1).toNat + 1 = x.ps.length := by omega
    have hr : rps l ((x.ps.length : Int) - 1).toNat p = some (x.ps, p + (risb x.ps 0).length) := by
      unfold rps
      rw [if_neg (by omega), e2, hl, rdr_back _ _ _ h1.2]
    rw [e, List.map_cons, rpl, hr]
    simp only
    rw [rpl_put (fun y hy => h y (List.mem_cons_of_mem _ hy)) (by omega) (drop_next hl)]
    simp [psb_cons, Nat.add_assoc]
theorem gps_ints : ∀ {F : List Po} {b : Int}, gdl b F → -1 ≤ b → ∀ x ∈ gps b F, 0 ≤ x ∧ x ≤ 2147483646
  | [], _, _, _, x, hx => nomatch hx
  | p :: F, b, h, hb, x, hx => by
    have u := h.1.up
    have v := h.1.hi
    have z := h.1.lo
    rcases List.mem_cons.1 hx with rfl | hx
    · omega
    · exact gps_ints h.2 (by omega) x hx
theorem gdl_pos : ∀ {F : List Po} {b : Int}, gdl b F → ∀ x ∈ F, x.ps ≠ [] ∧ Ris x.ps 0
  | [], _, _, x, hx => nomatch hx
  | p :: F, b, h, x, hx => by
    rcases List.mem_cons.1 hx with rfl | hx
    · exact ⟨h.1.ne, h.1.ri⟩
    · exact gdl_pos h.2 x hx
theorem mos_ints {F : List Po} (h : ∀ x ∈ F, x.ps ≠ [] ∧ Ris x.ps 0) (hs : ∀ x ∈ F, x.ps.length ≤ 9223372036854775807) : ∀ x ∈ mos F, 0 ≤ x ∧ x ≤ 9223372036854775807 := by
  intro x hx
  unfold mos at hx
  rw [List.mem_map] at hx
  obtain ⟨p, hp, rfl⟩ := hx
  have h1 := (h p hp).1
  have h3 := hs p hp
  have h2 : p.ps.length ≠ 0 := fun e => h1 (List.eq_nil_of_length_eq_zero e)
  omega
theorem ris_small : ∀ {l : List Int} {s : Nat}, Ris l s → s ≤ 9223372036854775808 → l.length + s ≤ 9223372036854775808
  | [], s, _, hs => by simpa using hs
  | x :: r, s, h, hs => by
    obtain ⟨h1, h2, h3⟩ := h
    have := ris_small h3 (by omega)
    rw [List.length_cons]
    omega
theorem mos_intsG {F : List Po} {b : Int} (h : gdl b F) : ∀ x ∈ mos F, 0 ≤ x ∧ x ≤ 9223372036854775807 := by
  intro x hx
  unfold mos at hx
  rw [List.mem_map] at hx
  obtain ⟨p, hp, rfl⟩ := hx
  obtain ⟨h1, h4⟩ := gdl_pos h p hp
  have h3 := ris_small h4 (by omega)
  have h2 : p.ps.length ≠ 0 := fun e => h1 (List.eq_nil_of_length_eq_zero e)
  omega
theorem rbk_put {b : Int} {F : List Po} (h : gdl b F) (hb : -1 ≤ b) (hn : F.length ≤ 16) : rbk (blk b F) b (lastd b F) F.length = some F := by
  have g1 := gps_ints h hb
  have m1 := mos_intsG h
  obtain ⟨l, hl⟩ : ∃ l, l = blk b F := ⟨_, rfl⟩
  have e0 : l.drop 0 = packed (gps b F) ++ (packed (mos F) ++ psb F) := by rw [List.drop_zero, hl, blk, List.append_assoc]
  have p1 := pkn_put (m := (F.length : Int)) e0 (fun x hx => by have := g1 x hx; omega) (fun x hx => (g1 x hx).1) (by rw [gps_length]; exact hn) (by rw [gps_length]; exact Int.le_refl _)
  have e1 := drop_next e0
  have p2 := pkn_put (m := (F.length : Int)) e1 (fun x hx => by have := m1 x hx; omega) (fun x hx => (m1 x hx).1) (by rw [mos_length]; exact hn) (by rw [mos_length]; exact Int.le_refl _)
  have e2 := drop_next e1
  have hL : l.length = (packed (gps b F)).length + (packed (mos F)).length + (psb F).length := by rw [hl, blk, List.length_append, List.length_append]
  have p3 := rpl_put (l := l) (F := F) (p := 0 + (packed (gps b F)).length + (packed (mos F)).length) (R := []) (gdl_pos h) (by omega) (by rw [List.append_nil]; exact e2)
  rw [← hl]
  unfold rbk
  rw [p1]
  simp only
  rw [if_pos (gps_length _ _), dcs_put (upd_of h)]
  simp only
  rw [p2]
  simp only
  rw [if_pos (mos_length _), p3]
  simp only
  rw [if_pos (by omega)]
end Go.Proofs.YtjkbongfampgjaaGreatDoor
