import Derived.Test.YtidgofpmnlddaaaGreatDoorMrg3
import Derived.Test.YtidgofpmnlddaaaGreatDoorMrg1
import Derived.Deep.QuietTactic
import Derived.BigQuiet
import Derived.Laws.IdiomStrings
import Derived.Test.YtidgofpmnlddaaaGreatDoorRows
import Derived.WalkKit
import Derived.OrdersHeld
import Derived.Laws.MakeOwn
namespace Go.Proofs.YtidgofpmnlddaaaGreatDoor
open Go.ChangeShapes Go.WideShapes Go.ChangeAt Go.RowKit

/-- A posting: its document, its positions. -/
structure Po where
  d : Int
  ps : List Int
/-- The documents' numbers of a block behind the document b. -/
def gps : Int → List Po → List Int
  | _, [] => []
  | b, p :: r => (p.d - 1 - b) :: gps p.d r
def mos (F : List Po) : List Int := F.map (fun p => (p.ps.length : Int) - 1)
def psb (F : List Po) : List Int := (F.map (fun p => risb p.ps 0)).flatten
def blk (b : Int) (F : List Po) : List Int := (packed (gps b F) ++ packed (mos F)) ++ psb F
def lastd : Int → List Po → Int
  | b, [] => b
  | _, p :: r => lastd p.d r
def tot : List Po → Nat
  | [] => 0
  | p :: r => p.ps.length + tot r
def chp : Nat → List Po → List (List Po)
  | 0, _ => []
  | m + 1, l => l.take 16 :: chp m (l.drop 16)
def nbp (n : Nat) : Nat := (n + 15) / 16
def skb : Int → List (List Po) → List Int
  | _, [] => []
  | b, F :: R => (uvb (lastd b F - 1 - b).toNat ++ uvb (blk b F).length) ++ skb (lastd b F) R
def bkb : Int → List (List Po) → List Int
  | _, [] => []
  | b, F :: R => blk b F ++ bkb (lastd b F) R
/-- The bytes of a list of postings. -/
def img (L : List Po) : List Int := (uvb L.length ++ uvb (tot L)) ++ (skb (-1) (chp (nbp L.length) L) ++ bkb (-1) (chp (nbp L.length) L))
structure Gd1 (b : Int) (p : Po) : Prop where
  lo : 0 ≤ p.d
  hi : p.d ≤ 2147483646
  up : b < p.d
  ne : p.ps ≠ []
  ri : Ris p.ps 0
def gdl : Int → List Po → Prop
  | _, [] => True
  | b, p :: r => Gd1 b p ∧ gdl p.d r
def lasB : Int → List (List Po) → Int
  | b, [] => b
  | b, F :: R => lasB (lastd b F) R

theorem lastd_append : ∀ (F R : List Po) (b : Int), lastd b (F ++ R) = lastd (lastd b F) R
  | [], _, _ => rfl
  | p :: F, R, b => by rw [List.cons_append, lastd, lastd_append F R, lastd]
theorem gps_append : ∀ (F R : List Po) (b : Int), gps b (F ++ R) = gps b F ++ gps (lastd b F) R
  | [], _, _ => rfl
  | p :: F, R, b => by rw [List.cons_append, gps, gps_append F R, gps, lastd, List.cons_append]
theorem gdl_append : ∀ (F R : List Po) (b : Int), gdl b (F ++ R) ↔ gdl b F ∧ gdl (lastd b F) R
  | [], R, b => by simp [gdl, lastd]
  | p :: F, R, b => by rw [List.cons_append, gdl, gdl_append F R, gdl, lastd, and_assoc]
theorem gps_length : ∀ (F : List Po) (b : Int), (gps b F).length = F.length
  | [], _ => rfl
  | p :: F, b => by rw [gps, List.length_cons, List.length_cons, gps_length F]
theorem mos_length (F : List Po) : (mos F).length = F.length := by simp [mos]
theorem tot_append : ∀ (F R : List Po), tot (F ++ R) = tot F + tot R
  | [], R => by simp [tot]
  | p :: F, R => by rw [List.cons_append, tot, tot_append F R, tot]; omega
theorem gdl_last : ∀ (F : List Po) (b : Int), gdl b F → b ≤ lastd b F ∧ (F ≠ [] → b < lastd b F ∧ lastd b F ≤ 2147483646)
  | [], b, _ => ⟨Int.le_refl _, fun h => absurd rfl h⟩
  | p :: F, b, h => by
    obtain ⟨h1, h2⟩ := h
    have := gdl_last F p.d h2
    have u := h1.up
    have v := h1.hi
    rw [lastd]
    refine ⟨by omega, fun _ => ⟨by omega, ?_⟩⟩
    by_cases hF : F = []
    · subst hF; exact v
    · exact (this.2 hF).2
theorem chp_snoc : ∀ (m : Nat) (l : List Po), chp (m + 1) l = chp m l ++ [(l.drop (16 * m)).take 16]
  | 0, l => by simp [chp]
  | m + 1, l => by
    rw [chp, chp_snoc m, chp, List.cons_append, List.drop_drop]
    congr 4
    congr 1
    omega
theorem skb_snoc : ∀ (B : List (List Po)) (F : List Po) (b : Int), skb b (B ++ [F]) = skb b B ++ (uvb (lastd (lasB b B) F - 1 - lasB b B).toNat ++ uvb (blk (lasB b B) F).length)
  | [], F, b => by simp [skb, lasB]
  | G :: B, F, b => by rw [List.cons_append, skb, skb_snoc B, skb, lasB]; simp only [List.append_assoc]
theorem bkb_snoc : ∀ (B : List (List Po)) (F : List Po) (b : Int), bkb b (B ++ [F]) = bkb b B ++ blk (lasB b B) F
  | [], F, b => by simp [bkb, lasB]
  | G :: B, F, b => by rw [List.cons_append, bkb, bkb_snoc B, bkb, lasB, List.append_assoc]
theorem lasB_chp : ∀ (m : Nat) (l : List Po) (b : Int), lasB b (chp m l) = lastd b (l.take (16 * m))
  | 0, l, b => by simp [chp, lasB, lastd]
  | m + 1, l, b => by
    rw [chp, lasB, lasB_chp m, ← lastd_append]
    congr 1
    rw [show 16 * (m + 1) = 16 + 16 * m by omega, List.take_add]

/-- A number that is read: most at the most. -/
def upn (most : Int) (l : List Int) (p : Nat) : Option (Nat × Nat) := match rdu 0 0 (l.drop p) with
  | .error _ => none
  | .ok (x, k) => if (x : Int) ≤ most then some (x, p + k) else none
def pkn (most : Int) (l : List Int) (p : Nat) : Option (List Int × Nat) := match upn most l p with
  | none => none
  | some (n, q) => match rdp n (l.drop q) with
    | .error _ => none
    | .ok (xs, m) => some (xs, q + m)
def dcs (last : Int) : Int → List Int → Option (List Int)
  | b, [] => if b = last then some [] else none
  | b, g :: r => if g ≤ last - 1 - b then (match dcs last (b + (g + 1)) r with
      | none => none
      | some D => some ((b + (g + 1)) :: D)) else none
def rps (l : List Int) (m p : Nat) : Option (List Int × Nat) := if l.length - p ≤ m then none else match rdr (m + 1) 0 (l.drop p) with
  | .error _ => none
  | .ok (xs, k) => some (xs, p + k)
def rpl (l : List Int) : List Int → List Int → Nat → Option (List Po × Nat)
  | [], _, p => some ([], p)
  | _ :: _, [], _ => none
  | d :: D, m :: M, p => match rps l m.toNat p with
    | none => none
    | some (xs, q) => match rpl l D M q with
      | none => none
      | some (F, r) => some (⟨d, xs⟩ :: F, r)
/-- A block behind the document b, of n documents the last of which is last. -/
def rbk (l : List Int) (b last : Int) (n : Nat) : Option (List Po) := match pkn n l 0 with
  | none => none
  | some (G, q) => if G.length = n then (match dcs last b G with
    | none => none
    | some D => match pkn n l q with
      | none => none
      | some (M, q2) => if M.length = n then (match rpl l D M q2 with
        | none => none
        | some (F, r) => if r = l.length then some F else none) else none) else none
structure Sk where
  last : Int
  n : Nat
  z : Nat
def rsk (l : List Int) : Nat → Nat → Int → Nat → Option (List Sk × Nat)
  | 0, _, _, p => some ([], p)
  | m + 1, left, b, p => match upn (2147483645 - b) l p with
    | none => none
    | some (g, q) => match upn ((l.length - q : Nat) : Int) l q with
      | none => none
      | some (z, r) => match rsk l m (left - 16) (b + 1 + g) r with
        | none => none
        | some (S, t) => some (⟨b + 1 + g, min left 16, z⟩ :: S, t)
def szs : List Sk → Nat
  | [] => 0
  | s :: S => s.z + szs S
def ral (l : List Int) : List Sk → Int → Nat → Option (List Po)
  | [], _, _ => some []
  | s :: S, b, p => match rbk ((l.drop p).take s.z) b s.last s.n with
    | none => none
    | some F => match ral l S s.last (p + s.z) with
      | none => none
      | some R => some (F ++ R)
structure Hd where
  n : Nat
  t : Nat
  S : List Sk
  p : Nat
/-- What the head tells. -/
def hdr (l : List Int) : Option Hd := match upn l.length l 0 with
  | none => none
  | some (n, q) => match upn ((l.length - q : Nat) : Int) l q with
    | none => none
    | some (t, r) => match rsk l (nbp n) n (-1) r with
      | none => none
      | some (S, p) => if szs S = l.length - p then some ⟨n, t, S, p⟩ else none
/-- What the bytes are the postings of. -/
def opn (l : List Int) : Option (List Po) := match hdr l with
  | none => none
  | some h => match ral l h.S (-1) h.p with
    | none => none
    | some L => if tot L = h.t then some L else none

theorem isb_drop {l : List Int} (h : IsBytes l) (p : Nat) : IsBytes (l.drop p) := fun x hx => h x (List.mem_of_mem_drop hx)
theorem isb_take {l : List Int} (h : IsBytes l) (p : Nat) : IsBytes (l.take p) := fun x hx => h x (List.mem_of_mem_take hx)
theorem drop_next {l X R : List Int} {p : Nat} (h : l.drop p = X ++ R) : l.drop (p + X.length) = R := by
  rw [← List.drop_drop, h, List.drop_left]
theorem uvb_pos (n : Nat) : 1 ≤ (uvb n).length := by
  by_cases h : n < 128
  · rw [uvb_small h]; simp
  · rw [uvb_big h]; simp
theorem risb_geP : ∀ (l : List Int) (s : Nat), l.length ≤ (risb l s).length
  | [], _ => Nat.zero_le _
  | x :: r, s => by
    have h := risb_geP r (x.toNat + 1)
    have h2 := uvb_pos (x.toNat - s)
    have e : risb (x :: r) s = uvb (x.toNat - s) ++ risb r (x.toNat + 1) := rfl
    rw [e, List.length_append, List.length_cons]
    omega
theorem upn_back {m : Int} {l : List Int} {p x q : Nat} (hI : IsBytes l) (h : upn m l p = some (x, q)) : p < q ∧ q ≤ l.length ∧ (x : Int) ≤ m ∧ l.drop p = uvb x ++ l.drop q := by
  unfold upn at h
  split at h
  · cases h
  · rename_i x' k hr
    split at h
    · rename_i hx
      injection h with h
      injection h with h1 h2
      subst h1 h2
      have h3 := rdu_le _ _ _ _ _ hr
      rw [List.length_drop] at h3
      have h4 := rdu_form (isb_drop hI p) hr
      refine ⟨by omega, by omega, hx, ?_⟩
      rw [← h4, ← List.drop_drop, List.take_append_drop]
    · cases h
theorem upn_put {m : Int} {l R : List Int} {p x : Nat} (h : l.drop p = uvb x ++ R) (hm : (x : Int) ≤ m) (hx : x < 18446744073709551616) : upn m l p = some (x, p + (uvb x).length) := by
  unfold upn
  rw [h, rdu_uvb x R hx]
  simp [hm]
theorem pkn_back {m : Int} {l xs : List Int} {p q : Nat} (hI : IsBytes l) (h : pkn m l p = some (xs, q)) : p < q ∧ q ≤ l.length ∧ IsInts xs ∧ (∀ x ∈ xs, 0 ≤ x) ∧ l.drop p = packed xs ++ l.drop q := by
  unfold pkn at h
  split at h
  · cases h
  · rename_i n q' hu
    obtain ⟨h1, h2, h3, h4⟩ := upn_back hI hu
    split at h
    · cases h
    · rename_i ys k hr
      injection h with h
      injection h with e1 e2
      subst e1 e2
      obtain ⟨f1, f2, f3, _, f5, f6⟩ := rdp_form (isb_drop hI q') hr
      rw [List.length_drop] at f6
      refine ⟨by omega, by omega, f2, f3, ?_⟩
      rw [packed_eq, f1, h4, List.append_assoc, ← f5, ← List.drop_drop, List.take_append_drop]
theorem pkn_put {m : Int} {l xs R : List Int} {p : Nat} (h : l.drop p = packed xs ++ R) (hI : IsInts xs) (h0 : ∀ x ∈ xs, 0 ≤ x) (hs : xs.length ≤ 16) (hm : (xs.length : Int) ≤ m) : pkn m l p = some (xs, p + (packed xs).length) := by
  rw [packed_eq, List.append_assoc] at h
  unfold pkn
  rw [upn_put h hm (by omega)]
  simp only
  rw [drop_next h, rdp_back xs R hI h0 (by rintro ⟨_, h⟩; omega), packed_eq, List.length_append]
  simp [Nat.add_assoc]
/-- The documents rise from b on. -/
def upd : Int → List Po → Prop
  | _, [] => True
  | b, p :: r => b < p.d ∧ upd p.d r
theorem dcs_back {last : Int} : ∀ {G : List Int} {b : Int} {D : List Int}, dcs last b G = some D → (∀ g ∈ G, 0 ≤ g) → ∀ F : List Po, F.map (·.d) = D → gps b F = G ∧ lastd b F = last ∧ upd b F ∧ (∀ p ∈ F, p.d ≤ last)
  | [], b, D, h, _, F, hF => by
    rw [dcs] at h
    split at h
    · injection h with h
      subst h
      rw [List.map_eq_nil_iff] at hF
      subst hF
      exact ⟨rfl, by assumption, trivial, fun _ hx => nomatch hx⟩
    · cases h
  | g :: r, b, D, h, h0, F, hF => by
    rw [dcs] at h
    split at h
    · rename_i hg
      split at h
      · cases h
      · rename_i D' hD
        injection h with h
        subst h
        cases F with
        | nil => simp at hF
        | cons p F =>
          rw [List.map_cons] at hF
          injection hF with e1 e2
          have g0 := h0 g (List.mem_cons_self ..)
          obtain ⟨i1, i2, i3, i4⟩ := dcs_back hD (fun x hx => h0 x (List.mem_cons_of_mem _ hx)) F e2
          rw [← e1] at i1 i2 i3
          refine ⟨?_, by rw [lastd]; exact i2, ⟨by omega, i3⟩, ?_⟩
          · rw [gps, i1]
            congr 1
            omega
          · intro x hx
            rcases List.mem_cons.1 hx with rfl | hx
            · omega
            · exact i4 x hx
    · cases h
theorem dcs_put : ∀ {F : List Po} {b : Int}, upd b F → dcs (lastd b F) b (gps b F) = some (F.map (·.d))
  | [], b, _ => by simp [gps, dcs, lastd]
  | p :: F, b, h => by
    have hl : ∀ (F : List Po) (c : Int), upd c F → c ≤ lastd c F := by
      intro F
      induction F with
      | nil => intro c _; exact Int.le_refl _
      | cons q F ih => intro c h; have := ih _ h.2; have := h.1; rw [lastd]; omega
    have h3 := hl F p.d h.2
    have hi := dcs_put h.2
    rw [gps, dcs, lastd, if_pos (by omega), show b + (p.d - 1 - b + 1) = p.d by omega, hi]
    rfl
theorem upd_of : ∀ {F : List Po} {b : Int}, gdl b F → upd b F
  | [], _, _ => trivial
  | _ :: _, _, h => ⟨h.1.up, upd_of h.2⟩
theorem psb_cons (p : Po) (F : List Po) : psb (p :: F) = risb p.ps 0 ++ psb F := by simp [psb]
theorem psb_append (F R : List Po) : psb (F ++ R) = psb F ++ psb R := by simp [psb]
theorem mos_append (F R : List Po) : mos (F ++ R) = mos F ++ mos R := by simp [mos]
theorem rpl_back {l : List Int} (hI : IsBytes l) : ∀ {D M : List Int} {p q : Nat} {F : List Po}, rpl l D M p = some (F, q) → p ≤ l.length → D.length = M.length → (∀ m ∈ M, 0 ≤ m) → F.map (·.d) = D ∧ mos F = M ∧ q ≤ l.length ∧ l.drop p = psb F ++ l.drop q ∧ (∀ x ∈ F, x.ps ≠ [] ∧ Ris x.ps 0)
  | [], M, p, q, F, h, hp, hl, h0 => by
    rw [rpl] at h
    injection h with h
    injection h with e1 e2
    subst e1 e2
    cases M with
    | nil => exact ⟨rfl, rfl, hp, by simp [psb], fun _ hx => nomatch hx⟩
    | cons a b => simp at hl
  | d :: D, [], p, q, F, h, hp, hl, h0 => by simp at hl
  | d :: D, m :: M, p, q, F, h, hp, hl, h0 => by
    rw [rpl] at h
    split at h
    · cases h
    · rename_i xs r hr
      split at h
      · cases h
      · rename_i F' t hF
        injection h with h
        injection h with e1 e2
        subst e1 e2
        have m0 := h0 m (List.mem_cons_self ..)
        unfold rps at hr
        split at hr
        · cases hr
        · split at hr
          · cases hr
          · rename_i ys k hy
            injection hr with hr
            injection hr with e1 e2
            subst e1 e2
            obtain ⟨y1, y2, y3, y4⟩ := rdr_form _ _ _ _ _ (isb_drop hI p) hy
            rw [List.length_drop] at y4
            obtain ⟨i1, i2, i3, i4, i5⟩ := rpl_back hI hF (by omega) (by simpa using hl) (fun x hx => h0 x (List.mem_cons_of_mem _ hx))
            refine ⟨by rw [List.map_cons, i1], ?_, i3, ?_, ?_⟩
            · unfold mos at i2 ⊢
              rw [List.map_cons, i2]
              congr 1
              simp only
              omega
            · rw [psb_cons, List.append_assoc, ← i4, ← y3, ← List.drop_drop, List.take_append_drop]
            · intro x hx
              rcases List.mem_cons.1 hx with rfl | hx
              · refine ⟨?_, y2⟩
                intro e
                simp only at e
                rw [e] at y1
                simp at y1
              · exact i5 x hx
theorem gdl_of : ∀ {F : List Po} {b last : Int}, -1 ≤ b → upd b F → (∀ p ∈ F, p.d ≤ last) → last ≤ 2147483646 → (∀ x ∈ F, x.ps ≠ [] ∧ Ris x.ps 0) → gdl b F
  | [], _, _, _, _, _, _, _ => trivial
  | p :: F, b, last, hb, hu, hd, hl, hp => by
    have h1 := hd p (List.mem_cons_self ..)
    have h2 := hp p (List.mem_cons_self ..)
    have h3 := hu.1
    exact ⟨⟨by omega, by omega, h3, h2.1, h2.2⟩, gdl_of (by omega) hu.2 (fun x hx => hd x (List.mem_cons_of_mem _ hx)) hl (fun x hx => hp x (List.mem_cons_of_mem _ hx))⟩
theorem rbk_back {l : List Int} {b last : Int} {n : Nat} {F : List Po} (hI : IsBytes l) (h : rbk l b last n = some F) (hb : -1 ≤ b) (hl : last ≤ 2147483646) : l = blk b F ∧ gdl b F ∧ F.length = n ∧ lastd b F = last := by
  unfold rbk at h
  split at h
  · cases h
  · rename_i G q hG
    split at h
    · rename_i hGn
      split at h
      · cases h
      · rename_i D hD
        split at h
        · cases h
        · rename_i M q2 hM
          split at h
          · rename_i hMn
            split at h
            · cases h
            · rename_i F' r hF
              split at h
              · rename_i hr
                injection h with h
                subst h
                obtain ⟨a1, a2, a3, a4, a5⟩ := pkn_back hI hG
                obtain ⟨b1, b2, b3, b4, b5⟩ := pkn_back hI hM
                have hDl : D.length = G.length := by
                  have : ∀ (G : List Int) (b : Int) (D : List Int), dcs last b G = some D → D.length = G.length := by
                    intro G
                    induction G with
                    | nil => intro b D h; rw [dcs] at h; split at h <;> first | (injection h with h; subst h; rfl) | cases h
                    | cons g G ih =>
                      intro b D h
                      rw [dcs] at h
                      split at h
                      · split at h
                        · cases h
                        · rename_i D' hD'
                          injection h with h
                          subst h
                          simp [ih _ _ hD']
                      · cases h
                  exact this _ _ _ hD
                obtain ⟨c1, c2, c3, c4, c5⟩ := rpl_back hI hF b2 (by omega) b4
                obtain ⟨d1, d2, d3, d4⟩ := dcs_back hD a4 F' c1
                refine ⟨?_, gdl_of hb d3 d4 hl c5, ?_, d2⟩
                · rw [blk, d1, c2]
                  rw [List.drop_zero] at a5
                  rw [a5, List.append_assoc]
                  congr 1
                  rw [b5, c4, hr, List.drop_length, List.append_nil]
                · rw [← hMn, ← c2, mos_length]
              · cases h
          · cases h
    · cases h
theorem rpl_put {l : List Int} : ∀ {F : List Po} {p : Nat} {R : List Int}, (∀ x ∈ F, x.ps ≠ [] ∧ Ris x.ps 0) → p ≤ l.length → l.drop p = psb F ++ R → rpl l (F.map (·.d)) (mos F) p = some (F, p + (psb F).length)
  | [], p, R, _, _, _ => by simp [mos, rpl, psb]
  | x :: F, p, R, h, hp, hl => by
    have h1 := h x (List.mem_cons_self ..)
    have hx : x.ps.length ≠ 0 := fun e => h1.1 (List.eq_nil_of_length_eq_zero e)
    rw [psb_cons, List.append_assoc] at hl
    have hg := risb_geP x.ps 0
    have hle := congrArg List.length hl
    rw [List.length_drop, List.length_append] at hle
    have e : mos (x :: F) = ((x.ps.length : Int) - 1) :: mos F := by simp [mos]
    have e2 : ((x.ps.length : Int) - 1).toNat + 1 = x.ps.length := by omega
    have hr : rps l ((x.ps.length : Int) - 1).toNat p = some (x.ps, p + (risb x.ps 0).length) := by
      unfold rps
      rw [if_neg (by omega), e2, hl, rdr_back _ _ _ h1.2]
    rw [e, List.map_cons, rpl, hr]
    simp only
    rw [rpl_put (fun y hy => h y (List.mem_cons_of_mem _ hy)) (by omega) (drop_next hl)]
    simp [psb_cons, Nat.add_assoc]
theorem gps_ints : ∀ {F : List Po} {b : Int}, gdl b F → -1 ≤ b → ∀ x ∈ gps b F, 0 ≤ x ∧ x ≤ 2147483646
  | [], _, _, _, x, hx => nomatch hx
  | p :: F, b, h, hb, x, hx => by
    have u := h.1.up
    have v := h.1.hi
    have z := h.1.lo
    rcases List.mem_cons.1 hx with rfl | hx
    · omega
    · exact gps_ints h.2 (by omega) x hx
theorem gdl_pos : ∀ {F : List Po} {b : Int}, gdl b F → ∀ x ∈ F, x.ps ≠ [] ∧ Ris x.ps 0
  | [], _, _, x, hx => nomatch hx
  | p :: F, b, h, x, hx => by
    rcases List.mem_cons.1 hx with rfl | hx
    · exact ⟨h.1.ne, h.1.ri⟩
    · exact gdl_pos h.2 x hx
theorem mos_ints {F : List Po} (h : ∀ x ∈ F, x.ps ≠ [] ∧ Ris x.ps 0) (hs : ∀ x ∈ F, x.ps.length ≤ 9223372036854775807) : ∀ x ∈ mos F, 0 ≤ x ∧ x ≤ 9223372036854775807 := by
  intro x hx
  unfold mos at hx
  rw [List.mem_map] at hx
  obtain ⟨p, hp, rfl⟩ := hx
  have h1 := (h p hp).1
  have h3 := hs p hp
  have h2 : p.ps.length ≠ 0 := fun e => h1 (List.eq_nil_of_length_eq_zero e)
  omega
theorem ris_small : ∀ {l : List Int} {s : Nat}, Ris l s → s ≤ 9223372036854775808 → l.length + s ≤ 9223372036854775808
  | [], s, _, hs => by simpa using hs
  | x :: r, s, h, hs => by
    obtain ⟨h1, h2, h3⟩ := h
    have := ris_small h3 (by omega)
    rw [List.length_cons]
    omega
theorem mos_intsG {F : List Po} {b : Int} (h : gdl b F) : ∀ x ∈ mos F, 0 ≤ x ∧ x ≤ 9223372036854775807 := by
  intro x hx
  unfold mos at hx
  rw [List.mem_map] at hx
  obtain ⟨p, hp, rfl⟩ := hx
  obtain ⟨h1, h4⟩ := gdl_pos h p hp
  have h3 := ris_small h4 (by omega)
  have h2 : p.ps.length ≠ 0 := fun e => h1 (List.eq_nil_of_length_eq_zero e)
  omega
theorem rbk_put {b : Int} {F : List Po} (h : gdl b F) (hb : -1 ≤ b) (hn : F.length ≤ 16) : rbk (blk b F) b (lastd b F) F.length = some F := by
  have g1 := gps_ints h hb
  have m1 := mos_intsG h
  obtain ⟨l, hl⟩ : ∃ l, l = blk b F := ⟨_, rfl⟩
  have e0 : l.drop 0 = packed (gps b F) ++ (packed (mos F) ++ psb F) := by rw [List.drop_zero, hl, blk, List.append_assoc]
  have p1 := pkn_put (m := (F.length : Int)) e0 (fun x hx => by have := g1 x hx; omega) (fun x hx => (g1 x hx).1) (by rw [gps_length]; exact hn) (by rw [gps_length]; exact Int.le_refl _)
  have e1 := drop_next e0
  have p2 := pkn_put (m := (F.length : Int)) e1 (fun x hx => by have := m1 x hx; omega) (fun x hx => (m1 x hx).1) (by rw [mos_length]; exact hn) (by rw [mos_length]; exact Int.le_refl _)
  have e2 := drop_next e1
  have hL : l.length = (packed (gps b F)).length + (packed (mos F)).length + (psb F).length := by rw [hl, blk, List.length_append, List.length_append]
  have p3 := rpl_put (l := l) (F := F) (p := 0 + (packed (gps b F)).length + (packed (mos F)).length) (R := []) (gdl_pos h) (by omega) (by rw [List.append_nil]; exact e2)
  rw [← hl]
  unfold rbk
  rw [p1]
  simp only
  rw [if_pos (gps_length _ _), dcs_put (upd_of h)]
  simp only
  rw [p2]
  simp only
  rw [if_pos (mos_length _), p3]
  simp only
  rw [if_pos (by omega)]
end Go.Proofs.YtidgofpmnlddaaaGreatDoor
namespace Go.Proofs.YtidgofpmnlddaaaGreatDoor
open Go.ChangeShapes Go.WideShapes Go.ChangeAt Go.RowKit

/-- The skip entries of the blocks, their places left out. -/
def skl : Int → List (List Po) → List Sk
  | _, [] => []
  | b, F :: R => ⟨lastd b F, F.length, (blk b F).length⟩ :: skl (lastd b F) R
theorem szs_skl : ∀ (B : List (List Po)) (b : Int), szs (skl b B) = (bkb b B).length
  | [], _ => rfl
  | F :: B, b => by rw [skl, szs, szs_skl B, bkb, List.length_append]
theorem split16 {F R : List Po} {left : Nat} (hF : F.length = min left 16) (hR : R.length = left - 16) : (F ++ R).take 16 = F ∧ (F ++ R).drop 16 = R := by
  by_cases h : 16 ≤ left
  · have e : F.length = 16 := by omega
    exact ⟨by rw [← e, List.take_left], by rw [← e, List.drop_left]⟩
  · have e : R = [] := List.eq_nil_of_length_eq_zero (by omega)
    subst e
    rw [List.append_nil]
    exact ⟨List.take_of_length_le (by omega), List.drop_of_length_le (by omega)⟩
theorem both_back {l : List Int} (hI : IsBytes l) : ∀ {m left : Nat} {b : Int} {p q r : Nat} {S : List Sk} {L : List Po}, rsk l m left b p = some (S, q) → ral l S b r = some L → m = nbp left → -1 ≤ b → p ≤ l.length → r + szs S ≤ l.length →
    q ≤ l.length ∧ L.length = left ∧ gdl b L ∧ l.drop p = skb b (chp m L) ++ l.drop q ∧ (l.drop r).take (szs S) = bkb b (chp m L) ∧ S = skl b (chp m L)
  | 0, left, b, p, q, r, S, L, h, h2, hm, hb, hp, hr => by
    rw [rsk] at h
    injection h with h
    injection h with e1 e2
    subst e1 e2
    rw [ral] at h2
    injection h2 with h2
    subst h2
    unfold nbp at hm
    exact ⟨hp, by simp; omega, trivial, by simp [chp, skb], by simp [szs, chp, bkb], by simp [chp, skl]⟩
  | m + 1, left, b, p, q, r, S, L, h, h2, hm, hb, hp, hr => by
    rw [rsk] at h
    split at h
    · cases h
    · rename_i g q1 hu
      split at h
      · cases h
      · rename_i z q2 hz
        split at h
        · cases h
        · rename_i S' t hS
          injection h with h
          injection h with e1 e2
          subst e1 e2
          rw [ral] at h2
          simp only at h2
          split at h2
          · cases h2
          · rename_i F hF
            split at h2
            · cases h2
            · rename_i R hR
              injection h2 with h2
              subst h2
              obtain ⟨a1, a2, a3, a4⟩ := upn_back hI hu
              obtain ⟨b1, b2, b3, b4⟩ := upn_back hI hz
              rw [szs] at hr
              simp only at hr
              obtain ⟨c1, c2, c3, c4⟩ := rbk_back (isb_take (isb_drop hI r) z) hF hb (by omega)
              obtain ⟨i1, i2, i3, i4, i5, i6⟩ := both_back hI hS hR (by unfold nbp at hm ⊢; omega) (by omega) b2 (by omega)
              obtain ⟨s1, s2⟩ := split16 c3 i2
              have hz' : (blk b F).length = z := by rw [← c1, List.length_take, List.length_drop]; omega
              have hg : (lastd b F - 1 - b).toNat = g := by omega
              rw [chp, s1, s2, skb, bkb, skl, hz', hg, c4]
              refine ⟨i1, ?_, ?_, ?_, ?_, ?_⟩
              · rw [List.length_append]; unfold nbp at hm; omega
              · rw [gdl_append, c4]; exact ⟨c2, i3⟩
              · rw [a4, b4, i4]; simp [List.append_assoc]
              · rw [szs, List.take_add, List.drop_drop, i5, ← c1]
              · rw [i6, c3]
theorem opn_back {l : List Int} {L : List Po} (hI : IsBytes l) (h : opn l = some L) : l = img L ∧ gdl (-1) L ∧ ∃ p, hdr l = some ⟨L.length, tot L, skl (-1) (chp (nbp L.length) L), p⟩ ∧ p + (bkb (-1) (chp (nbp L.length) L)).length = l.length := by
  unfold opn at h
  split at h
  · cases h
  · rename_i hd hh
    split at h
    · cases h
    · rename_i L' hL
      split at h
      · rename_i ht
        injection h with h
        subst h
        have hh0 := hh
        unfold hdr at hh
        split at hh
        · cases hh
        · rename_i n q hn
          split at hh
          · cases hh
          · rename_i t r ht'
            split at hh
            · cases hh
            · rename_i S p hS
              split at hh
              · rename_i hz
                injection hh with hh
                subst hh
                simp only at hL ht
                obtain ⟨a1, a2, a3, a4⟩ := upn_back hI hn
                obtain ⟨b1, b2, b3, b4⟩ := upn_back hI ht'
                have hp : p ≤ l.length := by
                  have : ∀ (m left : Nat) (b : Int) (p q : Nat) (S : List Sk), rsk l m left b p = some (S, q) → p ≤ l.length → q ≤ l.length := by
                    intro m
                    induction m with
                    | zero => intro left b p q S h hp; rw [rsk] at h; injection h with h; injection h with e1 e2; subst e2; exact hp
                    | succ m ih =>
                      intro left b p q S h hp
                      rw [rsk] at h
                      split at h
                      · cases h
                      · rename_i hu
                        split at h
                        · cases h
                        · rename_i hv
                          split at h
                          · cases h
                          · rename_i hw
                            injection h with h
                            injection h with e1 e2
                            subst e2
                            exact ih _ _ _ _ _ hw (upn_back hI hv).2.1
                  exact this _ _ _ _ _ _ hS b2
                obtain ⟨c1, c2, c3, c4, c5, c6⟩ := both_back hI hS hL rfl (by omega) b2 (by omega)
                refine ⟨?_, c3, p, ?_, ?_⟩
                · rw [hz, List.take_of_length_le (by rw [List.length_drop]; exact Nat.le_refl _)] at c5
                  unfold img
                  rw [List.drop_zero] at a4
                  rw [c2, ← c5, ht, ← c4, List.append_assoc, ← b4, ← a4]
                · rw [hh0, c2, ht]
                  congr 2
                · rw [← szs_skl, c2, ← c6]; omega
              · cases hh
      · cases h
theorem tot_psb : ∀ (F : List Po), tot F ≤ (psb F).length
  | [] => Nat.zero_le _
  | p :: F => by
    have := tot_psb F
    have := risb_geP p.ps 0
    rw [tot, psb_cons, List.length_append]
    omega
theorem tot_blk (F : List Po) (b : Int) : tot F ≤ (blk b F).length := by
  have := tot_psb F
  rw [blk, List.length_append]
  omega
theorem len_tot : ∀ {F : List Po} {b : Int}, gdl b F → F.length ≤ tot F
  | [], _, _ => Nat.zero_le _
  | p :: F, b, h => by
    have := len_tot h.2
    have h2 : p.ps.length ≠ 0 := fun e => h.1.ne (List.eq_nil_of_length_eq_zero e)
    rw [tot, List.length_cons]
    omega
theorem tot_bkb : ∀ {m : Nat} {L : List Po} {b : Int}, m = nbp L.length → tot L ≤ (bkb b (chp m L)).length
  | 0, L, b, h => by
    have e : L = [] := List.eq_nil_of_length_eq_zero (by unfold nbp at h; omega)
    subst e
    exact Nat.zero_le _
  | m + 1, L, b, h => by
    have := tot_bkb (m := m) (L := L.drop 16) (b := lastd b (L.take 16)) (by rw [List.length_drop]; unfold nbp at h ⊢; omega)
    have h2 := tot_blk (L.take 16) b
    have h3 := tot_append (L.take 16) (L.drop 16)
    rw [List.take_append_drop] at h3
    rw [chp, bkb, List.length_append]
    omega
theorem gdl_split {L : List Po} {b : Int} (h : gdl b L) : gdl b (L.take 16) ∧ gdl (lastd b (L.take 16)) (L.drop 16) := by
  rw [← gdl_append, List.take_append_drop]
  exact h
theorem rsk_put {l : List Int} (hl : l.length < 9223372036854775808) : ∀ {m : Nat} {L : List Po} {b : Int} {p : Nat} {R : List Int}, m = nbp L.length → gdl b L → -1 ≤ b → (bkb b (chp m L)).length ≤ R.length → l.drop p = skb b (chp m L) ++ R →
    rsk l m L.length b p = some (skl b (chp m L), p + (skb b (chp m L)).length)
  | 0, L, b, p, R, hm, hg, hb, hR, h => by simp [rsk, chp, skl, skb]
  | m + 1, L, b, p, R, hm, hg, hb, hR, h => by
    obtain ⟨g1, g2⟩ := gdl_split hg
    obtain ⟨F, hF⟩ : ∃ F, F = L.take 16 := ⟨_, rfl⟩
    obtain ⟨L', hL'⟩ : ∃ L', L' = L.drop 16 := ⟨_, rfl⟩
    have n1 : F.length = min L.length 16 := by rw [hF, List.length_take, Nat.min_comm]
    have n2 : L'.length = L.length - 16 := by rw [hL', List.length_drop]
    rw [chp, bkb, ← hF, ← hL', List.length_append] at hR
    rw [chp, skb, ← hF, ← hL'] at h
    rw [← hF] at g1
    rw [← hF, ← hL'] at g2
    rw [chp, skl, skb, ← hF, ← hL']
    have hne : F ≠ [] := by
      intro e
      rw [e] at n1
      unfold nbp at hm
      simp at n1
      omega
    obtain ⟨q0, q3⟩ := gdl_last F b g1
    obtain ⟨q1, q2⟩ := q3 hne
    obtain ⟨g, hgq⟩ : ∃ g, g = (lastd b F - 1 - b).toNat := ⟨_, rfl⟩
    obtain ⟨z, hz⟩ : ∃ z, z = (blk b F).length := ⟨_, rfl⟩
    rw [← hgq, ← hz] at h ⊢
    rw [← hz] at hR
    rw [List.append_assoc, List.append_assoc] at h
    have u1 := upn_put (m := 2147483645 - b) h (by omega) (by omega)
    have e1 := drop_next h
    have k1 := congrArg List.length e1
    rw [List.length_drop, List.length_append, List.length_append] at k1
    have u2 := upn_put (m := ((l.length - (p + (uvb g).length) : Nat) : Int)) e1 (by omega) (by omega)
    have e2 := drop_next e1
    have i := rsk_put hl (m := m) (L := L') (by rw [n2]; unfold nbp at hm ⊢; omega) g2 (by omega) (by omega) e2
    rw [rsk, u1]
    simp only
    rw [u2]
    simp only
    rw [← n2, show b + 1 + (g : Int) = lastd b F by omega, i]
    simp only [Option.some.injEq, Prod.mk.injEq, List.cons.injEq, Sk.mk.injEq, and_true, true_and]
    refine ⟨n1.symm, ?_⟩
    rw [List.length_append, List.length_append]
    omega
theorem ral_put {l : List Int} : ∀ {m : Nat} {L : List Po} {b : Int} {r : Nat} {R : List Int}, m = nbp L.length → gdl b L → -1 ≤ b → l.drop r = bkb b (chp m L) ++ R → ral l (skl b (chp m L)) b r = some L
  | 0, L, b, r, R, hm, hg, hb, h => by
    have e : L = [] := List.eq_nil_of_length_eq_zero (by unfold nbp at hm; omega)
    subst e
    simp [chp, skl, ral]
  | m + 1, L, b, r, R, hm, hg, hb, h => by
    obtain ⟨g1, g2⟩ := gdl_split hg
    obtain ⟨F, hF⟩ : ∃ F, F = L.take 16 := ⟨_, rfl⟩
    obtain ⟨L', hL'⟩ : ∃ L', L' = L.drop 16 := ⟨_, rfl⟩
    have n1 : F.length = min L.length 16 := by rw [hF, List.length_take, Nat.min_comm]
    have n2 : L'.length = L.length - 16 := by rw [hL', List.length_drop]
    rw [chp, bkb, ← hF, ← hL', List.append_assoc] at h
    rw [← hF] at g1
    rw [← hF, ← hL'] at g2
    rw [chp, skl, ← hF, ← hL', ral]
    simp only
    have q0 := gdl_last F b g1
    rw [h, List.take_left, rbk_put g1 hb (by omega)]
    simp only
    rw [ral_put (m := m) (L := L') (by rw [n2]; unfold nbp at hm ⊢; omega) g2 (by omega) (drop_next h)]
    simp only
    rw [hF, hL', List.take_append_drop]
theorem hdr_put {L : List Po} {R : List Int} (hg : gdl (-1) L) (hl : (img L ++ R).length < 9223372036854775808) :
    hdr (img L ++ R) = if R.length = 0 then some ⟨L.length, tot L, skl (-1) (chp (nbp L.length) L), ((uvb L.length ++ uvb (tot L)) ++ skb (-1) (chp (nbp L.length) L)).length⟩ else none := by
  obtain ⟨l, hL⟩ : ∃ l, l = img L ++ R := ⟨_, rfl⟩
  rw [← hL] at hl ⊢
  obtain ⟨B, hB⟩ : ∃ B, B = chp (nbp L.length) L := ⟨_, rfl⟩
  have t1 := tot_bkb (L := L) (b := -1) rfl
  have t2 := len_tot hg
  rw [← hB] at t1 ⊢
  have e0 : l.drop 0 = uvb L.length ++ (uvb (tot L) ++ (skb (-1) B ++ (bkb (-1) B ++ R))) := by rw [List.drop_zero, hL, img, ← hB]; simp [List.append_assoc]
  have k0 := congrArg List.length e0
  rw [List.length_drop, List.length_append, List.length_append, List.length_append, List.length_append] at k0
  have u1 := upn_put (m := (l.length : Int)) e0 (by omega) (by omega)
  have e1 := drop_next e0
  have u2 := upn_put (m := ((l.length - (0 + (uvb L.length).length) : Nat) : Int)) e1 (by omega) (by omega)
  have e2 := drop_next e1
  have u3 := rsk_put hl (L := L) (b := -1) (R := bkb (-1) B ++ R) rfl hg (by omega) (by rw [← hB, List.length_append]; omega) (by rw [← hB]; exact e2)
  rw [← hB] at u3
  unfold hdr
  rw [u1]
  simp only
  rw [u2]
  simp only
  rw [u3]
  simp only
  rw [szs_skl]
  have e3 : (0 + (uvb L.length).length + (uvb (tot L)).length + (skb (-1) B).length) = ((uvb L.length ++ uvb (tot L)) ++ skb (-1) B).length := by rw [List.length_append, List.length_append]; omega
  rw [e3]
  have e4 : ((uvb L.length ++ uvb (tot L)) ++ skb (-1) B).length = (uvb L.length).length + (uvb (tot L)).length + (skb (-1) B).length := by rw [List.length_append, List.length_append]
  by_cases h : R.length = 0
  · rw [if_pos h, if_pos (by omega)]
  · rw [if_neg h, if_neg (by omega)]
theorem opn_put {L : List Po} (hg : gdl (-1) L) (hl : (img L).length < 9223372036854775808) : opn (img L) = some L := by
  have h := hdr_put (R := []) hg (by rw [List.append_nil]; exact hl)
  rw [List.append_nil, if_pos List.length_nil] at h
  unfold opn
  rw [h]
  simp only
  have e : (img L).drop ((uvb L.length ++ uvb (tot L)) ++ skb (-1) (chp (nbp L.length) L)).length = bkb (-1) (chp (nbp L.length) L) ++ [] := by
    rw [img, ← List.append_assoc, List.drop_left, List.append_nil]
  rw [ral_put rfl hg (by omega) e]
  simp
theorem opn_more {L : List Po} {R : List Int} (hg : gdl (-1) L) (hR : R ≠ []) (hl : (img L ++ R).length < 9223372036854775808) : opn (img L ++ R) = none := by
  have h := hdr_put hg hl
  rw [if_neg (fun e => hR (List.eq_nil_of_length_eq_zero e))] at h
  unfold opn
  rw [h]
theorem opn_less {L : List Po} {c : Nat} (hI : IsBytes (img L)) (hg : gdl (-1) L) (hc : c < (img L).length) (hl : (img L).length < 9223372036854775808) : opn ((img L).take c) = none := by
  cases h : opn ((img L).take c) with
  | none => rfl
  | some M =>
    exfalso
    obtain ⟨h1, h2, _⟩ := opn_back (isb_take hI c) h
    have h3 : img L = img M ++ (img L).drop c := by rw [← h1, List.take_append_drop]
    have h4 := opn_more (R := (img L).drop c) h2 (fun e => by have := congrArg List.length e; rw [List.length_drop] at this; simp at this; omega) (by rw [← h3]; exact hl)
    rw [← h3, opn_put hg hl] at h4
    cases h4
theorem uvb_bytesP : ∀ n, IsBytes (uvb n) := by
  intro n
  induction n using Nat.strongRecOn with
  | ind n ih =>
    by_cases h : n < 128
    · rw [uvb_small h]
      intro x hx
      rw [List.mem_singleton] at hx
      omega
    · rw [uvb_big h]
      intro x hx
      rcases List.mem_cons.1 hx with rfl | hx
      · omega
      · exact ih _ (by omega) x hx
theorem isb_appP {a b : List Int} (h : IsBytes a) (k : IsBytes b) : IsBytes (a ++ b) := fun x hx => (List.mem_append.1 hx).elim (h x) (k x)
theorem risb_bytesP : ∀ (l : List Int) (s : Nat), IsBytes (risb l s)
  | [], _ => fun _ hx => nomatch hx
  | _ :: r, _ => isb_appP (uvb_bytesP _) (risb_bytesP r _)
theorem packed_bytesP {l : List Int} (hI : IsInts l) (h0 : ∀ x ∈ l, 0 ≤ x) : IsBytes (packed l) := by
  rw [packed_eq]
  refine isb_appP (uvb_bytesP _) ?_
  unfold pbody
  split
  · exact fun _ hx => nomatch hx
  · have := orl_bits l h0 hI
    intro x hx
    rcases List.mem_cons.1 hx with rfl | hx
    · omega
    · exact le_bytes _ _ x hx
theorem psb_bytesP : ∀ F : List Po, IsBytes (psb F)
  | [] => fun _ hx => nomatch hx
  | p :: F => by rw [psb_cons]; exact isb_appP (risb_bytesP _ _) (psb_bytesP F)
theorem blk_bytesP {F : List Po} {b : Int} (hg : gdl b F) (hb : -1 ≤ b) : IsBytes (blk b F) := by
  have g1 := gps_ints hg hb
  have m1 := mos_intsG hg
  exact isb_appP (isb_appP (packed_bytesP (fun x hx => by have := g1 x hx; omega) (fun x hx => (g1 x hx).1)) (packed_bytesP (fun x hx => by have := m1 x hx; omega) (fun x hx => (m1 x hx).1))) (psb_bytesP F)
theorem skb_bytesP : ∀ (B : List (List Po)) (b : Int), IsBytes (skb b B)
  | [], _ => fun _ hx => nomatch hx
  | _ :: B, _ => isb_appP (isb_appP (uvb_bytesP _) (uvb_bytesP _)) (skb_bytesP B _)
theorem bkb_bytesP : ∀ {m : Nat} {L : List Po} {b : Int}, gdl b L → -1 ≤ b → IsBytes (bkb b (chp m L))
  | 0, _, _, _, _ => fun _ hx => nomatch hx
  | m + 1, L, b, hg, hb => by
    obtain ⟨g1, g2⟩ := gdl_split hg
    have := (gdl_last _ _ g1).1
    exact isb_appP (blk_bytesP g1 hb) (bkb_bytesP g2 (by omega))
theorem img_bytes {L : List Po} (hg : gdl (-1) L) : IsBytes (img L) :=
  isb_appP (isb_appP (uvb_bytesP _) (uvb_bytesP _)) (isb_appP (skb_bytesP _ _) (bkb_bytesP hg (by omega)))
end Go.Proofs.YtidgofpmnlddaaaGreatDoor
namespace Go.Proofs.YtidgofpmnlddaaaGreatDoor
open Go.ChangeShapes Go.WideShapes Go.ChangeAt Go.RowKit

/-- Is the byte c behind p a capital? -/
def fq (p c : UInt8) : Prop := (65 ≤ c.toNat ∧ c.toNat ≤ 90) ∨ (p.toNat = 195 ∧ 128 ≤ c.toNat ∧ c.toNat ≤ 158 ∧ c.toNat ≠ 151)
instance (p c : UInt8) : Decidable (fq p c) := by unfold fq; infer_instance
/-- A byte behind another, folded; a text behind a byte, folded. -/
def fb (p c : UInt8) : UInt8 := if fq p c then UInt8.ofNat (c.toNat + 32) else c
def fl : UInt8 → List UInt8 → List UInt8
  | _, [] => []
  | p, c :: l => fb p c :: fl c l
theorem fb_nat (p c : UInt8) : (fb p c).toNat = if fq p c then c.toNat + 32 else c.toNat := by
  unfold fb
  by_cases h : fq p c
  · rw [if_pos h, if_pos h]
    have : c.toNat + 32 < 256 := by unfold fq at h; omega
    rw [UInt8.toNat_ofNat']
    omega
  · rw [if_neg h, if_neg h]
theorem fb_195 (p c : UInt8) : (fb p c).toNat = 195 ↔ c.toNat = 195 := by
  rw [fb_nat]
  by_cases h : fq p c
  · rw [if_pos h]
    unfold fq at h
    omega
  · rw [if_neg h]
theorem fb_again (p q c : UInt8) (h : q.toNat = 195 ↔ p.toNat = 195) : fb q (fb p c) = fb p c := by
  have hn : ¬ fq q (fb p c) := by
    have e := fb_nat p c
    by_cases hp : fq p c
    · rw [if_pos hp] at e
      unfold fq at hp ⊢
      omega
    · rw [if_neg hp] at e
      unfold fq at hp ⊢
      rw [e, h]
      exact hp
  show (if fq q (fb p c) then _ else fb p c) = _
  rw [if_neg hn]
theorem fb_same (p q c : UInt8) (h : q.toNat = 195 ↔ p.toNat = 195) : fb q c = fb p c := by
  have : fq q c ↔ fq p c := by unfold fq; rw [h]
  unfold fb
  by_cases hq : fq p c
  · rw [if_pos hq, if_pos (this.2 hq)]
  · rw [if_neg hq, if_neg (fun x => hq (this.1 x))]
theorem fl_len (p : UInt8) (l : List UInt8) : (fl p l).length = l.length := by
  induction l generalizing p with
  | nil => rfl
  | cons c l ih => simp only [fl, List.length_cons, ih]
theorem fl_again (p q : UInt8) (l : List UInt8) (h : q.toNat = 195 ↔ p.toNat = 195) : fl q (fl p l) = fl p l := by
  induction l generalizing p q with
  | nil => rfl
  | cons c l ih =>
    show fb q (fb p c) :: fl (fb p c) (fl c l) = fb p c :: fl c l
    rw [fb_again p q c h, ih c (fb p c) (fb_195 p c)]
theorem fl_same (p q : UInt8) (l : List UInt8) (h : q.toNat = 195 ↔ p.toNat = 195) : fl q l = fl p l := by
  cases l with
  | nil => rfl
  | cons c l => show fb q c :: _ = fb p c :: _; rw [fb_same p q c h]
theorem fl_append (p : UInt8) (a b : List UInt8) : fl p (a ++ b) = fl p a ++ fl (a.getLastD p) b := by
  induction a generalizing p with
  | nil => rfl
  | cons c a ih =>
    show fb p c :: fl c (a ++ b) = fb p c :: (fl c a ++ _)
    rw [ih c]
    cases a <;> rfl
theorem fl_get (p : UInt8) (l : List UInt8) (k : Nat) (h : k < l.length) : (fl p l)[k]'(by rw [fl_len]; exact h) = fb (if k = 0 then p else l.getD (k - 1) 0) l[k] := by
  induction l generalizing p k with
  | nil => simp at h
  | cons c l ih =>
    cases k with
    | zero => rfl
    | succ k =>
      have hk : k < l.length := by simpa using h
      show (fl c l)[k]'(by rw [fl_len]; exact hk) = fb (if k + 1 = 0 then p else (c :: l).getD (k + 1 - 1) 0) (l[k]'hk)
      rw [ih c k hk, if_neg (Nat.succ_ne_zero k)]
      cases k with
      | zero => rfl
      | succ k => rfl
/-- The row in the midst of the work. -/
def fmid (l : List UInt8) (k : Nat) : List UInt8 := (fl 0 l).take k ++ l.drop k
theorem fmid_len (l : List UInt8) (k : Nat) (h : k ≤ l.length) : (fmid l k).length = l.length := by
  unfold fmid
  rw [List.length_append, List.length_take, List.length_drop, fl_len]
  omega
theorem fmid_at (l : List UInt8) (k : Nat) (h : k < l.length) : (fmid l k)[k]'(by rw [fmid_len l k (by omega)]; exact h) = l[k] := by
  unfold fmid
  have e : ((fl 0 l).take k).length = k := by rw [List.length_take, fl_len]; omega
  rw [List.getElem_append_right (by omega)]
  simp only [e, Nat.sub_self, List.getElem_drop, Nat.add_zero]
theorem fmid_pre (l : List UInt8) (k : Nat) (h : k < l.length) (h0 : 0 < k) : ((fmid l k)[k - 1]'(by rw [fmid_len l k (by omega)]; omega)).toNat = 195 ↔ (l[k - 1]'(by omega)).toNat = 195 := by
  have e : ((fl 0 l).take k).length = k := by rw [List.length_take, fl_len]; omega
  have e2 : (fmid l k)[k - 1]'(by rw [fmid_len l k (by omega)]; omega) = fb (if k - 1 = 0 then 0 else l.getD (k - 1 - 1) 0) (l[k - 1]'(by omega)) := by
    unfold fmid
    rw [List.getElem_append_left (by omega), List.getElem_take, fl_get 0 l (k - 1) (by omega)]
  rw [e2]
  exact fb_195 _ _
theorem fmid_next (l : List UInt8) (k : Nat) (h : k < l.length) (p : UInt8) (hp : p = if k = 0 then 0 else l.getD (k - 1) 0) : fmid l (k + 1) = (fmid l k).set k (fb p l[k]) := by
  have e : ((fl 0 l).take k).length = k := by rw [List.length_take, fl_len]; omega
  unfold fmid
  rw [List.take_succ_eq_append_getElem (by rw [fl_len]; exact h), fl_get 0 l k h, List.set_append_right _ _ (by omega), e, Nat.sub_self, List.drop_eq_getElem_cons h, ← hp]
  rw [List.append_assoc]; rfl
theorem fmid_end (l : List UInt8) : fmid l l.length = fl 0 l := by
  unfold fmid
  rw [List.take_of_length_le (by rw [fl_len]; exact Nat.le_refl _), List.drop_of_length_le (Nat.le_refl _), List.append_nil]

/-- A row of bytes that may be written. -/
structure RowAt (w : World) (g : Nat) (l : List UInt8) : Prop where
  cell : ∀ j (h : j < l.length), w.cell? ⟨g, j, none⟩ = some (.int .u8 (l[j].toNat : Int))
  free : ∀ j, j < l.length → w.frozen? ⟨g, j, none⟩ = false
theorem RowAt.set {w : World} {g : Nat} {l : List UInt8} (h : RowAt w g l) (k : Nat) (c : UInt8) (hk : k < l.length) : RowAt (w.setCell ⟨g, k, none⟩ (.int .u8 (c.toNat : Int))) g (l.set k c) := by
  refine ⟨fun j hj => ?_, fun j hj => ?_⟩
  · rw [List.length_set] at hj
    by_cases e : k = j
    · subst e
      rw [World.cell?_setCell_same _ _ _ (h.cell k hk), List.getElem_set_self]
    · rw [World.cell?_setCell_other _ _ _ _ (fun x => e (by injection x)), h.cell j hj, List.getElem_set_ne e]
  · rw [List.length_set] at hj
    rw [World.frozen?_setCell]
    exact h.free j hj
theorem row_new (w : World) (s : ByteArray) (t : TypeId) (c : Nat) : RowAt (w.drew.alloc (.cells (bytesRow s c) t ((bytesRow s c).size, (bytesRow s c).size + 1))) w.heap.size s.data.toList := by
  have hs : ∀ j, j < s.data.toList.length → j < (bytesRow s c).size := fun j hj => by
    unfold bytesRow
    rw [Array.size_append, Array.size_map]
    rw [Array.length_toList] at hj
    omega
  refine ⟨fun j hj => ?_, fun j hj => ?_⟩
  · have e : (w.drew.alloc (.cells (bytesRow s c) t ((bytesRow s c).size, (bytesRow s c).size + 1))).cell? ⟨w.drew.heap.size, j, none⟩ = (bytesRow s c)[j]? := World.cell?_alloc_mark _ _ _ _ _
    rw [show w.heap.size = w.drew.heap.size from rfl, e, bytesRow_at s c j (by simpa using hj)]
    rfl
  · have e := World.frozen?_alloc_mark w.drew (bytesRow s c) t (bytesRow s c).size ((bytesRow s c).size + 1) j
    rw [show w.heap.size = w.drew.heap.size from rfl, e, decide_eq_false (by have := hs j hj; omega)]
    rfl
theorem row_back {w : World} {g : Nat} {l : List UInt8} (h : RowAt w g l) (c : Nat) : (convert 26 9 (.slice (some ⟨g, 0, none⟩) l.length c)).run Tryz.prog w = .ok (.string ⟨l.toArray⟩) w :=
  run_convert_bytes_back w 26 9 5 ⟨g, 0, none⟩ c l Tryz.underlying26 Tryz.underlying5 Tryz.underlying9 (fun j hj => by
    rw [show (⟨g, 0, none⟩ : Addr).add j = ⟨g, j, none⟩ by cases j <;> simp [Addr.add]]
    exact h.cell j hj)
theorem kept_row (w : World) (o : Obj) : Kept (fun _ => False) w (w.drew.alloc o) := (Kept.drew w).trans (Kept.alloc _ _) (fun _ h => h.elim)

def capB (c : Int) : Bool := decide (65 ≤ c) && decide (c ≤ 90)
def accB (c : Int) : Bool := decide (128 ≤ c) && decide (c ≤ 158) && decide (c ≠ 151)
end Go.Proofs.YtidgofpmnlddaaaGreatDoor
namespace Go.Proofs.YtidgofpmnlddaaaGreatDoor
open Go.ChangeShapes Go.WideShapes Go.ChangeAt Go.RowKit

theorem hideG {p : Prop} (h : p) : Hid p := h
/-- A list that is grown, in memory younger than w0. -/
structure Gro (w0 w : World) (e : TypeId) (sz : Nat) (v : Value) (n : Nat) (xs : List Value) : Prop where
  own : w.ownsRow w0.heap.size e sz v n xs
  kept : Kept (fun _ => False) w0 w
theorem Gro.shape {w0 w : World} {e : TypeId} {sz : Nat} {v : Value} {n : Nat} {xs : List Value} (h : Gro w0 w e sz v n xs) : ∃ a c, v = .slice a n c := by
  rcases h.own.2 with ⟨rfl, rfl⟩ | ⟨g, cap, cur, rfl, _⟩
  · exact ⟨_, _, rfl⟩
  · exact ⟨_, _, rfl⟩
theorem Gro.later {w0 w w' : World} {e : TypeId} {sz : Nat} {v : Value} {n : Nat} {xs : List Value} (h : Gro w0 w e sz v n xs) (k : Kept (fun _ => False) w w') : Gro w0 w' e sz v n xs :=
  ⟨k.row h.own (fun _ _ f => f), h.kept.trans k (fun _ f => f.elim)⟩
theorem Gro.cell {w0 w : World} {e : TypeId} {sz : Nat} {a : Option Addr} {c n : Nat} {xs : List Value} (h : Gro w0 w e sz (.slice a n c) n xs) (hn : 0 < n) : ∃ g, a = some ⟨g, 0, none⟩ ∧ w0.heap.size ≤ g ∧ ∀ j u, xs[j]? = some u → w.cell? ⟨g, j, none⟩ = some u := by
  rcases h.own.2 with ⟨_, e2⟩ | ⟨g, cap, cur, e1, hg, _⟩
  · omega
  · have ea : a = some ⟨g, 0, none⟩ := by injection e1
    subst ea
    refine ⟨g, rfl, hg, fun j u hu => ?_⟩
    have := h.own.cells (g := g) rfl j u hu
    have hplain : (⟨g, 0, none⟩ : Addr).add j = ⟨g, j, none⟩ := by unfold Addr.add; split <;> simp_all
    rwa [hplain] at this
theorem gro_empty (w0 w : World) (e : TypeId) (sz : Nat) (k : Kept (fun _ => False) w0 w) : Gro w0 (w.alloc (.cells #[] e)) e sz (.slice (some ⟨w.heap.size, 0, none⟩) 0 0) 0 [] :=
  ⟨⟨(Nat.zero_mul sz).symm, .inr ⟨w.heap.size, 0, #[], rfl, k.size, heap_alloc_new w _, Nat.le_refl _, Nat.zero_le _, (Nat.zero_mul sz).symm, by rw [Nat.zero_mul]; rfl⟩⟩, k.trans (Kept.alloc _ _) (fun _ f => f.elim)⟩
theorem gro_nil (w : World) (e : TypeId) (sz : Nat) : Gro w w e sz (.slice none 0 0) 0 [] := ⟨⟨(Nat.zero_mul sz).symm, .inl ⟨rfl, rfl⟩⟩, Kept.refl _ _⟩
theorem row_news (w : World) (l : List Value) (t : TypeId) : ∀ (j : Nat) (u : Value), l[j]? = some u → (w.alloc (.cells l.toArray t)).cell? ((⟨w.heap.size, 0, none⟩ : Addr).add j) = some u := by
  intro j u hj
  have hplain : (⟨w.heap.size, 0, none⟩ : Addr).add j = ⟨w.heap.size, j, none⟩ := by unfold Addr.add; split <;> simp_all
  rw [hplain]
  simpa using hj
/-- 'append(s, x)': what stands new behind w is one element's row. -/
theorem wpList_push {w0 W : World} {ops : Array Oper} {rest : List Oper} {o : Oper} {act : Act} {Q : Exit → Act → World → Prop} (hgd : o.guard = none) (s x : Operand) (t : TypeId)
    (ho : o.op = .call { callee := .builtin .append, args := #[s, x], argTypes := #[t, t] }) (e : TypeId) (i : TypeInfo) (z : Value) (size bytes : Nat)
    (ht : Tryz.prog.underlying t = some (.slice e)) (hi : Tryz.prog.info? e = some i) (hz : i.zero = some z) (hsize : i.size = size) (hby : i.bytes = bytes) (hzs : z.cells.size = size) (hsz : 0 < size)
    (v : Value) (n : Nat) (xs news : List Value) (hs : act.eval s = v) (hG : Hid (Gro w0 W e size v n xs)) (hx : act.eval x = .slice (some ⟨W.heap.size, 0, none⟩) 1 1)
    (hl : news.length = size) (h1 : ∀ u ∈ news, u.oneCell' = true) (hb : Hid ((n + 1) * bytes ≤ 140737488355328)) (h63 : Hid (n + 1 ≤ maxLen))
    (h : ∀ a' c' W', Hid (Gro w0 W' e size (.slice a' (n + 1) c') (n + 1) (xs ++ news)) → wpList Tryz.prog ops Q rest (act.put o.dst (.slice a' (n + 1) c')) W') : wpList Tryz.prog ops Q (o :: rest) act (W.alloc (.cells news.toArray e)) := by
  refine wpList_append_own _ hgd s x t ho w0.heap.size e i z size bytes ht hi hz hsize hby hzs hsz v n xs hs (hG.out.own.alloc _) ⟨W.heap.size, 0, none⟩ 1 1 news hx (by omega) (row_news W news e) h1 h63.out hb.out (by have := hG.out.kept.size; simp; omega) ?_
  intro v' W' ho2 hg2 _
  have q : Gro w0 W' e size v' (n + 1) (xs ++ news) := ⟨ho2, (hG.out.kept.trans (Kept.alloc _ _) (fun _ f => f.elim)).trans (Kept.grown hg2) (fun i hi => .inr (hG.out.own.lt i hi).1)⟩
  obtain ⟨a', c', rfl⟩ := q.shape
  exact h a' c' W' q
/-- One place of a list of single cells written over. -/
theorem Gro.set {w0 w : World} {e : TypeId} {g c n : Nat} {xs : List Value} (h : Gro w0 w e 1 (.slice (some ⟨g, 0, none⟩) n c) n xs) (k : Nat) (v : Value) :
    Gro w0 (w.setCell ⟨g, k, none⟩ v) e 1 (.slice (some ⟨g, 0, none⟩) n c) n (xs.set k v) ∧ w.frozen? ⟨g, k, none⟩ = false := by
  rcases h.own.2 with ⟨e1, e2⟩ | ⟨g', cap, cur, e1, hg, hh, hn, hm, hs, ht⟩
  · cases e1
  · simp only [Value.slice.injEq, Option.some.injEq, Addr.mk.injEq, and_true, true_and] at e1
    obtain ⟨rfl, rfl⟩ := e1
    refine ⟨⟨⟨by rw [List.length_set]; exact h.own.1, .inr ⟨g, c, cur.setIfInBounds k v, rfl, hg, heap_setCell_same w g k cur e v hh, hn, hm, by rw [Array.size_setIfInBounds]; exact hs, ?_⟩⟩, h.kept.trans (Kept.setCell _ _ _) (fun i e => .inr (by simp only at e; omega))⟩, ?_⟩
    · rw [Array.toList_setIfInBounds, List.take_set, ht]
    · simp [World.frozen?, hh]
theorem Gro.at {w0 w : World} {e : TypeId} {sz g c n : Nat} {xs : List Value} (h : Gro w0 w e sz (.slice (some ⟨g, 0, none⟩) n c) n xs) {j : Nat} {u : Value} (hu : xs[j]? = some u) : w.cell? ⟨g, j, none⟩ = some u := by
  have := h.own.cells (g := g) rfl j u hu
  have hplain : (⟨g, 0, none⟩ : Addr).add j = ⟨g, j, none⟩ := by unfold Addr.add; split <;> simp_all
  rwa [hplain] at this
/-- Bytes as cells. -/
def bu (l : List UInt8) : List Value := l.map (fun c => .int .u8 (c.toNat : Int))
theorem bu_append (a b : List UInt8) : bu (a ++ b) = bu a ++ bu b := List.map_append
theorem bu_len (a : List UInt8) : (bu a).length = a.length := List.length_map ..
theorem gro_string {w0 w : World} {a : Option Addr} {c : Nat} {l : List UInt8} {n : Nat} (h : Gro w0 w 5 1 (.slice a n c) n (bu l)) (hn : n = l.length) : (convert 26 9 (.slice a n c)).run Tryz.prog w = .ok (.string ⟨l.toArray⟩) w := by
  subst hn
  rcases h.own.2 with ⟨e1, e2⟩ | ⟨g, cap, cur, e1, _⟩
  · have ea : a = none := by injection e1
    have el : l = [] := List.eq_nil_of_length_eq_zero e2
    subst ea el
    exact run_convert_bytes_nil w 26 5 Tryz.underlying26 Tryz.underlying5 0 c 9 Tryz.underlying9
  · have ea : a = some ⟨g, 0, none⟩ := by injection e1
    subst ea
    refine run_convert_bytes_back w 26 9 5 ⟨g, 0, none⟩ c l Tryz.underlying26 Tryz.underlying5 Tryz.underlying9 (fun j hj => ?_)
    exact h.own.cells (g := g) rfl j _ (by rw [bu, List.getElem?_map, List.getElem?_eq_getElem hj]; rfl)
/-- 'append(s, b)' of bytes. -/
theorem wpList_pushB {w0 W : World} {ops : Array Oper} {rest : List Oper} {o : Oper} {act : Act} {Q : Exit → Act → World → Prop} (hgd : o.guard = none) (s x : Operand)
    (ho : o.op = .call { callee := .builtin .append, args := #[s, x], argTypes := #[26, 26] }) (v : Value) (n m : Nat) (l l' : List UInt8) (c : UInt8) (z : Int) (hs : act.eval s = v) (hG : Hid (Gro w0 W 5 1 v n (bu l))) (hx : act.eval x = .slice (some ⟨W.heap.size, 0, none⟩) 1 1)
    (hc : Hid (z = (c.toNat : Int))) (hl : Hid (l' = l ++ [c])) (hm : m = n + 1) (hb : n + 1 ≤ 140737488355328)
    (h : ∀ a' c' W', Hid (Gro w0 W' 5 1 (.slice a' m c') m (bu l')) → wpList Tryz.prog ops Q rest (act.put o.dst (.slice a' m c')) W') : wpList Tryz.prog ops Q (o :: rest) act (W.alloc (.cells #[.int .u8 z] 5)) := by
  obtain ⟨i0, hi, hz0, hz1, hz2⟩ := info_parts Tryz.infoB
  have e1 := hl.out
  have e2 := hc.out
  subst e1 e2 hm
  refine wpList_push hgd s x 26 ho 5 i0 (.int .u8 0) 1 1 Tryz.underlying26 hi hz0 hz1 hz2 rfl (by decide) v n (bu l) [.int .u8 (c.toNat : Int)] hs hG hx rfl (by intro u hu; simp at hu; subst hu; rfl) (hideG (by omega)) (hideG (by unfold maxLen; omega)) ?_
  rw [bu_append] at h
  exact h
end Go.Proofs.YtidgofpmnlddaaaGreatDoor
namespace Go.Proofs.YtidgofpmnlddaaaGreatDoor
open Go.RowKit
/-- Whatever the world. -/
def AnyZ (_ : World) : Prop := True
theorem anyZ (W : World) : AnyZ W := trivial
theorem takeZ {P : Program} {ops : Array Oper} {Q : Exit → Act → World → Prop} {md : Region.Mode} {S : World → Prop} {i d : Nat} {oi : Oper} {v : Value} {fuel : Nat} {listed : Array Bool} {a : Act} {w : World} (hi : ops[i]? = some oi) (hd : oi.dst = some d)
    (hs : Region.noSelect ops = true) (hf : Region.free md ops listed i = true) (hr : (Region.ready md ops listed).contains i = true)
    (hQ : ∀ c a w, Q (.panic c) (a.put (some d) v) w → Q (.panic c) a w) (hy : YieldsIf P ops S oi v a) (hS : S w)
    (h : wpAnyH P md ops Q S fuel (listed.setIfInBounds i true) (a.put (some d) v) w) : wpAnyH P md ops Q S (fuel + 1) listed a w := by
  rw [← hd] at hQ h
  exact wpAnyH_take hi hs hf hr hQ hy hS h
end Go.Proofs.YtidgofpmnlddaaaGreatDoor
namespace Go.Proofs.YtidgofpmnlddaaaGreatDoor
open Go.ChangeShapes Go.WideShapes Go.ChangeAt Go.RowKit

theorem hideP {p : Prop} (h : p) : Hid p := h
/-- A posting as it lies in memory. -/
structure Pg where
  d : Int
  a : Option Addr
  c : Nat
  ps : List Int
def Pg.po (g : Pg) : Po := ⟨g.d, g.ps⟩
def pol (L : List Pg) : List Po := L.map Pg.po
theorem pol_len (L : List Pg) : (pol L).length = L.length := by simp [pol]
def PsAt (w : World) (a : Option Addr) (L : List Pg) : Prop :=
  L ≠ [] → ∃ b off, a = some ⟨b, off, none⟩ ∧ ∀ k (h : k < L.length), w.cell? ⟨b, off + k * 2, none⟩ = some (.int .i64 L[k].d) ∧ w.cell? ⟨b, off + k * 2 + 1, none⟩ = some (.slice L[k].a L[k].ps.length L[k].c) ∧ IntsAt w L[k].a L[k].ps
theorem IntsAt.kept {w w' : World} {a : Option Addr} {l : List Int} (h : IntsAt w a l) (k : Kept (fun _ => False) w w') : IntsAt w' a l := h.of_same (fun _ _ hc _ => k.cell hc (fun f => f))
theorem PsAt.kept {w w' : World} {a : Option Addr} {L : List Pg} (h : PsAt w a L) (k : Kept (fun _ => False) w w') : PsAt w' a L := by
  intro hne
  obtain ⟨b, off, e, hc⟩ := h hne
  refine ⟨b, off, e, fun j hj => ?_⟩
  obtain ⟨x0, x1, x2⟩ := hc j hj
  exact ⟨k.cell x0 (fun f => f), k.cell x1 (fun f => f), x2.kept k⟩
/-- The number of what is wrong with a posting behind the document b: 0 nothing, 3 order, 7 range. -/
def flt (b : Int) (p : Po) : Nat :=
  if p.d < 0 ∨ 2147483646 < p.d then 7 else if p.d ≤ b then 3 else if p.ps = [] ∨ p.ps.any (fun x => decide (x < 0)) = true then 7 else if riseB p.ps = true then 0 else 3
def flts : Int → List Po → Nat
  | _, [] => 0
  | b, p :: r => if flt b p = 0 then flts p.d r else flt b p
def erN (a3 a7 : Addr) (k : Nat) : Value := if k = 0 then .nilIface else if k = 3 then errV a3 else errV a7
theorem flt_iff {b : Int} {p : Po} (hI : IsInts p.ps) : flt b p = 0 ↔ Gd1 b p := by
  unfold flt
  by_cases h1 : p.d < 0 ∨ 2147483646 < p.d
  · rw [if_pos h1]
    refine ⟨fun h => by omega, fun h => ?_⟩
    have := h.lo
    have := h.hi
    omega
  rw [if_neg h1]
  by_cases h2 : p.d ≤ b
  · rw [if_pos h2]
    refine ⟨fun h => by omega, fun h => ?_⟩
    have := h.up
    omega
  rw [if_neg h2]
  by_cases h3 : p.ps = [] ∨ p.ps.any (fun x => decide (x < 0)) = true
  · rw [if_pos h3]
    refine ⟨fun h => by omega, fun h => ?_⟩
    exfalso
    rcases h3 with h3 | h3
    · exact h.ne h3
    · rw [List.any_eq_true] at h3
      obtain ⟨x, hx, hn⟩ := h3
      have := (h.ri.mem x hx).1
      simp at hn
      omega
  rw [if_neg h3]
  have hne : p.ps ≠ [] := fun e => h3 (.inl e)
  have h0 : ∀ x ∈ p.ps, 0 ≤ x := by
    intro x hx
    rcases Int.lt_or_le x 0 with hn | hn
    · exact absurd (.inr (List.any_eq_true.2 ⟨x, hx, by simpa using hn⟩)) h3
    · exact hn
  by_cases h4 : riseB p.ps = true
  · rw [if_pos h4]
    exact ⟨fun _ => ⟨by omega, by omega, by omega, hne, ris_of hI h0 h4⟩, fun _ => rfl⟩
  · rw [if_neg h4]
    refine ⟨fun h => by omega, fun h => ?_⟩
    exact absurd h.ri.rise h4
theorem flts_iff : ∀ {L : List Po} {b : Int}, (∀ p ∈ L, IsInts p.ps) → (flts b L = 0 ↔ gdl b L)
  | [], _, _ => ⟨fun _ => trivial, fun _ => rfl⟩
  | p :: L, b, h => by
    have h1 := flt_iff (b := b) (h p (List.mem_cons_self ..))
    have h2 := flts_iff (L := L) (b := p.d) (fun q hq => h q (List.mem_cons_of_mem _ hq))
    rw [flts, gdl]
    by_cases h3 : flt b p = 0
    · rw [if_pos h3, h2]
      exact ⟨fun h => ⟨h1.1 h3, h⟩, fun h => h.2⟩
    · rw [if_neg h3]
      exact ⟨fun h => absurd h h3, fun h => absurd (h1.2 h.1) h3⟩
theorem flt_or (b : Int) (p : Po) : flt b p = 0 ∨ flt b p = 3 ∨ flt b p = 7 := by
  unfold flt
  split
  · exact .inr (.inr rfl)
  · split
    · exact .inr (.inl rfl)
    · split
      · exact .inr (.inr rfl)
      · split
        · exact .inl rfl
        · exact .inr (.inl rfl)
theorem flts_or : ∀ (L : List Po) (b : Int), flts b L = 0 ∨ flts b L = 3 ∨ flts b L = 7
  | [], _ => .inl rfl
  | p :: L, b => by
    rw [flts]
    split
    · exact flts_or L p.d
    · exact flt_or b p
theorem wpList_minP {P : Program} {W : World} {ops : Array Oper} {rest : List Oper} {o : Oper} {act : Act} {Q : Exit → Act → World → Prop} {ts : Array TypeId} (hgd : o.guard = none) (s t : Operand)
    (ho : o.op = .call { callee := .builtin .min, args := #[s, t], argTypes := ts }) (x y m : Int) (hs : act.eval s = .int .i64 x) (ht : act.eval t = .int .i64 y) (hm : m = if y < x then y else x)
    (h : wpList P ops Q rest (act.put o.dst (.int .i64 m)) W) : wpList P ops Q (o :: rest) act W := by
  refine wpList_plain hgd fun K hK => ?_
  have hr : ∀ ty, (Builtin.min_ ts ty #[.int .i64 x, .int .i64 y]).run P W = .ok (.int .i64 m) W := fun ty => by rw [hm]; simp [Builtin.min_, Builtin.min2]
  unfold Oper.wp execOp
  simp only [ho, resolve, invoke, builtin, Sem.run_bind, Sem.run_pure, Result.andThen_ok, List.map_toArray, List.map_cons, List.map_nil, hs, ht, hr]
  exact hK _ _ h
def pgO (d : Int) (a : Option Addr) (n c : Nat) : Obj := .cells #[.int .i64 d, .slice a n c] 38
end Go.Proofs.YtidgofpmnlddaaaGreatDoor
namespace Go.Proofs.YtidgofpmnlddaaaGreatDoor
open Go.ChangeShapes Go.WideShapes Go.ChangeAt Go.RowKit

theorem is_app (L : List Int) (x : Int) : is (L ++ [x]) = is L ++ [.int .i64 x] := by unfold is; simp
theorem info_partsP {e : TypeId} {z : Value} {s b : Nat} (h : (Tryz.prog.info? e).map (fun i => (i.zero, i.size, i.bytes)) = some (some z, s, b)) : ∃ i, Tryz.prog.info? e = some i ∧ i.zero = some z ∧ i.size = s ∧ i.bytes = b := by
  cases hx : Tryz.prog.info? e with
  | none => rw [hx] at h; cases h
  | some i =>
    rw [hx] at h
    simp only [Option.map_some, Option.some.injEq, Prod.mk.injEq] at h
    exact ⟨i, rfl, h.1, h.2.1, h.2.2⟩
/-- 'append' of one number; what else lies stays; where the list lies then. -/
theorem wpList_pushD {base : Nat} {W : World} {ops : Array Oper} {rest : List Oper} {o : Oper} {act : Act} {Q : Exit → Act → World → Prop} (hgd : o.guard = none) (s x : Operand)
    (ho : o.op = .call { callee := .builtin .append, args := #[s, x], argTypes := #[24, 24] }) (v : Value) (n : Nat) (L : List Int) (y : Int) (hs : act.eval s = v) (hG : Hid (W.ownsRow base 3 1 v n (is L))) (hb0 : base ≤ W.heap.size) (b : Nat) (hb : b = W.heap.size) (hx : act.eval x = .slice (some ⟨b, 0, none⟩) 1 1) (hn : n ≤ 1099511627776)
    (h : ∀ g c' W', Hid (W'.ownsRow base 3 1 (.slice (some ⟨g, 0, none⟩) (n + 1) c') (n + 1) (is (L ++ [y]))) → Hid (Kept (fun k => v.ownBlock = some k) W W') → Hid (v.ownBlock = some g ∨ W.heap.size ≤ g) → wpList Tryz.prog ops Q rest (act.put o.dst (.slice (some ⟨g, 0, none⟩) (n + 1) c')) W') : wpList Tryz.prog ops Q (o :: rest) act (W.alloc (.cells #[.int .i64 y] 3)) := by
  subst hb
  obtain ⟨i0, hi, hz0, hz1, hz2⟩ := info_partsP Tryz.infoI
  rw [is_app] at h
  refine wpList_append_lies _ hgd s x 24 ho base 3 i0 (.int .i64 0) 1 8 Tryz.underlying24 hi hz0 hz1 hz2 rfl (by decide) v n (is L) hs (hG.out.alloc _) ⟨W.heap.size, 0, none⟩ 1 1 [.int .i64 y] hx (by simp) (row_news W [.int .i64 y] 3) (by intro u hu; simp at hu; subst hu; rfl) (by decide) (by unfold maxLen; omega) (by omega) (by simp; omega) _ rfl ?_
  intro g c' W' ho2 hg2 hat _
  refine h g c' W' ho2 (hideP (((Kept.alloc W _).mono (fun _ f => f.elim)).trans (Kept.grown hg2) (fun i hi => .inl hi))) (hideP (hat.imp id (fun e => by rw [e]; simp)))
/-- Two lists that grow side by side. -/
structure Duo (w0 W : World) (v1 v2 : Value) (n1 n2 : Nat) (X Y : List Int) : Prop where
  o1 : W.ownsRow w0.heap.size 3 1 v1 n1 (is X)
  o2 : W.ownsRow w0.heap.size 3 1 v2 n2 (is Y)
  ne : ∀ k, v1.ownBlock = some k → v2.ownBlock ≠ some k
  kept : Kept (fun _ => False) w0 W
theorem Duo.start (w : World) : Duo w w (.slice none 0 0) (.slice none 0 0) 0 0 [] [] := ⟨(gro_nil w _ 1).own, (gro_nil w _ 1).own, fun k h => by simp [Value.ownBlock] at h, Kept.refl _ _⟩
theorem Duo.later {w0 W W' : World} {v1 v2 : Value} {n1 n2 : Nat} {X Y : List Int} (h : Duo w0 W v1 v2 n1 n2 X Y) (k : Kept (fun _ => False) W W') : Duo w0 W' v1 v2 n1 n2 X Y :=
  ⟨k.row h.o1 (fun _ _ f => f), k.row h.o2 (fun _ _ f => f), h.ne, h.kept.trans k (fun _ f => f.elim)⟩
theorem Duo.push1 {w0 W W' : World} {v1 v2 : Value} {n1 n2 g c : Nat} {X Y X' : List Int} (h : Duo w0 W v1 v2 n1 n2 X Y) {n : Nat} (o : W'.ownsRow w0.heap.size 3 1 (.slice (some ⟨g, 0, none⟩) n c) n (is X')) (k : Kept (fun k => v1.ownBlock = some k) W W') (hat : v1.ownBlock = some g ∨ W.heap.size ≤ g) :
    Duo w0 W' (.slice (some ⟨g, 0, none⟩) n c) v2 n n2 X' Y := by
  refine ⟨o, k.row h.o2 (fun j hj f => h.ne j f hj), fun j hj e => ?_, h.kept.trans k (fun i hi => .inr (h.o1.lt i hi).1)⟩
  simp [Value.ownBlock] at hj
  subst hj
  rcases hat with q | q
  · exact h.ne g q e
  · have := (h.o2.lt g e).2
    omega
theorem Duo.push2 {w0 W W' : World} {v1 v2 : Value} {n1 n2 g c : Nat} {X Y Y' : List Int} (h : Duo w0 W v1 v2 n1 n2 X Y) {n : Nat} (o : W'.ownsRow w0.heap.size 3 1 (.slice (some ⟨g, 0, none⟩) n c) n (is Y')) (k : Kept (fun k => v2.ownBlock = some k) W W') (hat : v2.ownBlock = some g ∨ W.heap.size ≤ g) :
    Duo w0 W' v1 (.slice (some ⟨g, 0, none⟩) n c) n1 n X Y' := by
  refine ⟨k.row h.o1 (fun j hj f => h.ne j hj f), o, fun j hj e => ?_, h.kept.trans k (fun i hi => .inr (h.o2.lt i hi).1)⟩
  simp [Value.ownBlock] at e
  subst e
  rcases hat with q | q
  · exact h.ne g hj q
  · have := (h.o1.lt g hj).2
    omega
/-- What was there when the postings came in lies as it lay. -/
abbrev Old (w0 w : World) : Prop := Kept (fun i => w0.heap.size ≤ i) w0 w
theorem IntsAt.old {w w' : World} {a : Option Addr} {l : List Int} (h : IntsAt w a l) (k : Old w w') : IntsAt w' a l := h.of_same (fun p v hc _ => k.cell hc (fun f => by have := World.block_lt_of_cell? w _ hc; omega))
theorem PsAt.old {w w' : World} {a : Option Addr} {L : List Pg} (h : PsAt w a L) (k : Old w w') : PsAt w' a L := by
  intro hne
  obtain ⟨b, off, e, hc⟩ := h hne
  refine ⟨b, off, e, fun j hj => ?_⟩
  obtain ⟨x0, x1, x2⟩ := hc j hj
  exact ⟨k.cell x0 (fun f => by have := World.block_lt_of_cell? w _ x0; omega), k.cell x1 (fun f => by have := World.block_lt_of_cell? w _ x1; omega), x2.old k⟩
theorem Old.step {w0 w w' : World} {bw : Nat} {v v' : Value} (h : Old w0 w) (s : WStep w w' bw v v') (hb : w0.heap.size ≤ bw) (hv : ∀ k, v.ownBlock = some k → w0.heap.size ≤ k) : Old w0 w' ∧ ∀ k, v'.ownBlock = some k → w0.heap.size ≤ k :=
  ⟨h.trans s.kept (fun i hi => .inr (hi.elim (fun e => by omega) (fun e => hv i e))), fun k hk => (s.new k hk).elim (hv k) (fun e => Nat.le_trans h.size e)⟩
end Go.Proofs.YtidgofpmnlddaaaGreatDoor
namespace Go.Proofs.YtidgofpmnlddaaaGreatDoor
open Go.ChangeShapes Go.WideShapes Go.ChangeAt Go.RowKit

/-- The errors that reading meets. -/
structure ErP (w : World) (ad : Nat → Addr) : Prop where
  s0 : w.cell? ⟨0, 0, none⟩ = some (errV (ad 0))
  s1 : w.cell? ⟨1, 0, none⟩ = some (errV (ad 1))
  s2 : w.cell? ⟨2, 0, none⟩ = some (errV (ad 2))
  s3 : w.cell? ⟨3, 0, none⟩ = some (errV (ad 3))
  s4 : w.cell? ⟨4, 0, none⟩ = some (errV (ad 4))
theorem ErP.old {w w' : World} {ad : Nat → Addr} (h : ErP w ad) (k : Old w w') : ErP w' ad :=
  have q : ∀ {g : Nat} {v : Value}, w.cell? ⟨g, 0, none⟩ = some v → w'.cell? ⟨g, 0, none⟩ = some v := fun hc => k.cell hc (fun f => by have := World.block_lt_of_cell? w _ hc; omega)
  ⟨q h.s0, q h.s1, q h.s2, q h.s3, q h.s4⟩
theorem ErP.kept {w w' : World} {ad : Nat → Addr} (h : ErP w ad) (k : Kept (fun _ => False) w w') : ErP w' ad := h.old (k.mono (fun _ f => f.elim))
theorem Old.refl (w : World) : Old w w := (Kept.refl (fun _ => False) w).mono (fun _ f => f.elim)
theorem Old.one {w0 w w' : World} {br : Nat} (h : Old w0 w) (k : Kept (fun i => i = br) w w') (hb : w0.heap.size ≤ br) : Old w0 w' := h.trans k (fun i hi => .inl (by omega))
theorem Old.none {w0 w w' : World} (h : Old w0 w) (k : Kept (fun _ => False) w w') : Old w0 w' := h.trans k (fun _ f => f.elim)
theorem upat_nP {most : Int} {l : List Int} {p : Nat} {ad : Nat → Addr} (w : World) (hB : IsBytes l) (hp : p ≤ l.length) (hl : l.length ≤ 140737488355328) (hm : most ≤ 9223372036854775807) (hE : ErP w ad) (h : upn most l p = none) :
    ∃ b, ∀ a c, BytesAt w a l → ∀ n, Calls Tryz.prog 79 #[.slice a l.length c, .int .i64 p, .int .i64 most] (w.drewN n) fun e w' => e = .returned (.tuple #[.int .i64 0, .int .i64 0, errV b]) ∧ ∃ m, w' = (w.drewN n).drewN m := by
  have hE' : ∀ n, ErP (w.drewN n) ad := fun n => hE.kept (Kept.drewN w n)
  unfold upn at h
  split at h
  · rename_i er hr
    have he : ∃ b, errOf (ad 0) (ad 1) er = errV b := by
      unfold errOf
      split
      · exact ⟨_, rfl⟩
      · exact ⟨_, rfl⟩
    obtain ⟨b, hb⟩ := he
    refine ⟨b, fun a c hba n => ?_⟩
    rw [← hb]
    exact upat_err l a c p er _ _ _ _ hba hB hp (by omega) (hE' n).s0 (hE' n).s1 hr
  · rename_i x k hr
    split at h
    · cases h
    · exact ⟨_, fun a c hba n => upat_lim l a c p x k _ _ _ _ _ hba hB hp (by omega) (hE' n).s0 (hE' n).s1 (hE' n).s2 hr (by omega) hm⟩
theorem upto_nP {most : Int} {l : List Int} {p br : Nat} {v : Value} {ad : Nat → Addr} (w : World) (h : Rd w br v l p) (hm : most ≤ 9223372036854775807) (hE : ErP w ad) (hr : upn most l p = none) :
    ∃ b, Calls Tryz.prog 65 #[.pointer (some ⟨br, 0, none⟩), .int .i64 most] w fun e w' => e = .returned (.tuple #[.int .i64 0, errV b]) ∧ Kept (fun _ => False) w w' := by
  obtain ⟨b, hb⟩ := upat_nP w h.isb h.le h.sm hm hE hr
  exact ⟨b, (rupto_bad br v l p _ _ w h hb).mono (fun e w' ⟨h1, n, h2⟩ => ⟨h1, by rw [h2]; exact Kept.drewN w n⟩)⟩
theorem upn_rduP {most : Int} {l : List Int} {p x q : Nat} (h : upn most l p = some (x, q)) : ∃ k, q = p + k ∧ rdu 0 0 (l.drop p) = .ok (x, k) ∧ (x : Int) ≤ most := by
  unfold upn at h
  split at h
  · cases h
  · rename_i x' k hr
    split at h
    · injection h with h
      injection h with h1 h2
      subst h1
      exact ⟨k, h2.symm, hr, by assumption⟩
    · cases h
theorem upto_sP {most : Int} {l : List Int} {p x q br : Nat} {v : Value} {ad : Nat → Addr} (w : World) (h : Rd w br v l p) (hm : most ≤ 9223372036854775807) (hE : ErP w ad) (hr : upn most l p = some (x, q)) :
    Calls Tryz.prog 65 #[.pointer (some ⟨br, 0, none⟩), .int .i64 most] w fun e w' => e = .returned (.tuple #[.int .i64 x, .nilIface]) ∧ Rd w' br v l q ∧ Kept (fun i => i = br) w w' := by
  obtain ⟨k, rfl, hk, hx⟩ := upn_rduP hr
  exact rupto_ok br v l p x k _ _ _ w h hk hx hm hE.s0 hE.s1
theorem donep_n {l : List Int} {p br : Nat} {v : Value} {ad : Nat → Addr} (w : World) (h : Rd w br v l p) (hE : ErP w ad) (hp : p < l.length) :
    Calls Tryz.prog 85 #[.pointer (some ⟨br, 0, none⟩)] w fun e w' => e = .returned (errV (ad 4)) ∧ ∃ n, w' = w.drewN n := by
  have CL := hideP (left_any br v l p w h)
  have e4 := hE.s4
  have hs := h.sm
  clear h hE
  have h1 : (0 : Int) < ((l.length - p : Nat) : Int) := by omega
  have h2 : decide (0 < l.length - p) = true := decide_eq_true (by omega)
  generalize l.length - p = m at *
  go_enter Tryz.func85, Tryz.ntmps85
  go_wp2_with (go_at_call 66; refine CL.out.mono ?_; clear CL; rintro e W1 ⟨rfl, q, rfl⟩; have e5 : (w.drewN q).cell? ⟨4, 0, none⟩ = some (errV (ad 4)) := e4)
  go_ret
  exact ⟨rfl, q, rfl⟩
theorem donep_s {l : List Int} {p br : Nat} {v : Value} (w : World) (h : Rd w br v l p) (hp : ¬ p < l.length) :
    Calls Tryz.prog 85 #[.pointer (some ⟨br, 0, none⟩)] w fun e w' => e = .returned .nilIface ∧ ∃ n, w' = w.drewN n := by
  have CL := hideP (left_any br v l p w h)
  clear h
  have h0 : l.length - p = 0 := by omega
  rw [h0] at CL
  go_enter Tryz.func85, Tryz.ntmps85
  go_wp2_with (go_at_call 66; refine CL.out.mono ?_; clear CL; rintro e W1 ⟨rfl, q, rfl⟩)
  go_ret
  exact ⟨rfl, q, rfl⟩
set_option maxRecDepth 20000 in
theorem readBehind_s {l : List Int} {p x q br : Nat} {v : Value} {ad : Nat → Addr} (b most : Int) (w : World) (h : Rd w br v l p) (hb : -1 ≤ b) (hb2 : b ≤ 9223372036854775807) (hm0 : 0 ≤ most) (hm : most ≤ 9223372036854775807) (hE : ErP w ad) (hr : upn (most - 1 - b) l p = some (x, q)) :
    Calls Tryz.prog 80 #[.pointer (some ⟨br, 0, none⟩), .int .i64 b, .int .i64 most] w fun e w' => e = .returned (.tuple #[.int .i64 (b + 1 + x), .bool true]) ∧ Rd w' br v l q ∧ Kept (fun i => i = br) w w' := by
  have CU := hideP (upto_sP w h (by omega) hE hr)
  obtain ⟨k, _, _, hx⟩ := upn_rduP hr
  have e1 : IntKind.i64.wrap (b + 1) = b + 1 := by rw [IntKind.wrap_i64]; omega
  have e2 : IntKind.i64.wrap (b + 1 + x) = b + 1 + x := by rw [IntKind.wrap_i64]; omega
  clear h hE hr
  go_enter Tryz.func80, Tryz.ntmps80
  go_wp2_with (go_at_call 65; refine CU.out.mono ?_; clear CU; rintro e W ⟨rfl, hR, hK⟩; have HR := hideP hR; have HK := hideP hK; clear hR hK)
  go_quiet (fail)
  go_wp2
  go_ret2
  exact ⟨rfl, HR.out.drewN _, HK.out.trans (Kept.drewN _ _) (fun _ f => f.elim)⟩
set_option maxRecDepth 20000 in
theorem readBehind_n {l : List Int} {p br : Nat} {v : Value} {ad : Nat → Addr} (b most : Int) (w : World) (h : Rd w br v l p) (hb : -1 ≤ b) (hb2 : b ≤ 9223372036854775807) (hm0 : 0 ≤ most) (hm : most ≤ 9223372036854775807) (hE : ErP w ad) (hr : upn (most - 1 - b) l p = none) :
    Calls Tryz.prog 80 #[.pointer (some ⟨br, 0, none⟩), .int .i64 b, .int .i64 most] w fun e w' => (∃ y, e = .returned (.tuple #[.int .i64 y, .bool false])) ∧ Kept (fun _ => False) w w' := by
  obtain ⟨ad', CU⟩ := upto_nP w h (by omega) hE hr
  unfold errV at CU
  have CU := hideP CU
  clear h hE hr
  go_enter Tryz.func80, Tryz.ntmps80
  go_wp2_with (go_at_call 65; refine CU.out.mono ?_; clear CU; rintro e W ⟨rfl, hK⟩; have HK := hideP hK; clear hK)
  go_quiet (fail)
  go_wp2
  go_ret2
  exact ⟨⟨_, rfl⟩, HK.out.trans (Kept.drewN _ _) (fun _ f => f.elim)⟩
theorem rdr_upn {nn s q : Nat} {l : List Int} (h : upn (9223372036854775807 - (s : Int)) l q = none) : ∃ e, rdr (nn + 1) s (l.drop q) = .error e := by
  unfold upn at h
  split at h
  · rename_i er hr
    exact ⟨er, rdr_err _ _ _ _ hr⟩
  · rename_i x k hr
    split at h
    · cases h
    · exact ⟨2, rdr_lim _ _ _ _ _ hr (by omega)⟩
def finP (p : Nat) : Except Nat (List Int × Nat) → Option (List Int × Nat)
  | .error _ => none
  | .ok (xs, k) => some (xs, p + k)
theorem rps_eq (l : List Int) (m p : Nat) : rps l m p = if l.length - p ≤ m then none else finP p (rdr (m + 1) 0 (l.drop p)) := by
  unfold rps
  split
  · rfl
  · cases rdr (m + 1) 0 (l.drop p) with
    | error e => rfl
    | ok x => obtain ⟨a, b⟩ := x; rfl
theorem ahead_err (acc : List Int) (d e : Nat) : ahead acc d (.error e) = .error e := rfl
/-- What readPositions leaves. -/
def rpPost (br : Nat) (v : Value) (l : List Int) (w : World) (e : Ending) (w' : World) : Option (List Int × Nat) → Prop
  | none => e = .returned (.tuple #[.slice none 0 0, .bool false]) ∧ Kept (fun i => i = br) w w'
  | some (xs, q) => ∃ a c, e = .returned (.tuple #[.slice a xs.length c, .bool true]) ∧ w'.ownsRow w.heap.size 3 1 (.slice a xs.length c) xs.length (is xs) ∧ Rd w' br v l q ∧ Kept (fun i => i = br) w w'
set_option maxRecDepth 20000 in
set_option maxHeartbeats 4000000 in
theorem readPositions_any {l : List Int} {p br : Nat} {v : Value} {ad : Nat → Addr} (m : Nat) (w0 w : World) (h : Rd w br v l p) (hl : l.length ≤ 1099511627776) (hm : m ≤ 9223372036854775807) (hE : ErP w0 ad) (hO : Old w0 w) (hb : w0.heap.size ≤ br) :
    Calls Tryz.prog 84 #[.pointer (some ⟨br, 0, none⟩), .int .i64 m] w fun e w' => rpPost br v l w e w' (rps l m p) := by
  obtain ⟨R, hR⟩ : ∃ R, R = rps l m p := ⟨_, rfl⟩
  rw [← hR]
  have CL := hideP (left_any br v l p w h)
  have hp := h.le
  have HR := hideP hR
  have HH := hideP h
  have HE := hideP hE
  have HO := hideP hO
  have hbr : br < w.heap.size := lt_of_block h.blk
  have HVB : Hid (∀ k, v.ownBlock = some k → k < w.heap.size) := hideP (fun k hk => (h.own.lt k hk).2)
  clear hR h hE hO
  by_cases hlt : l.length - p ≤ m
  · have HR2 : Hid (R = none) := hideP (by rw [HR.out, rps_eq, if_pos hlt])
    have hlt2 : ((l.length - p : Nat) : Int) ≤ (m : Int) := by omega
    generalize l.length - p = z at *
    clear HR
    go_enter Tryz.func84, Tryz.ntmps84
    go_wp2_with (go_at_call 66; refine CL.out.mono ?_; clear CL; rintro e W ⟨rfl, nq, rfl⟩)
    go_ret2
    rw [HR2.out]
    exact ⟨rfl, (Kept.drewN w nq).mono (fun _ f => f.elim)⟩
  · have HR2 : Hid (R = finP p (rdr (m + 1) 0 (l.drop p))) := hideP (by rw [HR.out, rps_eq, if_neg hlt])
    have hlt2 : ¬ ((l.length - p : Nat) : Int) ≤ (m : Int) := by omega
    have hm2 : m + 1 ≤ 1099511627776 := by omega
    obtain ⟨i0, hi, hz0, hz1, hz2⟩ := info_partsP Tryz.infoI
    generalize l.length - p = z at *
    clear HR hlt
    go_enter Tryz.func84, Tryz.ntmps84
    go_wp2_with (first
      | (go_at_call 66; refine CL.out.mono ?_; clear CL; rintro e W ⟨rfl, nq, rfl⟩)
      | (at_make; refine wpList_make_own _ rfl _ _ 24 rfl w.heap.size 3 i0 (.int .i64 0) 1 Tryz.underlying24 hi hz0 hz1 _ _ _ (m + 1) rfl rfl (by omega) (by rw [hz2]; omega) (by unfold maxLen; omega) (Nat.le_refl _) ?_))
    intro w1 ho1 hg1
    have K0 : Kept (fun _ => False) w w1 := ((Kept.drewN w nq).trans (Kept.grown hg1) (fun _ e => by cases e)).mono (fun _ f => f.elim)
    have HO1 := hideP ho1
    have HK1 : Hid (Kept (fun i => i = br) w w1) := hideP (K0.mono (fun _ f => f.elim))
    have HRd1 := hideP (HH.out.kept K0 (fun f => f) (fun _ _ f => f))
    clear ho1 hg1 K0 hlt2 hi hz0 hz1 hz2
    go_wp2
    go_loopw [6, 7, 21] (fun v6 v7 v21 wr => ∃ (acc : List Int) (s q n : Nat) (z : Int) (ua : Option Addr) (uc : Nat), v6 = .slice ua n uc ∧ v7 = .int .i64 z ∧ v21 = .int .i64 n ∧ n ≤ m + 1 ∧ -1 ≤ z ∧ z ≤ 9223372036854775807 ∧ Hid (z = (s : Int) - 1) ∧ Hid (wr.ownsRow w.heap.size 3 1 (.slice ua n uc) n (is acc)) ∧ Hid (Rd wr br v l q) ∧ Hid (p ≤ q ∧ rdr (m + 1) 0 (l.drop p) = ahead acc (q - p) (rdr (m + 1 - n) s (l.drop q))) ∧ Hid (Kept (fun i => i = br) w wr)) (fun _ _ v21 _ => m + 1 - (intOf v21).toNat)
    case atStart =>
      refine ⟨[], 0, p, 0, -1, _, _, rfl, rfl, rfl, by omega, by omega, by omega, hideP (by simp), HO1, HRd1, hideP ⟨Nat.le_refl _, ?_⟩, HK1⟩
      rw [Nat.sub_zero, Nat.sub_self]
      cases rdr (m + 1) 0 (l.drop p) with
      | error e => rfl
      | ok x => obtain ⟨a, b⟩ := x; simp [ahead]
    case round =>
      obtain ⟨acc, s, q, n, z, ua, uc, rfl, rfl, rfl, hn, hz1, hz2, HZ, HOw, HRd, HQ, HK⟩ := hrel
      clear HO1 HK1 HRd1 HH
      have HOr := hideP (HO.out.one HK.out hb)
      have HEr := hideP (HE.out.old HOr.out)
      have hzr := HK.out.size
      by_cases hlt : n < m + 1
      · have hnn : (n : Int) < (m : Int) + 1 := by omega
        obtain ⟨nn, hnn2⟩ : ∃ nn, m + 1 - n = nn + 1 := ⟨m - n, by omega⟩
        have hes : (9223372036854775807 : Int) - 1 - z = 9223372036854775807 - (s : Int) := by have := HZ.out; omega
        cases hu : upn (9223372036854775807 - 1 - z) l q with
        | none =>
          have HRn : Hid (R = none) := hideP (by
            rw [hes] at hu
            obtain ⟨e, he⟩ := rdr_upn (nn := nn) hu
            rw [HR2.out, HQ.out.2, hnn2, he, ahead_err]
            rfl)
          have C := hideP (readBehind_n z 9223372036854775807 wr HRd.out hz1 hz2 (by omega) (by omega) HEr.out hu)
          clear hu hes hnn2 HZ
          go_wp2_with (go_at_call 80; refine C.out.mono ?_; clear C; rintro e W ⟨⟨y, rfl⟩, hK2⟩; have HK2 := hideP (HK.out.trans hK2 (fun _ f => f.elim)); clear hK2)
          go_ret2
          rw [HRn.out]
          exact ⟨rfl, HK2.out⟩
        | some xq =>
          obtain ⟨x, q2⟩ := xq
          have C := hideP (readBehind_s z 9223372036854775807 wr HRd.out hz1 hz2 (by omega) (by omega) HEr.out hu)
          obtain ⟨k2, hk2, hr2, hx2⟩ := upn_rduP hu
          have hle := (upn_back HRd.out.isb hu).1
          obtain ⟨y, hy⟩ : ∃ y, y = z + 1 + (x : Int) := ⟨_, rfl⟩
          rw [← hy] at C
          have HQ2 : Hid (p ≤ q2 ∧ rdr (m + 1) 0 (l.drop p) = ahead (acc ++ [y]) (q2 - p) (rdr (m + 1 - (n + 1)) (s + x + 1) (l.drop q2))) := hideP ⟨by have := HQ.out.1; omega, by
            have h1 := HQ.out.1
            have h3 := HZ.out
            rw [HQ.out.2, hnn2, rdr_step _ _ _ _ _ hr2 (by omega), ahead_step, List.drop_drop, ← hk2, show m + 1 - (n + 1) = nn by omega, show q - p + k2 = q2 - p by omega, show y = ((s + x : Nat) : Int) by omega]⟩
          have HZ2 : Hid (y = ((s + x + 1 : Nat) : Int) - 1) := hideP (by have := HZ.out; omega)
          have hy1 : -1 ≤ y := by omega
          have hy2 : y ≤ 9223372036854775807 := by omega
          clear hu hes hnn2 HZ hk2 hr2 hx2 hle hy HQ HRd
          have GR := HOw
          go_wp2_with (first
            | (go_at_call 80; refine C.out.mono ?_; clear C; rintro e W ⟨rfl, hR2, hK2⟩; have HRd2 := hideP hR2; have HK2 := hideP (HK.out.trans hK2 (fun i hi => .inl hi)); have GW := hideP (hK2.row HOw.out (fun j hj e => by have := (HOw.out.lt j hj).1; omega)); have s2 := HK2.out.size; clear hR2 hK2 HOw GR)
            | (at_builtin; refine wpList_pushD rfl _ _ rfl _ n acc y rfl GW s2 _ (by first | rfl | simp) rfl (by omega) ?_; intro g3 c3 W3 O3 K3 A3; have HRd3 := hideP (HRd2.out.kept K3.out (fun e => by have := (GW.out.lt _ e).1; omega) (fun j hj e => by have := (GW.out.lt _ e).1; have := HVB.out j hj; omega)); have HK3 := hideP (HK2.out.trans K3.out (fun i hi => .inr (GW.out.lt i hi).1)); clear GW K3 A3 HRd2 HK2))
          go_roundw
          case rel => exact ⟨acc ++ [y], s + x + 1, q2, n + 1, y, _, _, rfl, rfl, by go_num, by omega, hy1, hy2, HZ2, O3, HRd3, HQ2, HK3⟩
          case measure => simp [intOf]; omega
      · have hnn : ¬ (n : Int) < (m : Int) + 1 := by omega
        have hle := HOw.out.1
        rw [is_length, Nat.mul_one] at hle
        have HRn : Hid (R = some (acc, q)) := hideP (by
          rw [HR2.out, HQ.out.2, show m + 1 - n = 0 by omega]
          simp only [rdr, ahead, finP, List.append_nil]
          rw [show p + (q - p + 0) = q by have := HQ.out.1; omega])
        have HLe := hideP hle
        clear hle
        go_wp2
        go_ret2
        rw [HRn.out]
        refine ⟨ua, uc, by rw [HLe.out]; rfl, by rw [HLe.out]; exact HOw.out, HRd.out, HK.out⟩
end Go.Proofs.YtidgofpmnlddaaaGreatDoor
namespace Go.Proofs.YtidgofpmnlddaaaGreatDoor
open Go.ChangeShapes Go.WideShapes Go.ChangeAt Go.RowKit

theorem own_lowerQ {w : World} {b b' e z n : Nat} {v : Value} {xs : List Value} (h : w.ownsRow b e z v n xs) (hb : b' ≤ b) : w.ownsRow b' e z v n xs := by
  refine ⟨h.1, ?_⟩
  rcases h.2 with hn | ⟨g, cap, cur, e1, hg, rest⟩
  · exact .inl hn
  · exact .inr ⟨g, cap, cur, e1, Nat.le_trans hb hg, rest⟩
theorem errOf3_formP (a0 a2 a3 : Addr) (er : Nat) : ∃ ad, errOf3 a0 a2 a3 er = errV ad := by
  unfold errOf3
  split
  · exact ⟨_, rfl⟩
  · split
    · exact ⟨_, rfl⟩
    · exact ⟨_, rfl⟩
theorem pk_n {most : Int} {l : List Int} {p br : Nat} {v : Value} {ad : Nat → Addr} (w : World) (h : Rd w br v l p) (hl : l.length ≤ 1099511627776) (hm : most ≤ 9223372036854775807) (hE : ErP w ad) (hr : pkn most l p = none) :
    Calls Tryz.prog 83 #[.pointer (some ⟨br, 0, none⟩), .int .i64 most] w fun e w' => (∃ b, e = .returned (.tuple #[.slice none 0 0, .iface 163 (.pointer (some b))])) ∧ Kept (fun _ => False) w w' := by
  unfold pkn at hr
  split at hr
  · rename_i hu
    obtain ⟨b, hb⟩ := upat_nP w h.isb h.le h.sm hm hE hu
    exact (rpak_bad br v l p _ _ w h hb).mono (fun e w' ⟨h1, n, h2⟩ => ⟨⟨b, h1⟩, by rw [h2]; exact Kept.drewN w n⟩)
  · rename_i n q hu
    obtain ⟨k, rfl, hk, hx⟩ := upn_rduP hu
    have C := rpak_any br v l p n k most (ad 0) (ad 1) (ad 2) (ad 3) w h hk hx hm hl hE.s0 hE.s1 hE.s2 hE.s3
    split at hr
    · rename_i er he
      rw [he] at C
      refine C.mono ?_
      rintro e w' ⟨h1, _, h3⟩
      obtain ⟨b, hb⟩ := errOf3_formP (ad 0) (ad 2) (ad 3) er
      rw [hb] at h1
      exact ⟨⟨b, h1⟩, h3⟩
    · cases hr
theorem pk_s {most : Int} {l xs : List Int} {p q br : Nat} {v : Value} {ad : Nat → Addr} (w : World) (h : Rd w br v l p) (hl : l.length ≤ 1099511627776) (hm : most ≤ 9223372036854775807) (hE : ErP w ad) (hr : pkn most l p = some (xs, q)) :
    Calls Tryz.prog 83 #[.pointer (some ⟨br, 0, none⟩), .int .i64 most] w fun e w' => ∃ a c, e = .returned (.tuple #[.slice a xs.length c, .nilIface]) ∧ w'.ownsRow w.heap.size 3 1 (.slice a xs.length c) xs.length (is xs) ∧ Rd w' br v l q ∧ Kept (fun i => i = br) w w' := by
  unfold pkn at hr
  split at hr
  · cases hr
  · rename_i n q' hu
    obtain ⟨k, rfl, hk, hx⟩ := upn_rduP hu
    have C := rpak_any br v l p n k most (ad 0) (ad 1) (ad 2) (ad 3) w h hk hx hm hl hE.s0 hE.s1 hE.s2 hE.s3
    split at hr
    · cases hr
    · rename_i ys m he
      injection hr with hr
      injection hr with e1 e2
      subst e1 e2
      rw [he] at C
      refine C.mono ?_
      rintro e w' ⟨u, rfl, ho, hR, hK⟩
      obtain ⟨a, c, rfl⟩ := own_slice ho
      exact ⟨a, c, rfl, ho, hR, hK⟩
theorem intsAt_own {W : World} {base n : Nat} {a : Option Addr} {c : Nat} {X : List Int} (ho : W.ownsRow base 3 1 (.slice a n c) n (is X)) : IntsAt W a X := by
  obtain ⟨a', c', e, _, hcl⟩ := ints_of_own ho
  simp only [Value.slice.injEq, true_and] at e
  obtain ⟨rfl, _⟩ := e
  intro hne
  obtain ⟨b, off, e, _, _, hc⟩ := hcl hne
  exact ⟨b, off, e, hc⟩
def appO (acc : List Int) : Option (List Int) → Option (List Int)
  | none => none
  | some D => some (acc ++ D)
def consO (x : Int) : Option (List Int) → Option (List Int)
  | none => none
  | some D => some (x :: D)
def pairO (q : Nat) : Option (List Int) → Option (List Int × Nat)
  | none => none
  | some D => some (D, q)
theorem appO_step (acc : List Int) (x : Int) (r : Option (List Int)) : appO acc (consO x r) = appO (acc ++ [x]) r := by
  cases r with
  | none => rfl
  | some D => simp [appO, consO]
theorem dcs_step {last b g : Int} {G : List Int} : dcs last b (g :: G) = if g ≤ last - 1 - b then consO (b + (g + 1)) (dcs last (b + (g + 1)) G) else none := by
  rw [dcs]
  split
  · cases dcs last (b + (g + 1)) G <;> rfl
  · rfl
def rdd (l : List Int) (b last : Int) (n p : Nat) : Option (List Int × Nat) := match pkn n l p with
  | none => none
  | some (G, q) => if G.length = n then pairO q (dcs last b G) else none
/-- What readDocs leaves. -/
def rdPost (br : Nat) (v : Value) (l : List Int) (w : World) (e : Ending) (w' : World) : Option (List Int × Nat) → Prop
  | none => (∃ u, e = .returned (.tuple #[u, .bool false])) ∧ Kept (fun i => i = br) w w'
  | some (xs, q) => ∃ a c, e = .returned (.tuple #[.slice a xs.length c, .bool true]) ∧ w'.ownsRow w.heap.size 3 1 (.slice a xs.length c) xs.length (is xs) ∧ Rd w' br v l q ∧ Kept (fun i => i = br) w w'
set_option maxRecDepth 20000 in
set_option maxHeartbeats 4000000 in
theorem readDocs_any {l : List Int} {p br : Nat} {v : Value} {ad : Nat → Addr} (b last : Int) (n at_ sz : Nat) (w0 w : World) (h : Rd w br v l p) (hl : l.length ≤ 1099511627776) (hn : n ≤ 16) (hb1 : -1 ≤ b) (hb2 : b ≤ 2147483646) (hl1 : -1 ≤ last) (hl2 : last ≤ 2147483646) (hE : ErP w0 ad) (hO : Old w0 w) :
    Calls Tryz.prog 82 #[.pointer (some ⟨br, 0, none⟩), .int .i64 b, .agg #[.int .i64 last, .int .i64 n, .int .i64 at_, .int .i64 sz]] w fun e w' => rdPost br v l w e w' (rdd l b last n p) := by
  obtain ⟨R, hR⟩ : ∃ R, R = rdd l b last n p := ⟨_, rfl⟩
  rw [← hR]
  have K0 := Kept.alloc w (.cells #[.int .i64 last, .int .i64 n, .int .i64 at_, .int .i64 sz] 80)
  have g0 := heap_alloc_new w (.cells #[.int .i64 last, .int .i64 n, .int .i64 at_, .int .i64 sz] 80)
  have hRd0 := h.kept K0 (fun f => f) (fun _ _ f => f)
  have hE0 := hE.old (hO.none K0)
  have hbr : br < w.heap.size := lt_of_block h.blk
  have HR := hideP hR
  have HK0 := hideP K0
  have HG0 := hideP g0
  have HVB : Hid (∀ k, v.ownBlock = some k → k < w.heap.size) := hideP (fun k hk => (h.own.lt k hk).2)
  have hbx : ¬ w.heap.size = br := by omega
  unfold rdd at hR
  clear hE hO h g0 K0
  cases hp : pkn n l p with
  | none =>
    rw [hp] at hR
    have HRn : Hid (R = none) := hideP hR
    have C := hideP (pk_n _ hRd0 hl (by omega) hE0 hp)
    clear hR hp hRd0 hE0 HR
    go_enter Tryz.func82, Tryz.ntmps82
    go_wp2_with (go_at_call 83; refine C.out.mono ?_; clear C; rintro e W ⟨⟨b', rfl⟩, hK⟩; have HK := hideP (HK0.out.trans hK (fun _ f => f.elim)); clear hK)
    go_ret2
    rw [HRn.out]
    exact ⟨⟨_, rfl⟩, HK.out.mono (fun _ f => f.elim)⟩
  | some Gq =>
    obtain ⟨G, q⟩ := Gq
    rw [hp] at hR
    simp only at hR
    have C := hideP (pk_s _ hRd0 hl (by omega) hE0 hp)
    obtain ⟨_, _, gI, gP, _⟩ := pkn_back hRd0.isb hp
    have HGI := hideP gI
    have HGP := hideP gP
    obtain ⟨gl, hgl⟩ : ∃ gl, gl = G.length := ⟨_, rfl⟩
    rw [← hgl] at C hR
    have HGL := hideP hgl
    have gI' := gI
    clear hp hRd0 hE0 HR gI gP hgl gI'
    by_cases hne : gl = n
    · rw [if_pos hne] at hR
      have HRn : Hid (R = pairO q (dcs last b G)) := hideP hR
      subst hne
      obtain ⟨i0, hi, hz0, hz1, hz2⟩ := info_partsP Tryz.infoI
      clear hR
      go_enter Tryz.func82, Tryz.ntmps82
      go_wp2_with (first
        | (go_at_call 83; refine C.out.mono ?_; clear C; rintro e W1 ⟨ga, gc, rfl, hoG, hR1, hK1⟩; have HKw := hideP (HK0.out.mono (fun _ f => f.elim (C := _ ∨ _)) |>.trans hK1 (fun i hi => .inl hi)); have HRd1 := hideP hR1; have HG1 := hideP (hK1.heap HG0.out hbx); have x0 := cell_of_row _ _ 0 _ _ _ HG1.out; have x1 := cell_of_row _ _ 1 _ _ _ HG1.out; simp at x0 x1; have HoG := hideP (intsAt_own hoG); have s1 := HKw.out.size; clear hR1 hK1 hoG)
        | (at_make; refine wpList_make_own _ rfl _ _ 24 rfl W1.heap.size 3 i0 (.int .i64 0) 1 Tryz.underlying24 hi hz0 hz1 _ _ _ gl rfl rfl (by omega) (by rw [hz2]; omega) (by unfold maxLen; omega) (Nat.le_refl _) ?_))
      intro w1 ho1 hg1
      have HO1 := hideP ho1
      have HK1 : Hid (Kept (fun _ => False) W1 w1) := hideP ((Kept.grown hg1).mono (fun _ e => by cases e))
      clear ho1 hg1 hi hz0 hz1 hz2 x0 x1
      go_wp2
      go_loopw [1, 10, 34] (fun v1 v10 v34 wr => ∃ (acc : List Int) (k : Nat) (z : Int) (ua : Option Addr) (uc : Nat), v1 = .int .i64 z ∧ v10 = .slice ua k uc ∧ v34 = .int .i64 k ∧ k ≤ gl ∧ -1 ≤ z ∧ z ≤ 2147483646 ∧ Hid (wr.ownsRow W1.heap.size 3 1 (.slice ua k uc) k (is acc)) ∧ Hid (dcs last b G = appO acc (dcs last z (G.drop k))) ∧ Hid (Kept (fun _ => False) W1 wr)) (fun _ _ v34 _ => gl - (intOf v34).toNat)
      case atStart =>
        refine ⟨[], 0, b, _, _, rfl, rfl, rfl, by omega, hb1, hb2, HO1, hideP ?_, HK1⟩
        rw [List.drop_zero]
        cases dcs last b G <;> rfl
      case round =>
        obtain ⟨acc, k, z, ua, uc, rfl, rfl, rfl, hk, hz1, hz2, HOw, HD, HK⟩ := hrel
        clear HO1 HK1
        have x0 := HK.out.cell (cell_of_row _ _ 0 _ _ _ HG1.out) (fun f => f)
        simp at x0
        have hsr := HK.out.size
        by_cases hlt : k < gl
        · have hkk : (k : Int) < (gl : Int) := by omega
          have hkG : k < G.length := by rw [← HGL.out]; exact hlt
          obtain ⟨gb, go, rfl, hcg⟩ := (HoG.out.kept HK.out).get hkG
          obtain ⟨x, hx⟩ : ∃ x, x = G[k]?.getD 0 := ⟨_, rfl⟩
          rw [← hx] at hcg
          have hxG : G[k] = x := by rw [hx, List.getElem?_eq_getElem hkG]; rfl
          have x0n := HGP.out x (by rw [← hxG]; exact List.getElem_mem hkG)
          have hdr : G.drop k = x :: G.drop (k + 1) := by rw [List.drop_eq_getElem_cons hkG, hxG]
          by_cases hle : x ≤ last - 1 - z
          · have hle2 : ¬ last - 1 - z < x := by omega
            obtain ⟨y, hy⟩ : ∃ y, y = z + (x + 1) := ⟨_, rfl⟩
            have HD2 : Hid (dcs last b G = appO (acc ++ [y]) (dcs last y (G.drop (k + 1)))) := hideP (by rw [HD.out, hdr, dcs_step, if_pos hle, appO_step, ← hy])
            have e1 : IntKind.i64.wrap (x + 1) = x + 1 := by rw [IntKind.wrap_i64]; omega
            have e2 : IntKind.i64.wrap (z + (x + 1)) = y := by rw [IntKind.wrap_i64]; omega
            have hy1 : -1 ≤ y := by omega
            have hy2 : y ≤ 2147483646 := by omega
            clear hx hxG hdr HD hle
            have HY := hideP hy
            clear hy
            go_wp2_with (at_builtin; (try rw [← HY.out]); refine wpList_pushD rfl _ _ rfl _ k acc y rfl HOw hsr _ (by first | rfl | simp) rfl (by omega) ?_; intro g3 c3 W3 O3 K3 A3; have HK3 := hideP (HK.out.trans K3.out (fun i hi => .inr (HOw.out.lt i hi).1)); clear K3 A3)
            go_roundw
            case rel => exact ⟨acc ++ [y], k + 1, y, _, _, by first | rfl | (rw [HY.out]), rfl, by go_num, by omega, hy1, hy2, O3, HD2, HK3⟩
            case measure => simp [intOf]; omega
          · have hle2 : last - 1 - z < x := by omega
            have HRf : Hid (R = none) := hideP (by rw [HRn.out, HD.out, hdr, dcs_step, if_neg hle]; rfl)
            clear hx hxG hdr HD hle
            go_wp2
            go_ret2
            rw [HRf.out]
            exact ⟨⟨_, rfl⟩, HKw.out.trans HK.out (fun _ f => f.elim)⟩
        · have hkk : ¬ (k : Int) < (gl : Int) := by omega
          have hln := HOw.out.1
          rw [is_length, Nat.mul_one] at hln
          have hdr : G.drop k = [] := List.drop_of_length_le (by have := HGL.out; omega)
          have HLn := hideP hln
          clear hln
          by_cases hzl : z = last
          · have HRf : Hid (R = some (acc, q)) := hideP (by rw [HRn.out, HD.out, hdr, dcs, if_pos hzl]; simp [appO, pairO])
            have HRd2 := hideP (HRd1.out.kept HK.out (fun f => f) (fun _ _ f => f))
            have hzl2 : (z == last) = true := by simpa using hzl
            have HO2 := hideP (own_lowerQ HOw.out s1)
            clear hdr HD HOw
            go_wp2_with fail
            go_quiet (fail)
            go_wp2
            go_ret2
            rw [HRf.out]
            have kd := Kept.drewN wr nq
            refine ⟨ua, uc, ?_, ?_, HRd2.out.drewN nq, (HKw.out.trans HK.out (fun _ f => f.elim)).trans kd (fun _ f => f.elim)⟩
            · rw [HLn.out]; rfl
            · rw [HLn.out]; exact kd.row HO2.out (fun _ _ f => f)
          · have HRf : Hid (R = none) := hideP (by rw [HRn.out, HD.out, hdr, dcs, if_neg hzl]; rfl)
            have hzl2 : (z == last) = false := by simpa using hzl
            clear hdr HD HOw
            go_wp2_with fail
            go_quiet (fail)
            go_wp2
            go_ret2
            rw [HRf.out]
            exact ⟨⟨_, rfl⟩, (HKw.out.trans HK.out (fun _ f => f.elim)).trans (Kept.drewN wr nq) (fun _ f => f.elim)⟩
    · rw [if_neg hne] at hR
      have HRn : Hid (R = none) := hideP hR
      have hne1 : ¬ (gl : Int) = (n : Int) := by omega
      clear hR
      go_enter Tryz.func82, Tryz.ntmps82
      go_wp2_with (go_at_call 83; refine C.out.mono ?_; clear C; rintro e W1 ⟨ga, gc, rfl, hoG, hR1, hK1⟩; have HKw := hideP (HK0.out.mono (fun _ f => f.elim (C := _ ∨ _)) |>.trans hK1 (fun i hi => .inl hi)); have HG1 := hideP (hK1.heap HG0.out hbx); have x0 := cell_of_row _ _ 0 _ _ _ HG1.out; have x1 := cell_of_row _ _ 1 _ _ _ HG1.out; simp at x0 x1; clear hR1 hK1 hoG)
      go_ret2
      rw [HRn.out]
      exact ⟨⟨_, rfl⟩, HKw.out⟩
end Go.Proofs.YtidgofpmnlddaaaGreatDoor
namespace Go.Proofs.YtidgofpmnlddaaaGreatDoor
open Go.ChangeShapes Go.WideShapes Go.ChangeAt Go.RowKit

theorem Tryz.infoPo : (Tryz.prog.info? 38).map (fun i => (i.zero, i.size, i.bytes)) = some (some (.agg #[.int .i64 0, .slice none 0 0]), 2, 32) := by kernel_rfl
def pgc (g : Pg) : List Value := [.int .i64 g.d, .slice g.a g.ps.length g.c]
def pcs (L : List Pg) : List Value := (L.map pgc).flatten
theorem pcs_append (L M : List Pg) : pcs (L ++ M) = pcs L ++ pcs M := by simp [pcs]
theorem pcs_length (L : List Pg) : (pcs L).length = L.length * 2 := by
  induction L with
  | nil => rfl
  | cons g L ih => unfold pcs at ih ⊢; rw [List.map_cons, List.flatten_cons, List.length_append, ih, List.length_cons]; simp [pgc]; omega
theorem pcs_at : ∀ (L : List Pg) (k j : Nat) (h : k < L.length), j < 2 → (pcs L)[k * 2 + j]? = (pgc L[k])[j]?
  | g :: L, 0, j, _, hj => by
    unfold pcs
    rw [List.map_cons, List.flatten_cons, List.getElem?_append_left (by simp [pgc]; omega)]
    simp
  | g :: L, k + 1, j, h, hj => by
    have i := pcs_at L k j (by simpa using h) hj
    unfold pcs at i ⊢
    rw [List.map_cons, List.flatten_cons, List.getElem?_append_right (by simp [pgc]; omega)]
    simp only [List.getElem_cons_succ]
    rw [← i]
    congr 1
    simp [pgc]
    omega
theorem pcs_one (L : List Pg) : ∀ u ∈ pcs L, u.oneCell' = true := by
  intro u hu
  unfold pcs at hu
  rw [List.mem_flatten] at hu
  obtain ⟨r, hr, hu⟩ := hu
  obtain ⟨g, _, rfl⟩ := List.mem_map.1 hr
  simp [pgc] at hu
  rcases hu with rfl | rfl <;> rfl
/-- Postings in a list that grows, in memory younger than w0. -/
structure Gps (F : Nat → Prop) (w0 W : World) (v : Value) (n : Nat) (L : List Pg) : Prop where
  own : W.ownsRow w0.heap.size 38 2 v n (pcs L)
  kept : Kept F w0 W
  ints : ∀ g ∈ L, IntsAt W g.a g.ps
  far : ∀ g ∈ L, g.ps ≠ [] → ∃ b off, g.a = some ⟨b, off, none⟩ ∧ w0.heap.size ≤ b ∧ b < W.heap.size ∧ v.ownBlock ≠ some b
theorem ints_step {W W' : World} {G : Nat → Prop} {a : Option Addr} {ps : List Int} (h : IntsAt W a ps) (k : Kept G W W') (hf : ps ≠ [] → ∃ b off, a = some ⟨b, off, none⟩ ∧ ¬ G b) : IntsAt W' a ps := by
  intro hne
  obtain ⟨b, off, e, hc⟩ := h hne
  obtain ⟨b', off', e', hb⟩ := hf hne
  rw [e] at e'
  simp only [Option.some.injEq, Addr.mk.injEq, and_true] at e'
  obtain ⟨rfl, rfl⟩ := e'
  exact ⟨b, off, e, fun j hj => k.cell (hc j hj) hb⟩
theorem Gps.step {F G : Nat → Prop} {w0 W W' : World} {v : Value} {n : Nat} {L : List Pg} (h : Gps F w0 W v n L) (k : Kept G W W') (hG : ∀ i, G i → F i ∧ i < w0.heap.size) : Gps F w0 W' v n L := by
  refine ⟨k.row h.own (fun j hj g => by have := (h.own.lt j hj).1; have := (hG j g).2; omega), h.kept.trans k (fun i hi => .inl (hG i hi).1), fun g hg => ?_, fun g hg hne => ?_⟩
  · refine ints_step (h.ints g hg) k (fun hne => ?_)
    obtain ⟨b, off, e, h1, _, _⟩ := h.far g hg hne
    exact ⟨b, off, e, fun f => by have := (hG b f).2; omega⟩
  · obtain ⟨b, off, e, h1, h2, h3⟩ := h.far g hg hne
    exact ⟨b, off, e, h1, Nat.lt_of_lt_of_le h2 k.size, h3⟩
theorem Gps.more {F : Nat → Prop} {w0 W W' : World} {v : Value} {n n' gb c' : Nat} {L M : List Pg} (h : Gps F w0 W v n L) (o : W'.ownsRow w0.heap.size 38 2 (.slice (some ⟨gb, 0, none⟩) n' c') n' (pcs L ++ pcs M)) (k : Kept (fun i => v.ownBlock = some i) W W') (hat : v.ownBlock = some gb ∨ W.heap.size ≤ gb)
    (hi : ∀ g ∈ M, IntsAt W g.a g.ps) (hf : ∀ g ∈ M, g.ps ≠ [] → ∃ b off, g.a = some ⟨b, off, none⟩ ∧ w0.heap.size ≤ b ∧ b < W.heap.size ∧ v.ownBlock ≠ some b) : Gps F w0 W' (.slice (some ⟨gb, 0, none⟩) n' c') n' (L ++ M) := by
  have hi2 : ∀ g ∈ L ++ M, IntsAt W g.a g.ps := fun g hg => (List.mem_append.1 hg).elim (h.ints g) (hi g)
  have hf2 : ∀ g ∈ L ++ M, g.ps ≠ [] → ∃ b off, g.a = some ⟨b, off, none⟩ ∧ w0.heap.size ≤ b ∧ b < W.heap.size ∧ v.ownBlock ≠ some b := fun g hg => (List.mem_append.1 hg).elim (h.far g) (hf g)
  refine ⟨by rw [pcs_append]; exact o, h.kept.trans k (fun i hi => .inr (h.own.lt i hi).1), fun g hg => ?_, fun g hg hne => ?_⟩
  · refine ints_step (hi2 g hg) k (fun hne => ?_)
    obtain ⟨b, off, e, _, _, h3⟩ := hf2 g hg hne
    exact ⟨b, off, e, h3⟩
  · obtain ⟨b, off, e, h1, h2, h3⟩ := hf2 g hg hne
    refine ⟨b, off, e, h1, Nat.lt_of_lt_of_le h2 k.size, fun f => ?_⟩
    simp [Value.ownBlock] at f
    subst f
    rcases hat with q | q
    · exact h3 q
    · omega
theorem Gps.at {F : Nat → Prop} {w0 W : World} {a : Option Addr} {n c : Nat} {L : List Pg} (h : Gps F w0 W (.slice a n c) n L) : PsAt W a L ∧ n = L.length ∧ n ≤ c := by
  have hn : n = L.length := by have := h.own.1; rw [pcs_length] at this; omega
  rcases h.own.2 with ⟨e1, e2⟩ | ⟨g, cap, cur, e1, hg, hh, hnc, _⟩
  · simp only [Value.slice.injEq] at e1
    obtain ⟨rfl, rfl, rfl⟩ := e1
    exact ⟨fun hne => absurd (List.eq_nil_of_length_eq_zero hn.symm) hne, hn, Nat.le_refl _⟩
  · simp only [Value.slice.injEq] at e1
    obtain ⟨rfl, _, rfl⟩ := e1
    refine ⟨fun _ => ⟨g, 0, rfl, fun k hk => ?_⟩, hn, hnc⟩
    have hp : ∀ j, (⟨g, 0, none⟩ : Addr).add j = ⟨g, j, none⟩ := fun j => by unfold Addr.add; split <;> simp_all
    have q0 := h.own.cells (g := g) rfl (k * 2 + 0) (.int .i64 L[k].d) (by rw [pcs_at L k 0 hk (by decide)]; rfl)
    have q1 := h.own.cells (g := g) rfl (k * 2 + 1) (.slice L[k].a L[k].ps.length L[k].c) (by rw [pcs_at L k 1 hk (by decide)]; rfl)
    rw [hp] at q0 q1
    rw [Nat.zero_add]
    exact ⟨q0, q1, h.ints _ (List.getElem_mem hk)⟩
/-- 'append' of one posting. -/
theorem wpList_pushG {base : Nat} {W : World} {ops : Array Oper} {rest : List Oper} {o : Oper} {act : Act} {Q : Exit → Act → World → Prop} (hgd : o.guard = none) (s x : Operand)
    (ho : o.op = .call { callee := .builtin .append, args := #[s, x], argTypes := #[22, 22] }) (v : Value) (n : Nat) (xs : List Value) (g : Pg) (pn : Nat) (hpn : pn = g.ps.length) (hs : act.eval s = v) (hG : Hid (W.ownsRow base 38 2 v n xs)) (hb0 : base ≤ W.heap.size) (b : Nat) (hb : b = W.heap.size) (hx : act.eval x = .slice (some ⟨b, 0, none⟩) 1 1) (hn : n ≤ 1099511627776)
    (h : ∀ gb c' W', Hid (W'.ownsRow base 38 2 (.slice (some ⟨gb, 0, none⟩) (n + 1) c') (n + 1) (xs ++ pcs [g])) → Hid (Kept (fun k => v.ownBlock = some k) W W') → Hid (v.ownBlock = some gb ∨ W.heap.size ≤ gb) → wpList Tryz.prog ops Q rest (act.put o.dst (.slice (some ⟨gb, 0, none⟩) (n + 1) c')) W') : wpList Tryz.prog ops Q (o :: rest) act (W.alloc (.cells #[.int .i64 g.d, .slice g.a pn g.c] 38)) := by
  subst hb hpn
  obtain ⟨i0, hi, hz0, hz1, hz2⟩ := info_partsP Tryz.infoPo
  refine wpList_append_lies _ hgd s x 22 ho base 38 i0 (.agg #[.int .i64 0, .slice none 0 0]) 2 32 Tryz.underlying22 hi hz0 hz1 hz2 rfl (by decide) v n xs hs (hG.out.alloc _) ⟨W.heap.size, 0, none⟩ 1 1 (pcs [g]) hx (by simp [pcs, pgc]) (row_news W [.int .i64 g.d, .slice g.a g.ps.length g.c] 38) (pcs_one _) (by decide) (by unfold maxLen; omega) (by omega) (by simp; omega) _ rfl ?_
  intro gb c' W' ho2 hg2 hat _
  refine h gb c' W' ho2 (hideP (((Kept.alloc W _).mono (fun _ f => f.elim)).trans (Kept.grown hg2) (fun i hi => .inl hi))) (hideP (hat.imp id (fun e => by rw [e]; simp)))
def SkAt (w : World) (a : Option Addr) (S : List Sk) (p0 : Nat) : Prop :=
  S ≠ [] → ∃ b off, a = some ⟨b, off, none⟩ ∧ ∀ k (h : k < S.length), w.cell? ⟨b, off + k * 4, none⟩ = some (.int .i64 S[k].last) ∧ w.cell? ⟨b, off + k * 4 + 1, none⟩ = some (.int .i64 S[k].n) ∧ w.cell? ⟨b, off + k * 4 + 2, none⟩ = some (.int .i64 ((p0 + szs (S.take k) : Nat) : Int)) ∧ w.cell? ⟨b, off + k * 4 + 3, none⟩ = some (.int .i64 S[k].z)
theorem SkAt.kept {w w' : World} {a : Option Addr} {S : List Sk} {p0 : Nat} (h : SkAt w a S p0) (k : Kept (fun _ => False) w w') : SkAt w' a S p0 := by
  intro hne
  obtain ⟨b, off, e, hc⟩ := h hne
  refine ⟨b, off, e, fun j hj => ?_⟩
  obtain ⟨x0, x1, x2, x3⟩ := hc j hj
  exact ⟨k.cell x0 (fun f => f), k.cell x1 (fun f => f), k.cell x2 (fun f => f), k.cell x3 (fun f => f)⟩
/-- An opened list. -/
structure LsAt (w : World) (bl : Nat) (ia : Option Addr) (ic : Nat) (l : List Int) (n t : Nat) (sa : Option Addr) (sc : Nat) (S : List Sk) (p0 : Nat) : Prop where
  c0 : w.cell? ⟨bl, 0, none⟩ = some (.slice ia l.length ic)
  c1 : w.cell? ⟨bl, 1, none⟩ = some (.int .i64 n)
  c2 : w.cell? ⟨bl, 2, none⟩ = some (.int .i64 t)
  c3 : w.cell? ⟨bl, 3, none⟩ = some (.slice sa S.length sc)
  im : BytesAt w ia l
  cp : l.length ≤ ic
  sk : SkAt w sa S p0
theorem BytesAt.kept {w w' : World} {a : Option Addr} {l : List Int} (h : BytesAt w a l) (k : Kept (fun _ => False) w w') : BytesAt w' a l := by
  intro hne
  obtain ⟨b, off, e, hc⟩ := h hne
  exact ⟨b, off, e, fun j hj => k.cell (hc j hj) (fun f => f)⟩
theorem LsAt.kept {w w' : World} {bl : Nat} {ia : Option Addr} {ic : Nat} {l : List Int} {n t : Nat} {sa : Option Addr} {sc : Nat} {S : List Sk} {p0 : Nat} (h : LsAt w bl ia ic l n t sa sc S p0) (k : Kept (fun _ => False) w w') : LsAt w' bl ia ic l n t sa sc S p0 :=
  ⟨k.cell h.c0 (fun f => f), k.cell h.c1 (fun f => f), k.cell h.c2 (fun f => f), k.cell h.c3 (fun f => f), h.im.kept k, h.cp, h.sk.kept k⟩
/-- The document ahead of block k. -/
def bas (S : List Sk) (k : Nat) : Int := if k = 0 then -1 else match S[k - 1]? with | some s => s.last | none => -1
theorem dcs_len {last : Int} : ∀ {G : List Int} {b : Int} {D : List Int}, dcs last b G = some D → D.length = G.length
  | [], b, D, h => by
    rw [dcs] at h
    split at h
    · injection h with h; subst h; rfl
    · cases h
  | g :: G, b, D, h => by
    rw [dcs_step] at h
    split at h
    · cases hd : dcs last (b + (g + 1)) G with
      | none => rw [hd] at h; cases h
      | some D' =>
        rw [hd] at h
        injection h with h
        subst h
        simp [dcs_len hd]
    · cases h
theorem rdd_len {l : List Int} {b last : Int} {n p q : Nat} {D : List Int} (h : rdd l b last n p = some (D, q)) : D.length = n := by
  unfold rdd at h
  split at h
  · cases h
  · split at h
    · rename_i G q' _ hn
      cases hd : dcs last b G with
      | none => rw [hd] at h; cases h
      | some D' =>
        rw [hd] at h
        simp only [pairO, Option.some.injEq, Prod.mk.injEq] at h
        rw [← h.1, dcs_len hd, hn]
    · cases h
def finB (sub : List Int) : Option (List Po × Nat) → Option (List Po)
  | none => none
  | some (F, r) => if r = sub.length then some F else none
def rbM (sub D : List Int) (n q : Nat) : Option (List Po) := match pkn n sub q with
  | none => none
  | some (M, q2) => if M.length = n then finB sub (rpl sub D M q2) else none
theorem rbk_eq (sub : List Int) (b last : Int) (n : Nat) : rbk sub b last n = match rdd sub b last n 0 with
  | none => none
  | some (D, q) => rbM sub D n q := by
  unfold rbk rdd
  cases pkn n sub 0 with
  | none => rfl
  | some Gq =>
    obtain ⟨G, q⟩ := Gq
    simp only
    split
    · cases dcs last b G with
      | none => rfl
      | some D =>
        simp only [pairO]
        unfold rbM
        cases pkn n sub q with
        | none => rfl
        | some Mq =>
          obtain ⟨M, q2⟩ := Mq
          simp only
          split
          · cases rpl sub D M q2 with
            | none => rfl
            | some Fr => obtain ⟨F, r⟩ := Fr; rfl
          · rfl
    · rfl
def apP (acc : List Po) : Option (List Po × Nat) → Option (List Po × Nat)
  | none => none
  | some (F, r) => some (acc ++ F, r)
def conP (x : Po) : Option (List Po × Nat) → Option (List Po × Nat)
  | none => none
  | some (F, r) => some (x :: F, r)
theorem apP_step (acc : List Po) (x : Po) (r : Option (List Po × Nat)) : apP acc (conP x r) = apP (acc ++ [x]) r := by
  cases r with
  | none => rfl
  | some D => obtain ⟨F, q⟩ := D; simp [apP, conP]
theorem rpl_n {l D M : List Int} {d m : Int} {p : Nat} (h : rps l m.toNat p = none) : rpl l (d :: D) (m :: M) p = none := by rw [rpl, h]
theorem rpl_s {l D M xs : List Int} {d m : Int} {p q : Nat} (h : rps l m.toNat p = some (xs, q)) : rpl l (d :: D) (m :: M) p = conP ⟨d, xs⟩ (rpl l D M q) := by
  rw [rpl, h]
  simp only
  cases rpl l D M q with
  | none => rfl
  | some D => obtain ⟨F, q⟩ := D; rfl
/-- Postings in memory younger than w. -/
def Far (w w' : World) (a : Option Addr) (FL : List Pg) : Prop := (∀ g ∈ FL, g.ps ≠ [] → ∃ b off, g.a = some ⟨b, off, none⟩ ∧ w.heap.size ≤ b ∧ b < w'.heap.size) ∧ (FL ≠ [] → ∃ b, a = some ⟨b, 0, none⟩ ∧ w.heap.size ≤ b)
/-- What readBlock leaves. -/
def rbPost (w : World) (e : Ending) (w' : World) : Option (List Po) → Prop
  | none => (∃ u, e = .returned (.tuple #[u, .bool false])) ∧ Kept (fun _ => False) w w'
  | some F => ∃ (FL : List Pg) (a : Option Addr) (c : Nat), pol FL = F ∧ e = .returned (.tuple #[.slice a FL.length c, .bool true]) ∧ PsAt w' a FL ∧ FL.length ≤ c ∧ Far w w' a FL ∧ Kept (fun _ => False) w w'
end Go.Proofs.YtidgofpmnlddaaaGreatDoor
