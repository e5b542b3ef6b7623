import Derived.Test.YtiebmmpnmklpnaaDoorBkf
import Derived.Test.YtiebmmpnmklpnaaDoorWrG
namespace Go.Proofs.YtiebmmpnmklpnaaDoor
open Go.ChangeShapes Go.WideShapes Go.ChangeAt Go.RowKit

/-- An instruction. -/
structure In where
  op : Int
  a : Nat
  b : Nat
structure In.Ok (x : In) : Prop where
  lo : -9223372036854775808 ≤ x.op
  hi : x.op ≤ 9223372036854775807
  ha : x.a < 18446744073709551616
  hb : x.b < 18446744073709551616
/-- The table of operations: how many operands, the names. -/
def argL : List Nat := [0, 0, 0, 1, 2, 2, 0, 0, 0, 0, 0, 0, 1, 1, 2, 1, 1]
def nameL : List (List UInt8) := [[101, 110, 100], [110, 111, 110, 101], [97, 108, 108], [104, 97, 115], [116, 101, 114, 109], [112, 104, 114, 97, 115, 101], [97, 110, 100], [111, 114], [109, 97, 120], [111, 112, 116], [101, 120, 99, 101, 112, 116], [110, 111, 116], [115, 99, 97, 108, 101], [102, 105, 120], [108, 101, 97, 115, 116], [109, 105, 115, 115], [104, 105, 116]]
def arN (op : Int) : Nat := argL.getD op.toNat 0
def nmN (op : Int) : List UInt8 := nameL.getD op.toNat []
theorem arN_le (op : Int) : arN op ≤ 2 := by
  unfold arN
  by_cases h : op.toNat < 17
  · have q : ∀ k : Fin 17, argL.getD k.val 0 ≤ 2 := by decide
    exact q ⟨op.toNat, h⟩
  · rw [List.getD_eq_getElem?_getD, List.getElem?_eq_none (show argL.length ≤ op.toNat by show 17 ≤ op.toNat; omega)]
    exact Nat.zero_le 2
theorem nmN_len (op : Int) : (nmN op).length ≤ 6 := by
  unfold nmN
  by_cases h : op.toNat < 17
  · have q : ∀ k : Fin 17, (nameL.getD k.val []).length ≤ 6 := by decide
    exact q ⟨op.toNat, h⟩
  · rw [List.getD_eq_getElem?_getD, List.getElem?_eq_none (show nameL.length ≤ op.toNat by show 17 ≤ op.toNat; omega)]
    exact Nat.zero_le 6
/-- Is it one of the table's? -/
def isO (op : Int) : Bool := decide (0 ≤ op) && decide (op < 17)
theorem isO_iff {op : Int} : isO op = true ↔ 0 ≤ op ∧ op < 17 := by simp [isO]
theorem isO_not {op : Int} : isO op = false ↔ ¬ (0 ≤ op ∧ op < 17) := by
  rw [← isO_iff]; simp
/-- Can an instruction be told by bytes? -/
def okI (x : In) : Bool := isO x.op && (decide (1 ≤ arN x.op) || decide (x.a = 0)) && (decide (2 ≤ arN x.op) || decide (x.b = 0))
theorem okI_iff {x : In} : okI x = true ↔ (0 ≤ x.op ∧ x.op < 17) ∧ (1 ≤ arN x.op ∨ x.a = 0) ∧ (2 ≤ arN x.op ∨ x.b = 0) := by
  simp [okI, isO, and_assoc]
theorem okI_isO {x : In} (h : okI x = true) : isO x.op = true := isO_iff.2 (okI_iff.1 h).1
/-- The operands that it has. -/
def opsI (x : In) : List Nat := [x.a, x.b].take (arN x.op)
theorem opsI_len (x : In) : (opsI x).length = arN x.op := by
  have := arN_le x.op
  simp [opsI]; omega
/-- The bytes of an instruction, of instructions. -/
def ib (x : In) : List Int := x.op :: ((opsI x).map uvb).flatten
def ibL (l : List In) : List Int := (l.map ib).flatten
theorem ibL_nil : ibL [] = [] := rfl
theorem ibL_cons (x : In) (l : List In) : ibL (x :: l) = ib x ++ ibL l := by simp [ibL]
theorem ibL_append (l m : List In) : ibL (l ++ m) = ibL l ++ ibL m := by simp [ibL]
theorem ibL_snoc {l : List In} {j : Nat} (h : j < l.length) : ibL (l.take (j + 1)) = ibL (l.take j) ++ ib l[j] := by
  rw [List.take_succ_eq_append_getElem h, ibL_append]; simp [ibL]
theorem ulen_10 {n : Nat} (h : n < 18446744073709551616) : (uvb n).length ≤ 10 := by rw [uvb_length]; exact (ulen_le n (by simpa using h)).2
theorem ib_len {x : In} (h : x.Ok) : (ib x).length ≤ 21 := by
  have h1 := ulen_10 h.ha
  have h2 := ulen_10 h.hb
  have h3 := arN_le x.op
  unfold ib opsI
  match hk : arN x.op with
  | 0 => simp
  | 1 => simp; omega
  | 2 => simp; omega
  | n + 3 => omega
theorem ibL_len : ∀ (l : List In), (∀ x ∈ l, x.Ok) → (ibL l).length ≤ 21 * l.length
  | [], _ => by simp [ibL]
  | x :: r, h => by
    have h1 := ib_len (h x List.mem_cons_self)
    have h2 := ibL_len r (fun g hg => h g (List.mem_cons_of_mem _ hg))
    rw [ibL_cons, List.length_append, List.length_cons]
    omega
/-- What the bytes of operands are: a number after another. -/
def rdN : Nat → List Int → Option (List Nat × Nat)
  | 0, _ => some ([], 0)
  | n + 1, l => match rdu 0 0 l with
    | .error _ => none
    | .ok (v, k) => (rdN n (l.drop k)).map fun r => (v :: r.1, k + r.2)
/-- An instruction read off bytes, and how many it took. -/
def tk1 : List Int → Option (In × Nat)
  | [] => none
  | c :: r => if isO c then (rdN (arN c) r).map fun p => (⟨c, p.1.getD 0 0, p.1.getD 1 0⟩, 1 + p.2) else none
theorem rdN_back : ∀ (vs : List Nat) (r : List Int), (∀ v ∈ vs, v < 18446744073709551616) → rdN vs.length ((vs.map uvb).flatten ++ r) = some (vs, (vs.map uvb).flatten.length)
  | [], r, _ => rfl
  | v :: vs, r, h => by
    simp only [List.map_cons, List.flatten_cons, List.length_cons, rdN, List.append_assoc]
    rw [rdu_uvb v _ (h v List.mem_cons_self)]
    simp only [List.drop_left]
    rw [rdN_back vs r (fun x hx => h x (List.mem_cons_of_mem _ hx))]
    simp
theorem rdN_len : ∀ (n : Nat) (l : List Int) (vs : List Nat) (k : Nat), rdN n l = some (vs, k) → vs.length = n ∧ k ≤ l.length
  | 0, l, vs, k, h => by simp [rdN] at h; obtain ⟨rfl, rfl⟩ := h; simp
  | n + 1, l, vs, k, h => by
    rw [rdN] at h
    split at h
    · cases h
    · rename_i v m hr
      cases hq : rdN n (l.drop m) with
      | none => rw [hq] at h; cases h
      | some p =>
        rw [hq] at h
        simp only [Option.map_some, Option.some.injEq, Prod.mk.injEq] at h
        obtain ⟨rfl, rfl⟩ := h
        have h1 := rdN_len n _ p.1 p.2 hq
        have h2 := rdu_le l 0 0 v m hr
        simp only [List.length_drop] at h1
        simp only [List.length_cons]
        omega
theorem rdN_form : ∀ (n : Nat) (l : List Int) (vs : List Nat) (k : Nat), IsBytes l → rdN n l = some (vs, k) → l.take k = (vs.map uvb).flatten ∧ ∀ v ∈ vs, v < 18446744073709551616
  | 0, l, vs, k, _, h => by simp [rdN] at h; obtain ⟨rfl, rfl⟩ := h; simp
  | n + 1, l, vs, k, hB, h => by
    rw [rdN] at h
    split at h
    · cases h
    · rename_i v m hr
      cases hq : rdN n (l.drop m) with
      | none => rw [hq] at h; cases h
      | some p =>
        rw [hq] at h
        simp only [Option.map_some, Option.some.injEq, Prod.mk.injEq] at h
        obtain ⟨rfl, rfl⟩ := h
        have h1 := rdN_form n _ p.1 p.2 (fun x hx => hB x (List.mem_of_mem_drop hx)) hq
        have h2 := rdu_form hB hr
        have h3 := rdu_lt l 0 0 v m (by omega) (by simp) hB hr
        refine ⟨?_, ?_⟩
        · rw [List.take_add, h2, h1.1]; simp
        · intro x hx
          rcases List.mem_cons.1 hx with e | e
          · rw [e]; exact h3
          · exact h1.2 x e
/-- What is written is read again. -/
theorem tk1_back {x : In} (hO : x.Ok) (h : okI x = true) (r : List Int) : tk1 (ib x ++ r) = some (x, (ib x).length) := by
  have h0 := okI_iff.1 h
  have h1 := rdN_back (opsI x) r (fun v hv => by
    have : v ∈ [x.a, x.b] := List.mem_of_mem_take hv
    simp at this
    rcases this with e | e
    · rw [e]; exact hO.ha
    · rw [e]; exact hO.hb)
  rw [opsI_len] at h1
  unfold ib
  rw [List.cons_append, tk1, if_pos (okI_isO h), h1]
  have h3 := arN_le x.op
  obtain ⟨op, a, b⟩ := x
  simp only [Option.map_some, Option.some.injEq, Prod.mk.injEq, List.length_cons]
  refine ⟨?_, by omega⟩
  simp only at h0 h3
  unfold opsI
  simp only [In.mk.injEq, true_and]
  match hk : arN op, h3 with
  | 0, _ => rw [hk] at h0; simp at h0; simp [h0]
  | 1, _ => rw [hk] at h0; simp at h0; simp [h0]
  | 2, _ => simp
theorem tk1_form {l : List Int} {x : In} {k : Nat} (hB : IsBytes l) (h : tk1 l = some (x, k)) : l.take k = ib x ∧ okI x = true ∧ x.Ok ∧ 1 ≤ k ∧ k ≤ l.length := by
  cases l with
  | nil => simp [tk1] at h
  | cons c r =>
    rw [tk1] at h
    split at h
    · rename_i hc
      cases hq : rdN (arN c) r with
      | none => rw [hq] at h; cases h
      | some p =>
        rw [hq] at h
        simp only [Option.map_some, Option.some.injEq, Prod.mk.injEq] at h
        obtain ⟨rfl, rfl⟩ := h
        have h1 := rdN_form _ _ p.1 p.2 (fun x hx => hB x (List.mem_cons_of_mem _ hx)) hq
        have h2 := rdN_len _ _ p.1 p.2 hq
        have h3 := arN_le c
        have hc2 := isO_iff.1 hc
        obtain ⟨vs, k⟩ := p
        simp only at h1 h2 ⊢
        have hv : ∀ i, vs.getD i 0 < 18446744073709551616 := fun i => by
          rw [List.getD_eq_getElem?_getD]
          by_cases hi : i < vs.length
          · rw [List.getElem?_eq_getElem hi]; exact h1.2 _ (List.getElem_mem hi)
          · rw [List.getElem?_eq_none (by omega)]; decide
        have e : opsI ⟨c, vs.getD 0 0, vs.getD 1 0⟩ = vs := by
          unfold opsI
          simp only
          match vs, h2.1 with
          | [], e => rw [← e]; rfl
          | [x], e => rw [← e]; rfl
          | [x, y], e => rw [← e]; rfl
          | x :: y :: z :: r, e => simp at e; omega
        refine ⟨?_, ?_, ⟨by simp only; omega, by simp only; omega, hv 0, hv 1⟩, by omega, by simp; omega⟩
        · unfold ib
          rw [e, Nat.add_comm 1 k, List.take_succ_cons, h1.1]
        · rw [okI_iff]
          refine ⟨hc2, ?_, ?_⟩
          · by_cases h : 1 ≤ arN c
            · exact .inl h
            · have : vs = [] := List.eq_nil_of_length_eq_zero (by omega)
              exact .inr (by simp only; rw [this]; rfl)
          · by_cases h : 2 ≤ arN c
            · exact .inl h
            · exact .inr (by simp only; rw [List.getD_eq_getElem?_getD, List.getElem?_eq_none (by omega)]; rfl)
    · cases h
theorem tk1_pos {l : List Int} {x : In} {k : Nat} (h : tk1 l = some (x, k)) : 1 ≤ k ∧ k ≤ l.length := by
  cases l with
  | nil => simp [tk1] at h
  | cons c r =>
    rw [tk1] at h
    split at h
    · cases hq : rdN (arN c) r with
      | none => rw [hq] at h; cases h
      | some p =>
        rw [hq] at h
        simp only [Option.map_some, Option.some.injEq, Prod.mk.injEq] at h
        obtain ⟨_, rfl⟩ := h
        have h2 := rdN_len _ _ p.1 p.2 hq
        simp; omega
    · cases h
/-- The instructions of bytes. -/
def dcF : Nat → List Int → Option (List In)
  | 0, l => if l = [] then some [] else none
  | n + 1, l => if l = [] then some [] else match tk1 l with
    | none => none
    | some p => (dcF n (l.drop p.2)).map fun r => p.1 :: r
def dcI (l : List Int) : Option (List In) := dcF l.length l
theorem dcF_more : ∀ (n : Nat) (l : List Int), l.length ≤ n → dcF n l = dcF l.length l := by
  intro n
  induction n using Nat.strongRecOn with
  | ind n ih =>
    intro l hl
    cases l with
    | nil => cases n <;> simp [dcF]
    | cons c r =>
      cases n with
      | zero => simp at hl
      | succ n =>
        rw [List.length_cons, dcF, dcF]
        simp only [List.length_cons] at hl
        cases hq : tk1 (c :: r) with
        | none => simp
        | some p =>
          have hp := tk1_pos (x := p.1) (k := p.2) hq
          simp only [List.length_cons] at hp
          have hd : ((c :: r).drop p.2).length ≤ r.length := by simp; omega
          have e1 := ih n (by omega) ((c :: r).drop p.2) (by omega)
          have e2 : dcF r.length ((c :: r).drop p.2) = dcF ((c :: r).drop p.2).length ((c :: r).drop p.2) := by
            by_cases hrn : r.length < n + 1
            · exact ih r.length hrn _ hd
            · have : r.length = n := by omega
              rw [this]; exact e1
          simp only [reduceCtorEq, if_false]
          rw [e1, e2]
theorem dcI_nil : dcI [] = some [] := rfl
theorem dcI_step {l : List Int} (h : l ≠ []) : dcI l = match tk1 l with | none => none | some p => (dcI (l.drop p.2)).map fun r => p.1 :: r := by
  cases l with
  | nil => exact absurd rfl h
  | cons c r =>
    unfold dcI
    rw [List.length_cons, dcF, if_neg h]
    cases hq : tk1 (c :: r) with
    | none => rfl
    | some p =>
      have hp := tk1_pos (x := p.1) (k := p.2) hq
      simp only [List.length_cons] at hp
      simp only
      rw [dcF_more r.length ((c :: r).drop p.2) (by simp; omega)]
theorem dcI_bad {l : List Int} (h : l ≠ []) (hq : tk1 l = none) : dcI l = none := by rw [dcI_step h, hq]
theorem dcI_good {l : List Int} {x : In} {k : Nat} (hq : tk1 l = some (x, k)) : dcI l = (dcI (l.drop k)).map fun r => x :: r := by
  rw [dcI_step (by rintro rfl; simp [tk1] at hq), hq]
theorem dcI_back : ∀ (l : List In), (∀ x ∈ l, x.Ok) → (∀ x ∈ l, okI x = true) → dcI (ibL l) = some l
  | [], _, _ => rfl
  | x :: r, hO, hk => by
    rw [ibL_cons, dcI_good (tk1_back (hO x List.mem_cons_self) (hk x List.mem_cons_self) _), List.drop_left, dcI_back r (fun y hy => hO y (List.mem_cons_of_mem _ hy)) (fun y hy => hk y (List.mem_cons_of_mem _ hy))]
    rfl
theorem dcI_form : ∀ (n : Nat) (l : List Int) (m : List In), l.length ≤ n → IsBytes l → dcI l = some m → ibL m = l ∧ (∀ x ∈ m, x.Ok) ∧ (∀ x ∈ m, okI x = true) := by
  intro n
  induction n with
  | zero =>
    intro l m hl _ h
    have : l = [] := List.eq_nil_of_length_eq_zero (by omega)
    subst this
    rw [dcI_nil] at h
    cases h
    exact ⟨rfl, by simp, by simp⟩
  | succ n ih =>
    intro l m hl hB h
    by_cases hn : l = []
    · subst hn
      rw [dcI_nil] at h
      cases h
      exact ⟨rfl, by simp, by simp⟩
    · cases hq : tk1 l with
      | none => rw [dcI_bad hn hq] at h; cases h
      | some p =>
        obtain ⟨x, k⟩ := p
        rw [dcI_good hq] at h
        obtain ⟨e1, e2, e3, e4, e5⟩ := tk1_form hB hq
        cases hd : dcI (l.drop k) with
        | none => rw [hd] at h; cases h
        | some r =>
          rw [hd] at h
          simp only [Option.map_some, Option.some.injEq] at h
          subst h
          obtain ⟨f1, f2, f3⟩ := ih (l.drop k) r (by simp; omega) (fun y hy => hB y (List.mem_of_mem_drop hy)) hd
          refine ⟨?_, ?_, ?_⟩
          · rw [ibL_cons, f1, ← e1, List.take_append_drop]
          · intro y hy
            rcases List.mem_cons.1 hy with e | e
            · rw [e]; exact e3
            · exact f2 y e
          · intro y hy
            rcases List.mem_cons.1 hy with e | e
            · rw [e]; exact e2
            · exact f3 y e
/-- A list of instructions as it lies: three cells each. -/
def InsAt (w : World) (a : Option Addr) (l : List In) : Prop :=
  l ≠ [] → ∃ b off, a = some ⟨b, off, none⟩ ∧ ∀ (k : Nat) (h : k < l.length), w.cell? ⟨b, off + k * 3, none⟩ = some (.int .i64 l[k].op) ∧ w.cell? ⟨b, off + k * 3 + 1, none⟩ = some (.int .u64 l[k].a) ∧ w.cell? ⟨b, off + k * 3 + 2, none⟩ = some (.int .u64 l[k].b)
theorem InsAt.kept {F : Nat → Prop} {w w' : World} {a : Option Addr} {l : List In} (h : InsAt w a l) (k : Kept F w w') (hF : ∀ p, a = some p → ¬ F p.block) : InsAt w' a l := fun hn => by
  obtain ⟨b, off, e, hc⟩ := h hn
  subst e
  have hb : ¬ F b := hF _ rfl
  exact ⟨b, off, rfl, fun i hi => ⟨k.cell (hc i hi).1 hb, k.cell (hc i hi).2.1 hb, k.cell (hc i hi).2.2 hb⟩⟩
end Go.Proofs.YtiebmmpnmklpnaaDoor
