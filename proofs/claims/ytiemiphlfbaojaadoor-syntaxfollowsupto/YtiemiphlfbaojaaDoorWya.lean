import Derived.Test.YtiemiphlfbaojaaDoorMrg2
namespace Go.Proofs.YtiemiphlfbaojaaDoor
open Go.ChangeShapes Go.WideShapes Go.ChangeAt Go.RowKit

/-! The document's rows of tokens, as a function: what a row has come to (at'), whether its clause is signed, for each open group whether its clause is. -/
structure Rs where
  at' : Nat
  sg : Bool
  op : List Bool
def atomF (y : Tn) (fld : Bool) : Option Nat :=
  if isK 1 y then some (if fld then 5 else 4)
  else if isK 2 y then some (if isSt y && !fld then 6 else 9)
  else if isK 3 y then some 7
  else if isK 8 y then some 0
  else if isK 10 y || isK 12 y then some 10
  else none
def begunF (r : Rs) (y : Tn) (fld : Bool) : Option Rs :=
  if isK 6 y && !fld then some ⟨1, r.sg, r.op⟩
  else (atomF y fld).map (fun a => if isK 8 y then ⟨a, false, r.op ++ [r.sg]⟩ else ⟨a, r.sg, r.op⟩)
def clauseF (r : Rs) (y : Tn) : Option Rs :=
  if isK 15 y || isK 16 y then some ⟨1, true, r.op⟩ else begunF ⟨r.at', false, r.op⟩ y false
def behindF (r : Rs) (y : Tn) : Option Rs :=
  if isK 18 y || isK 19 y then some ⟨9, r.sg, r.op⟩
  else if isK 4 y || isK 5 y || isK 17 y then (if r.sg then none else some ⟨1, r.sg, r.op⟩)
  else if isK 9 y then (if r.op.isEmpty then none else some ⟨8, r.op.getLastD false, r.op.dropLast⟩)
  else if isK 0 y then (if r.op.isEmpty then some ⟨14, r.sg, r.op⟩ else none)
  else clauseF r y
def sideB (y : Tn) : Bool := isK 1 y || isK 3 y || isSt y
def stepF (r : Rs) (y : Tn) : Option Rs := match r.at' with
  | 0 => clauseF r y
  | 1 => begunF r y false
  | 2 => begunF r y true
  | 3 => if isSt y then some ⟨9, r.sg, r.op⟩ else none
  | 4 => if isK 14 y then some ⟨2, r.sg, r.op⟩ else if isEd y then some ⟨9, r.sg, r.op⟩ else behindF r y
  | 5 => if isEd y then some ⟨9, r.sg, r.op⟩ else behindF r y
  | 6 => if isK 14 y then some ⟨3, r.sg, r.op⟩ else behindF r y
  | 7 => if isSl y then some ⟨9, r.sg, r.op⟩ else behindF r y
  | 8 => if isK 21 y then some ⟨9, r.sg, r.op⟩ else behindF r y
  | 9 => behindF r y
  | 10 => if sideB y then some ⟨11, r.sg, r.op⟩ else none
  | 11 => if isK 7 y then some ⟨12, r.sg, r.op⟩ else none
  | 12 => if sideB y then some ⟨13, r.sg, r.op⟩ else none
  | 13 => if isK 11 y || isK 13 y then some ⟨9, r.sg, r.op⟩ else none
  | _ => none
/-- Whether a token may come: by the state, by whether the clause is signed and a group is open. -/
def okB (a : Nat) (sg e : Bool) (y : Tn) : Bool :=
  let b := isK 6 y || (atomF y false).isSome
  let c := isK 15 y || isK 16 y || b
  let p := if isK 18 y || isK 19 y then true else if isK 4 y || isK 5 y || isK 17 y then !sg else if isK 9 y then !e else if isK 0 y then e else c
  match a with
  | 0 => c
  | 1 => b
  | 2 => (atomF y true).isSome
  | 3 => isSt y
  | 4 => isK 14 y || isEd y || p
  | 5 => isEd y || p
  | 6 => isK 14 y || p
  | 7 => isSl y || p
  | 8 => isK 21 y || p
  | 9 => p
  | 10 => sideB y
  | 11 => isK 7 y
  | 12 => sideB y
  | 13 => isK 11 y || isK 13 y
  | _ => false
theorem ok_begun (r : Rs) (y : Tn) : (begunF r y false).isSome = (isK 6 y || (atomF y false).isSome) := by
  unfold begunF
  cases isK 6 y
  · show ((atomF y false).map _).isSome = _
    rw [Option.isSome_map]; rfl
  · rfl
theorem ok_begunT (r : Rs) (y : Tn) : (begunF r y true).isSome = (atomF y true).isSome := by
  unfold begunF
  have e : (isK 6 y && !true) = false := by cases isK 6 y <;> rfl
  rw [e, if_neg (by decide), Option.isSome_map]
theorem ok_clause (r : Rs) (y : Tn) : (clauseF r y).isSome = (isK 15 y || isK 16 y || (isK 6 y || (atomF y false).isSome)) := by
  unfold clauseF
  cases h : (isK 15 y || isK 16 y)
  · rw [if_neg (by decide), ok_begun]; rfl
  · rfl
theorem ok_behind (r : Rs) (y : Tn) : (behindF r y).isSome = (if isK 18 y || isK 19 y then true else if isK 4 y || isK 5 y || isK 17 y then !r.sg else if isK 9 y then !r.op.isEmpty else if isK 0 y then r.op.isEmpty else (isK 15 y || isK 16 y || (isK 6 y || (atomF y false).isSome))) := by
  unfold behindF
  cases h1 : (isK 18 y || isK 19 y)
  · cases h2 : (isK 4 y || isK 5 y || isK 17 y)
    · cases h3 : isK 9 y
      · cases h4 : isK 0 y
        · simp only [Bool.false_eq_true, if_false]; exact ok_clause r y
        · cases r.op.isEmpty <;> rfl
      · cases r.op.isEmpty <;> rfl
    · cases r.sg <;> rfl
  · rfl
theorem ok_or {c : Bool} {x : Rs} {F : Option Rs} : (if c then some x else F).isSome = (c || F.isSome) := by cases c <;> rfl
theorem ok_step (r : Rs) (y : Tn) : (stepF r y).isSome = okB r.at' r.sg r.op.isEmpty y := by
  obtain ⟨a, sg, op⟩ := r
  unfold stepF okB
  split <;> dsimp only
  · exact ok_clause _ y
  · exact ok_begun _ y
  · exact ok_begunT _ y
  · cases isSt y <;> rfl
  · rw [ok_or, ok_or, ok_behind]
    exact (Bool.or_assoc _ _ _).symm
  · rw [ok_or, ok_behind]
  · rw [ok_or, ok_behind]
  · rw [ok_or, ok_behind]
  · rw [ok_or, ok_behind]
  · rw [ok_behind]
  · cases sideB y <;> rfl
  · cases isK 7 y <;> rfl
  · cases sideB y <;> rfl
  · cases (isK 11 y || isK 13 y) <;> rfl
  · rfl
/-- Tokens that stand for all of a kind. -/
def smT (k : Nat) : List Tn := if k = 2 then [⟨2, ⟨#[42]⟩, 0, 0, 0⟩, ⟨2, ⟨#[97, 42]⟩, 0, 0, 0⟩] else if k = 20 then [⟨20, ⟨#[]⟩, -1, 0, 0⟩, ⟨20, ⟨#[]⟩, 1, 0, 0⟩, ⟨20, ⟨#[]⟩, 3, 0, 0⟩] else [⟨(k : Int), ⟨#[]⟩, 0, 0, 0⟩]
def mayB (r : Rs) (k : Nat) : Bool := (smT k).any (fun t => (stepF r t).isSome)
/-- The kinds that the recogniser asks for in vain where a row ends. -/
def kB : List Nat := [8, 10, 12, 3, 1, 2]
def kU : List Nat := 6 :: 2 :: 1 :: kB
def kC : List Nat := 15 :: 16 :: kU
def kE (e : Bool) : List Nat := (if e then 0 else 9) :: kC
def kJ (sg e : Bool) : List Nat := if sg then kE e else 5 :: 4 :: 17 :: kE e
def kP (sg e : Bool) : List Nat := 18 :: 19 :: kJ sg e
def kL (a : Nat) (sg e : Bool) : List Nat := match a with
  | 0 => kC
  | 1 => kU
  | 2 => kB
  | 3 => [2]
  | 4 => 14 :: 20 :: kP sg e
  | 5 => 20 :: kP sg e
  | 6 => 14 :: kP sg e
  | 7 => 20 :: kP sg e
  | 8 => 21 :: kP sg e
  | 9 => kP sg e
  | 10 => [1, 3, 2]
  | 11 => [7]
  | 12 => [1, 3, 2]
  | 13 => [11, 13]
  | _ => []
def kS (r : Rs) : List Nat := kL r.at' r.sg r.op.isEmpty
theorem may_all : ∀ a, a < 15 → ∀ (sg e : Bool) (k : Nat), k < 22 → ((smT k).any (okB a sg e)) = (kL a sg e).contains k := by decide +kernel
theorem may_list (r : Rs) (hr : r.at' < 15) (k : Nat) (hk : k < 22) : mayB r k = (kS r).contains k := by
  unfold mayB kS
  rw [← may_all r.at' hr r.sg r.op.isEmpty k hk]
  have e : (fun t => (stepF r t).isSome) = okB r.at' r.sg r.op.isEmpty := by funext t; exact ok_step r t
  rw [e]
/-- A row gone over. -/
def r00 : Rs := ⟨0, false, []⟩
def rfR (L : List Tn) : Option Rs := L.foldl (fun o y => o.bind (fun r => stepF r y)) (some r00)
theorem rf_snoc (L : List Tn) (y : Tn) : rfR (L ++ [y]) = (rfR L).bind (fun r => stepF r y) := by unfold rfR; rw [List.foldl_append]; rfl
theorem rf_none (L M : List Tn) (h : rfR L = none) : rfR (L ++ M) = none := by
  induction M generalizing L with
  | nil => rw [List.append_nil]; exact h
  | cons y M ih =>
    rw [show L ++ y :: M = (L ++ [y]) ++ M by simp]
    exact ih _ (by rw [rf_snoc, h]; rfl)
theorem rf_take {R : List Tn} {i : Nat} (h : rfR (R.take i) = none) : rfR R = none := by
  have := rf_none (R.take i) (R.drop i) h
  rwa [List.take_append_drop] at this
theorem rf_next {R : List Tn} {i : Nat} {y : Tn} (h : R[i]? = some y) : rfR (R.take (i + 1)) = (rfR (R.take i)).bind (fun r => stepF r y) := by
  rw [← rf_snoc]
  congr 1
  rw [List.take_add_one, h]
  rfl
theorem step_lt (r r' : Rs) (y : Tn) (h : stepF r y = some r') : r'.at' < 15 := by
  have hb : ∀ (q : Rs) fld, begunF q y fld = some r' → r'.at' < 15 := by
    intro q fld hq
    unfold begunF at hq
    split at hq
    · cases hq; show 1 < 15; omega
    · obtain ⟨a, ha, hq⟩ := Option.map_eq_some_iff.1 hq
      have ha2 : a < 15 := by
        unfold atomF at ha
        repeat' split at ha
        all_goals first | (cases ha; omega) | (cases ha)
      split at hq <;> (cases hq; exact ha2)
  have hc : ∀ q : Rs, clauseF q y = some r' → r'.at' < 15 := by
    intro q hq
    unfold clauseF at hq
    split at hq
    · cases hq; show 1 < 15; omega
    · exact hb _ _ hq
  have hd : ∀ q : Rs, behindF q y = some r' → r'.at' < 15 := by
    intro q hq
    unfold behindF at hq
    split at hq
    · cases hq; show 9 < 15; omega
    · split at hq
      · split at hq
        · cases hq
        · cases hq; show 1 < 15; omega
      · split at hq
        · split at hq
          · cases hq
          · cases hq; show 8 < 15; omega
        · split at hq
          · split at hq
            · cases hq; show 14 < 15; omega
            · cases hq
          · exact hc _ hq
  unfold stepF at h
  repeat' split at h
  all_goals first | exact hb _ _ h | exact hc _ h | exact hd _ h | (cases h; done) | (cases h; simp)
end Go.Proofs.YtiemiphlfbaojaaDoor
