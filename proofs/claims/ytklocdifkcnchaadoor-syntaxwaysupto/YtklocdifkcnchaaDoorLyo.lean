import Derived.Test.YtklocdifkcnchaaDoorLyn
namespace Go.Proofs.YtklocdifkcnchaaDoor
open Go.ChangeShapes Go.WideShapes Go.ChangeAt Go.RowKit

theorem scan_gen (l : List UInt8) (w : World) (ad : Addr) (hC : ClsAt w) (hS : SynAt w ad) (hl : l.length ≤ 400000000000) :
    Calls Tryd.prog 5 #[.string (bq l)] w fun x w' => (∃ a c m n er, x = .returned (.tuple #[.slice a m c, .int .i64 n, er])) ∧ Kept (fun _ => False) w w' := by
  refine (lscan_any l w ad hC hS hl).mono ?_
  rintro x w' (⟨_, a, c, m, rfl, hT⟩ | ⟨f, hf, rfl, hk⟩)
  · exact ⟨⟨a, c, m, 0, _, rfl⟩, hT.gro.kept⟩
  · exact ⟨⟨none, 0, 0, f, _, rfl⟩, hk⟩
theorem bq_space (p : List UInt8) : bq p ++ (⟨#[32]⟩ : ByteArray) = bq (p ++ [32]) := bq_append p [32]
theorem bq_spaceq (p q : List UInt8) : bq (p ++ [32]) ++ bq q = bq (p ++ 32 :: q) := by rw [bq_append, List.append_assoc]; rfl
/-- A token in memory. -/
structure LxAt (w : World) (g k : Nat) (x : Lx) : Prop where
  c0 : w.cell? ⟨g, k * 5, none⟩ = some (.int .i64 (x.k : Int))
  c1 : w.cell? ⟨g, k * 5 + 1, none⟩ = some (.string (bq x.t))
  c2 : w.cell? ⟨g, k * 5 + 2, none⟩ = some (.int .i64 x.n)
  c3 : w.cell? ⟨g, k * 5 + 3, none⟩ = some (.int .i64 (x.a : Int))
  c4 : w.cell? ⟨g, k * 5 + 4, none⟩ = some (.int .i64 (x.e : Int))
theorem LxAt.later {w w' : World} {g k : Nat} {x : Lx} (h : LxAt w g k x) (kk : Kept (fun _ => False) w w') : LxAt w' g k x :=
  ⟨kk.cell h.c0 (fun f => f), kk.cell h.c1 (fun f => f), kk.cell h.c2 (fun f => f), kk.cell h.c3 (fun f => f), kk.cell h.c4 (fun f => f)⟩
theorem Tks.ats {w0 w : World} {a : Option Addr} {c m : Nat} {L : List Lx} (h : Tks w0 w a c m L) (hm : 0 < m) : ∃ g, a = some ⟨g, 0, none⟩ ∧ ∀ k (hk : k < L.length), LxAt w g k L[k] := by
  obtain ⟨g, e, _, hc⟩ := h.cell hm
  exact ⟨g, e, fun k hk => ⟨(hc k hk).1, (hc k hk).2.1, (hc k hk).2.2.1, (hc k hk).2.2.2.1, (hc k hk).2.2.2.2⟩⟩
theorem scf_pos : ∀ (f k : Nat) (r : List UInt8), r.length < f → (scF f k r).2 = none → 0 < (scF f k r).1.length ∧ (scF f k r).1.length ≤ r.length + 1 ∧ ∀ x ∈ (scF f k r).1, x.e ≤ k + r.length ∧ x.a ≤ k + r.length := by
  intro f
  induction f with
  | zero => intro k r h; omega
  | succ f ih =>
    intro k r hf h
    cases r with
    | nil => rw [sc_nil]; simp
    | cons c r =>
      simp only [List.length_cons] at hf
      by_cases hb : cl c = 101
      · rw [sc_blank f k c r hb] at h ⊢
        obtain ⟨h1, h2, h3⟩ := ih (k + 1) r (by omega) h
        refine ⟨h1, by rw [List.length_cons]; omega, fun x hx => ?_⟩
        have := h3 x hx
        rw [List.length_cons]
        omega
      · cases ht : tokF (c :: r) with
        | none => rw [sc_bad f k c r hb ht] at h; cases h
        | some t =>
          have hz := tok_len _ t ht
          simp only [List.length_cons] at hz
          rw [sc_tok f k c r hb t ht] at h ⊢
          have h' : (scF f (k + t.z) ((c :: r).drop t.z)).2 = none := h
          obtain ⟨h1, h2, h3⟩ := ih (k + t.z) _ (by rw [List.length_drop, List.length_cons]; omega) h'
          rw [List.length_drop, List.length_cons] at h2 h3
          rw [List.length_cons]
          refine ⟨by show 0 < (_ :: (scF f (k + t.z) ((c :: r).drop t.z)).1).length; simp, ?_, fun x hx => ?_⟩
          · show (_ :: (scF f (k + t.z) ((c :: r).drop t.z)).1).length ≤ _
            rw [List.length_cons]
            omega
          · have hx2 : x = ⟨t.k, t.t, t.n, k, k + t.z⟩ ∨ x ∈ (scF f (k + t.z) ((c :: r).drop t.z)).1 := List.mem_cons.1 hx
            rcases hx2 with rfl | hx2
            · simp only; omega
            · have := h3 x hx2; omega
theorem scan_pos (l : List UInt8) (h : (scanF l).2 = none) : 0 < (scanF l).1.length ∧ (scanF l).1.length ≤ l.length + 1 ∧ ∀ x ∈ (scanF l).1, x.e ≤ l.length ∧ x.a ≤ l.length := by
  have := scf_pos (l.length + 1) 0 l (by omega) h
  rw [Nat.zero_add] at this
  exact this
end Go.Proofs.YtklocdifkcnchaaDoor
