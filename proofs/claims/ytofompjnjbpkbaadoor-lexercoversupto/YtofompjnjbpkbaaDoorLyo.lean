import Derived.Test.YtofompjnjbpkbaaDoorLyn
namespace Go.Proofs.YtofompjnjbpkbaaDoor
open Go.ChangeShapes Go.WideShapes Go.ChangeAt Go.RowKit

theorem scan_gen (l : List UInt8) (w : World) (ad : Addr) (hC : ClsAt w) (hS : SynAt w ad) (hl : l.length ≤ 400000000000) :
    Calls Tryd.prog 9 #[.string (bq l)] w fun x w' => (∃ a c m n er, x = .returned (.tuple #[.slice a m c, .int .i64 n, er])) ∧ Kept (fun _ => False) w w' := by
  refine (lscan_any l w ad hC hS hl).mono ?_
  rintro x w' (⟨_, a, c, m, rfl, hT⟩ | ⟨f, hf, rfl, hk⟩)
  · exact ⟨⟨a, c, m, 0, _, rfl⟩, hT.gro.kept⟩
  · exact ⟨⟨none, 0, 0, f, _, rfl⟩, hk⟩
theorem bq_space (p : List UInt8) : bq p ++ (⟨#[32]⟩ : ByteArray) = bq (p ++ [32]) := bq_append p [32]
theorem bq_spaceq (p q : List UInt8) : bq (p ++ [32]) ++ bq q = bq (p ++ 32 :: q) := by rw [bq_append, List.append_assoc]; rfl
/-- A token in memory. -/
structure LxAt (w : World) (g k : Nat) (x : Lx) : Prop where
  c0 : w.cell? ⟨g, k * 5, none⟩ = some (.int .i64 (x.k : Int))
  c1 : w.cell? ⟨g, k * 5 + 1, none⟩ = some (.string (bq x.t))
  c2 : w.cell? ⟨g, k * 5 + 2, none⟩ = some (.int .i64 x.n)
  c3 : w.cell? ⟨g, k * 5 + 3, none⟩ = some (.int .i64 (x.a : Int))
  c4 : w.cell? ⟨g, k * 5 + 4, none⟩ = some (.int .i64 (x.e : Int))
theorem LxAt.later {w w' : World} {g k : Nat} {x : Lx} (h : LxAt w g k x) (kk : Kept (fun _ => False) w w') : LxAt w' g k x :=
  ⟨kk.cell h.c0 (fun f => f), kk.cell h.c1 (fun f => f), kk.cell h.c2 (fun f => f), kk.cell h.c3 (fun f => f), kk.cell h.c4 (fun f => f)⟩
theorem Tks.ats {w0 w : World} {a : Option Addr} {c m : Nat} {L : List Lx} (h : Tks w0 w a c m L) (hm : 0 < m) : ∃ g, a = some ⟨g, 0, none⟩ ∧ ∀ k (hk : k < L.length), LxAt w g k L[k] := by
  obtain ⟨g, e, _, hc⟩ := h.cell hm
  exact ⟨g, e, fun k hk => ⟨(hc k hk).1, (hc k hk).2.1, (hc k hk).2.2.1, (hc k hk).2.2.2.1, (hc k hk).2.2.2.2⟩⟩
theorem scf_pos : ∀ (f k : Nat) (r : List UInt8), r.length < f → (scF f k r).2 = none → 0 < (scF f k r).1.length ∧ (scF f k r).1.length ≤ r.length + 1 ∧ ∀ x ∈ (scF f k r).1, x.e ≤ k + r.length ∧ x.a ≤ k + r.length := by
  intro f
  induction f with
  | zero => intro k r h; omega
  | succ f ih =>
    intro k r hf h
    cases r with
    | nil => rw [sc_nil]; simp
    | cons c r =>
      simp only [List.length_cons] at hf
      by_cases hb : cl c = 101
      · rw [sc_blank f k c r hb] at h ⊢
        obtain ⟨h1, h2, h3⟩ := ih (k + 1) r (by omega) h
        refine ⟨h1, by rw [List.length_cons]; omega, fun x hx => ?_⟩
        have := h3 x hx
        rw [List.length_cons]
        omega
      · cases ht : tokF (c :: r) with
        | none => rw [sc_bad f k c r hb ht] at h; cases h
        | some t =>
          have hz := tok_len _ t ht
          simp only [List.length_cons] at hz
          rw [sc_tok f k c r hb t ht] at h ⊢
          have h' : (scF f (k + t.z) ((c :: r).drop t.z)).2 = none := h
          obtain ⟨h1, h2, h3⟩ := ih (k + t.z) _ (by rw [List.length_drop, List.length_cons]; omega) h'
          rw [List.length_drop, List.length_cons] at h2 h3
          rw [List.length_cons]
          refine ⟨by show 0 < (_ :: (scF f (k + t.z) ((c :: r).drop t.z)).1).length; simp, ?_, fun x hx => ?_⟩
          · show (_ :: (scF f (k + t.z) ((c :: r).drop t.z)).1).length ≤ _
            rw [List.length_cons]
            omega
          · have hx2 : x = ⟨t.k, t.t, t.n, k, k + t.z⟩ ∨ x ∈ (scF f (k + t.z) ((c :: r).drop t.z)).1 := List.mem_cons.1 hx
            rcases hx2 with rfl | hx2
            · simp only; omega
            · have := h3 x hx2; omega
theorem scan_pos (l : List UInt8) (h : (scanF l).2 = none) : 0 < (scanF l).1.length ∧ (scanF l).1.length ≤ l.length + 1 ∧ ∀ x ∈ (scanF l).1, x.e ≤ l.length ∧ x.a ≤ l.length := by
  have := scf_pos (l.length + 1) 0 l (by omega) h
  rw [Nat.zero_add] at this
  exact this
set_option maxRecDepth 20000 in
set_option maxHeartbeats 4000000 in
theorem beside_bad (p q : List UInt8) (w : World) (ad : Addr) (hC : ClsAt w) (hS : SynAt w ad) (hp : p.length ≤ 100000000000) (hq : q.length ≤ 100000000000) (f : Nat) (hZ : (scanF p).2 = some f) :
    Calls Tryd.prog 6 #[.string (bq p), .string (bq q)] w fun e w' => e = .returned (.bool true) ∧ Kept (fun _ => False) w w' := by
  have CV := hideL (lives13_any w ad hC hS)
  have C1 := hideL (fun W (k : Kept (fun _ => False) w W) => scan_some p W ad (hC.later k) (hS.later k) (by omega) f hZ)
  have C2 := hideL (fun W (k : Kept (fun _ => False) w W) => scan_gen q W ad (hC.later k) (hS.later k) (by omega))
  have C3 := hideL (fun W (k : Kept (fun _ => False) w W) => scan_gen (p ++ 32 :: q) W ad (hC.later k) (hS.later k) (by rw [List.length_append, List.length_cons]; omega))
  have e1 := bq_space p
  have e2 := bq_spaceq p q
  have z1 : (bq p).size = p.length := bq_size p
  have z2 : (bq q).size = q.length := bq_size q
  have z3 : (bq (p ++ [32])).size = p.length + 1 := by rw [bq_size, List.length_append]; rfl
  have y1 : (bq p).size ≤ 100000000000 := by omega
  have y2 : (bq q).size ≤ 100000000000 := by omega
  have y3 : (bq (p ++ [32])).size ≤ 100000000001 := by omega
  generalize bq (p ++ 32 :: q) = v2 at *
  generalize bq (p ++ [32]) = v1 at *
  generalize bq p = s at *
  generalize bq q = t at *
  clear hC hS hZ z1 z2 z3
  go_enter Tryd.func6, Tryd.ntmps6
  go_wp2_with (first
    | (go_at_call 8; refine CV.out.mono ?_; clear CV; rintro x W1 ⟨rfl, k1⟩; have K1 := hideL k1; clear k1)
    | (go_at_call 9; refine (C1.out _ K1.out).mono ?_; clear C1; rintro x W2 ⟨rfl, k2⟩; have K2 := hideL (K1.out.trans k2 (fun _ f => f.elim)); clear K1 k2)
    | (go_at_call 9; refine (C2.out _ K2.out).mono ?_; clear C2; rintro x W3 ⟨⟨a3, c3, m3, n3, er3, rfl⟩, k3⟩; have K3 := hideL (K2.out.trans k3 (fun _ f => f.elim)); clear K2 k3)
    | (go_at_call 9; refine (C3.out _ K3.out).mono ?_; clear C3; rintro x W4 ⟨⟨a4, c4, m4, n4, er4, rfl⟩, k4⟩; have K4 := hideL (K3.out.trans k4 (fun _ f => f.elim)); clear K3 k4))
  go_ret
  exact ⟨rfl, K4.out⟩
set_option maxRecDepth 20000 in
set_option maxHeartbeats 4000000 in
theorem beside_far (p q : List UInt8) (w : World) (ad : Addr) (hC : ClsAt w) (hS : SynAt w ad) (hp : p.length ≤ 100000000000) (hq : q.length ≤ 100000000000) (hZ : (scanF p).2 = none) (f : Nat) (hQ : (scanF q).2 = some f) :
    Calls Tryd.prog 6 #[.string (bq p), .string (bq q)] w fun e w' => e = .returned (.bool true) ∧ Kept (fun _ => False) w w' := by
  have CV := hideL (lives13_any w ad hC hS)
  have C1 := hideL (fun W (k : Kept (fun _ => False) w W) => scan_none p W ad (hC.later k) (hS.later k) (by omega) hZ)
  have C2 := hideL (fun W (k : Kept (fun _ => False) w W) => scan_some q W ad (hC.later k) (hS.later k) (by omega) f hQ)
  have hB : (scanF (p ++ 32 :: q)).2 = some (f + (p.length + 1)) := by
    obtain ⟨A, _, h2⟩ := scan_beside p q hZ
    rw [h2, hQ]; rfl
  have hfl := (scan_fault q f hQ).1
  have C3 : Hid (∀ W, Kept (fun _ => False) w W → Calls Tryd.prog 9 #[.string (bq (p ++ 32 :: q))] W fun x w' => x = .returned (.tuple #[.slice none 0 0, .int .i64 ((f : Int) + ((p.length : Int) + 1)), .iface 68 (.pointer (some ad))]) ∧ Kept (fun _ => False) W w') := hideL (fun W k => by
    have := scan_some (p ++ 32 :: q) W ad (hC.later k) (hS.later k) (by rw [List.length_append, List.length_cons]; omega) _ hB
    rwa [show ((f + (p.length + 1) : Nat) : Int) = (f : Int) + ((p.length : Int) + 1) by omega] at this)
  have HS := hideL hS
  have e1 := bq_space p
  have e2 := bq_spaceq p q
  have z1 : (bq p).size = p.length := bq_size p
  have z2 : (bq q).size = q.length := bq_size q
  have z3 : (bq (p ++ [32])).size = p.length + 1 := by rw [bq_size, List.length_append]; rfl
  have y1 : (bq p).size ≤ 100000000000 := by omega
  have y2 : (bq q).size ≤ 100000000000 := by omega
  have y3 : (bq (p ++ [32])).size ≤ 100000000001 := by omega
  have hfb : f ≤ 100000000000 := by omega
  rw [← z1] at C3
  generalize bq (p ++ 32 :: q) = v2 at *
  generalize bq (p ++ [32]) = v1 at *
  generalize bq p = s at *
  generalize bq q = t at *
  clear hC hS hZ z1 z2 z3 hB hfl hQ
  go_enter Tryd.func6, Tryd.ntmps6
  go_wp2_with (first
    | (go_at_call 8; refine CV.out.mono ?_; clear CV; rintro x W1 ⟨rfl, k1⟩; have K1 := hideL k1; clear k1)
    | (go_at_call 9; refine (C1.out _ K1.out).mono ?_; clear C1; rintro x W2 ⟨⟨a2, c2, m2, rfl, -⟩, k2⟩; have K2 := hideL (K1.out.trans k2 (fun _ f => f.elim)); clear K1 k2)
    | (go_at_call 9; refine (C2.out _ K2.out).mono ?_; clear C2; rintro x W3 ⟨rfl, k3⟩; have K3 := hideL (K2.out.trans k3 (fun _ f => f.elim)); clear K2 k3)
    | (go_at_call 9; refine (C3.out _ K3.out).mono ?_; clear C3; rintro x W4 ⟨rfl, k4⟩; have K4 := hideL (K3.out.trans k4 (fun _ f => f.elim)); have b4 := (HS.out.later K4.out).var; unfold synV at b4; have q4 := errEqL W4 ad; clear K3 k4))
  go_ret
  exact ⟨rfl, K4.out⟩
end Go.Proofs.YtofompjnjbpkbaaDoor
