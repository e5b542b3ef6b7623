import Derived.Test.YtacmmclamkhpcaaDoorAul
namespace Go.Proofs.YtacmmclamkhpcaaDoor
open Go.ChangeShapes Go.WideShapes Go.ChangeAt Go.RowKit

def erI (a : Addr) : Value := .iface 97 (.pointer (some a))
def mkP (ad : Nat → Addr) (z : Int) (e : Ending) : Prop := ∃ p x, e = .returned (.tuple #[.pointer p, x]) ∧ ((z = 0 ∧ (∃ b, p = some ⟨b, 0, none⟩) ∧ x = .nilIface) ∨ (z = 14 ∧ p = none ∧ x = erI (ad 13)) ∨ (z = 8 ∧ p = none ∧ x = erI (ad 7)))
theorem bad_o {k : Int} {l : List UInt8} {n : Int} (h3 : k ≠ 3) (h4 : k ≠ 4) : bad k l n = 0 := by unfold bad; rw [if_neg (fun h => h3 h.1), if_neg (fun h => h4 h.1)]
set_option maxRecDepth 20000 in
set_option maxHeartbeats 4000000 in
theorem make1_any (k : Int) (l : List UInt8) (n : Int) (a1 a2 : Bool) (t1 : ByteArray) (b1 b2 : Bool) (t2 : ByteArray) (ad : Nat → Addr) (w : World) (hE : Errs14 w ad) (hl : l.length ≤ 137438953000) (h1 : t1.size ≤ 1099511627776) (h2 : t2.size ≤ 1099511627776) : Calls Tryd.prog 18 #[.agg #[.int .i64 k, .string (bq l), .int .i64 n, .bool a1, .bool a2, .string t1, .bool b1, .bool b2, .string t2]] w fun e w' => mkP ad (bad k l n) e ∧ Kept (fun _ => False) w w' := by
  have KB := Kept.alloc w (.cells #[.int .i64 k, .string (bq l), .int .i64 n, .bool a1, .bool a2, .string t1, .bool b1, .bool b2, .string t2] 25)
  have HKB := hideG KB
  have HE := hideG (hE.kept KB)
  have hsz : (bq l).size ≤ 281474976710656 := by rw [bq_size]; omega
  have CW := hideG (Wild_any l (ad 13) _ hl (hE.kept KB).s13.var)
  have CP := hideG (Prefix_any (bq l) (w.alloc (.cells #[.int .i64 k, .string (bq l), .int .i64 n, .bool a1, .bool a2, .string t1, .bool b1, .bool b2, .string t2] 25)) hsz)
  have CX := hideG (Exact_any (bq l) (w.alloc (.cells #[.int .i64 k, .string (bq l), .int .i64 n, .bool a1, .bool a2, .string t1, .bool b1, .bool b2, .string t2] 25)) hsz)
  have CS := hideG (Span_any a1 a2 b1 b2 t1 t2 (w.alloc (.cells #[.int .i64 k, .string (bq l), .int .i64 n, .bool a1, .bool a2, .string t1, .bool b1, .bool b2, .string t2] 25)) h1 h2)
  have CFg : Hid (0 ≤ n → n ≤ 2 → Calls Tryd.prog 15 #[.string (bq l), .int .i64 n] (w.alloc (.cells #[.int .i64 k, .string (bq l), .int .i64 n, .bool a1, .bool a2, .string t1, .bool b1, .bool b2, .string t2] 25)) fun e w' => (∃ b, e = .returned (.tuple #[.pointer (some ⟨b, 0, none⟩), .nilIface])) ∧ Kept (fun _ => False) (w.alloc (.cells #[.int .i64 k, .string (bq l), .int .i64 n, .bool a1, .bool a2, .string t1, .bool b1, .bool b2, .string t2] 25)) w') := hideG (fun x y => Fuzzy_good (bq l) n _ hsz x y)
  have CFb : Hid ((n < 0 ∨ 2 < n) → Calls Tryd.prog 15 #[.string (bq l), .int .i64 n] (w.alloc (.cells #[.int .i64 k, .string (bq l), .int .i64 n, .bool a1, .bool a2, .string t1, .bool b1, .bool b2, .string t2] 25)) fun e w' => e = .returned (.tuple #[.pointer none, .iface 97 (.pointer (some (ad 7)))]) ∧ Kept (fun _ => False) (w.alloc (.cells #[.int .i64 k, .string (bq l), .int .i64 n, .bool a1, .bool a2, .string t1, .bool b1, .bool b2, .string t2] 25)) w') := hideG (fun x => Fuzzy_bad (bq l) n (ad 7) _ x (hE.kept KB).s7.var)
  clear KB hE
  generalize hs : bq l = s at *
  by_cases k2 : k = 2
  · subst k2
    rw [bad_o (by decide) (by decide)]
    clear CW CX CS CFg CFb
    go_enter Tryd.func18, Tryd.ntmps18
    go_wp2_with (go_at_call 32; refine CP.out.mono ?_; clear CP; rintro e W ⟨⟨b, rfl⟩, K1⟩)
    go_ret2
    exact ⟨⟨_, _, rfl, .inl ⟨rfl, ⟨b, rfl⟩, rfl⟩⟩, HKB.out.trans K1 (fun _ f => f.elim)⟩
  · have q2 : (k == 2) = false := by simpa using k2
    by_cases k3 : k = 3
    · subst k3
      cases hZ : elsR [] l with
      | none =>
        rw [hZ] at CW
        have eb : bad 3 l n = 14 := by unfold bad gd; rw [hZ, if_pos ⟨rfl, rfl⟩]
        rw [eb]
        clear CP CX CS CFg CFb eb hZ
        go_enter Tryd.func18, Tryd.ntmps18
        go_wp2_with (go_at_call 17; refine CW.out.mono ?_; clear CW; rintro e W ⟨rfl, K1⟩)
        go_ret2
        exact ⟨⟨_, _, rfl, .inr (.inl ⟨rfl, rfl, rfl⟩)⟩, HKB.out.trans K1 (fun _ f => f.elim)⟩
      | some E =>
        rw [hZ] at CW
        have eb : bad 3 l n = 0 := by unfold bad gd; rw [hZ, if_neg (by simp), if_neg (by omega)]
        rw [eb]
        clear CP CX CS CFg CFb eb hZ
        go_enter Tryd.func18, Tryd.ntmps18
        go_wp2_with (go_at_call 17; refine CW.out.mono ?_; clear CW; rintro e W ⟨ba, ea, ec, sa, sc, rfl, hA, K1⟩)
        go_ret2
        exact ⟨⟨_, _, rfl, .inl ⟨rfl, ⟨ba, rfl⟩, rfl⟩⟩, HKB.out.trans K1 (fun _ f => f.elim)⟩
    · have q3 : (k == 3) = false := by simpa using k3
      by_cases k4 : k = 4
      · subst k4
        by_cases hn : n < 0 ∨ 2 < n
        · have eb : bad 4 l n = 8 := by unfold bad; rw [if_neg (by omega), if_pos ⟨rfl, hn⟩]
          rw [eb]
          have CF := hideG (CFb.out hn)
          clear CP CX CS CFg CFb eb CW
          go_enter Tryd.func18, Tryd.ntmps18
          go_wp2_with (go_at_call 15; refine CF.out.mono ?_; clear CF; rintro e W ⟨rfl, K1⟩)
          go_ret2
          exact ⟨⟨_, _, rfl, .inr (.inr ⟨rfl, rfl, rfl⟩)⟩, HKB.out.trans K1 (fun _ f => f.elim)⟩
        · have eb : bad 4 l n = 0 := by unfold bad; rw [if_neg (by omega), if_neg (fun h => hn h.2)]
          rw [eb]
          have CF := hideG (CFg.out (by omega) (by omega))
          clear CP CX CS CFg CFb eb CW
          go_enter Tryd.func18, Tryd.ntmps18
          go_wp2_with (go_at_call 15; refine CF.out.mono ?_; clear CF; rintro e W ⟨⟨b, rfl⟩, K1⟩)
          go_ret2
          exact ⟨⟨_, _, rfl, .inl ⟨rfl, ⟨b, rfl⟩, rfl⟩⟩, HKB.out.trans K1 (fun _ f => f.elim)⟩
      · have q4 : (k == 4) = false := by simpa using k4
        rw [bad_o k3 k4]
        by_cases k5 : k = 5
        · subst k5
          clear CP CX CW CFg CFb
          go_enter Tryd.func18, Tryd.ntmps18
          go_wp2_with (go_at_call 33; refine CS.out.mono ?_; clear CS; rintro e W ⟨⟨b, rfl⟩, K1⟩)
          go_ret2
          exact ⟨⟨_, _, rfl, .inl ⟨rfl, ⟨b, rfl⟩, rfl⟩⟩, HKB.out.trans K1 (fun _ f => f.elim)⟩
        · have q5 : (k == 5) = false := by simpa using k5
          clear CP CS CW CFg CFb
          go_enter Tryd.func18, Tryd.ntmps18
          go_wp2_with (go_at_call 34; refine CX.out.mono ?_; clear CX; rintro e W ⟨⟨b, rfl⟩, K1⟩)
          go_ret2
          exact ⟨⟨_, _, rfl, .inl ⟨rfl, ⟨b, rfl⟩, rfl⟩⟩, HKB.out.trans K1 (fun _ f => f.elim)⟩
theorem Make_told (k : Int) (l : List UInt8) (n : Int) (a1 a2 : Bool) (t1 : ByteArray) (b1 b2 : Bool) (t2 : ByteArray) (w : World) (hl : l.length ≤ 1099511627776) : Calls Tryd.prog 19 #[tld k (bq l) n a1 a2 t1 b1 b2 t2] w fun e w' => e = .returned (.int .i64 (bad k l n)) ∧ Kept (fun _ => False) w w' := by
  unfold tld
  split
  · rename_i h
    rw [bad_o (by omega) (by omega)]
    have := Make_any 1 l 0 false false ⟨#[]⟩ false false ⟨#[]⟩ w hl
    rwa [bad_o (by decide) (by decide)] at this
  · exact Make_any k l n a1 a2 t1 b1 b2 t2 w hl
set_option maxRecDepth 20000 in
set_option maxHeartbeats 4000000 in
theorem made_any (k : Int) (l : List UInt8) (n : Int) (a1 a2 : Bool) (t1 : ByteArray) (b1 b2 : Bool) (t2 : ByteArray) (ad : Nat → Addr) (w : World) (hE : Errs14 w ad) (hl : l.length ≤ 137438953000) (h1 : t1.size ≤ 1099511627776) (h2 : t2.size ≤ 1099511627776) : Calls Tryd.prog 8 #[.agg #[.int .i64 k, .string (bq l), .int .i64 n, .bool a1, .bool a2, .string t1, .bool b1, .bool b2, .string t2]] w fun e w' => (∃ p, e = .returned (.tuple #[.pointer p, .bool true]) ∧ (p = none ↔ bad k l n ≠ 0)) ∧ Kept (fun _ => False) w w' := by
  have KB := Kept.alloc w (.cells #[.int .i64 k, .string (bq l), .int .i64 n, .bool a1, .bool a2, .string t1, .bool b1, .bool b2, .string t2] 25)
  have hbx := heap_alloc_new w (.cells #[.int .i64 k, .string (bq l), .int .i64 n, .bool a1, .bool a2, .string t1, .bool b1, .bool b2, .string t2] 25)
  have HKB := hideG KB
  have HE := hideG (hE.kept KB)
  have HX := hideG hbx
  have C1 := hideG (make1_any k l n a1 a2 t1 b1 b2 t2 ad _ (hE.kept KB) hl h1 h2)
  have C2 := fun W => hideG (told_any k (bq l) n a1 a2 t1 b1 b2 t2 W)
  have C3 := fun W => hideG (Make_told k l n a1 a2 t1 b1 b2 t2 W (by omega))
  generalize tld k (bq l) n a1 a2 t1 b1 b2 t2 = tv at *
  generalize bad k l n = z at *
  clear KB hbx hE
  generalize bq l = s at *
  have CELLS : Hid (∀ W : World, W.heap[w.heap.size]? = some (.cells #[.int .i64 k, .string s, .int .i64 n, .bool a1, .bool a2, .string t1, .bool b1, .bool b2, .string t2] 25 (0, 0)) → W.cell? ⟨w.heap.size, 0, none⟩ = some (.int .i64 k) ∧ W.cell? ⟨w.heap.size, 1, none⟩ = some (.string s) ∧ W.cell? ⟨w.heap.size, 2, none⟩ = some (.int .i64 n) ∧ W.cell? ⟨w.heap.size, 3, none⟩ = some (.bool a1) ∧ W.cell? ⟨w.heap.size, 4, none⟩ = some (.bool a2) ∧ W.cell? ⟨w.heap.size, 5, none⟩ = some (.string t1) ∧ W.cell? ⟨w.heap.size, 6, none⟩ = some (.bool b1) ∧ W.cell? ⟨w.heap.size, 7, none⟩ = some (.bool b2) ∧ W.cell? ⟨w.heap.size, 8, none⟩ = some (.string t2)) := hideG (fun W h => by refine ⟨?_, ?_, ?_, ?_, ?_, ?_, ?_, ?_, ?_⟩ <;> simp [World.cell?, h])
  go_enter Tryd.func8, Tryd.ntmps8
  go_wp2_with (go_at_call 18; refine Stp2.go ?_)
  refine ⟨?_⟩
  refine C1.out.mono ?_
  rintro e W ⟨⟨p, x, rfl, hz⟩, K1⟩
  obtain ⟨x0, x1, x2, x3, x4, x5, x6, x7, x8⟩ := CELLS.out W (K1.heap HX.out (fun f => f))
  have HK1 := hideG (HKB.out.trans K1 (fun _ f => f.elim))
  have HE1 := hideG (HE.out.kept K1)
  clear C1 CELLS HX HE HKB K1
  rcases hz with ⟨rfl, ⟨b, rfl⟩, rfl⟩ | ⟨rfl, rfl, rfl⟩ | ⟨rfl, rfl, rfl⟩
  · go_wp2_with (first
      | (go_at_call 9; refine (C2 _).out.mono ?_; clear C2; rintro e W2 ⟨rfl, K2⟩; have HK2 := hideG (HK1.out.trans K2 (fun _ f => f.elim)); clear K2)
      | (go_at_call 19; refine (C3 _).out.mono ?_; clear C3; rintro e W3 ⟨rfl, K3⟩; have HK3 := hideG (HK2.out.trans K3 (fun _ f => f.elim)); clear K3)
      | (go_at_call 20; refine (num_nil W3).mono ?_; rintro e W4 ⟨rfl, e4⟩; subst e4))
    go_ret2
    exact ⟨⟨_, rfl, by simp⟩, HK3.out⟩
  · unfold erI
    go_wp2_with (first
      | (go_at_call 9; refine (C2 _).out.mono ?_; clear C2; rintro e W2 ⟨rfl, K2⟩; have HK2 := hideG (HK1.out.trans K2 (fun _ f => f.elim)); have HE2 := hideG (HE1.out.kept K2); clear K2)
      | (go_at_call 19; refine (C3 _).out.mono ?_; clear C3; rintro e W3 ⟨rfl, K3⟩; have HK3 := hideG (HK2.out.trans K3 (fun _ f => f.elim)); have CN := hideG (num_pattern (HE2.out.kept K3)); clear K3)
      | (go_at_call 20; refine CN.out.mono ?_; clear CN; rintro e W4 ⟨rfl, e4⟩; subst e4))
    go_ret2
    exact ⟨⟨_, rfl, by simp⟩, HK3.out⟩
  · unfold erI
    go_wp2_with (first
      | (go_at_call 9; refine (C2 _).out.mono ?_; clear C2; rintro e W2 ⟨rfl, K2⟩; have HK2 := hideG (HK1.out.trans K2 (fun _ f => f.elim)); have HE2 := hideG (HE1.out.kept K2); clear K2)
      | (go_at_call 19; refine (C3 _).out.mono ?_; clear C3; rintro e W3 ⟨rfl, K3⟩; have HK3 := hideG (HK2.out.trans K3 (fun _ f => f.elim)); have CN := hideG (num_range (HE2.out.kept K3)); clear K3)
      | (go_at_call 20; refine CN.out.mono ?_; clear CN; rintro e W4 ⟨rfl, e4⟩; subst e4))
    go_ret2
    exact ⟨⟨_, rfl, by simp⟩, HK3.out⟩
end Go.Proofs.YtacmmclamkhpcaaDoor
