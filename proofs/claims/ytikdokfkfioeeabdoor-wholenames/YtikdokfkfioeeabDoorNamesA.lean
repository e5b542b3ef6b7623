import Derived.Test.YtikdokfkfioeeabDoorErrs
namespace Go.Proofs.YtikdokfkfioeeabDoor
open Go.ChangeShapes Go.WideShapes Go.ChangeAt Go.RowKit
theorem err_any (a : Addr) (s : ByteArray) (w : World) (h : w.cell? a = some (.string s)) :
    Calls Tryd.prog 83 #[.pointer (some a)] w fun e w' => e = .returned (.string s) ∧ w' = w := by
  go_enter Tryd.func83, Tryd.ntmps83
  go_wp2
  go_ret
  exact ⟨rfl, rfl⟩
theorem cells_list (A : Nat → Addr) (w : World) (o : Obj) : ∀ k, k < 24 → ((w.alloc (.cells #[.iface 111 (.pointer (some (A 0))), .iface 111 (.pointer (some (A 1))), .iface 111 (.pointer (some (A 2))), .iface 111 (.pointer (some (A 3))), .iface 111 (.pointer (some (A 4))), .iface 111 (.pointer (some (A 5))), .iface 111 (.pointer (some (A 6))), .iface 111 (.pointer (some (A 7))), .iface 111 (.pointer (some (A 8))), .iface 111 (.pointer (some (A 9))), .iface 111 (.pointer (some (A 10))), .iface 111 (.pointer (some (A 11))), .iface 111 (.pointer (some (A 12))), .iface 111 (.pointer (some (A 13))), .iface 111 (.pointer (some (A 14))), .iface 111 (.pointer (some (A 15))), .iface 111 (.pointer (some (A 16))), .iface 111 (.pointer (some (A 17))), .iface 111 (.pointer (some (A 18))), .iface 111 (.pointer (some (A 19))), .iface 111 (.pointer (some (A 20))), .iface 111 (.pointer (some (A 21))), .iface 111 (.pointer (some (A 22))), .iface 111 (.pointer (some (A 23)))] 47)).alloc o).cell? ⟨w.heap.size, k, none⟩ = some (.iface 111 (.pointer (some (A k)))) := by
  intro k hk
  rw [World.cell?_alloc_past _ _ _ (by simp)]
  have e : ∀ k, k < 24 → (#[.iface 111 (.pointer (some (A 0))), .iface 111 (.pointer (some (A 1))), .iface 111 (.pointer (some (A 2))), .iface 111 (.pointer (some (A 3))), .iface 111 (.pointer (some (A 4))), .iface 111 (.pointer (some (A 5))), .iface 111 (.pointer (some (A 6))), .iface 111 (.pointer (some (A 7))), .iface 111 (.pointer (some (A 8))), .iface 111 (.pointer (some (A 9))), .iface 111 (.pointer (some (A 10))), .iface 111 (.pointer (some (A 11))), .iface 111 (.pointer (some (A 12))), .iface 111 (.pointer (some (A 13))), .iface 111 (.pointer (some (A 14))), .iface 111 (.pointer (some (A 15))), .iface 111 (.pointer (some (A 16))), .iface 111 (.pointer (some (A 17))), .iface 111 (.pointer (some (A 18))), .iface 111 (.pointer (some (A 19))), .iface 111 (.pointer (some (A 20))), .iface 111 (.pointer (some (A 21))), .iface 111 (.pointer (some (A 22))), .iface 111 (.pointer (some (A 23)))] : Array Value)[k]? = some (.iface 111 (.pointer (some (A k))))
    | 0, _ => rfl
    | 1, _ => rfl
    | 2, _ => rfl
    | 3, _ => rfl
    | 4, _ => rfl
    | 5, _ => rfl
    | 6, _ => rfl
    | 7, _ => rfl
    | 8, _ => rfl
    | 9, _ => rfl
    | 10, _ => rfl
    | 11, _ => rfl
    | 12, _ => rfl
    | 13, _ => rfl
    | 14, _ => rfl
    | 15, _ => rfl
    | 16, _ => rfl
    | 17, _ => rfl
    | 18, _ => rfl
    | 19, _ => rfl
    | 20, _ => rfl
    | 21, _ => rfl
    | 22, _ => rfl
    | 23, _ => rfl
    | n + 24, hn => by omega
  rw [World.cell?_alloc_at (hn := rfl)]
  exact e k hk
theorem cells_text (w : World) (o : Obj) : ∀ k, k < 24 → ((w.alloc o).alloc (.cells #[.string { data := #[116, 111, 111, 32, 115, 104, 111, 114, 116] }, .string { data := #[118, 97, 114, 105, 110, 116] }, .string { data := #[108, 105, 109, 105, 116] }, .string { data := #[111, 114, 100, 101, 114] }, .string { data := #[116, 97, 105, 108] }, .string { data := #[116, 97, 103] }, .string { data := #[115, 117, 109] }, .string { data := #[114, 97, 110, 103, 101] }, .string { data := #[115, 105, 122, 101] }, .string { data := #[99, 111, 114, 114, 117, 112, 116] }, .string { data := #[115, 99, 104, 101, 109, 97] }, .string { data := #[102, 105, 101, 108, 100] }, .string { data := #[118, 97, 108, 117, 101] }, .string { data := #[112, 97, 116, 116, 101, 114, 110] }, .string { data := #[115, 116, 97, 116, 101, 115] }, .string { data := #[115, 121, 110, 116, 97, 120] }, .string { data := #[116, 111, 111, 32, 100, 101, 101, 112] }, .string { data := #[110, 111, 100, 101] }, .string { data := #[116, 111, 111, 32, 109, 97, 110, 121, 32, 116, 101, 114, 109, 115] }, .string { data := #[115, 99, 111, 114, 101, 32, 111, 118, 101, 114, 102, 108, 111, 119] }, .string { data := #[99, 111, 100, 101] }, .string { data := #[102, 117, 101, 108] }, .string { data := #[100, 111, 99, 117, 109, 101, 110, 116] }, .string { data := #[99, 111, 109, 109, 97, 110, 100] }] 9)).cell? ⟨w.heap.size + 1, k, none⟩ = some (.string ⟨⟨errTail k⟩⟩) := by
  intro k hk
  have e : ∀ k, k < 24 → (#[.string { data := #[116, 111, 111, 32, 115, 104, 111, 114, 116] }, .string { data := #[118, 97, 114, 105, 110, 116] }, .string { data := #[108, 105, 109, 105, 116] }, .string { data := #[111, 114, 100, 101, 114] }, .string { data := #[116, 97, 105, 108] }, .string { data := #[116, 97, 103] }, .string { data := #[115, 117, 109] }, .string { data := #[114, 97, 110, 103, 101] }, .string { data := #[115, 105, 122, 101] }, .string { data := #[99, 111, 114, 114, 117, 112, 116] }, .string { data := #[115, 99, 104, 101, 109, 97] }, .string { data := #[102, 105, 101, 108, 100] }, .string { data := #[118, 97, 108, 117, 101] }, .string { data := #[112, 97, 116, 116, 101, 114, 110] }, .string { data := #[115, 116, 97, 116, 101, 115] }, .string { data := #[115, 121, 110, 116, 97, 120] }, .string { data := #[116, 111, 111, 32, 100, 101, 101, 112] }, .string { data := #[110, 111, 100, 101] }, .string { data := #[116, 111, 111, 32, 109, 97, 110, 121, 32, 116, 101, 114, 109, 115] }, .string { data := #[115, 99, 111, 114, 101, 32, 111, 118, 101, 114, 102, 108, 111, 119] }, .string { data := #[99, 111, 100, 101] }, .string { data := #[102, 117, 101, 108] }, .string { data := #[100, 111, 99, 117, 109, 101, 110, 116] }, .string { data := #[99, 111, 109, 109, 97, 110, 100] }] : Array Value)[k]? = some (.string ⟨⟨errTail k⟩⟩)
    | 0, _ => rfl
    | 1, _ => rfl
    | 2, _ => rfl
    | 3, _ => rfl
    | 4, _ => rfl
    | 5, _ => rfl
    | 6, _ => rfl
    | 7, _ => rfl
    | 8, _ => rfl
    | 9, _ => rfl
    | 10, _ => rfl
    | 11, _ => rfl
    | 12, _ => rfl
    | 13, _ => rfl
    | 14, _ => rfl
    | 15, _ => rfl
    | 16, _ => rfl
    | 17, _ => rfl
    | 18, _ => rfl
    | 19, _ => rfl
    | 20, _ => rfl
    | 21, _ => rfl
    | 22, _ => rfl
    | 23, _ => rfl
    | n + 24, hn => by omega
  rw [World.cell?_alloc_at (hn := by simp)]
  exact e k hk
theorem method_err (a : Addr) (w : World) : (method 229 111 (.pointer (some a)) "Error").run Tryd.prog w = .ok (83, .pointer (some a)) w := by kernel_rfl

/-- What the loops of WholeNames keep. -/
structure NRel (A : Nat → Addr) (w wr : World) : Prop where
  hL : ∀ k, k < 24 → wr.cell? ⟨w.heap.size, k, none⟩ = some (.iface 111 (.pointer (some (A k))))
  hT : ∀ k, k < 24 → wr.cell? ⟨w.heap.size + 1, k, none⟩ = some (.string ⟨⟨errTail k⟩⟩)
  hE : ∀ k, k < 24 → wr.cell? (A k) = some (.string ⟨⟨errText k⟩⟩)
  hB : ∀ k, k < 24 → ∃ c t, wr.heap[(A k).block]? = some (.cells c t (0, 0))
  hG : wr.cell? ⟨3, 0, none⟩ = some (.iface 111 (.pointer (some (A 3))))
  bel : Below w.heap.size w wr
  sz : wr.heap.size = w.heap.size + 2
theorem NRel.drewN {A : Nat → Addr} {w wr : World} (h : NRel A w wr) (n : Nat) : NRel A w (wr.drewN n) :=
  ⟨h.hL, h.hT, h.hE, h.hB, h.hG, below_drewN h.bel n, h.sz⟩
theorem errTail_inj : ∀ j k : Nat, j < k → k < 24 → errText j ≠ errText k := by
  have h : ∀ k : Fin 24, ∀ j : Fin 24, j.val < k.val → errText j.val ≠ errText k.val := by decide
  intro j k hjk hk
  exact h ⟨k, hk⟩ ⟨j, by omega⟩ hjk
theorem NRel.ne {A : Nat → Addr} {w wr : World} (h : NRel A w wr) {j k : Nat} (hjk : j < k) (hk : k < 24) : A j ≠ A k := by
  intro e
  have h1 := h.hE j (by omega)
  rw [e, h.hE k hk] at h1
  simp at h1
  exact errTail_inj j k hjk hk h1.symm
theorem text_parts (k : Nat) (hk : k < 24) : ∃ tl tx : ByteArray, tl = ⟨⟨errTail k⟩⟩ ∧ tx = ⟨⟨errText k⟩⟩ ∧ tl.size ≤ 20 ∧ ({ data := #[99, 111, 110, 99, 111, 114, 100, 58, 32] } : ByteArray) ++ tl = tx := by
  refine ⟨_, _, rfl, rfl, ?_, ?_⟩
  · have h : ∀ k : Fin 24, (errTail k.val).length ≤ 20 := by decide
    exact h ⟨k, hk⟩
  · apply ByteArray.ext
    simp [ByteArray.data_append, errText]
theorem Tryd.comp111 : (Tryd.prog.info? 111).map (·.comparable) = some true := by kernel_rfl
theorem Tryd.size126 : (Tryd.prog.info? 126).map (·.size) = some 1 := by kernel_rfl
theorem err_neq {a b : Addr} (W : World) (hne : a ≠ b) (ha : ∃ c t, W.heap[a.block]? = some (.cells c t (0, 0))) (hb : ∃ c t, W.heap[b.block]? = some (.cells c t (0, 0))) :
    (binOp .eql 47 (.iface 111 (.pointer (some a))) (.iface 111 (.pointer (some b)))).run Tryd.prog W = .ok (.bool false) W := by
  obtain ⟨i, hi, hci⟩ := Option.map_eq_some_iff.1 Tryd.comp111
  obtain ⟨j, hj, hcj⟩ := Option.map_eq_some_iff.1 Tryd.size126
  obtain ⟨c, t, ha⟩ := ha
  obtain ⟨c', t', hb⟩ := hb
  exact run_eql_iface_ptr_other W Tryd.underlying47 Tryd.underlying111 hi hci hj (by rw [hcj]; decide) hne ha hb
theorem err_eq (a : Addr) (W : World) :
    (binOp .eql 47 (.iface 111 (.pointer (some a))) (.iface 111 (.pointer (some a)))).run Tryd.prog W = .ok (.bool true) W := by
  obtain ⟨i, hi, hci⟩ := Option.map_eq_some_iff.1 Tryd.comp111
  obtain ⟨j, hj, hcj⟩ := Option.map_eq_some_iff.1 Tryd.size126
  exact run_eql_iface_ptr_same W a Tryd.underlying47 Tryd.underlying111 hi hci hj
theorem perr_any (b : Nat) (a : Addr) (s : ByteArray) (w : World) (h1 : w.cell? ⟨b, 1, none⟩ = some (.iface 111 (.pointer (some a)))) (h2 : w.cell? a = some (.string s)) :
    Calls Tryd.prog 33 #[.pointer (some ⟨b, 0, none⟩)] w fun e w' => e = .returned (.string s) ∧ w' = w := by
  have hme := method_err
  go_enter Tryd.func33, Tryd.ntmps33
  go_wp2_with (go_at_call 83; refine (err_any _ _ _ h2).mono ?_; rintro e w' ⟨rfl, rfl⟩)
  go_ret
  exact ⟨rfl, rfl⟩
theorem punw_any (b : Nat) (a : Addr) (w : World) (h1 : w.cell? ⟨b, 1, none⟩ = some (.iface 111 (.pointer (some a)))) :
    Calls Tryd.prog 34 #[.pointer (some ⟨b, 0, none⟩)] w fun e w' => e = .returned (.iface 111 (.pointer (some a))) ∧ w' = w := by
  go_enter Tryd.func34, Tryd.ntmps34
  go_wp2
  go_ret
  exact ⟨rfl, rfl⟩
end Go.Proofs.YtikdokfkfioeeabDoor
