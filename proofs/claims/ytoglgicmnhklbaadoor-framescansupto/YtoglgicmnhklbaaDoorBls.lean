import Derived.Test.YtoglgicmnhklbaaDoorDce
import Derived.Test.YtoglgicmnhklbaaDoorOpb
namespace Go.Proofs.YtoglgicmnhklbaaDoor
open Go.ChangeShapes Go.WideShapes Go.ChangeAt Go.RowKit

/-- A block, as it lies. -/
structure BkD where
  t : Nat
  a : Option Addr
  c : Nat
  B : List Int
def BkD.cells (x : BkD) : List Value := [.int .u8 x.t, .slice x.a x.B.length x.c]
structure BkD.At (w : World) (x : BkD) : Prop where
  t2 : x.t < 256
  b : BytesAt w x.a x.B
  i : IsBytes x.B
  z : x.a = none → x.c = 0
theorem BkD.At.kept {w w' : World} {x : BkD} (h : x.At w) (k : Kept (fun _ => False) w w') : x.At w' := ⟨h.t2, bytes_keptF h.b k, h.i, h.z⟩
theorem BkD.cells_length (x : BkD) : x.cells.length = 2 := rfl
def BkD.size (x : BkD) : Nat := x.B.length + 1
def btot : List BkD → Nat
  | [] => 0
  | x :: r => x.size + btot r
theorem btot_append : ∀ a b, btot (a ++ b) = btot a + btot b
  | [], b => by simp [btot]
  | x :: r, b => by simp only [List.cons_append, btot, btot_append r b]; omega
theorem btot_count : ∀ l, l.length ≤ btot l
  | [] => Nat.le_refl _
  | x :: r => by have := btot_count r; simp only [btot, BkD.size, List.length_cons]; omega
theorem btot_mem {x : BkD} : ∀ {l}, x ∈ l → x.size ≤ btot l
  | y :: r, h => by
    simp only [btot]
    rcases List.mem_cons.1 h with rfl | h
    · omega
    · have := btot_mem h; omega
/-- Where the blocks of a list lie. -/
def BksAt (w : World) (a : Option Addr) (S : List BkD) : Prop :=
  S ≠ [] → ∃ b off, a = some ⟨b, off, none⟩ ∧ ∀ k (h : k < S.length), w.cell? ⟨b, off + k * 2, none⟩ = some (.int .u8 (S[k]).t) ∧ w.cell? ⟨b, off + k * 2 + 1, none⟩ = some (.slice (S[k]).a (S[k]).B.length (S[k]).c)
theorem BksAt.kept {w w' : World} {a : Option Addr} {S : List BkD} (h : BksAt w a S) (k : Kept (fun _ => False) w w') : BksAt w' a S := by
  intro hne
  obtain ⟨b, off, e, hc⟩ := h hne
  exact ⟨b, off, e, fun j hj => ⟨k.cell (hc j hj).1 (fun f => f), k.cell (hc j hj).2 (fun f => f)⟩⟩
/-- All bytes of some blocks, one behind the other; an image ahead of its seal; an image. -/
def bencs (S : List BkD) : List Int := (S.map fun x => benc x.t x.B).flatten
theorem bencs_nil : bencs [] = [] := rfl
theorem bencs_cons (x : BkD) (l : List BkD) : bencs (x :: l) = benc x.t x.B ++ bencs l := by simp [bencs]
theorem bencs_snoc (l : List BkD) (x : BkD) : bencs (l ++ [x]) = bencs l ++ benc x.t x.B := by simp [bencs]
theorem bencs_append (l m : List BkD) : bencs (l ++ m) = bencs l ++ bencs m := by simp [bencs]
theorem take_nextB {S : List BkD} {k : Nat} (h : k < S.length) : S.take (k + 1) = S.take k ++ [S[k]] := by rw [List.take_add_one, List.getElem?_eq_getElem h]; rfl
theorem bencs_small : ∀ (l : List BkD), btot l ≤ 4294967296 → (bencs l).length ≤ 16 * btot l
  | [], _ => by simp [bencs]
  | x :: l, h => by
    simp only [btot, BkD.size] at h ⊢
    have h2 := bencs_small l (by omega)
    have h1 := benc_length x.t x.B
    have h3 := (ulen_le x.B.length (by omega)).2
    rw [bencs_cons, List.length_append, h1]
    omega
theorem benc_bytes {t : Nat} {l : List Int} (h : t < 256) (hb : IsBytes l) : IsBytes (benc t l) := by
  intro x hx
  rcases List.mem_append.1 hx with hx | hx
  · exact bhead_bytes (by omega) (by omega) hb x hx
  · exact le_bytes _ _ x hx
theorem bencs_bytes : ∀ (l : List BkD), (∀ x ∈ l, x.t < 256 ∧ IsBytes x.B) → IsBytes (bencs l)
  | [], _ => by intro x hx; simp [bencs] at hx
  | o :: l, h => by
    intro x hx
    rw [bencs_cons, List.mem_append] at hx
    rcases hx with hx | hx
    · exact benc_bytes (h o List.mem_cons_self).1 (h o List.mem_cons_self).2 x hx
    · exact bencs_bytes l (fun x hx => h x (List.mem_cons_of_mem _ hx)) x hx
def cncd (kind : Nat) : List Int := [99, 110, 99, 100, (kind : Int)]
def phead (kind : Nat) (S : List BkD) : List Int := cncd kind ++ uvb S.length ++ bencs S
def penc (kind : Nat) (S : List BkD) : List Int := phead kind S ++ le 4 (sealed (phead kind S))
theorem phead_bytes {kind : Nat} {S : List BkD} (hk : kind < 256) (h : ∀ x ∈ S, x.t < 256 ∧ IsBytes x.B) : IsBytes (phead kind S) := by
  intro x hx
  simp only [phead, cncd, List.mem_append, List.mem_cons, List.not_mem_nil, or_false] at hx
  rcases hx with ((rfl | rfl | rfl | rfl | rfl) | hx) | hx
  · omega
  · omega
  · omega
  · omega
  · omega
  · exact uvb_bytesF _ x hx
  · exact bencs_bytes S h x hx
theorem penc_bytes {kind : Nat} {S : List BkD} (hk : kind < 256) (h : ∀ x ∈ S, x.t < 256 ∧ IsBytes x.B) : IsBytes (penc kind S) := by
  intro x hx
  rcases List.mem_append.1 hx with hx | hx
  · exact phead_bytes hk h x hx
  · exact le_bytes _ _ x hx
theorem phead_length (kind : Nat) (S : List BkD) : (phead kind S).length = 5 + ulen S.length + (bencs S).length := by
  simp only [phead, List.length_append, uvb_length, cncd, List.length_cons, List.length_nil]
theorem penc_length (kind : Nat) (S : List BkD) : (penc kind S).length = 9 + ulen S.length + (bencs S).length := by
  rw [penc, List.length_append, phead_length, le_length]; omega
/-- The bytes of the first k blocks of a list are no more than those of all. -/
theorem bencs_take_le (S : List BkD) (k : Nat) : (bencs (S.take k)).length ≤ (bencs S).length := by
  conv => rhs; rw [← List.take_append_drop k S, bencs_append, List.length_append]
  omega
theorem choose_listB {α : Type} {P : Nat → α → Prop} : ∀ n, (∀ i, i < n → ∃ a, P i a) → ∃ l : List α, l.length = n ∧ ∀ i (h : i < l.length), P i l[i]
  | 0, _ => ⟨[], rfl, fun i h => by simp at h⟩
  | n + 1, h => by
    obtain ⟨l, hl, hp⟩ := choose_listB n (fun i hi => h i (by omega))
    obtain ⟨a, ha⟩ := h n (by omega)
    refine ⟨l ++ [a], by simp [hl], fun i hi => ?_⟩
    by_cases hn : i < l.length
    · rw [List.getElem_append_left hn]
      exact hp i hn
    · have : i = l.length := by simp at hi; omega
      subst this
      rw [List.getElem_append_right (by omega)]
      simp only [Nat.sub_self, List.getElem_cons_zero, hl]
      exact ha
theorem btot_le {H : Type} : ∀ (S : List BkD) (ds : List (DataW H)), S.length = ds.length → (∀ i (h : i < S.length) (h' : i < ds.length), (S[i]).size ≤ Rows.uptoBulk ds[i]) → btot S ≤ Rows.uptoBulkAll ds
  | [], ds, _, _ => Nat.zero_le _
  | o :: r, [], h, _ => by simp at h
  | o :: r, d :: ds, h, hp => by
    have h0 : o.size ≤ Rows.uptoBulk d := hp 0 (by simp) (by simp)
    have h1 := btot_le r ds (by simpa using h) (fun i hi hi' => hp (i + 1) (by simp; omega) (by simp; omega))
    simp only [btot, Rows.uptoBulkAll]
    omega
theorem cells_eachB {w : World} {base : Nat} {a : Addr} {n : Nat} {cs : List Value} (h : w.cells? base a n = some cs) : cs.length = n ∧ ∀ j, j < n → w.cell? (a.add j) = cs[j]? := (World.cells?_some h).2
theorem Tryd.cBk : Tryd.prog.cellsOf 5 = 1 ∧ Tryd.prog.cellsOf 22 = 1 ∧ Tryd.prog.cellsOf 35 = 2 := by
  refine ⟨?_, ?_, ?_⟩ <;> kernel_rfl
theorem list2 {α : Type} {l : List α} (h : l.length = 2) : ∃ a b, l = [a, b] := by
  match l, h with
  | [a, b], _ => exact ⟨a, b, rfl⟩
set_option maxRecDepth 100000 in
/-- The cells of a Block that came in. -/
theorem block_of {H : Type} {enc : TypeId × Value → H} {W : World} {fuel : Nat} {cs : List Value} {x : DataW H × List MemPlace} (hf : DataW.trod enc Tryd.prog W 0 (fun _ => true) true fuel 35 cs = some x) :
    ∃ b : BkD, cs = b.cells ∧ b.At W ∧ b.size ≤ Rows.uptoBulk x.1 := by
  obtain ⟨xs, k, rfl, hx, hl, hxl, hfs⟩ := DataW.trod_struct Tryd.underlying35 hf
  obtain ⟨c1, c2, c3⟩ := Tryd.cBk
  obtain ⟨x0, x1, rfl⟩ := list2 hxl
  rw [c3] at hl
  obtain ⟨y0, y1, rfl⟩ := list2 hl
  have q0 : DataW.trod enc Tryd.prog W 0 (fun _ => true) true k 5 (([y0, y1].drop 0).take (Tryd.prog.cellsOf 5)) = some x0 := hfs 0 _ rfl
  have q1 : DataW.trod enc Tryd.prog W 0 (fun _ => true) true k 22 (([y0, y1].drop 1).take (Tryd.prog.cellsOf 22)) = some x1 := hfs 1 _ rfl
  rw [c1] at q0
  rw [c2] at q1
  simp only [List.drop, List.take] at q0 q1
  obtain ⟨t, e0, -, w0⟩ := DataW.trod_int Tryd.underlying5 q0
  obtain ⟨a, c, B, e1, hb1, hb2, hb3, hb4⟩ := bytes_of q1
  have b0 := bounds_u8 w0
  obtain ⟨T, rfl⟩ : ∃ A : Nat, t = A := ⟨t.toNat, by omega⟩
  simp only [List.cons.injEq, and_true] at e0 e1
  subst e0 e1
  have hB : Rows.uptoBulk x.1 = Rows.uptoBulk x0.1 + (Rows.uptoBulk x1.1 + 0) + 1 := by
    rw [hx]
    simp only [List.map, Rows.uptoBulk, Rows.uptoBulkAll]
  exact ⟨⟨T, a, c, B⟩, rfl, ⟨by show T < 256; omega, hb1, hb2, hb3⟩, by simp only [BkD.size]; omega⟩
/-- A list of blocks that came in. -/
theorem blocks_of {H : Type} {enc : TypeId × Value → H} {W : World} {fuel : Nat} {cs : List Value} {x : DataW H × List MemPlace} (hf : DataW.trod enc Tryd.prog W 0 (fun _ => true) true fuel 25 cs = some x) :
    ∃ (a : Option Addr) (c : Nat) (S : List BkD), cs = [.slice a S.length c] ∧ BksAt W a S ∧ (∀ o ∈ S, o.At W) ∧ btot S < Rows.uptoBulk x.1 := by
  rcases DataW.trod_slice Tryd.underlying25 hf with ⟨rfl, rfl⟩ | ⟨a, len, cap, elems, rest, n, _, rfl, rfl, _, hl, hm, hlen, hel, _, _⟩
  · exact ⟨none, 0, [], rfl, fun e => (e rfl).elim, fun y hy => (by cases hy), bulk_pos _⟩
  obtain ⟨-, -, c3⟩ := Tryd.cBk
  rw [c3] at hel
  have each : ∀ i, i < len → ∃ o : BkD, (∀ j, j < 2 → W.cell? ((a.add (i * 2)).add j) = o.cells[j]?) ∧ o.At W ∧ ∀ (h : i < elems.length), o.size ≤ Rows.uptoBulk (elems[i]).1 := by
    intro i hi
    have h := hel i hi
    rw [List.getElem?_eq_getElem (by omega), Option.bind_eq_some_iff] at h
    obtain ⟨cs2, h1, h2⟩ := h
    obtain ⟨_, h3⟩ := cells_eachB h1
    obtain ⟨o, rfl, ho, hsz⟩ := block_of h2
    exact ⟨o, h3, ho, fun _ => hsz⟩
  obtain ⟨S, hS, hp⟩ := choose_listB len each
  refine ⟨some a, cap, S, by rw [hS], fun hne => ?_, fun o ho => ?_, ?_⟩
  · have hp0 : 0 < S.length := List.length_pos_iff.2 hne
    obtain ⟨b, off, spot⟩ := a
    have h00 := (hp 0 hp0).1 0 (by omega)
    have hspot : spot = none := by
      have e : (S[0]).cells[0]? = some (.int .u8 (S[0]).t) := rfl
      rw [e] at h00
      simpa [Addr.add] using World.cell?_spot h00
    subst hspot
    refine ⟨b, off, rfl, fun k hk => ⟨?_, ?_⟩⟩
    · have := (hp k hk).1 0 (by omega)
      rwa [Go.WideShapes.add_plain, Go.WideShapes.add_plain, Nat.add_zero] at this
    · have := (hp k hk).1 1 (by omega)
      rwa [Go.WideShapes.add_plain, Go.WideShapes.add_plain] at this
  · obtain ⟨i, hi, rfl⟩ := List.mem_iff_getElem.1 ho
    exact (hp i hi).2.1
  · have h1 := btot_le S (elems.map (·.1)) (by rw [List.length_map]; omega) (fun i hi hi' => by
      rw [List.getElem_map]
      exact (hp i hi).2.2 (by omega))
    have hbk : Rows.uptoBulk (DataW.slice (H := H) (elems.map (·.1)) (rest.map (·.1))) = Rows.uptoBulkAll (elems.map (·.1)) + Rows.uptoBulkAll (rest.map (·.1)) + 1 := by simp only [Rows.uptoBulk]
    show btot S < Rows.uptoBulk (DataW.slice (H := H) (elems.map (·.1)) (rest.map (·.1)))
    omega
end Go.Proofs.YtoglgicmnhklbaaDoor
