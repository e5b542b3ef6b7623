import Derived.Test.YtjmmdklgkcbihaaDoorKro
import Derived.Test.YtjmmdklgkcbihaaDoorMrg1
namespace Go.Proofs.YtjmmdklgkcbihaaDoor
open Go.ChangeShapes Go.WideShapes Go.ChangeAt Go.RowKit

set_option maxRecDepth 100000 in
/-- The cells of an Op that came in. -/
theorem op_ofR {H : Type} {enc : TypeId × Value → H} {W : World} {fuel : Nat} {cs : List Value} {x : DataW H × List MemPlace} (hf : DataW.trod enc Tryd.prog W 0 (fun _ => true) true fuel 37 cs = some x) (hk : Rows.uptoBulk x.1 ≤ 1073741824) :
    ∃ (kd : Int) (sec : Bool) (nn : Int) (U : Nat) (ii : Int) (ba : Option Addr) (bc : Nat) (B : List Int) (s : ByteArray) (la : Option Addr) (lc : Nat) (L : List Int),
      cs = opRow kd sec nn U ii ba B.length bc s la L.length lc ∧ OpAt W ii U ba bc B s la L ∧ (-9223372036854775808 ≤ nn ∧ nn ≤ 9223372036854775807) ∧ B.length + s.size + L.length < Rows.uptoBulk x.1 ∧ (la = none → lc = 0) := by
  obtain ⟨xs, n, rfl, hx, hl, hxl, hfs⟩ := DataW.trod_struct Tryd.underlying37 hf
  obtain ⟨c1, c2, c3, c4, c5, c6, c7, c8, c9⟩ := Tryd.c1
  obtain ⟨x0, x1, x2, x3, x4, x5, x6, x7, rfl⟩ := list8 hxl
  rw [c9] at hl
  obtain ⟨y0, y1, y2, y3, y4, y5, y6, y7, rfl⟩ := list8 hl
  have q0 : DataW.trod enc Tryd.prog W 0 (fun _ => true) true n 3 (([y0, y1, y2, y3, y4, y5, y6, y7].drop 0).take (Tryd.prog.cellsOf 3)) = some x0 := hfs 0 _ rfl
  have q1 : DataW.trod enc Tryd.prog W 0 (fun _ => true) true n 4 (([y0, y1, y2, y3, y4, y5, y6, y7].drop 1).take (Tryd.prog.cellsOf 4)) = some x1 := hfs 1 _ rfl
  have q2 : DataW.trod enc Tryd.prog W 0 (fun _ => true) true n 3 (([y0, y1, y2, y3, y4, y5, y6, y7].drop 2).take (Tryd.prog.cellsOf 3)) = some x2 := hfs 2 _ rfl
  have q3 : DataW.trod enc Tryd.prog W 0 (fun _ => true) true n 34 (([y0, y1, y2, y3, y4, y5, y6, y7].drop 3).take (Tryd.prog.cellsOf 34)) = some x3 := hfs 3 _ rfl
  have q4 : DataW.trod enc Tryd.prog W 0 (fun _ => true) true n 2 (([y0, y1, y2, y3, y4, y5, y6, y7].drop 4).take (Tryd.prog.cellsOf 2)) = some x4 := hfs 4 _ rfl
  have q5 : DataW.trod enc Tryd.prog W 0 (fun _ => true) true n 26 (([y0, y1, y2, y3, y4, y5, y6, y7].drop 5).take (Tryd.prog.cellsOf 26)) = some x5 := hfs 5 _ rfl
  have q6 : DataW.trod enc Tryd.prog W 0 (fun _ => true) true n 9 (([y0, y1, y2, y3, y4, y5, y6, y7].drop 6).take (Tryd.prog.cellsOf 9)) = some x6 := hfs 6 _ rfl
  have q7 : DataW.trod enc Tryd.prog W 0 (fun _ => true) true n 35 (([y0, y1, y2, y3, y4, y5, y6, y7].drop 7).take (Tryd.prog.cellsOf 35)) = some x7 := hfs 7 _ rfl
  rw [c1] at q0 q2
  rw [c2] at q1
  rw [c3] at q3
  rw [c4] at q4
  rw [c5] at q5
  rw [c6] at q6
  rw [c7] at q7
  simp only [List.drop, List.take] at q0 q1 q2 q3 q4 q5 q6 q7
  obtain ⟨kd, e0, -, -⟩ := DataW.trod_int Tryd.underlying3 q0
  obtain ⟨sec, e1, -⟩ := DataW.trod_bool Tryd.underlying4 q1
  obtain ⟨nn, e2, -, w2⟩ := DataW.trod_int Tryd.underlying3 q2
  obtain ⟨u, e3, -, w3⟩ := DataW.trod_int Tryd.underlying34 q3
  obtain ⟨ii, e4, -, w4⟩ := DataW.trod_int Tryd.underlying2 q4
  obtain ⟨ba, bc, B, e5, hb1, hb2, hb3, hb4⟩ := bytes_of q5
  obtain ⟨s, e6, f6, -⟩ := DataW.trod_string Tryd.underlying9 q6
  obtain ⟨la, lc, L, e7, hl1, hl2, hl3, hl4⟩ := ints_of q7
  have b3 := bounds_u64 w3
  have b4 := bounds_i64 w4
  have b2 := bounds_i64 w2
  obtain ⟨U, rfl⟩ : ∃ U : Nat, u = U := ⟨u.toNat, by omega⟩
  simp only [List.cons.injEq, and_true] at e0 e1 e2 e3 e4 e5 e6 e7
  subst e0 e1 e2 e3 e4 e5 e6 e7
  have hB : Rows.uptoBulk x.1 = Rows.uptoBulk x0.1 + (Rows.uptoBulk x1.1 + (Rows.uptoBulk x2.1 + (Rows.uptoBulk x3.1 + (Rows.uptoBulk x4.1 + (Rows.uptoBulk x5.1 + (Rows.uptoBulk x6.1 + (Rows.uptoBulk x7.1 + 0))))))) + 1 := by
    rw [hx]
    simp only [List.map, Rows.uptoBulk, Rows.uptoBulkAll]
  have hS : Rows.uptoBulk x6.1 = s.size + 1 := by
    rw [f6]
    simp [Rows.uptoBulk]
  refine ⟨kd, sec, nn, U, ii, ba, bc, B, s, la, lc, L, rfl, ⟨by omega, by omega, by omega, hb1, hb3, hb2, hl1, hl2, by omega, by omega, by omega⟩, ⟨by omega, by omega⟩, by omega, hl3⟩
/-- A script that came in. -/
theorem ops_ofR {H : Type} {enc : TypeId × Value → H} {W : World} {fuel : Nat} {cs : List Value} {x : DataW H × List MemPlace} (hf : DataW.trod enc Tryd.prog W 0 (fun _ => true) true fuel 22 cs = some x) (hk : Rows.uptoBulk x.1 ≤ 1073741824) :
    ∃ (a : Option Addr) (c : Nat) (S : List OpD), cs = [.slice a S.length c] ∧ OpsAt W a S ∧ (∀ o ∈ S, o.At W ∧ (o.la = none → o.lc = 0)) ∧ total S < Rows.uptoBulk x.1 := by
  rcases DataW.trod_slice Tryd.underlying22 hf with ⟨rfl, rfl⟩ | ⟨a, len, cap, elems, rest, n, _, rfl, rfl, _, hl, hm, hlen, hel, _, _⟩
  · exact ⟨none, 0, [], rfl, fun e => (e rfl).elim, fun y hy => (by cases hy), bulk_pos _⟩
  obtain ⟨-, -, -, -, -, -, -, -, c9⟩ := Tryd.c1
  rw [c9] at hel
  have hbk : Rows.uptoBulk (DataW.slice (H := H) (elems.map (·.1)) (rest.map (·.1))) = Rows.uptoBulkAll (elems.map (·.1)) + Rows.uptoBulkAll (rest.map (·.1)) + 1 := by simp only [Rows.uptoBulk]
  have each : ∀ i, i < len → ∃ o : OpD, (∀ j, j < 8 → W.cell? ((a.add (i * 8)).add j) = o.cells[j]?) ∧ (o.At W ∧ (o.la = none → o.lc = 0)) ∧ ∀ (h : i < elems.length), o.size ≤ Rows.uptoBulk (elems[i]).1 := by
    intro i hi
    have h := hel i hi
    rw [List.getElem?_eq_getElem (by omega), Option.bind_eq_some_iff] at h
    obtain ⟨cs8, h1, h2⟩ := h
    obtain ⟨_, h3⟩ := cells_each h1
    have hle : Rows.uptoBulk (elems[i]'(by omega)).1 ≤ Rows.uptoBulkAll (elems.map (·.1)) := bulk_mem (List.mem_map_of_mem (List.getElem_mem _))
    have hk' : Rows.uptoBulk (DataW.slice (H := H) (elems.map (·.1)) (rest.map (·.1))) ≤ 1073741824 := hk
    obtain ⟨kd, sec, nn, U, ii, ba, bc, B, s, la, lc, L, rfl, ho, hn, hsz, hlz⟩ := op_ofR h2 (by omega)
    exact ⟨⟨kd, sec, nn, U, ii, ba, bc, B, s, la, lc, L⟩, h3, ⟨⟨ho, hn.1, hn.2⟩, hlz⟩, fun _ => by simp only [OpD.size]; omega⟩
  obtain ⟨S, hS, hp⟩ := choose_list len each
  refine ⟨some a, cap, S, by rw [hS], fun hne => ?_, fun o ho => ?_, ?_⟩
  · have hp0 : 0 < S.length := List.length_pos_iff.2 hne
    obtain ⟨b, off, spot⟩ := a
    have h00 := (hp 0 hp0).1 0 (by omega)
    have hspot : spot = none := by
      have e : (S[0]).cells[0]? = some (.int .i64 (S[0]).kd) := rfl
      rw [e] at h00
      simpa [Addr.add] using World.cell?_spot h00
    subst hspot
    refine ⟨b, off, rfl, fun k hk j hj => ?_⟩
    have := (hp k hk).1 j hj
    rwa [Go.WideShapes.add_plain, Go.WideShapes.add_plain, Nat.add_assoc] at this
  · obtain ⟨i, hi, rfl⟩ := List.mem_iff_getElem.1 ho
    exact (hp i hi).2.1
  · have h1 := total_le S (elems.map (·.1)) (by rw [List.length_map]; omega) (fun i hi hi' => by
      rw [List.getElem_map]
      exact (hp i hi).2.2 (by omega))
    show total S < Rows.uptoBulk (DataW.slice (H := H) (elems.map (·.1)) (rest.map (·.1)))
    omega
theorem size_memR : ∀ (S : List OpD) (o : OpD), o ∈ S → o.size ≤ total S
  | [], o, h => by cases h
  | x :: r, o, h => by
    simp only [total]
    rcases List.mem_cons.1 h with rfl | h
    · omega
    · have := size_memR r o h
      omega
theorem ops_atR {w : World} {S : List OpD} (h : ∀ o ∈ S, o.At w ∧ (o.la = none → o.lc = 0)) (ht : total S ≤ 1048576) : ∀ o ∈ S, o.AtK w := fun o ho => by
  have q := size_memR S o ho
  have e : o.size = o.B.length + o.s.size + o.L.length + 1 := rfl
  exact ⟨(h o ho).1, (h o ho).2, by omega, by omega, by omega⟩
def adsR (e0 e1 e2 e3 e4 e5 e6 e7 : Addr) : Nat → Addr
  | 0 => e0 | 1 => e1 | 2 => e2 | 3 => e3 | 4 => e4 | 5 => e5 | 6 => e6 | _ => e7
/-- The law, with the marks and the errors taken. -/
theorem reads_all (B : List Int) (ba : Option Addr) (bc : Nat) (C : List Int) (ca : Option Addr) (cc : Nat) (S : List OpD) (sa : Option Addr) (sc : Nat) (e0 e1 e2 e3 e4 e5 e6 e7 : Addr) (w : World) (hB : BytesAt w ba B) (hBI : IsBytes B) (hBl : B.length ≤ 1048576) (hBz : ba = none → bc = 0) (hC : BytesAt w ca C) (hCI : IsBytes C) (hCl : C.length ≤ 1048576) (hCz : ca = none → cc = 0) (hS : OpsAt w sa S) (hO : ∀ o ∈ S, o.At w ∧ (o.la = none → o.lc = 0)) (htot : total S ≤ 1048575)
    (s0 : Sent w 139 1 te0K e0) (s1 : Sent w 139 3 te1K e1) (s2 : Sent w 139 4 te2K e2) (s3 : Sent w 139 5 te3K e3) (s4 : Sent w 139 2 te4K e4) (s5 : Sent w 139 6 te5K e5) (s6 : Sent w 139 7 te6K e6) (s7 : Sent w 139 0 te7K e7) :
    Calls Tryd.prog 4 #[.slice ba B.length bc, .slice ca C.length cc, .slice sa S.length sc] w fun e w' => e = .returned (.bool true) ∧ Kept (fun _ => False) w w' := by
  obtain ⟨bm, hbm⟩ := bm_fun
  obtain ⟨im, him⟩ := bm_funI
  exact reads_walk bm im hbm him B C ba ca bc cc S sa sc (adsR e0 e1 e2 e3 e4 e5 e6 e7) w hB hBI hBl hBz hC hCI hCl hCz hS (ops_atR hO (by omega)) (by have := total_count S; omega) ⟨s0, s1, s2, s3, s4, s5, s6, s7⟩
end Go.Proofs.YtjmmdklgkcbihaaDoor
