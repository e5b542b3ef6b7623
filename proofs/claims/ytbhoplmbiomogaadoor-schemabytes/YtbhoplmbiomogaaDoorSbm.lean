import Derived.Test.YtbhoplmbiomogaaDoorDck
import Derived.Test.YtbhoplmbiomogaaDoorPtx
import Derived.Test.YtbhoplmbiomogaaDoorSmk
import Derived.Test.YtbhoplmbiomogaaDoorLvs2
import Derived.Test.YtbhoplmbiomogaaDoorNme
import Derived.LaidEql
import Derived.Laws.BytesArg
import Derived.Laws.BytesString
namespace Go.Proofs.YtbhoplmbiomogaaDoor
open Go.ChangeShapes Go.WideShapes Go.ChangeAt Go.RowKit

theorem nilNe (W : World) : (binOp .neq 28 .nilIface .nilIface).run Tryd.prog W = .ok (.bool false) W := by kernel_rfl
theorem errNeS (W : World) (a : Addr) : (binOp .neq 28 (.iface 125 (.pointer (some a))) (.iface 125 (.pointer (some a)))).run Tryd.prog W = .ok (.bool false) W := by
  obtain ⟨i, hi, hci⟩ := Option.map_eq_some_iff.1 (show (Tryd.prog.info? 125).map (·.comparable) = some true by kernel_rfl)
  obtain ⟨j, hj, _⟩ := Option.map_eq_some_iff.1 (show (Tryd.prog.info? 139).map (·.comparable) = some true by kernel_rfl)
  simp only [binOp]
  simp [Op.equal, Op.maxDepth, run_equalIn_iface_ptr_same W 9998 a Tryd.underlying28 Tryd.underlying125 hi hci hj]
theorem conv_atB {W : World} {a : Option Addr} {B : List Int} {c : Nat} (h : BytesAt W a B) : (convert 25 9 (.slice a B.length c)).run Tryd.prog W = .ok (.string (strOfNums B)) W := by
  by_cases hne : B = []
  · subst hne
    cases a with
    | none => exact run_convert_bytes_nil W 25 5 Tryd.underlying25 Tryd.underlying5 0 c 9 Tryd.underlying9
    | some ad =>
      have hl : (loadCells ad 0).run Tryd.prog W = .ok (([] : List Int).map (Value.int .u8)).toArray W := by
        have := run_loadCells_list (P := Tryd.prog) W ad [] (fun j v hj => by simp at hj)
        simpa using this
      show (convert 25 9 (.slice (some ad) 0 c)).run Tryd.prog W = _
      rw [run_convert_bytes_string W 25 9 5 _ 0 c Tryd.underlying25 Tryd.underlying5 Tryd.underlying9, run_bytesToString W _ 0 c [] hl]
      rfl
  · obtain ⟨b, off, rfl, hc⟩ := h hne
    refine run_convert_bytes_arg W 25 5 Tryd.underlying25 Tryd.underlying5 b off B.length c B rfl (fun i hi => ?_) 9 Tryd.underlying9
    simpa [List.getD] using hc i hi
theorem bytesAt_own {w : World} {base g n cap : Nat} {l : List Int} (h : w.ownsRow base 5 1 (.slice (some ⟨g, 0, none⟩) n cap) n (bs l)) : BytesAt w (some ⟨g, 0, none⟩) l := by
  intro _
  refine ⟨g, 0, rfl, fun k hk => ?_⟩
  have := h.cells (g := g) rfl k (.int .u8 (l[k]?.getD 0)) (by rw [bs, List.getElem?_map, List.getElem?_eq_getElem hk]; rfl)
  have hplain : (⟨g, 0, none⟩ : Addr).add k = ⟨g, 0 + k, none⟩ := by unfold Addr.add; split <;> simp_all
  rwa [hplain] at this
theorem ebs_bytes {l : List Fd} (h : gschema l = true) : IsBytes (ebs l) := by
  have hl := gs_lenE h
  intro x hx
  rw [ebs, uvb_small (by omega)] at hx
  rcases List.mem_cons.1 hx with rfl | hx
  · omega
  · have hx : x ∈ feL l := by simpa using hx
    rw [feL, List.mem_flatten] at hx
    obtain ⟨L, hL, hx⟩ := hx
    obtain ⟨f, hf, rfl⟩ := List.mem_map.1 hL
    have hn : f.n.size ≤ 32 := by have := (gn_chars (gs_memE h hf)).1; simp only [Array.length_toList] at this; exact this
    have hk := fby_lt (gk_range (gs_memE h hf))
    rw [fe, uvb_small (by omega)] at hx
    simp only [List.mem_append, List.mem_cons, List.not_mem_nil, or_false] at hx
    rcases hx with (rfl | hx) | rfl
    · omega
    · exact sb_bytes _ x hx
    · omega
theorem ebs_short {l : List Fd} (h : gschema l = true) : (ebs l).length ≤ 800 := by
  have hl := gs_lenE h
  have h1 := feL_len l (fun f hf => (by have := (gn_chars (gs_memE h hf)).1; simp only [Array.length_toList] at this; exact this))
  rw [ebs, List.length_append, uvb_small (by omega)]
  simp
  omega
theorem Errs13.er5 {w : World} {ad : Nat → Addr} (h : Errs13 w ad) : Er5 w ad := ⟨h.s0.var, h.s1.var, h.s2.var, h.s4.var⟩
/-- What the calls on the schema answer. -/
structure Good1 (l : List Fd) (ad : Nat → Addr) : Prop where
  check : ∀ w a c, FsAt w a l → Errs13 w ad → Calls Tryd.prog 12 #[.agg #[.slice a l.length c]] w fun e w' => e = .returned .nilIface ∧ Kept (fun _ => False) w w'
  text : ∀ w a c, FsAt w a l → Errs13 w ad → Words w → Calls Tryd.prog 13 #[.agg #[.slice a l.length c]] w fun e w' => e = .returned (.tuple #[.string (bstr (stx l)), .nilIface]) ∧ Kept (fun _ => False) w w'
  encode : ∀ w a c, FsAt w a l → Errs13 w ad → Calls Tryd.prog 6 #[.agg #[.slice a l.length c]] w fun e w' => (∃ g, e = .returned (.tuple #[.slice (some ⟨g, 0, none⟩) (ebs l).length (ebs l).length, .nilIface]) ∧ BytesAt w' (some ⟨g, 0, none⟩) (ebs l)) ∧ Kept (fun _ => False) w w'
theorem good1 {l : List Fd} {ad : Nat → Addr} (hO : ∀ f ∈ l, f.Ok) (hl : l.length ≤ 4398046511104) (hg : gschema l = true) : Good1 l ad :=
  ⟨fun w a c hF hE => by have := check_any l a c _ _ w hF hO hl hE.s10.var; rw [chk_good _ hg] at this; exact this,
   fun w a c hF hE hW => text_good l a c _ _ w hF hO hl hE.s10.var hW hg,
   fun w a c hF hE => (encodeS_good l a c _ _ w hF hO hl hE.s10.var hg).mono (fun e w' ⟨⟨g, _, he, ho⟩, k⟩ => ⟨⟨g, he, bytesAt_own ho⟩, k⟩)⟩
end Go.Proofs.YtbhoplmbiomogaaDoor
