import Derived.Test.YtcanbhbhdgogoaaDoorMrg9
import Derived.Test.YtcanbhbhdgogoaaDoorMrg10
namespace Go.Proofs.YtcanbhbhdgogoaaDoor
open Go.ChangeShapes Go.WideShapes Go.ChangeAt Go.RowKit

theorem isb_appP {a b : List Int} (ha : IsBytes a) (hb : IsBytes b) : IsBytes (a ++ b) := fun x hx => by
  rcases List.mem_append.1 hx with h | h
  · exact ha x h
  · exact hb x h
theorem uvb_bytesDP : ∀ n, IsBytes (uvb n) := by
  intro n
  induction n using Nat.strongRecOn with
  | _ n ih =>
    by_cases h : n < 128
    · rw [uvb_small h]
      intro x hx
      simp only [List.mem_cons, List.not_mem_nil, or_false] at hx
      omega
    · rw [uvb_big h]
      intro x hx
      rcases List.mem_cons.1 hx with rfl | hx
      · omega
      · exact ih (n / 128) (by omega) x hx
theorem een_bytesP (b : ByteArray) (e : En) : IsBytes (een b e) := by
  unfold een
  repeat (first | exact uvb_bytesDP _ | exact (fun x hx => sb_bytes _ x (List.mem_of_mem_drop hx)) | refine isb_appP ?_ ?_)
theorem ebl_bytesP : ∀ (b : ByteArray) (l : List En), IsBytes (ebl b l)
  | _, [] => fun x hx => by cases hx
  | b, e :: r => isb_appP (een_bytesP b e) (ebl_bytesP e.k r)
theorem img_bytesP (l : List En) : IsBytes (img l) := by
  unfold img hdL bdL
  refine isb_appP (isb_appP (uvb_bytesDP _) ?_) ?_
  · intro x hx
    obtain ⟨y, hy, hx⟩ := List.mem_flatten.1 hx
    obtain ⟨F, _, rfl⟩ := List.mem_map.1 hy
    exact uvb_bytesDP _ x hx
  · intro x hx
    obtain ⟨y, hy, hx⟩ := List.mem_flatten.1 hx
    obtain ⟨F, _, rfl⟩ := List.mem_map.1 hy
    exact ebl_bytesP _ _ x hx
theorem img_leP {l : List En} (hg : ∀ e ∈ l, Gen e) (hl : l.length ≤ 1048576) : (img l).length ≤ 1000000000 := by
  have h1 := bdL_le (nbk l.length) hg
  have h2 := uvb_le10 l.length (by omega)
  have h3 : nbk l.length ≤ 65536 := by unfold nbk; omega
  unfold img
  rw [List.length_append, List.length_append]
  omega
/-- The document's Build, where it refuses. -/
theorem rbuild_no (k : Int) (E : List En) (a : Option Addr) (n c : Nat) (w : World) (hn : n = E.length) (hE : EsAt w a E) (hl : n ≤ 1073741824) (hk : (k = 3 ∧ E.all genB = false) ∨ (k = 4 ∧ E.all genB = true ∧ ¬ Rises E)) :
    Calls Tryd.prog 7 #[.slice a n c] w fun e w' => e = .returned (.tuple #[.slice none 0 0, .int .i64 k]) ∧ Kept (fun _ => False) w w' := by
  have CC : Hid (Calls Tryd.prog 22 #[.slice a n c] w fun e w' => e = .returned (.int .i64 k) ∧ Kept (fun _ => False) w w') := hideQ (by
    rw [hn]
    refine (rcheck_any E a c w hE (by omega)).mono ?_
    rintro e w' ⟨hck, kk⟩
    rcases hck with ⟨h1, rfl⟩ | ⟨h1, h2, rfl⟩ | ⟨h1, h2, rfl⟩
    · rcases hk with ⟨rfl, _⟩ | ⟨_, h, _⟩
      · exact ⟨rfl, kk⟩
      · rw [h1] at h; cases h
    · rcases hk with ⟨_, h⟩ | ⟨rfl, _, _⟩
      · rw [h1] at h; cases h
      · exact ⟨rfl, kk⟩
    · rcases hk with ⟨_, h⟩ | ⟨_, _, h⟩
      · rw [h1] at h; cases h
      · exact absurd h2 h)
  have q1 : (k != 0) = true := by rcases hk with ⟨rfl, _⟩ | ⟨rfl, _⟩ <;> rfl
  clear hE hn hk
  go_enter Tryd.func7, Tryd.ntmps7
  go_wp2_with (go_at_call 22; refine CC.out.mono ?_; clear CC; rintro e W1 ⟨rfl, k1⟩)
  go_ret2
  exact ⟨rfl, k1⟩
theorem eqD_self (A : List Int) : eqD A A = true := by unfold eqD; simp
theorem bytes_none (W : World) : BytesAt W none [] := fun e => (e rfl).elim
end Go.Proofs.YtcanbhbhdgogoaaDoor
