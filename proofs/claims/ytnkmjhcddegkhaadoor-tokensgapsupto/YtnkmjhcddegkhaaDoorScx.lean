import Derived.Test.YtnkmjhcddegkhaaDoorScw
namespace Go.Proofs.YtnkmjhcddegkhaaDoor
open Go.ChangeShapes Go.WideShapes Go.ChangeAt Go.RowKit Go.Maps Go.WideMaps

/-- A field as it lies. -/
structure Fd.Ok (f : Fd) : Prop where
  n : f.n.size ≤ maxLen
  k0 : -9223372036854775808 ≤ f.k
  k1 : f.k ≤ 9223372036854775807
/-- Where the fields of a list lie. -/
def FsAt (w : World) (a : Option Addr) (l : List Fd) : Prop :=
  l ≠ [] → ∃ b off, a = some ⟨b, off, none⟩ ∧ ∀ k (h : k < l.length), w.cell? ⟨b, off + k * 5, none⟩ = some (.string (l[k]).n) ∧ w.cell? ⟨b, off + k * 5 + 1, none⟩ = some (.int .i64 (l[k]).k)
    ∧ w.cell? ⟨b, off + k * 5 + 2, none⟩ = some (.bool (l[k]).fo) ∧ w.cell? ⟨b, off + k * 5 + 3, none⟩ = some (.bool (l[k]).st) ∧ w.cell? ⟨b, off + k * 5 + 4, none⟩ = some (.bool (l[k]).se)
theorem FsAt.kept {w w' : World} {a : Option Addr} {l : List Fd} (h : FsAt w a l) (k : Kept (fun _ => False) w w') : FsAt w' a l := by
  intro hne
  obtain ⟨b, off, e, hc⟩ := h hne
  exact ⟨b, off, e, fun j hj => ⟨k.cell (hc j hj).1 (fun f => f), k.cell (hc j hj).2.1 (fun f => f), k.cell (hc j hj).2.2.1 (fun f => f), k.cell (hc j hj).2.2.2.1 (fun f => f), k.cell (hc j hj).2.2.2.2 (fun f => f)⟩⟩

theorem lawK : Keyed Tryd.prog 9 := string_keyed Tryd.underlying9
theorem zeroE (w : World) : (zeroValue 3).run Tryd.prog w = .ok (.int .i64 0) w := by kernel_rfl
theorem names_next {l : List Fd} {k : Nat} (h : k < l.length) : l.take (k + 1) = l.take k ++ [l[k]] := by rw [List.take_add_one, List.getElem?_eq_getElem h]; rfl
end Go.Proofs.YtnkmjhcddegkhaaDoor
