import Derived.Test.YtildonmckcflmaaDoorMmf
namespace Go.Proofs.YtildonmckcflmaaDoor
open Go.ChangeShapes Go.WideShapes Go.ChangeAt Go.RowKit

/-- Lists of bytes in memory that is younger than w, no two of them in one block. -/
structure Ob (w W : World) (R : List (Value × List Int)) : Prop where
  kept : Kept (fun _ => False) w W
  row : ∀ p ∈ R, W.ownsRow w.heap.size 5 1 p.1 p.2.length (bs p.2)
  apart : R.Pairwise (fun p q => ∀ g, p.1.ownBlock = some g → q.1.ownBlock ≠ some g)
theorem Ob.start {w W : World} (k : Kept (fun _ => False) w W) : Ob w W [] := ⟨k, (fun _ h => by cases h), List.Pairwise.nil⟩
theorem Ob.same {w W W' : World} {R : List (Value × List Int)} (h : Ob w W R) (k : Kept (fun _ => False) W W') : Ob w W' R :=
  ⟨h.kept.trans k (fun _ f => f.elim), fun p hp => k.row (h.row p hp) (fun _ _ f => f), h.apart⟩
theorem Ob.push {w W W' : World} {R : List (Value × List Int)} {v : Value} {xs : List Int} (h : Ob w W R) (o : OwnB W W' v xs) : Ob w W' ((v, xs) :: R) := by
  have k := o.kept
  refine ⟨h.kept.trans k (fun _ f => f.elim), fun p hp => ?_, List.Pairwise.cons (fun q hq g e1 e2 => ?_) h.apart⟩
  · rcases List.mem_cons.1 hp with rfl | hp
    · exact row_base o.row h.kept.size
    · exact k.row (h.row p hp) (fun _ _ f => f)
  · have h1 := (o.row.lt g e1).1
    have h2 := ((h.row q hq).lt g e2).2
    omega
theorem Ob.bytes {w W : World} {R : List (Value × List Int)} {a : Option Addr} {n c : Nat} {xs : List Int} (h : Ob w W R) (hp : (.slice a n c, xs) ∈ R) : BytesAt W a xs ∧ (a = none → c = 0) ∧ n ≤ c ∧ n = xs.length := by
  have r := h.row _ hp
  have q : OwnB w W (.slice a n c) xs := ⟨r, h.kept⟩
  obtain ⟨a', c', e, hb, hz⟩ := q.at
  simp only [Value.slice.injEq] at e
  obtain ⟨rfl, e2, rfl⟩ := e
  exact ⟨hb, hz, q.cap, e2⟩
theorem Ob.new {w W : World} {R : List (Value × List Int)} {g n c : Nat} {xs : List Int} (h : Ob w W R) (hp : (.slice (some ⟨g, 0, none⟩) n c, xs) ∈ R) : w.heap.size ≤ g := ((h.row _ hp).lt g rfl).1
theorem bytes_fore {W : World} {a : Option Addr} {X l : List Int} (h : BytesAt W a (l ++ X)) : BytesAt W a l := by
  intro hne
  obtain ⟨b, off, e, hc⟩ := h (by intro e; exact hne (List.append_eq_nil_iff.1 e).1)
  refine ⟨b, off, e, fun k hk => ?_⟩
  have := hc k (by rw [List.length_append]; omega)
  rw [List.getElem?_append_left hk] at this
  exact this
end Go.Proofs.YtildonmckcflmaaDoor
