import Derived.Test.YtdklkpbadopkaaaDoorIyh
import Derived.Test.YtdklkpbadopkaaaDoorIyd
import Derived.Test.YtdklkpbadopkaaaDoorIzq
namespace Go.Proofs.YtdklkpbadopkaaaDoor
open Go.ChangeShapes Go.WideShapes Go.ChangeAt Go.RowKit

theorem same_any (p q : Pg) (aA aC aN aD aO bA bC bN bD bO : Option Addr) (cA cC cN cD cO dA dC dN dD dO : Nat) (w : World) (hP : PgAt w p aA aC aN aD aO) (hQ : PgAt w q bA bC bN bD bO) (hOp : p.Ok) (hOq : q.Ok) :
    Calls Tryd.prog 12 #[.agg #[.slice aA p.av.length cA, .slice aC p.cu.length cC, .slice aN p.nr.length cN, .bool p.al, .slice aD p.dr.length cD, .slice aO p.co.length cO], .agg #[.slice bA q.av.length dA, .slice bC q.cu.length dC, .slice bN q.nr.length dN, .bool q.al, .slice bD q.dr.length dD, .slice bO q.co.length dO]] w fun e w' => smP w p q e w' := by
  by_cases h1 : p.al = q.al
  · rw [← h1]
    by_cases h2 : p.co = q.co
    · by_cases h3 : p.av = q.av
      · by_cases h4 : p.dr = q.dr
        · by_cases h5 : p.cu.length = q.cu.length
          · by_cases h6 : p.nr.length = q.nr.length
            · rw [← h5, ← h6]
              exact same_loops p q aA aC aN aD aO bA bC bN bD bO cA cC cN cD cO dA dC dN dD dO w hP hQ hOp hOq h1 h2 h3 h4 h5 h6
            · exact same_no6 p q aA aC aN aD aO bA bC bN bD bO cA cC cN cD cO dA dC dN dD dO w hP hQ hOp hOq h2 h3 h4 h5 h6
          · exact same_no5 p q aA aC aN aD aO bA bC bN bD bO cA cC cN cD cO dA dC dN dD dO w hP hQ hOp hOq h2 h3 h4 h5
        · exact same_no4 p q aA aC aN aD aO bA bC bN bD bO cA cC cN cD cO dA dC dN dD dO w hP hQ hOp hOq h2 h3 h4
      · exact same_no3 p q aA aC aN aD aO bA bC bN bD bO cA cC cN cD cO dA dC dN dD dO w hP hQ hOp hOq h2 h3
    · exact same_no2 p q aA aC aN aD aO bA bC bN bD bO cA cC cN cD cO dA dC dN dD dO w hP hQ hOp hOq h2
  · exact same_no1 p q aA aC aN aD aO bA bC bN bD bO cA cC cN cD cO dA dC dN dD dO w hP hQ hOp hOq h1
theorem same_val (p q : Pg) (aA aC aN aD aO bA bC bN bD bO : Option Addr) (cA cC cN cD cO dA dC dN dD dO : Nat) (w : World) (hP : PgAt w p aA aC aN aD aO) (hQ : PgAt w q bA bC bN bD bO) (hOp : p.Ok) (hOq : q.Ok) (v : Bool) (hv : v = true ↔ p = q) :
    Calls Tryd.prog 12 #[.agg #[.slice aA p.av.length cA, .slice aC p.cu.length cC, .slice aN p.nr.length cN, .bool p.al, .slice aD p.dr.length cD, .slice aO p.co.length cO], .agg #[.slice bA q.av.length dA, .slice bC q.cu.length dC, .slice bN q.nr.length dN, .bool q.al, .slice bD q.dr.length dD, .slice bO q.co.length dO]] w fun e w' => e = .returned (.bool v) ∧ Kept (fun _ => False) w w' := by
  refine (same_any p q aA aC aN aD aO bA bC bN bD bO cA cC cN cD cO dA dC dN dD dO w hP hQ hOp hOq).mono ?_
  rintro e w' ⟨u, rfl, hu, k⟩
  have : u = v := by
    have h := hu.trans hv.symm
    cases u <;> cases v <;> simp at h ⊢
  rw [this]
  exact ⟨rfl, k⟩
/-- What Text answers, whatever it is. -/
theorem text_some (p : Pg) (aA aC aN aD aO : Option Addr) (cA cC cN cD cO : Nat) (a0 a1 ac : Addr) (w : World) (hP : PgAt w p aA aC aN aD aO) (hO : p.Ok) (hE : Env w a0 a1 ac) :
    Calls Tryd.prog 8 #[.agg #[.slice aA p.av.length cA, .slice aC p.cu.length cC, .slice aN p.nr.length cN, .bool p.al, .slice aD p.dr.length cD, .slice aO p.co.length cO]] w fun e w' => (∃ r2 r3, e = .returned (.tuple #[r2, r3])) ∧ Kept (fun _ => False) w w' := by
  by_cases hb : dcI p.co = none ∨ gdT p = false
  · refine (text_bad p aA aC aN aD aO cA cC cN cD cO a0 a1 ac w hP hO hE.e hE.t hb).mono ?_
    rintro e w' ⟨rfl, k⟩
    exact ⟨⟨_, _, rfl⟩, k⟩
  · rw [not_or] at hb
    obtain ⟨m, hm⟩ := Option.ne_none_iff_exists'.1 hb.1
    refine (text_good p m aA aC aN aD aO cA cC cN cD cO a0 a1 ac w hP hO hE.e hE.t hE.p hm (by simpa using hb.2)).mono ?_
    rintro e w' ⟨rfl, k⟩
    exact ⟨⟨_, _, rfl⟩, k⟩
set_option maxRecDepth 20000 in
set_option maxHeartbeats 8000000 in
theorem two_a (p q : Pg) (aA aC aN aD aO bA bC bN bD bO : Option Addr) (cA cC cN cD cO dA dC dN dD dO : Nat) (w : World) (hP : PgAt w p aA aC aN aD aO) (hQ : PgAt w q bA bC bN bD bO) (hOp : p.Ok) (hOq : q.Ok) (a0 a1 ac : Addr) (hE : Env w a0 a1 ac) (hb : dcI p.co = none ∨ gdT p = false) :
    Calls Tryd.prog 6 #[.agg #[.slice aA p.av.length cA, .slice aC p.cu.length cC, .slice aN p.nr.length cN, .bool p.al, .slice aD p.dr.length cD, .slice aO p.co.length cO], .agg #[.slice bA q.av.length dA, .slice bC q.cu.length dC, .slice bN q.nr.length dN, .bool q.al, .slice bD q.dr.length dD, .slice bO q.co.length dO]] w fun e w' => e = .returned (.bool true) ∧ Kept (fun _ => False) w w' := by
  have KB := (Kept.alloc w (.cells #[.slice aA p.av.length cA, .slice aC p.cu.length cC, .slice aN p.nr.length cN, .bool p.al, .slice aD p.dr.length cD, .slice aO p.co.length cO] 27)).trans (Kept.alloc (w.alloc (.cells #[.slice aA p.av.length cA, .slice aC p.cu.length cC, .slice aN p.nr.length cN, .bool p.al, .slice aD p.dr.length cD, .slice aO p.co.length cO] 27)) (.cells #[.slice bA q.av.length dA, .slice bC q.cu.length dC, .slice bN q.nr.length dN, .bool q.al, .slice bD q.dr.length dD, .slice bO q.co.length dO] 27)) (fun _ f => f.elim)
  have HBP : Hid (((w.alloc (.cells #[.slice aA p.av.length cA, .slice aC p.cu.length cC, .slice aN p.nr.length cN, .bool p.al, .slice aD p.dr.length cD, .slice aO p.co.length cO] 27)).alloc (.cells #[.slice bA q.av.length dA, .slice bC q.cu.length dC, .slice bN q.nr.length dN, .bool q.al, .slice bD q.dr.length dD, .slice bO q.co.length dO] 27)).heap[w.heap.size]? = some (.cells #[.slice aA p.av.length cA, .slice aC p.cu.length cC, .slice aN p.nr.length cN, .bool p.al, .slice aD p.dr.length cD, .slice aO p.co.length cO] 27 (0, 0))) := hideI ((Kept.alloc _ _).heap (heap_alloc_new w _) (fun f => f))
  have HBQ : Hid (((w.alloc (.cells #[.slice aA p.av.length cA, .slice aC p.cu.length cC, .slice aN p.nr.length cN, .bool p.al, .slice aD p.dr.length cD, .slice aO p.co.length cO] 27)).alloc (.cells #[.slice bA q.av.length dA, .slice bC q.cu.length dC, .slice bN q.nr.length dN, .bool q.al, .slice bD q.dr.length dD, .slice bO q.co.length dO] 27)).heap[w.heap.size + 1]? = some (.cells #[.slice bA q.av.length dA, .slice bC q.cu.length dC, .slice bN q.nr.length dN, .bool q.al, .slice bD q.dr.length dD, .slice bO q.co.length dO] 27 (0, 0))) := hideI (by have e := heap_alloc_new (w.alloc (.cells #[.slice aA p.av.length cA, .slice aC p.cu.length cC, .slice aN p.nr.length cN, .bool p.al, .slice aD p.dr.length cD, .slice aO p.co.length cO] 27)) (.cells #[.slice bA q.av.length dA, .slice bC q.cu.length dC, .slice bN q.nr.length dN, .bool q.al, .slice bD q.dr.length dD, .slice bO q.co.length dO] 27); simpa using e)
  have HLv := hideI (ilives_any a0 a1 ac _ (hE.kept KB))
  have HE := hideI (hE.kept KB)
  have HP := hideI (hP.kept KB)
  have HQ := hideI (hQ.kept KB)
  have HOp := hideI hOp
  have HOq := hideI hOq
  have HKB := hideI KB
  clear KB hE hP hQ hOp hOq
  have HTP := fun W (k : Kept (fun _ => False) ((w.alloc (.cells #[.slice aA p.av.length cA, .slice aC p.cu.length cC, .slice aN p.nr.length cN, .bool p.al, .slice aD p.dr.length cD, .slice aO p.co.length cO] 27)).alloc (.cells #[.slice bA q.av.length dA, .slice bC q.cu.length dC, .slice bN q.nr.length dN, .bool q.al, .slice bD q.dr.length dD, .slice bO q.co.length dO] 27)) W) => hideI (text_bad p aA aC aN aD aO cA cC cN cD cO a0 a1 ac W (HP.out.kept k) HOp.out (HE.out.kept k).e (HE.out.kept k).t hb)
  have HTQ := fun W (k : Kept (fun _ => False) ((w.alloc (.cells #[.slice aA p.av.length cA, .slice aC p.cu.length cC, .slice aN p.nr.length cN, .bool p.al, .slice aD p.dr.length cD, .slice aO p.co.length cO] 27)).alloc (.cells #[.slice bA q.av.length dA, .slice bC q.cu.length dC, .slice bN q.nr.length dN, .bool q.al, .slice bD q.dr.length dD, .slice bO q.co.length dO] 27)) W) => hideI (text_some q bA bC bN bD bO dA dC dN dD dO a0 a1 ac W (HQ.out.kept k) HOq.out (HE.out.kept k))
  clear hb
  go_enter Tryd.func6, Tryd.ntmps6
  go_wp2_with (first
    | (go_at_call 7; refine HLv.out.mono ?_; clear HLv; rintro e W1 ⟨rfl, K1⟩; have HK1 := hideI K1; obtain ⟨y0, y1, y2, y3, y4, y5⟩ := cells6 (K1.heap HBP.out (fun f => f)); clear K1)
    | (go_at_call 8; refine (HTP _ HK1.out).out.mono ?_; clear HTP; rintro e W2 ⟨rfl, K2⟩; have HK2 := hideI (HK1.out.trans K2 (fun _ f => f.elim)); unfold errV; clear y0 y1 y2 y3 y4 y5; obtain ⟨z0, z1, z2, z3, z4, z5⟩ := cells6 (HK2.out.heap HBQ.out (fun f => f)); clear K2)
    | (go_at_call 8; refine (HTQ _ HK2.out).out.mono ?_; clear HTQ; rintro e W3 ⟨⟨r2, r3, rfl⟩, K3⟩; have HK3 := hideI (HK2.out.trans K3 (fun _ f => f.elim)); clear K3))
  go_ret
  exact ⟨rfl, HKB.out.trans HK3.out (fun _ f => f.elim)⟩
set_option maxRecDepth 20000 in
set_option maxHeartbeats 8000000 in
theorem two_b (p q : Pg) (aA aC aN aD aO bA bC bN bD bO : Option Addr) (cA cC cN cD cO dA dC dN dD dO : Nat) (w : World) (hP : PgAt w p aA aC aN aD aO) (hQ : PgAt w q bA bC bN bD bO) (hOp : p.Ok) (hOq : q.Ok) (a0 a1 ac : Addr) (hE : Env w a0 a1 ac) (m : List In) (hm : dcI p.co = some m) (hg : gdT p = true) (hb : dcI q.co = none ∨ gdT q = false) :
    Calls Tryd.prog 6 #[.agg #[.slice aA p.av.length cA, .slice aC p.cu.length cC, .slice aN p.nr.length cN, .bool p.al, .slice aD p.dr.length cD, .slice aO p.co.length cO], .agg #[.slice bA q.av.length dA, .slice bC q.cu.length dC, .slice bN q.nr.length dN, .bool q.al, .slice bD q.dr.length dD, .slice bO q.co.length dO]] w fun e w' => e = .returned (.bool true) ∧ Kept (fun _ => False) w w' := by
  have KB := (Kept.alloc w (.cells #[.slice aA p.av.length cA, .slice aC p.cu.length cC, .slice aN p.nr.length cN, .bool p.al, .slice aD p.dr.length cD, .slice aO p.co.length cO] 27)).trans (Kept.alloc (w.alloc (.cells #[.slice aA p.av.length cA, .slice aC p.cu.length cC, .slice aN p.nr.length cN, .bool p.al, .slice aD p.dr.length cD, .slice aO p.co.length cO] 27)) (.cells #[.slice bA q.av.length dA, .slice bC q.cu.length dC, .slice bN q.nr.length dN, .bool q.al, .slice bD q.dr.length dD, .slice bO q.co.length dO] 27)) (fun _ f => f.elim)
  have HBP : Hid (((w.alloc (.cells #[.slice aA p.av.length cA, .slice aC p.cu.length cC, .slice aN p.nr.length cN, .bool p.al, .slice aD p.dr.length cD, .slice aO p.co.length cO] 27)).alloc (.cells #[.slice bA q.av.length dA, .slice bC q.cu.length dC, .slice bN q.nr.length dN, .bool q.al, .slice bD q.dr.length dD, .slice bO q.co.length dO] 27)).heap[w.heap.size]? = some (.cells #[.slice aA p.av.length cA, .slice aC p.cu.length cC, .slice aN p.nr.length cN, .bool p.al, .slice aD p.dr.length cD, .slice aO p.co.length cO] 27 (0, 0))) := hideI ((Kept.alloc _ _).heap (heap_alloc_new w _) (fun f => f))
  have HBQ : Hid (((w.alloc (.cells #[.slice aA p.av.length cA, .slice aC p.cu.length cC, .slice aN p.nr.length cN, .bool p.al, .slice aD p.dr.length cD, .slice aO p.co.length cO] 27)).alloc (.cells #[.slice bA q.av.length dA, .slice bC q.cu.length dC, .slice bN q.nr.length dN, .bool q.al, .slice bD q.dr.length dD, .slice bO q.co.length dO] 27)).heap[w.heap.size + 1]? = some (.cells #[.slice bA q.av.length dA, .slice bC q.cu.length dC, .slice bN q.nr.length dN, .bool q.al, .slice bD q.dr.length dD, .slice bO q.co.length dO] 27 (0, 0))) := hideI (by have e := heap_alloc_new (w.alloc (.cells #[.slice aA p.av.length cA, .slice aC p.cu.length cC, .slice aN p.nr.length cN, .bool p.al, .slice aD p.dr.length cD, .slice aO p.co.length cO] 27)) (.cells #[.slice bA q.av.length dA, .slice bC q.cu.length dC, .slice bN q.nr.length dN, .bool q.al, .slice bD q.dr.length dD, .slice bO q.co.length dO] 27); simpa using e)
  have HLv := hideI (ilives_any a0 a1 ac _ (hE.kept KB))
  have HE := hideI (hE.kept KB)
  have HP := hideI (hP.kept KB)
  have HQ := hideI (hQ.kept KB)
  have HOp := hideI hOp
  have HOq := hideI hOq
  have HKB := hideI KB
  clear KB hE hP hQ hOp hOq
  have HTP := fun W (k : Kept (fun _ => False) ((w.alloc (.cells #[.slice aA p.av.length cA, .slice aC p.cu.length cC, .slice aN p.nr.length cN, .bool p.al, .slice aD p.dr.length cD, .slice aO p.co.length cO] 27)).alloc (.cells #[.slice bA q.av.length dA, .slice bC q.cu.length dC, .slice bN q.nr.length dN, .bool q.al, .slice bD q.dr.length dD, .slice bO q.co.length dO] 27)) W) => hideI (text_good p m aA aC aN aD aO cA cC cN cD cO a0 a1 ac W (HP.out.kept k) HOp.out (HE.out.kept k).e (HE.out.kept k).t (HE.out.kept k).p hm hg)
  have HTQ := fun W (k : Kept (fun _ => False) ((w.alloc (.cells #[.slice aA p.av.length cA, .slice aC p.cu.length cC, .slice aN p.nr.length cN, .bool p.al, .slice aD p.dr.length cD, .slice aO p.co.length cO] 27)).alloc (.cells #[.slice bA q.av.length dA, .slice bC q.cu.length dC, .slice bN q.nr.length dN, .bool q.al, .slice bD q.dr.length dD, .slice bO q.co.length dO] 27)) W) => hideI (text_bad q bA bC bN bD bO dA dC dN dD dO a0 a1 ac W (HQ.out.kept k) HOq.out (HE.out.kept k).e (HE.out.kept k).t hb)
  clear hb hm hg
  go_enter Tryd.func6, Tryd.ntmps6
  go_wp2_with (first
    | (go_at_call 7; refine HLv.out.mono ?_; clear HLv; rintro e W1 ⟨rfl, K1⟩; have HK1 := hideI K1; obtain ⟨y0, y1, y2, y3, y4, y5⟩ := cells6 (K1.heap HBP.out (fun f => f)); clear K1)
    | (go_at_call 8; refine (HTP _ HK1.out).out.mono ?_; clear HTP; rintro e W2 ⟨rfl, K2⟩; have HK2 := hideI (HK1.out.trans K2 (fun _ f => f.elim)); clear y0 y1 y2 y3 y4 y5; obtain ⟨z0, z1, z2, z3, z4, z5⟩ := cells6 (HK2.out.heap HBQ.out (fun f => f)); clear K2)
    | (go_at_call 8; refine (HTQ _ HK2.out).out.mono ?_; clear HTQ; rintro e W3 ⟨rfl, K3⟩; have HK3 := hideI (HK2.out.trans K3 (fun _ f => f.elim)); unfold errV; clear K3))
  go_ret
  exact ⟨rfl, HKB.out.trans HK3.out (fun _ f => f.elim)⟩
set_option maxRecDepth 20000 in
set_option maxHeartbeats 8000000 in
theorem two_c (p q : Pg) (aA aC aN aD aO bA bC bN bD bO : Option Addr) (cA cC cN cD cO dA dC dN dD dO : Nat) (w : World) (hP : PgAt w p aA aC aN aD aO) (hQ : PgAt w q bA bC bN bD bO) (hOp : p.Ok) (hOq : q.Ok) (a0 a1 ac : Addr) (hE : Env w a0 a1 ac) (m n : List In) (hm : dcI p.co = some m) (hg : gdT p = true) (hn : dcI q.co = some n) (hh : gdT q = true) (hpq : p = q) :
    Calls Tryd.prog 6 #[.agg #[.slice aA p.av.length cA, .slice aC p.cu.length cC, .slice aN p.nr.length cN, .bool p.al, .slice aD p.dr.length cD, .slice aO p.co.length cO], .agg #[.slice bA q.av.length dA, .slice bC q.cu.length dC, .slice bN q.nr.length dN, .bool q.al, .slice bD q.dr.length dD, .slice bO q.co.length dO]] w fun e w' => e = .returned (.bool true) ∧ Kept (fun _ => False) w w' := by
  have KB := (Kept.alloc w (.cells #[.slice aA p.av.length cA, .slice aC p.cu.length cC, .slice aN p.nr.length cN, .bool p.al, .slice aD p.dr.length cD, .slice aO p.co.length cO] 27)).trans (Kept.alloc (w.alloc (.cells #[.slice aA p.av.length cA, .slice aC p.cu.length cC, .slice aN p.nr.length cN, .bool p.al, .slice aD p.dr.length cD, .slice aO p.co.length cO] 27)) (.cells #[.slice bA q.av.length dA, .slice bC q.cu.length dC, .slice bN q.nr.length dN, .bool q.al, .slice bD q.dr.length dD, .slice bO q.co.length dO] 27)) (fun _ f => f.elim)
  have HBP : Hid (((w.alloc (.cells #[.slice aA p.av.length cA, .slice aC p.cu.length cC, .slice aN p.nr.length cN, .bool p.al, .slice aD p.dr.length cD, .slice aO p.co.length cO] 27)).alloc (.cells #[.slice bA q.av.length dA, .slice bC q.cu.length dC, .slice bN q.nr.length dN, .bool q.al, .slice bD q.dr.length dD, .slice bO q.co.length dO] 27)).heap[w.heap.size]? = some (.cells #[.slice aA p.av.length cA, .slice aC p.cu.length cC, .slice aN p.nr.length cN, .bool p.al, .slice aD p.dr.length cD, .slice aO p.co.length cO] 27 (0, 0))) := hideI ((Kept.alloc _ _).heap (heap_alloc_new w _) (fun f => f))
  have HBQ : Hid (((w.alloc (.cells #[.slice aA p.av.length cA, .slice aC p.cu.length cC, .slice aN p.nr.length cN, .bool p.al, .slice aD p.dr.length cD, .slice aO p.co.length cO] 27)).alloc (.cells #[.slice bA q.av.length dA, .slice bC q.cu.length dC, .slice bN q.nr.length dN, .bool q.al, .slice bD q.dr.length dD, .slice bO q.co.length dO] 27)).heap[w.heap.size + 1]? = some (.cells #[.slice bA q.av.length dA, .slice bC q.cu.length dC, .slice bN q.nr.length dN, .bool q.al, .slice bD q.dr.length dD, .slice bO q.co.length dO] 27 (0, 0))) := hideI (by have e := heap_alloc_new (w.alloc (.cells #[.slice aA p.av.length cA, .slice aC p.cu.length cC, .slice aN p.nr.length cN, .bool p.al, .slice aD p.dr.length cD, .slice aO p.co.length cO] 27)) (.cells #[.slice bA q.av.length dA, .slice bC q.cu.length dC, .slice bN q.nr.length dN, .bool q.al, .slice bD q.dr.length dD, .slice bO q.co.length dO] 27); simpa using e)
  have HLv := hideI (ilives_any a0 a1 ac _ (hE.kept KB))
  have HE := hideI (hE.kept KB)
  have HP := hideI (hP.kept KB)
  have HQ := hideI (hQ.kept KB)
  have HOp := hideI hOp
  have HOq := hideI hOq
  have HKB := hideI KB
  clear KB hE hP hQ hOp hOq
  have HTP := fun W (k : Kept (fun _ => False) ((w.alloc (.cells #[.slice aA p.av.length cA, .slice aC p.cu.length cC, .slice aN p.nr.length cN, .bool p.al, .slice aD p.dr.length cD, .slice aO p.co.length cO] 27)).alloc (.cells #[.slice bA q.av.length dA, .slice bC q.cu.length dC, .slice bN q.nr.length dN, .bool q.al, .slice bD q.dr.length dD, .slice bO q.co.length dO] 27)) W) => hideI (text_good p m aA aC aN aD aO cA cC cN cD cO a0 a1 ac W (HP.out.kept k) HOp.out (HE.out.kept k).e (HE.out.kept k).t (HE.out.kept k).p hm hg)
  have HTQ := fun W (k : Kept (fun _ => False) ((w.alloc (.cells #[.slice aA p.av.length cA, .slice aC p.cu.length cC, .slice aN p.nr.length cN, .bool p.al, .slice aD p.dr.length cD, .slice aO p.co.length cO] 27)).alloc (.cells #[.slice bA q.av.length dA, .slice bC q.cu.length dC, .slice bN q.nr.length dN, .bool q.al, .slice bD q.dr.length dD, .slice bO q.co.length dO] 27)) W) => hideI (text_good q n bA bC bN bD bO dA dC dN dD dO a0 a1 ac W (HQ.out.kept k) HOq.out (HE.out.kept k).e (HE.out.kept k).t (HE.out.kept k).p hn hh)
  have hse : (((⟨(txt p m).toArray⟩ : ByteArray)).toList == ((⟨(txt q n).toArray⟩ : ByteArray)).toList) = true := by
    rw [beq_lT]
    exact decide_eq_true (by subst hpq; rw [hm] at hn; cases hn; rfl)
  have hs0 : (((⟨(txt p m).toArray⟩ : ByteArray)).toList == []) = false := by
    have q := txt_ne p m
    rw [ByteArray.toList_eq]
    simpa using q
  have HSm := fun W (k : Kept (fun _ => False) ((w.alloc (.cells #[.slice aA p.av.length cA, .slice aC p.cu.length cC, .slice aN p.nr.length cN, .bool p.al, .slice aD p.dr.length cD, .slice aO p.co.length cO] 27)).alloc (.cells #[.slice bA q.av.length dA, .slice bC q.cu.length dC, .slice bN q.nr.length dN, .bool q.al, .slice bD q.dr.length dD, .slice bO q.co.length dO] 27)) W) => hideI (same_val p q aA aC aN aD aO bA bC bN bD bO cA cC cN cD cO dA dC dN dD dO W (HP.out.kept k) (HQ.out.kept k) HOp.out HOq.out true (by simp [hpq]))
  clear hpq hm hg hn hh
  generalize (⟨(txt p m).toArray⟩ : ByteArray) = sp at *
  generalize (⟨(txt q n).toArray⟩ : ByteArray) = sq at *
  go_enter Tryd.func6, Tryd.ntmps6
  go_wp2_with (first
    | (go_at_call 7; refine HLv.out.mono ?_; clear HLv; rintro e W1 ⟨rfl, K1⟩; have HK1 := hideI K1; obtain ⟨y0, y1, y2, y3, y4, y5⟩ := cells6 (K1.heap HBP.out (fun f => f)); clear K1)
    | (go_at_call 8; refine (HTP _ HK1.out).out.mono ?_; clear HTP; rintro e W2 ⟨rfl, K2⟩; have HK2 := hideI (HK1.out.trans K2 (fun _ f => f.elim)); clear y0 y1 y2 y3 y4 y5; obtain ⟨z0, z1, z2, z3, z4, z5⟩ := cells6 (HK2.out.heap HBQ.out (fun f => f)); clear K2)
    | (go_at_call 8; refine (HTQ _ HK2.out).out.mono ?_; clear HTQ; rintro e W3 ⟨rfl, K3⟩; have HK3 := hideI (HK2.out.trans K3 (fun _ f => f.elim)); clear z0 z1 z2 z3 z4 z5; obtain ⟨y0, y1, y2, y3, y4, y5⟩ := cells6 (HK3.out.heap HBP.out (fun f => f)); obtain ⟨z0, z1, z2, z3, z4, z5⟩ := cells6 (HK3.out.heap HBQ.out (fun f => f)); clear K3)
    | (go_at_call 12; refine (HSm _ HK3.out).out.mono ?_; clear HSm; rintro e W4 ⟨rfl, K4⟩; have HK4 := hideI (HK3.out.trans K4 (fun _ f => f.elim)); clear K4))
  go_ret
  exact ⟨rfl, HKB.out.trans HK4.out (fun _ f => f.elim)⟩
set_option maxRecDepth 20000 in
set_option maxHeartbeats 8000000 in
theorem two_d (p q : Pg) (aA aC aN aD aO bA bC bN bD bO : Option Addr) (cA cC cN cD cO dA dC dN dD dO : Nat) (w : World) (hP : PgAt w p aA aC aN aD aO) (hQ : PgAt w q bA bC bN bD bO) (hOp : p.Ok) (hOq : q.Ok) (a0 a1 ac : Addr) (hE : Env w a0 a1 ac) (m n : List In) (hm : dcI p.co = some m) (hg : gdT p = true) (hn : dcI q.co = some n) (hh : gdT q = true) (hpq : p ≠ q) :
    Calls Tryd.prog 6 #[.agg #[.slice aA p.av.length cA, .slice aC p.cu.length cC, .slice aN p.nr.length cN, .bool p.al, .slice aD p.dr.length cD, .slice aO p.co.length cO], .agg #[.slice bA q.av.length dA, .slice bC q.cu.length dC, .slice bN q.nr.length dN, .bool q.al, .slice bD q.dr.length dD, .slice bO q.co.length dO]] w fun e w' => e = .returned (.bool true) ∧ Kept (fun _ => False) w w' := by
  have KB := (Kept.alloc w (.cells #[.slice aA p.av.length cA, .slice aC p.cu.length cC, .slice aN p.nr.length cN, .bool p.al, .slice aD p.dr.length cD, .slice aO p.co.length cO] 27)).trans (Kept.alloc (w.alloc (.cells #[.slice aA p.av.length cA, .slice aC p.cu.length cC, .slice aN p.nr.length cN, .bool p.al, .slice aD p.dr.length cD, .slice aO p.co.length cO] 27)) (.cells #[.slice bA q.av.length dA, .slice bC q.cu.length dC, .slice bN q.nr.length dN, .bool q.al, .slice bD q.dr.length dD, .slice bO q.co.length dO] 27)) (fun _ f => f.elim)
  have HBP : Hid (((w.alloc (.cells #[.slice aA p.av.length cA, .slice aC p.cu.length cC, .slice aN p.nr.length cN, .bool p.al, .slice aD p.dr.length cD, .slice aO p.co.length cO] 27)).alloc (.cells #[.slice bA q.av.length dA, .slice bC q.cu.length dC, .slice bN q.nr.length dN, .bool q.al, .slice bD q.dr.length dD, .slice bO q.co.length dO] 27)).heap[w.heap.size]? = some (.cells #[.slice aA p.av.length cA, .slice aC p.cu.length cC, .slice aN p.nr.length cN, .bool p.al, .slice aD p.dr.length cD, .slice aO p.co.length cO] 27 (0, 0))) := hideI ((Kept.alloc _ _).heap (heap_alloc_new w _) (fun f => f))
  have HBQ : Hid (((w.alloc (.cells #[.slice aA p.av.length cA, .slice aC p.cu.length cC, .slice aN p.nr.length cN, .bool p.al, .slice aD p.dr.length cD, .slice aO p.co.length cO] 27)).alloc (.cells #[.slice bA q.av.length dA, .slice bC q.cu.length dC, .slice bN q.nr.length dN, .bool q.al, .slice bD q.dr.length dD, .slice bO q.co.length dO] 27)).heap[w.heap.size + 1]? = some (.cells #[.slice bA q.av.length dA, .slice bC q.cu.length dC, .slice bN q.nr.length dN, .bool q.al, .slice bD q.dr.length dD, .slice bO q.co.length dO] 27 (0, 0))) := hideI (by have e := heap_alloc_new (w.alloc (.cells #[.slice aA p.av.length cA, .slice aC p.cu.length cC, .slice aN p.nr.length cN, .bool p.al, .slice aD p.dr.length cD, .slice aO p.co.length cO] 27)) (.cells #[.slice bA q.av.length dA, .slice bC q.cu.length dC, .slice bN q.nr.length dN, .bool q.al, .slice bD q.dr.length dD, .slice bO q.co.length dO] 27); simpa using e)
  have HLv := hideI (ilives_any a0 a1 ac _ (hE.kept KB))
  have HE := hideI (hE.kept KB)
  have HP := hideI (hP.kept KB)
  have HQ := hideI (hQ.kept KB)
  have HOp := hideI hOp
  have HOq := hideI hOq
  have HKB := hideI KB
  clear KB hE hP hQ hOp hOq
  have HTP := fun W (k : Kept (fun _ => False) ((w.alloc (.cells #[.slice aA p.av.length cA, .slice aC p.cu.length cC, .slice aN p.nr.length cN, .bool p.al, .slice aD p.dr.length cD, .slice aO p.co.length cO] 27)).alloc (.cells #[.slice bA q.av.length dA, .slice bC q.cu.length dC, .slice bN q.nr.length dN, .bool q.al, .slice bD q.dr.length dD, .slice bO q.co.length dO] 27)) W) => hideI (text_good p m aA aC aN aD aO cA cC cN cD cO a0 a1 ac W (HP.out.kept k) HOp.out (HE.out.kept k).e (HE.out.kept k).t (HE.out.kept k).p hm hg)
  have HTQ := fun W (k : Kept (fun _ => False) ((w.alloc (.cells #[.slice aA p.av.length cA, .slice aC p.cu.length cC, .slice aN p.nr.length cN, .bool p.al, .slice aD p.dr.length cD, .slice aO p.co.length cO] 27)).alloc (.cells #[.slice bA q.av.length dA, .slice bC q.cu.length dC, .slice bN q.nr.length dN, .bool q.al, .slice bD q.dr.length dD, .slice bO q.co.length dO] 27)) W) => hideI (text_good q n bA bC bN bD bO dA dC dN dD dO a0 a1 ac W (HQ.out.kept k) HOq.out (HE.out.kept k).e (HE.out.kept k).t (HE.out.kept k).p hn hh)
  have hse : (((⟨(txt p m).toArray⟩ : ByteArray)).toList == ((⟨(txt q n).toArray⟩ : ByteArray)).toList) = false := by
    rw [beq_lT]
    exact decide_eq_false (fun f => hpq (txt_inj hg hh HOp.out.co HOq.out.co hm hn (by injection f with f; simpa using congrArg Array.toList f)))
  have hs0 : (((⟨(txt p m).toArray⟩ : ByteArray)).toList == []) = false := by
    have q := txt_ne p m
    rw [ByteArray.toList_eq]
    simpa using q
  have HSm := fun W (k : Kept (fun _ => False) ((w.alloc (.cells #[.slice aA p.av.length cA, .slice aC p.cu.length cC, .slice aN p.nr.length cN, .bool p.al, .slice aD p.dr.length cD, .slice aO p.co.length cO] 27)).alloc (.cells #[.slice bA q.av.length dA, .slice bC q.cu.length dC, .slice bN q.nr.length dN, .bool q.al, .slice bD q.dr.length dD, .slice bO q.co.length dO] 27)) W) => hideI (same_val p q aA aC aN aD aO bA bC bN bD bO cA cC cN cD cO dA dC dN dD dO W (HP.out.kept k) (HQ.out.kept k) HOp.out HOq.out false (by simp [hpq]))
  clear hpq hm hg hn hh
  generalize (⟨(txt p m).toArray⟩ : ByteArray) = sp at *
  generalize (⟨(txt q n).toArray⟩ : ByteArray) = sq at *
  go_enter Tryd.func6, Tryd.ntmps6
  go_wp2_with (first
    | (go_at_call 7; refine HLv.out.mono ?_; clear HLv; rintro e W1 ⟨rfl, K1⟩; have HK1 := hideI K1; obtain ⟨y0, y1, y2, y3, y4, y5⟩ := cells6 (K1.heap HBP.out (fun f => f)); clear K1)
    | (go_at_call 8; refine (HTP _ HK1.out).out.mono ?_; clear HTP; rintro e W2 ⟨rfl, K2⟩; have HK2 := hideI (HK1.out.trans K2 (fun _ f => f.elim)); clear y0 y1 y2 y3 y4 y5; obtain ⟨z0, z1, z2, z3, z4, z5⟩ := cells6 (HK2.out.heap HBQ.out (fun f => f)); clear K2)
    | (go_at_call 8; refine (HTQ _ HK2.out).out.mono ?_; clear HTQ; rintro e W3 ⟨rfl, K3⟩; have HK3 := hideI (HK2.out.trans K3 (fun _ f => f.elim)); clear z0 z1 z2 z3 z4 z5; obtain ⟨y0, y1, y2, y3, y4, y5⟩ := cells6 (HK3.out.heap HBP.out (fun f => f)); obtain ⟨z0, z1, z2, z3, z4, z5⟩ := cells6 (HK3.out.heap HBQ.out (fun f => f)); clear K3)
    | (go_at_call 12; refine (HSm _ HK3.out).out.mono ?_; clear HSm; rintro e W4 ⟨rfl, K4⟩; have HK4 := hideI (HK3.out.trans K4 (fun _ f => f.elim)); clear K4))
  go_ret
  exact ⟨rfl, HKB.out.trans HK4.out (fun _ f => f.elim)⟩
theorem two_all (p q : Pg) (aA aC aN aD aO bA bC bN bD bO : Option Addr) (cA cC cN cD cO dA dC dN dD dO : Nat) (w : World) (hP : PgAt w p aA aC aN aD aO) (hQ : PgAt w q bA bC bN bD bO) (hOp : p.Ok) (hOq : q.Ok) (a0 a1 ac : Addr) (hE : Env w a0 a1 ac) :
    Calls Tryd.prog 6 #[.agg #[.slice aA p.av.length cA, .slice aC p.cu.length cC, .slice aN p.nr.length cN, .bool p.al, .slice aD p.dr.length cD, .slice aO p.co.length cO], .agg #[.slice bA q.av.length dA, .slice bC q.cu.length dC, .slice bN q.nr.length dN, .bool q.al, .slice bD q.dr.length dD, .slice bO q.co.length dO]] w fun e w' => e = .returned (.bool true) ∧ Kept (fun _ => False) w w' := by
  by_cases hb : dcI p.co = none ∨ gdT p = false
  · exact two_a p q aA aC aN aD aO bA bC bN bD bO cA cC cN cD cO dA dC dN dD dO w hP hQ hOp hOq a0 a1 ac hE hb
  rw [not_or] at hb
  obtain ⟨m, hm⟩ := Option.ne_none_iff_exists'.1 hb.1
  have hg : gdT p = true := by simpa using hb.2
  by_cases hc : dcI q.co = none ∨ gdT q = false
  · exact two_b p q aA aC aN aD aO bA bC bN bD bO cA cC cN cD cO dA dC dN dD dO w hP hQ hOp hOq a0 a1 ac hE m hm hg hc
  rw [not_or] at hc
  obtain ⟨n, hn⟩ := Option.ne_none_iff_exists'.1 hc.1
  have hh : gdT q = true := by simpa using hc.2
  by_cases hpq : p = q
  · exact two_c p q aA aC aN aD aO bA bC bN bD bO cA cC cN cD cO dA dC dN dD dO w hP hQ hOp hOq a0 a1 ac hE m n hm hg hn hh hpq
  · exact two_d p q aA aC aN aD aO bA bC bN bD bO cA cC cN cD cO dA dC dN dD dO w hP hQ hOp hOq a0 a1 ac hE m n hm hg hn hh hpq
end Go.Proofs.YtdklkpbadopkaaaDoor
