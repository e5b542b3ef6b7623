import Derived.Test.YtdklkpbadopkaaaDoorIye
import Derived.Test.YtdklkpbadopkaaaDoorIzp
namespace Go.Proofs.YtdklkpbadopkaaaDoor
open Go.ChangeShapes Go.WideShapes Go.ChangeAt Go.RowKit

/-- string(b) of bytes wherever they lie. -/
theorem conv_argT {w : World} {a : Option Addr} {c : Nat} {l : List Int} (h : BytesAt w a l) : (convert 25 9 (.slice a l.length c)).run Tryd.prog w = .ok (.string (strOfNums l)) w := by
  by_cases hn : l = []
  · subst hn
    cases a with
    | none => exact run_convert_bytes_nil w 25 5 Tryd.underlying25 Tryd.underlying5 0 c 9 Tryd.underlying9
    | some p =>
      obtain ⟨b, off, sp⟩ := p
      have q := run_convert_bytes_back w 25 9 5 ⟨b, off, sp⟩ c ([] : List UInt8) Tryd.underlying25 Tryd.underlying5 Tryd.underlying9 (fun j hj => by simp at hj)
      exact q
  · obtain ⟨b, off, rfl, hc⟩ := h hn
    refine run_convert_bytes_arg w 25 5 Tryd.underlying25 Tryd.underlying5 b off l.length c l rfl (fun i hi => ?_) 9 Tryd.underlying9
    rw [List.getD_eq_getElem?_getD]
    exact hc i hi
theorem beq_lT (a b : ByteArray) : (a.toList == b.toList) = decide (a = b) := by
  rw [ByteArray.toList_eq, ByteArray.toList_eq, Bool.eq_iff_iff]
  simp only [beq_iff_eq, decide_eq_true_eq]
  exact ⟨fun h => by cases a; cases b; simp only at h; congr 1; exact Array.toList_inj.1 h, fun h => by rw [h]⟩
theorem str_inj : ∀ (l m : List Int), IsBytes l → IsBytes m → (l.map fun x => UInt8.ofNat x.toNat) = (m.map fun x => UInt8.ofNat x.toNat) → l = m
  | [], [], _, _, _ => rfl
  | [], y :: m, _, _, h => by simp at h
  | x :: l, [], _, _, h => by simp at h
  | x :: l, y :: m, hl, hm, h => by
    simp only [List.map_cons, List.cons.injEq] at h
    have h1 := hl x List.mem_cons_self
    have h2 := hm y List.mem_cons_self
    have h3 := congrArg UInt8.toNat h.1
    simp only [UInt8.toNat_ofNat'] at h3
    have : x = y := by omega
    rw [this, str_inj l m (fun z hz => hl z (List.mem_cons_of_mem _ hz)) (fun z hz => hm z (List.mem_cons_of_mem _ hz)) h.2]
theorem str_eq {l m : List Int} (hl : IsBytes l) (hm : IsBytes m) (h : strOfNums l = strOfNums m) : l = m := by
  refine str_inj l m hl hm ?_
  have := congrArg (fun b : ByteArray => b.data.toList) h
  simpa [strOfNums] using this
theorem sameI_dec (l m : List Int) (a b : Option Addr) (c d : Nat) (w : World) (hA : IntsAt w a l) (hB : IntsAt w b m) (hl : l.length ≤ 67108864) (hm : m.length ≤ 67108864) (v : Bool) (hv : v = true ↔ l = m) :
    Calls Tryd.prog 34 #[.slice a l.length c, .slice b m.length d] w fun e w' => e = .returned (.bool v) ∧ Kept (fun _ => False) w w' := by
  refine (sameI_iff l m a b c d w hA hB (by omega) (by omega)).mono ?_
  rintro e w' ⟨u, rfl, hu, k⟩
  have : u = v := by
    have h := hu.trans hv.symm
    cases u <;> cases v <;> simp at h ⊢
  rw [this]
  exact ⟨rfl, k⟩
def smP (w : World) (p q : Pg) (e : Ending) (w' : World) : Prop := ∃ v, e = .returned (.bool v) ∧ (v = true ↔ p = q) ∧ Kept (fun _ => False) w w'
theorem smP_no {w w' : World} {p q : Pg} (h : p ≠ q) (k : Kept (fun _ => False) w w') : smP w p q (.returned (.bool false)) w' := ⟨false, rfl, ⟨fun f => (by cases f), fun f => absurd f h⟩, k⟩
set_option maxRecDepth 20000 in
set_option maxHeartbeats 4000000 in
theorem same_no1 (p q : Pg) (aA aC aN aD aO bA bC bN bD bO : Option Addr) (cA cC cN cD cO dA dC dN dD dO : Nat) (w : World) (hP : PgAt w p aA aC aN aD aO) (hQ : PgAt w q bA bC bN bD bO) (hOp : p.Ok) (hOq : q.Ok) (h1 : p.al ≠ q.al) :
    Calls Tryd.prog 12 #[.agg #[.slice aA p.av.length cA, .slice aC p.cu.length cC, .slice aN p.nr.length cN, .bool p.al, .slice aD p.dr.length cD, .slice aO p.co.length cO], .agg #[.slice bA q.av.length dA, .slice bC q.cu.length dC, .slice bN q.nr.length dN, .bool q.al, .slice bD q.dr.length dD, .slice bO q.co.length dO]] w fun e w' => smP w p q e w' := by
  have KA := (Kept.alloc w (.cells #[.slice aA p.av.length cA, .slice aC p.cu.length cC, .slice aN p.nr.length cN, .bool p.al, .slice aD p.dr.length cD, .slice aO p.co.length cO] 27)).trans (Kept.alloc (w.alloc (.cells #[.slice aA p.av.length cA, .slice aC p.cu.length cC, .slice aN p.nr.length cN, .bool p.al, .slice aD p.dr.length cD, .slice aO p.co.length cO] 27)) (.cells #[.slice bA q.av.length dA, .slice bC q.cu.length dC, .slice bN q.nr.length dN, .bool q.al, .slice bD q.dr.length dD, .slice bO q.co.length dO] 27)) (fun _ f => f.elim)
  obtain ⟨l1, l2, l3, l4, l5⟩ := hOp.len
  obtain ⟨m1, m2, m3, m4, m5⟩ := hOq.len
  have HPx := hideI (hP.kept KA)
  have HQx := hideI (hQ.kept KA)
  have hcv1 := conv_argT (c := cO) HPx.out.co
  have hcv2 := conv_argT (c := dO) HQx.out.co
  have HKA := hideI KA
  have HOp := hideI hOp
  have HOq := hideI hOq
  clear KA hP hQ hOp hOq
  have hal : (p.al != q.al) = true := by simp [h1]
  have H1 := hideI h1
  clear h1
  go_enter Tryd.func12, Tryd.ntmps12
  go_wp2
  go_ret
  exact smP_no (fun f => H1.out (by rw [f])) HKA.out
set_option maxRecDepth 20000 in
set_option maxHeartbeats 4000000 in
theorem same_no2 (p q : Pg) (aA aC aN aD aO bA bC bN bD bO : Option Addr) (cA cC cN cD cO dA dC dN dD dO : Nat) (w : World) (hP : PgAt w p aA aC aN aD aO) (hQ : PgAt w q bA bC bN bD bO) (hOp : p.Ok) (hOq : q.Ok) (h2 : p.co ≠ q.co) :
    Calls Tryd.prog 12 #[.agg #[.slice aA p.av.length cA, .slice aC p.cu.length cC, .slice aN p.nr.length cN, .bool p.al, .slice aD p.dr.length cD, .slice aO p.co.length cO], .agg #[.slice bA q.av.length dA, .slice bC q.cu.length dC, .slice bN q.nr.length dN, .bool p.al, .slice bD q.dr.length dD, .slice bO q.co.length dO]] w fun e w' => smP w p q e w' := by
  have KA := (Kept.alloc w (.cells #[.slice aA p.av.length cA, .slice aC p.cu.length cC, .slice aN p.nr.length cN, .bool p.al, .slice aD p.dr.length cD, .slice aO p.co.length cO] 27)).trans (Kept.alloc (w.alloc (.cells #[.slice aA p.av.length cA, .slice aC p.cu.length cC, .slice aN p.nr.length cN, .bool p.al, .slice aD p.dr.length cD, .slice aO p.co.length cO] 27)) (.cells #[.slice bA q.av.length dA, .slice bC q.cu.length dC, .slice bN q.nr.length dN, .bool p.al, .slice bD q.dr.length dD, .slice bO q.co.length dO] 27)) (fun _ f => f.elim)
  obtain ⟨l1, l2, l3, l4, l5⟩ := hOp.len
  obtain ⟨m1, m2, m3, m4, m5⟩ := hOq.len
  have HPx := hideI (hP.kept KA)
  have HQx := hideI (hQ.kept KA)
  have hcv1 := conv_argT (c := cO) HPx.out.co
  have hcv2 := conv_argT (c := dO) HQx.out.co
  have HKA := hideI KA
  have HOp := hideI hOp
  have HOq := hideI hOq
  clear KA hP hQ hOp hOq
  have hco : ((strOfNums p.co).toList == (strOfNums q.co).toList) = false := by rw [beq_lT]; exact decide_eq_false (fun f => h2 (str_eq HOp.out.co HOq.out.co f))
  have H2 := hideI h2
  clear h2
  go_enter Tryd.func12, Tryd.ntmps12
  go_wp2
  go_ret
  exact smP_no (fun f => H2.out (by rw [f])) HKA.out
set_option maxRecDepth 20000 in
set_option maxHeartbeats 4000000 in
theorem same_no3 (p q : Pg) (aA aC aN aD aO bA bC bN bD bO : Option Addr) (cA cC cN cD cO dA dC dN dD dO : Nat) (w : World) (hP : PgAt w p aA aC aN aD aO) (hQ : PgAt w q bA bC bN bD bO) (hOp : p.Ok) (hOq : q.Ok) (h2 : p.co = q.co) (h3 : p.av ≠ q.av) :
    Calls Tryd.prog 12 #[.agg #[.slice aA p.av.length cA, .slice aC p.cu.length cC, .slice aN p.nr.length cN, .bool p.al, .slice aD p.dr.length cD, .slice aO p.co.length cO], .agg #[.slice bA q.av.length dA, .slice bC q.cu.length dC, .slice bN q.nr.length dN, .bool p.al, .slice bD q.dr.length dD, .slice bO q.co.length dO]] w fun e w' => smP w p q e w' := by
  have KA := (Kept.alloc w (.cells #[.slice aA p.av.length cA, .slice aC p.cu.length cC, .slice aN p.nr.length cN, .bool p.al, .slice aD p.dr.length cD, .slice aO p.co.length cO] 27)).trans (Kept.alloc (w.alloc (.cells #[.slice aA p.av.length cA, .slice aC p.cu.length cC, .slice aN p.nr.length cN, .bool p.al, .slice aD p.dr.length cD, .slice aO p.co.length cO] 27)) (.cells #[.slice bA q.av.length dA, .slice bC q.cu.length dC, .slice bN q.nr.length dN, .bool p.al, .slice bD q.dr.length dD, .slice bO q.co.length dO] 27)) (fun _ f => f.elim)
  obtain ⟨l1, l2, l3, l4, l5⟩ := hOp.len
  obtain ⟨m1, m2, m3, m4, m5⟩ := hOq.len
  have HPx := hideI (hP.kept KA)
  have HQx := hideI (hQ.kept KA)
  have hcv1 := conv_argT (c := cO) HPx.out.co
  have hcv2 := conv_argT (c := dO) HQx.out.co
  have HKA := hideI KA
  have HOp := hideI hOp
  have HOq := hideI hOq
  clear KA hP hQ hOp hOq
  have es : strOfNums q.co = strOfNums p.co := by rw [h2]
  rw [es] at hcv2
  clear es
  have H2 := hideI h2
  clear h2
  have HS1 := fun W (k : Kept (fun _ => False) ((w.alloc (.cells #[.slice aA p.av.length cA, .slice aC p.cu.length cC, .slice aN p.nr.length cN, .bool p.al, .slice aD p.dr.length cD, .slice aO p.co.length cO] 27)).alloc (.cells #[.slice bA q.av.length dA, .slice bC q.cu.length dC, .slice bN q.nr.length dN, .bool p.al, .slice bD q.dr.length dD, .slice bO q.co.length dO] 27)) W) => hideI (sameI_dec p.av q.av aA bA cA dA W (HPx.out.kept k).av (HQx.out.kept k).av l1 m1 false (by simp [h3]))
  have H3 := hideI h3
  clear h3
  have HBP : Hid (((w.alloc (.cells #[.slice aA p.av.length cA, .slice aC p.cu.length cC, .slice aN p.nr.length cN, .bool p.al, .slice aD p.dr.length cD, .slice aO p.co.length cO] 27)).alloc (.cells #[.slice bA q.av.length dA, .slice bC q.cu.length dC, .slice bN q.nr.length dN, .bool p.al, .slice bD q.dr.length dD, .slice bO q.co.length dO] 27)).heap[w.heap.size]? = some (.cells #[.slice aA p.av.length cA, .slice aC p.cu.length cC, .slice aN p.nr.length cN, .bool p.al, .slice aD p.dr.length cD, .slice aO p.co.length cO] 27 (0, 0))) := hideI ((Kept.alloc _ _).heap (heap_alloc_new w _) (fun f => f))
  have HBQ : Hid (((w.alloc (.cells #[.slice aA p.av.length cA, .slice aC p.cu.length cC, .slice aN p.nr.length cN, .bool p.al, .slice aD p.dr.length cD, .slice aO p.co.length cO] 27)).alloc (.cells #[.slice bA q.av.length dA, .slice bC q.cu.length dC, .slice bN q.nr.length dN, .bool p.al, .slice bD q.dr.length dD, .slice bO q.co.length dO] 27)).heap[w.heap.size + 1]? = some (.cells #[.slice bA q.av.length dA, .slice bC q.cu.length dC, .slice bN q.nr.length dN, .bool p.al, .slice bD q.dr.length dD, .slice bO q.co.length dO] 27 (0, 0))) := hideI (by have e := heap_alloc_new (w.alloc (.cells #[.slice aA p.av.length cA, .slice aC p.cu.length cC, .slice aN p.nr.length cN, .bool p.al, .slice aD p.dr.length cD, .slice aO p.co.length cO] 27)) (.cells #[.slice bA q.av.length dA, .slice bC q.cu.length dC, .slice bN q.nr.length dN, .bool p.al, .slice bD q.dr.length dD, .slice bO q.co.length dO] 27); simpa using e)
  go_enter Tryd.func12, Tryd.ntmps12
  go_wp2_with (go_at_call 34; refine (HS1 _ (Kept.refl _ _)).out.mono ?_; clear HS1; rintro e W1 ⟨rfl, K1⟩; have HK1 := hideI K1; obtain ⟨y0, y1, y2, y3, y4, y5⟩ := cells6 (K1.heap HBP.out (fun f => f)); obtain ⟨z0, z1, z2, z3, z4, z5⟩ := cells6 (K1.heap HBQ.out (fun f => f)); clear K1)
  go_ret
  exact smP_no (fun f => H3.out (by rw [f])) (HKA.out.trans HK1.out (fun _ f => f.elim))
set_option maxRecDepth 20000 in
set_option maxHeartbeats 4000000 in
theorem same_no4 (p q : Pg) (aA aC aN aD aO bA bC bN bD bO : Option Addr) (cA cC cN cD cO dA dC dN dD dO : Nat) (w : World) (hP : PgAt w p aA aC aN aD aO) (hQ : PgAt w q bA bC bN bD bO) (hOp : p.Ok) (hOq : q.Ok) (h2 : p.co = q.co) (h3 : p.av = q.av) (h4 : p.dr ≠ q.dr) :
    Calls Tryd.prog 12 #[.agg #[.slice aA p.av.length cA, .slice aC p.cu.length cC, .slice aN p.nr.length cN, .bool p.al, .slice aD p.dr.length cD, .slice aO p.co.length cO], .agg #[.slice bA q.av.length dA, .slice bC q.cu.length dC, .slice bN q.nr.length dN, .bool p.al, .slice bD q.dr.length dD, .slice bO q.co.length dO]] w fun e w' => smP w p q e w' := by
  have KA := (Kept.alloc w (.cells #[.slice aA p.av.length cA, .slice aC p.cu.length cC, .slice aN p.nr.length cN, .bool p.al, .slice aD p.dr.length cD, .slice aO p.co.length cO] 27)).trans (Kept.alloc (w.alloc (.cells #[.slice aA p.av.length cA, .slice aC p.cu.length cC, .slice aN p.nr.length cN, .bool p.al, .slice aD p.dr.length cD, .slice aO p.co.length cO] 27)) (.cells #[.slice bA q.av.length dA, .slice bC q.cu.length dC, .slice bN q.nr.length dN, .bool p.al, .slice bD q.dr.length dD, .slice bO q.co.length dO] 27)) (fun _ f => f.elim)
  obtain ⟨l1, l2, l3, l4, l5⟩ := hOp.len
  obtain ⟨m1, m2, m3, m4, m5⟩ := hOq.len
  have HPx := hideI (hP.kept KA)
  have HQx := hideI (hQ.kept KA)
  have hcv1 := conv_argT (c := cO) HPx.out.co
  have hcv2 := conv_argT (c := dO) HQx.out.co
  have HKA := hideI KA
  have HOp := hideI hOp
  have HOq := hideI hOq
  clear KA hP hQ hOp hOq
  have es : strOfNums q.co = strOfNums p.co := by rw [h2]
  rw [es] at hcv2
  clear es
  have H2 := hideI h2
  clear h2
  have HS1 := fun W (k : Kept (fun _ => False) ((w.alloc (.cells #[.slice aA p.av.length cA, .slice aC p.cu.length cC, .slice aN p.nr.length cN, .bool p.al, .slice aD p.dr.length cD, .slice aO p.co.length cO] 27)).alloc (.cells #[.slice bA q.av.length dA, .slice bC q.cu.length dC, .slice bN q.nr.length dN, .bool p.al, .slice bD q.dr.length dD, .slice bO q.co.length dO] 27)) W) => hideI (sameI_dec p.av q.av aA bA cA dA W (HPx.out.kept k).av (HQx.out.kept k).av l1 m1 true (by simp [h3]))
  have H3 := hideI h3
  clear h3
  have HS2 := fun W (k : Kept (fun _ => False) ((w.alloc (.cells #[.slice aA p.av.length cA, .slice aC p.cu.length cC, .slice aN p.nr.length cN, .bool p.al, .slice aD p.dr.length cD, .slice aO p.co.length cO] 27)).alloc (.cells #[.slice bA q.av.length dA, .slice bC q.cu.length dC, .slice bN q.nr.length dN, .bool p.al, .slice bD q.dr.length dD, .slice bO q.co.length dO] 27)) W) => hideI (sameI_dec p.dr q.dr aD bD cD dD W (HPx.out.kept k).dr (HQx.out.kept k).dr l2 m2 false (by simp [h4]))
  have H4 := hideI h4
  clear h4
  have HBP : Hid (((w.alloc (.cells #[.slice aA p.av.length cA, .slice aC p.cu.length cC, .slice aN p.nr.length cN, .bool p.al, .slice aD p.dr.length cD, .slice aO p.co.length cO] 27)).alloc (.cells #[.slice bA q.av.length dA, .slice bC q.cu.length dC, .slice bN q.nr.length dN, .bool p.al, .slice bD q.dr.length dD, .slice bO q.co.length dO] 27)).heap[w.heap.size]? = some (.cells #[.slice aA p.av.length cA, .slice aC p.cu.length cC, .slice aN p.nr.length cN, .bool p.al, .slice aD p.dr.length cD, .slice aO p.co.length cO] 27 (0, 0))) := hideI ((Kept.alloc _ _).heap (heap_alloc_new w _) (fun f => f))
  have HBQ : Hid (((w.alloc (.cells #[.slice aA p.av.length cA, .slice aC p.cu.length cC, .slice aN p.nr.length cN, .bool p.al, .slice aD p.dr.length cD, .slice aO p.co.length cO] 27)).alloc (.cells #[.slice bA q.av.length dA, .slice bC q.cu.length dC, .slice bN q.nr.length dN, .bool p.al, .slice bD q.dr.length dD, .slice bO q.co.length dO] 27)).heap[w.heap.size + 1]? = some (.cells #[.slice bA q.av.length dA, .slice bC q.cu.length dC, .slice bN q.nr.length dN, .bool p.al, .slice bD q.dr.length dD, .slice bO q.co.length dO] 27 (0, 0))) := hideI (by have e := heap_alloc_new (w.alloc (.cells #[.slice aA p.av.length cA, .slice aC p.cu.length cC, .slice aN p.nr.length cN, .bool p.al, .slice aD p.dr.length cD, .slice aO p.co.length cO] 27)) (.cells #[.slice bA q.av.length dA, .slice bC q.cu.length dC, .slice bN q.nr.length dN, .bool p.al, .slice bD q.dr.length dD, .slice bO q.co.length dO] 27); simpa using e)
  go_enter Tryd.func12, Tryd.ntmps12
  go_wp2_with (first
    | (go_at_call 34; refine (HS1 _ (Kept.refl _ _)).out.mono ?_; clear HS1; rintro e W1 ⟨rfl, K1⟩; have HK1 := hideI K1; obtain ⟨y0, y1, y2, y3, y4, y5⟩ := cells6 (K1.heap HBP.out (fun f => f)); obtain ⟨z0, z1, z2, z3, z4, z5⟩ := cells6 (K1.heap HBQ.out (fun f => f)); clear K1)
    | (go_at_call 34; refine (HS2 _ HK1.out).out.mono ?_; clear HS2; rintro e W2 ⟨rfl, K2⟩; have HK2 := hideI (HK1.out.trans K2 (fun _ f => f.elim)); clear K2 y0 y1 y2 y3 y4 y5 z0 z1 z2 z3 z4 z5))
  go_ret
  exact smP_no (fun f => H4.out (by rw [f])) (HKA.out.trans HK2.out (fun _ f => f.elim))
set_option maxRecDepth 20000 in
set_option maxHeartbeats 4000000 in
theorem same_no5 (p q : Pg) (aA aC aN aD aO bA bC bN bD bO : Option Addr) (cA cC cN cD cO dA dC dN dD dO : Nat) (w : World) (hP : PgAt w p aA aC aN aD aO) (hQ : PgAt w q bA bC bN bD bO) (hOp : p.Ok) (hOq : q.Ok) (h2 : p.co = q.co) (h3 : p.av = q.av) (h4 : p.dr = q.dr) (h5 : p.cu.length ≠ q.cu.length) :
    Calls Tryd.prog 12 #[.agg #[.slice aA p.av.length cA, .slice aC p.cu.length cC, .slice aN p.nr.length cN, .bool p.al, .slice aD p.dr.length cD, .slice aO p.co.length cO], .agg #[.slice bA q.av.length dA, .slice bC q.cu.length dC, .slice bN q.nr.length dN, .bool p.al, .slice bD q.dr.length dD, .slice bO q.co.length dO]] w fun e w' => smP w p q e w' := by
  have KA := (Kept.alloc w (.cells #[.slice aA p.av.length cA, .slice aC p.cu.length cC, .slice aN p.nr.length cN, .bool p.al, .slice aD p.dr.length cD, .slice aO p.co.length cO] 27)).trans (Kept.alloc (w.alloc (.cells #[.slice aA p.av.length cA, .slice aC p.cu.length cC, .slice aN p.nr.length cN, .bool p.al, .slice aD p.dr.length cD, .slice aO p.co.length cO] 27)) (.cells #[.slice bA q.av.length dA, .slice bC q.cu.length dC, .slice bN q.nr.length dN, .bool p.al, .slice bD q.dr.length dD, .slice bO q.co.length dO] 27)) (fun _ f => f.elim)
  obtain ⟨l1, l2, l3, l4, l5⟩ := hOp.len
  obtain ⟨m1, m2, m3, m4, m5⟩ := hOq.len
  have HPx := hideI (hP.kept KA)
  have HQx := hideI (hQ.kept KA)
  have hcv1 := conv_argT (c := cO) HPx.out.co
  have hcv2 := conv_argT (c := dO) HQx.out.co
  have HKA := hideI KA
  have HOp := hideI hOp
  have HOq := hideI hOq
  clear KA hP hQ hOp hOq
  have es : strOfNums q.co = strOfNums p.co := by rw [h2]
  rw [es] at hcv2
  clear es
  have H2 := hideI h2
  clear h2
  have HS1 := fun W (k : Kept (fun _ => False) ((w.alloc (.cells #[.slice aA p.av.length cA, .slice aC p.cu.length cC, .slice aN p.nr.length cN, .bool p.al, .slice aD p.dr.length cD, .slice aO p.co.length cO] 27)).alloc (.cells #[.slice bA q.av.length dA, .slice bC q.cu.length dC, .slice bN q.nr.length dN, .bool p.al, .slice bD q.dr.length dD, .slice bO q.co.length dO] 27)) W) => hideI (sameI_dec p.av q.av aA bA cA dA W (HPx.out.kept k).av (HQx.out.kept k).av l1 m1 true (by simp [h3]))
  have H3 := hideI h3
  clear h3
  have HS2 := fun W (k : Kept (fun _ => False) ((w.alloc (.cells #[.slice aA p.av.length cA, .slice aC p.cu.length cC, .slice aN p.nr.length cN, .bool p.al, .slice aD p.dr.length cD, .slice aO p.co.length cO] 27)).alloc (.cells #[.slice bA q.av.length dA, .slice bC q.cu.length dC, .slice bN q.nr.length dN, .bool p.al, .slice bD q.dr.length dD, .slice bO q.co.length dO] 27)) W) => hideI (sameI_dec p.dr q.dr aD bD cD dD W (HPx.out.kept k).dr (HQx.out.kept k).dr l2 m2 true (by simp [h4]))
  have H4 := hideI h4
  clear h4
  have hlc : ((p.cu.length : Int) != (q.cu.length : Int)) = true := by simp; omega
  have H5 := hideI h5
  clear h5
  have HBP : Hid (((w.alloc (.cells #[.slice aA p.av.length cA, .slice aC p.cu.length cC, .slice aN p.nr.length cN, .bool p.al, .slice aD p.dr.length cD, .slice aO p.co.length cO] 27)).alloc (.cells #[.slice bA q.av.length dA, .slice bC q.cu.length dC, .slice bN q.nr.length dN, .bool p.al, .slice bD q.dr.length dD, .slice bO q.co.length dO] 27)).heap[w.heap.size]? = some (.cells #[.slice aA p.av.length cA, .slice aC p.cu.length cC, .slice aN p.nr.length cN, .bool p.al, .slice aD p.dr.length cD, .slice aO p.co.length cO] 27 (0, 0))) := hideI ((Kept.alloc _ _).heap (heap_alloc_new w _) (fun f => f))
  have HBQ : Hid (((w.alloc (.cells #[.slice aA p.av.length cA, .slice aC p.cu.length cC, .slice aN p.nr.length cN, .bool p.al, .slice aD p.dr.length cD, .slice aO p.co.length cO] 27)).alloc (.cells #[.slice bA q.av.length dA, .slice bC q.cu.length dC, .slice bN q.nr.length dN, .bool p.al, .slice bD q.dr.length dD, .slice bO q.co.length dO] 27)).heap[w.heap.size + 1]? = some (.cells #[.slice bA q.av.length dA, .slice bC q.cu.length dC, .slice bN q.nr.length dN, .bool p.al, .slice bD q.dr.length dD, .slice bO q.co.length dO] 27 (0, 0))) := hideI (by have e := heap_alloc_new (w.alloc (.cells #[.slice aA p.av.length cA, .slice aC p.cu.length cC, .slice aN p.nr.length cN, .bool p.al, .slice aD p.dr.length cD, .slice aO p.co.length cO] 27)) (.cells #[.slice bA q.av.length dA, .slice bC q.cu.length dC, .slice bN q.nr.length dN, .bool p.al, .slice bD q.dr.length dD, .slice bO q.co.length dO] 27); simpa using e)
  go_enter Tryd.func12, Tryd.ntmps12
  go_wp2_with (first
    | (go_at_call 34; refine (HS1 _ (Kept.refl _ _)).out.mono ?_; clear HS1; rintro e W1 ⟨rfl, K1⟩; have HK1 := hideI K1; obtain ⟨y0, y1, y2, y3, y4, y5⟩ := cells6 (K1.heap HBP.out (fun f => f)); obtain ⟨z0, z1, z2, z3, z4, z5⟩ := cells6 (K1.heap HBQ.out (fun f => f)); clear K1)
    | (go_at_call 34; refine (HS2 _ HK1.out).out.mono ?_; clear HS2; rintro e W2 ⟨rfl, K2⟩; have HK2 := hideI (HK1.out.trans K2 (fun _ f => f.elim)); obtain ⟨u0, u1, u2, u3, u4, u5⟩ := cells6 (HK2.out.heap HBP.out (fun f => f)); obtain ⟨v0, v1, v2, v3, v4, v5⟩ := cells6 (HK2.out.heap HBQ.out (fun f => f)); clear K2 y0 y1 y2 y3 y4 y5 z0 z1 z2 z3 z4 z5))
  go_ret
  exact smP_no (fun f => H5.out (by rw [f])) (HKA.out.trans HK2.out (fun _ f => f.elim))
set_option maxRecDepth 20000 in
set_option maxHeartbeats 4000000 in
theorem same_no6 (p q : Pg) (aA aC aN aD aO bA bC bN bD bO : Option Addr) (cA cC cN cD cO dA dC dN dD dO : Nat) (w : World) (hP : PgAt w p aA aC aN aD aO) (hQ : PgAt w q bA bC bN bD bO) (hOp : p.Ok) (hOq : q.Ok) (h2 : p.co = q.co) (h3 : p.av = q.av) (h4 : p.dr = q.dr) (h5 : p.cu.length = q.cu.length) (h6 : p.nr.length ≠ q.nr.length) :
    Calls Tryd.prog 12 #[.agg #[.slice aA p.av.length cA, .slice aC p.cu.length cC, .slice aN p.nr.length cN, .bool p.al, .slice aD p.dr.length cD, .slice aO p.co.length cO], .agg #[.slice bA q.av.length dA, .slice bC q.cu.length dC, .slice bN q.nr.length dN, .bool p.al, .slice bD q.dr.length dD, .slice bO q.co.length dO]] w fun e w' => smP w p q e w' := by
  have KA := (Kept.alloc w (.cells #[.slice aA p.av.length cA, .slice aC p.cu.length cC, .slice aN p.nr.length cN, .bool p.al, .slice aD p.dr.length cD, .slice aO p.co.length cO] 27)).trans (Kept.alloc (w.alloc (.cells #[.slice aA p.av.length cA, .slice aC p.cu.length cC, .slice aN p.nr.length cN, .bool p.al, .slice aD p.dr.length cD, .slice aO p.co.length cO] 27)) (.cells #[.slice bA q.av.length dA, .slice bC q.cu.length dC, .slice bN q.nr.length dN, .bool p.al, .slice bD q.dr.length dD, .slice bO q.co.length dO] 27)) (fun _ f => f.elim)
  obtain ⟨l1, l2, l3, l4, l5⟩ := hOp.len
  obtain ⟨m1, m2, m3, m4, m5⟩ := hOq.len
  have HPx := hideI (hP.kept KA)
  have HQx := hideI (hQ.kept KA)
  have hcv1 := conv_argT (c := cO) HPx.out.co
  have hcv2 := conv_argT (c := dO) HQx.out.co
  have HKA := hideI KA
  have HOp := hideI hOp
  have HOq := hideI hOq
  clear KA hP hQ hOp hOq
  have es : strOfNums q.co = strOfNums p.co := by rw [h2]
  rw [es] at hcv2
  clear es
  have H2 := hideI h2
  clear h2
  have HS1 := fun W (k : Kept (fun _ => False) ((w.alloc (.cells #[.slice aA p.av.length cA, .slice aC p.cu.length cC, .slice aN p.nr.length cN, .bool p.al, .slice aD p.dr.length cD, .slice aO p.co.length cO] 27)).alloc (.cells #[.slice bA q.av.length dA, .slice bC q.cu.length dC, .slice bN q.nr.length dN, .bool p.al, .slice bD q.dr.length dD, .slice bO q.co.length dO] 27)) W) => hideI (sameI_dec p.av q.av aA bA cA dA W (HPx.out.kept k).av (HQx.out.kept k).av l1 m1 true (by simp [h3]))
  have H3 := hideI h3
  clear h3
  have HS2 := fun W (k : Kept (fun _ => False) ((w.alloc (.cells #[.slice aA p.av.length cA, .slice aC p.cu.length cC, .slice aN p.nr.length cN, .bool p.al, .slice aD p.dr.length cD, .slice aO p.co.length cO] 27)).alloc (.cells #[.slice bA q.av.length dA, .slice bC q.cu.length dC, .slice bN q.nr.length dN, .bool p.al, .slice bD q.dr.length dD, .slice bO q.co.length dO] 27)) W) => hideI (sameI_dec p.dr q.dr aD bD cD dD W (HPx.out.kept k).dr (HQx.out.kept k).dr l2 m2 true (by simp [h4]))
  have H4 := hideI h4
  clear h4
  have hlc : ((p.cu.length : Int) != (q.cu.length : Int)) = false := by simp [h5]
  have H5 := hideI h5
  clear h5
  have hln : ((p.nr.length : Int) != (q.nr.length : Int)) = true := by simp; omega
  have H6 := hideI h6
  clear h6
  have HBP : Hid (((w.alloc (.cells #[.slice aA p.av.length cA, .slice aC p.cu.length cC, .slice aN p.nr.length cN, .bool p.al, .slice aD p.dr.length cD, .slice aO p.co.length cO] 27)).alloc (.cells #[.slice bA q.av.length dA, .slice bC q.cu.length dC, .slice bN q.nr.length dN, .bool p.al, .slice bD q.dr.length dD, .slice bO q.co.length dO] 27)).heap[w.heap.size]? = some (.cells #[.slice aA p.av.length cA, .slice aC p.cu.length cC, .slice aN p.nr.length cN, .bool p.al, .slice aD p.dr.length cD, .slice aO p.co.length cO] 27 (0, 0))) := hideI ((Kept.alloc _ _).heap (heap_alloc_new w _) (fun f => f))
  have HBQ : Hid (((w.alloc (.cells #[.slice aA p.av.length cA, .slice aC p.cu.length cC, .slice aN p.nr.length cN, .bool p.al, .slice aD p.dr.length cD, .slice aO p.co.length cO] 27)).alloc (.cells #[.slice bA q.av.length dA, .slice bC q.cu.length dC, .slice bN q.nr.length dN, .bool p.al, .slice bD q.dr.length dD, .slice bO q.co.length dO] 27)).heap[w.heap.size + 1]? = some (.cells #[.slice bA q.av.length dA, .slice bC q.cu.length dC, .slice bN q.nr.length dN, .bool p.al, .slice bD q.dr.length dD, .slice bO q.co.length dO] 27 (0, 0))) := hideI (by have e := heap_alloc_new (w.alloc (.cells #[.slice aA p.av.length cA, .slice aC p.cu.length cC, .slice aN p.nr.length cN, .bool p.al, .slice aD p.dr.length cD, .slice aO p.co.length cO] 27)) (.cells #[.slice bA q.av.length dA, .slice bC q.cu.length dC, .slice bN q.nr.length dN, .bool p.al, .slice bD q.dr.length dD, .slice bO q.co.length dO] 27); simpa using e)
  go_enter Tryd.func12, Tryd.ntmps12
  go_wp2_with (first
    | (go_at_call 34; refine (HS1 _ (Kept.refl _ _)).out.mono ?_; clear HS1; rintro e W1 ⟨rfl, K1⟩; have HK1 := hideI K1; obtain ⟨y0, y1, y2, y3, y4, y5⟩ := cells6 (K1.heap HBP.out (fun f => f)); obtain ⟨z0, z1, z2, z3, z4, z5⟩ := cells6 (K1.heap HBQ.out (fun f => f)); clear K1)
    | (go_at_call 34; refine (HS2 _ HK1.out).out.mono ?_; clear HS2; rintro e W2 ⟨rfl, K2⟩; have HK2 := hideI (HK1.out.trans K2 (fun _ f => f.elim)); obtain ⟨u0, u1, u2, u3, u4, u5⟩ := cells6 (HK2.out.heap HBP.out (fun f => f)); obtain ⟨v0, v1, v2, v3, v4, v5⟩ := cells6 (HK2.out.heap HBQ.out (fun f => f)); clear K2 y0 y1 y2 y3 y4 y5 z0 z1 z2 z3 z4 z5))
  go_ret
  exact smP_no (fun f => H6.out (by rw [f])) (HKA.out.trans HK2.out (fun _ f => f.elim))
end Go.Proofs.YtdklkpbadopkaaaDoor
