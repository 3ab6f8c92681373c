/-
  OWN TEXT. The walk of the law BuddyPages: it returns true and writes nothing that was there.
-/
import Derived.Test.YtamkgakhgfhmjaeZcPages
import Derived.Test.YtamkgakhgfhmjaeRefZt
import Derived.Test.YtamkgakhgfhmjaeZArgs
namespace Go.Proofs.Ytamkgakhgfhmjae
open Go Go.RowKit Go.Proofs.Ytamkgakhgfhmjae.Kit

/-- Both answer the same. -/
theorem buddyPages_both (z : Zn) (fo : Option Addr) (fn fc : Nat) (to_ : Option Addr) (tn tc : Nat) (w : World) (h : ZnAt w fo fn to_ tn z) (x c : Int)
    (HC : ∀ W, ZnAt W fo fn to_ tn z → Calls Try.prog 7 #[.agg #[.int .i64 z.f, .int .i64 z.t, .slice fo fn fc, .slice to_ tn tc]] W fun e w' => e = .returned (.tuple #[.int .i64 x, .int .i64 c]) ∧ Below W.heap.size W w')
    (HR : ∀ W, ZnAt W fo fn to_ tn z → Calls Try.prog 8 #[.agg #[.int .i64 z.f, .int .i64 z.t, .slice fo fn fc, .slice to_ tn tc]] W fun e w' => e = .returned (.tuple #[.int .i64 x, .int .i64 c]) ∧ Below W.heap.size W w') :
    Calls Try.prog 3 #[.agg #[.int .i64 z.f, .int .i64 z.t, .slice fo fn fc, .slice to_ tn tc]] w fun e w' => e = .returned (.bool true) ∧ Below w.heap.size w w' := by
  have I0 := myInv_first w fo fn fc to_ tn tc z h
  have HC' := HC _ I0.zn
  have HR' : Hid _ := HR
  have c0 := I0.box.c0
  have c1 := I0.box.c1
  have c2 := I0.box.c2
  have c3 := I0.box.c3
  clear h HC HR
  go_enter Try.func3, Try.ntmps3
  go_wp2_with fail
  go_at_call 7
  refine HC'.mono ?_
  rintro e w1 ⟨rfl, hb1⟩
  have I1 := I0.step hb1
  have HR2 := HR'.out _ I1.zn
  replace c0 := I1.box.c0
  replace c1 := I1.box.c1
  replace c2 := I1.box.c2
  replace c3 := I1.box.c3
  clear HC' HR' I0 hb1
  go_wp2_with fail
  go_at_call 8
  refine HR2.mono ?_
  rintro e w2 ⟨rfl, hb2⟩
  have hbb := (I1.step hb2).b
  clear I1 hb2 HR2 c0 c1 c2 c3
  go_wp2
  go_ret
  exact ⟨rfl, hbb⟩

theorem buddyPages_walk (f t : Int) (fo : Option Addr) (fn fc : Nat) (to_ : Option Addr) (tn tc : Nat) (fr : List Bk) (ty : List Int) (w : World) (h : IsZone w fo fn fc to_ tn tc ⟨f, t, fr, ty⟩) :
    Calls Try.prog 3 #[.agg #[.int .i64 f, .int .i64 t, .slice fo fn fc, .slice to_ tn tc]] w fun e w' => e = .returned (.bool true) ∧ Below w.heap.size w w' := by
  by_cases hM : ZMay ⟨f, t, fr, ty⟩
  · exact buddyPages_both ⟨f, t, fr, ty⟩ fo fn fc to_ tn tc w h.zn _ _ (fun W hz => zPages_ok W fo fn fc to_ tn tc ⟨f, t, fr, ty⟩ hz hM) (fun W hz => pagesOf_ok W fo fn fc to_ tn tc ⟨f, t, fr, ty⟩ hz hM)
  · exact buddyPages_both ⟨f, t, fr, ty⟩ fo fn fc to_ tn tc w h.zn _ _ (fun W hz => zPages_no W fo fn fc to_ tn tc ⟨f, t, fr, ty⟩ hz h.fits hM) (fun W hz => pagesOf_no W fo fn fc to_ tn tc ⟨f, t, fr, ty⟩ hz hM)

end Go.Proofs.Ytamkgakhgfhmjae
