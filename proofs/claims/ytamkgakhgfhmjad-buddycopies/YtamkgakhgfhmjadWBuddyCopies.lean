/-
  OWN TEXT. The walk of the law BuddyCopies: it returns true and writes nothing that was there.
-/
import Derived.Test.YtamkgakhgfhmjadZcCopy
import Derived.Test.YtamkgakhgfhmjadSameZ
import Derived.Test.YtamkgakhgfhmjadZArgs
namespace Go.Proofs.Ytamkgakhgfhmjad
open Go Go.RowKit Go.Proofs.Ytamkgakhgfhmjad.Kit

set_option maxHeartbeats 2000000 in
theorem buddyCopies_walk (f t : Int) (fo : Option Addr) (fn fc : Nat) (to_ : Option Addr) (tn tc : Nat) (fr : List Bk) (ty : List Int) (w : World) (h : IsZone w fo fn fc to_ tn tc ⟨f, t, fr, ty⟩) :
    Calls Try.prog 8 #[.agg #[.int .i64 f, .int .i64 t, .slice fo fn fc, .slice to_ tn tc]] w fun e w' => e = .returned (.bool true) ∧ Below w.heap.size w w' := by
  have hz := h.zn
  clear h
  have hb1 := below_box w (.cells #[.int .i64 f, .int .i64 t, .slice fo fn fc, .slice to_ tn tc] 50)
  have X := zbox_new w (.int .i64 f) (.int .i64 t) (.slice fo fn fc) (.slice to_ tn tc) 50
  replace hz := hz.below hb1
  have HC := zCopy_any _ fo fn fc to_ tn tc ⟨f, t, fr, ty⟩ hz
  dsimp only at HC
  have x0 := X.c0
  have x1 := X.c1
  have x2 := X.c2
  have x3 := X.c3
  go_enter Try.func8, Try.ntmps8
  go_wp2_with fail
  go_at_call 26
  refine HC.mono ?_
  rintro e w1 ⟨⟨go, gn, gc, uo, un, uc, rfl, hy, _, _⟩, hb2⟩
  clear HC
  dsimp only
  replace hz := hz.below hb2
  replace X := X.below hb2
  have hB2 := hb1.trans (hb2.mono hb1.size)
  obtain rfl : gn = fn := hy.free.len.symm.trans hz.free.len
  obtain rfl : un = tn := hy.types.len.symm.trans hz.types.len
  have hby := below_box w1 (.cells #[.int .i64 f, .int .i64 t, .slice go gn gc, .slice uo un uc] 50)
  have Y := zbox_new w1 (.int .i64 f) (.int .i64 t) (.slice go gn gc) (.slice uo un uc) 50
  replace X := X.below hby
  replace hz := hz.below hby
  replace hy := hy.below hby
  have hB3 := hB2.trans (hby.mono hB2.size)
  replace x0 := X.c0
  replace x1 := X.c1
  replace x2 := X.c2
  replace x3 := X.c3
  have y0 := Y.c0
  have y1 := Y.c1
  have y2 := Y.c2
  have y3 := Y.c3
  clear hb1 hb2 hB2 hby X Y
  go_wp2_with fail
  go_at_call 23
  refine (sameZone_eq _ f t go fo uo to_ gn gc fc un uc tc ⟨f, t, fr, ty⟩ hy hz).mono ?_
  rintro e w3 ⟨rfl, hb3⟩
  go_wp2
  go_ret
  exact ⟨rfl, hB3.trans (hb3.mono hB3.size)⟩

end Go.Proofs.Ytamkgakhgfhmjad
