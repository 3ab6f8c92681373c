/-
  OWN TEXT. The walk of the law BuddyNew: it returns true and writes nothing that was there.
-/
import Derived.Test.YtamkgakhgfhmjadZcNew
import Derived.Test.YtamkgakhgfhmjadRefZn
import Derived.Test.YtamkgakhgfhmjadSameZ
namespace Go.Proofs.Ytamkgakhgfhmjad
open Go Go.RowKit Go.Proofs.Ytamkgakhgfhmjad.Kit

set_option maxHeartbeats 2000000 in
theorem buddyNew_walk (f t : Int) (w : World) (wf : (Lit.int .i64 f).wf = true) (wt : (Lit.int .i64 t).wf = true) :
    Calls Try.prog 6 #[.int .i64 f, .int .i64 t] w fun e w' => e = .returned (.bool true) ∧ Below w.heap.size w w' := by
  by_cases h : newOk f t
  · have HC := zNew_ok w f t h
    have HR : Hid (∀ W, Calls Try.prog 22 #[.int .i64 f, .int .i64 t] W fun e w' => RetZone W.heap.size w' (newZ f t) e ∧ Below W.heap.size W w') := fun W => zoneNew_ok W f t h
    obtain ⟨Z, hZ⟩ : ∃ Z, newZ f t = Z := ⟨_, rfl⟩
    rw [hZ] at HC HR
    clear hZ h wf wt
    go_enter Try.func6, Try.ntmps6
    go_wp2_with fail
    go_at_call 21
    refine HC.mono ?_
    rintro e w1 ⟨⟨fo, fn, fc, to_, tn, tc, rfl, hz, _, _⟩, hb1⟩
    clear HC
    have hbx := below_box w1 (.cells #[.int .i64 Z.f, .int .i64 Z.t, .slice fo fn fc, .slice to_ tn tc] 50)
    have X := zbox_new w1 (.int .i64 Z.f) (.int .i64 Z.t) (.slice fo fn fc) (.slice to_ tn tc) 50
    replace hz := hz.below hbx
    have hB1 := hb1.trans (hbx.mono hb1.size)
    clear hb1 hbx
    go_wp2_with fail
    go_at_call 22
    refine (HR.out _).mono ?_
    rintro e w2 ⟨⟨go, gn, gc, uo, un, uc, rfl, hy, _, _⟩, hb2⟩
    replace hz := hz.below hb2
    replace X := X.below hb2
    have hB2 := hB1.trans (hb2.mono hB1.size)
    obtain rfl : gn = fn := hy.free.len.symm.trans hz.free.len
    obtain rfl : un = tn := hy.types.len.symm.trans hz.types.len
    have hby := below_box w2 (.cells #[.int .i64 Z.f, .int .i64 Z.t, .slice go gn gc, .slice uo un uc] 50)
    have Y := zbox_new w2 (.int .i64 Z.f) (.int .i64 Z.t) (.slice go gn gc) (.slice uo un uc) 50
    replace X := X.below hby
    replace hz := hz.below hby
    replace hy := hy.below hby
    have hB3 := hB2.trans (hby.mono hB2.size)
    have x0 := X.c0
    have x1 := X.c1
    have x2 := X.c2
    have x3 := X.c3
    have y0 := Y.c0
    have y1 := Y.c1
    have y2 := Y.c2
    have y3 := Y.c3
    clear HR hB1 hb2 hB2 hby X Y
    go_wp2_with fail
    go_at_call 23
    refine (sameZone_eq _ Z.f Z.t fo go to_ uo gn fc gc un tc uc Z hz hy).mono ?_
    rintro e w3 ⟨rfl, hb3⟩
    go_wp2
    go_ret
    exact ⟨rfl, hB3.trans (hb3.mono hB3.size)⟩
  · go_enter Try.func6, Try.ntmps6
    go_wp2_with fail
    go_at_call 21
    refine (zNew_no w f t wf wt h).mono ?_
    rintro e w1 ⟨rfl, hb1⟩
    have hbx := below_box w1 (.cells #[.int .i64 0, .int .i64 0, .slice none 0 0, .slice none 0 0] 50)
    have X := zbox_new w1 (.int .i64 0) (.int .i64 0) (.slice none 0 0) (.slice none 0 0) 50
    have hB1 := hb1.trans (hbx.mono hb1.size)
    clear hb1 hbx wf wt
    go_wp2_with fail
    go_at_call 22
    refine (zoneNew_no _ f t h).mono ?_
    rintro e w2 ⟨rfl, hb2⟩
    replace X := X.below hb2
    have hB2 := hB1.trans (hb2.mono hB1.size)
    have hby := below_box w2 (.cells #[.int .i64 0, .int .i64 0, .slice none 0 0, .slice none 0 0] 50)
    have Y := zbox_new w2 (.int .i64 0) (.int .i64 0) (.slice none 0 0) (.slice none 0 0) 50
    replace X := X.below hby
    have hB3 := hB2.trans (hby.mono hB2.size)
    have x0 := X.c0
    have x1 := X.c1
    have x2 := X.c2
    have x3 := X.c3
    have y0 := Y.c0
    have y1 := Y.c1
    have y2 := Y.c2
    have y3 := Y.c3
    clear hB1 hb2 hB2 hby X Y h
    go_wp2_with fail
    go_at_call 23
    refine (sameZone_eq _ 0 0 none none none none 0 0 0 0 0 0 ⟨0, 0, [], []⟩ ⟨Blks.nil _, Nums.nil _⟩ ⟨Blks.nil _, Nums.nil _⟩).mono ?_
    rintro e w3 ⟨rfl, hb3⟩
    go_wp2
    go_ret
    exact ⟨rfl, hB3.trans (hb3.mono hB3.size)⟩

end Go.Proofs.Ytamkgakhgfhmjad
