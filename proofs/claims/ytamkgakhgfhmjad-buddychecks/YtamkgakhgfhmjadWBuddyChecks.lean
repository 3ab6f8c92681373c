/-
  OWN TEXT. The walk of the law BuddyChecks: it returns true and writes nothing that was there.
-/
import Derived.Test.YtamkgakhgfhmjadZcCheck
import Derived.Test.YtamkgakhgfhmjadRefZm
namespace Go.Proofs.Ytamkgakhgfhmjad
open Go Go.RowKit Go.Proofs.Ytamkgakhgfhmjad.Kit

set_option maxHeartbeats 2000000 in
theorem buddyChecks_walk (f t : Int) (fo : Option Addr) (fn fc : Nat) (to_ : Option Addr) (tn tc : Nat) (fr : List Bk) (ty : List Int) (w : World) (h : IsZone w fo fn fc to_ tn tc ⟨f, t, fr, ty⟩) :
    Calls Try.prog 7 #[.agg #[.int .i64 f, .int .i64 t, .slice fo fn fc, .slice to_ tn tc]] w fun e w' => e = .returned (.bool true) ∧ Below w.heap.size w w' := by
  have I0 := myInv_first w fo fn fc to_ tn tc _ h.zn
  have hF := h.fits
  dsimp only at I0
  clear h
  by_cases hM : ZMay ⟨f, t, fr, ty⟩
  · have HC := zCheck_ok _ fo fn fc to_ tn tc ⟨f, t, fr, ty⟩ I0.zn hM
    have c0 := I0.box.c0
    have c1 := I0.box.c1
    have c2 := I0.box.c2
    have c3 := I0.box.c3
    dsimp only at HC c0 c1 c2 c3
    go_enter Try.func7, Try.ntmps7
    go_wp2_with fail
    go_at_call 24
    refine HC.mono ?_
    rintro e w1 ⟨rfl, hb1⟩
    have I1 := I0.step hb1
    replace c0 := I1.box.c0
    replace c1 := I1.box.c1
    replace c2 := I1.box.c2
    replace c3 := I1.box.c3
    have HR := zoneMay_any w1 fo fn fc to_ tn tc ⟨f, t, fr, ty⟩ I1.zn
    dsimp only at HR c0 c1 c2 c3
    clear HC I0 hb1
    go_wp2_with fail
    go_at_call 25
    refine HR.mono ?_
    rintro e w2 ⟨⟨r, rfl, hr⟩, hb2⟩
    obtain rfl : r = true := hr.2 hM
    have hbb := (I1.step hb2).b
    clear hr hM I1 hb2 HR c0 c1 c2 c3 hF
    go_wp2
    go_ret
    exact ⟨rfl, hbb⟩
  · have HC := zCheck_no _ fo fn fc to_ tn tc ⟨f, t, fr, ty⟩ I0.zn hF hM
    have c0 := I0.box.c0
    have c1 := I0.box.c1
    have c2 := I0.box.c2
    have c3 := I0.box.c3
    dsimp only at HC c0 c1 c2 c3
    go_enter Try.func7, Try.ntmps7
    go_wp2_with fail
    go_at_call 24
    refine HC.mono ?_
    rintro e w1 ⟨rfl, hb1⟩
    have I1 := I0.step hb1
    replace c0 := I1.box.c0
    replace c1 := I1.box.c1
    replace c2 := I1.box.c2
    replace c3 := I1.box.c3
    have HR := zoneMay_any w1 fo fn fc to_ tn tc ⟨f, t, fr, ty⟩ I1.zn
    dsimp only at HR c0 c1 c2 c3
    clear HC I0 hb1
    go_wp2_with fail
    go_at_call 25
    refine HR.mono ?_
    rintro e w2 ⟨⟨r, rfl, hr⟩, hb2⟩
    obtain rfl : r = false := by
      cases r with
      | false => rfl
      | true => exact absurd (hr.1 rfl) hM
    have hbb := (I1.step hb2).b
    clear hr hM I1 hb2 HR c0 c1 c2 c3 hF
    go_wp2
    go_ret
    exact ⟨rfl, hbb⟩

end Go.Proofs.Ytamkgakhgfhmjad
