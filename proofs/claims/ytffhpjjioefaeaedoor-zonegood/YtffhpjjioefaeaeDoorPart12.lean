/-
  OWN TEXTS, bundled: WZoneGood.
-/
import Derived.Test.YtffhpjjioefaeaeDoorPart11

/-
  OWN TEXT. The walk of the law ZoneGood: it returns true and writes nothing that was there.
-/
namespace Go.Proofs.YtffhpjjioefaeaeDoor
open Go Go.RowKit Go.Proofs.YtffhpjjioefaeaeDoor.Kit

set_option maxHeartbeats 4000000 in
theorem zoneGood_walk (ao : Option Addr) (n cap : Nat) (l : List Raw4) (w : World) (h : IsRaws w ao n cap l) (hT : TabAt w) :
    Calls Tryd.prog 4 #[.slice ao n cap] w fun e w' => e = .returned (.bool true) ∧ Below w.heap.size w w' := by
  go_enter Tryd.func4, Tryd.ntmps4
  go_wp2_with fail
  go_at_call 9
  refine (zoned_any w ao n cap l h 60 (by omega) hT).mono ?_
  rintro e w1 ⟨z, aw, fo, fn, fc, to_, tn, tc, ro, m, rcap, rfl, hz, _, hZ, _, _, hb1⟩
  have hbx := below_box w1 (.cells #[.int .i64 z.f, .int .i64 z.t, .slice fo fn fc, .slice to_ tn tc] 25)
  have B1 := zbox_new w1 (.int .i64 z.f) (.int .i64 z.t) (.slice fo fn fc) (.slice to_ tn tc) 25
  have z1 := hz.below hbx
  have hB1 := hb1.trans (hbx.mono hb1.size)
  obtain ⟨W1, hW1⟩ : ∃ W1, w1.alloc (.cells #[.int .i64 z.f, .int .i64 z.t, .slice fo fn fc, .slice to_ tn tc] 25) = W1 := ⟨_, rfl⟩
  rw [hW1] at B1 z1 hB1
  have HW1 : Hid _ := hW1
  have c0 := B1.c0
  have c1 := B1.c1
  have c2 := B1.c2
  have c3 := B1.c3
  clear hW1 hbx hz hb1 h
  go_wp2_with (rw [HW1.out])
  go_at_call 10
  refine (zCheck_ok _ fo fn fc to_ tn tc z z1 hZ.may).mono ?_
  rintro e w2 ⟨rfl, hb2⟩
  have z2 := z1.below hb2
  have hB2 := hB1.trans (hb2.mono hB1.size)
  have B2 := B1.below hb2
  clear c0 c1 c2 c3 HW1
  have c0 := B2.c0
  have c1 := B2.c1
  have c2 := B2.c2
  have c3 := B2.c3
  go_wp2_with fail
  go_at_call 11
  refine (zCopy_any _ fo fn fc to_ tn tc z z2).mono ?_
  rintro e w3 ⟨⟨fo', fn', fc', to', tn', tc', rfl, z3, _, _⟩, hb3⟩
  have hB3 := hB2.trans (hb3.mono hB2.size)
  go_wp2_with fail
  go_at_call 10
  refine (zCheck_ok _ fo' fn' fc' to' tn' tc' z z3 hZ.may).mono ?_
  rintro e w4 ⟨rfl, hb4⟩
  have hB4 := hB3.trans (hb4.mono hB3.size)
  clear c0 c1 c2 c3 B1 B2 z1 z2 z3
  have hno : ¬ ZMay ⟨1, 0, [], []⟩ := fun g => by have := g.new.2.1; dsimp only at this; omega
  go_wp2_with fail
  go_at_call 10
  refine (zCheck_no _ none 0 0 none 0 0 ⟨1, 0, [], []⟩ ⟨⟨rfl, by omega, fun i hi => absurd hi (by simp)⟩, ⟨rfl, by omega, fun i hi => absurd hi (by simp)⟩⟩ ⟨by decide, by decide, fun i hi => absurd hi (by simp)⟩ hno).mono ?_
  rintro e w5 ⟨rfl, hb5⟩
  have hB5 := hB4.trans (hb5.mono hB4.size)
  go_wp2
  go_ret
  exact ⟨rfl, hB5⟩

end Go.Proofs.YtffhpjjioefaeaeDoor
