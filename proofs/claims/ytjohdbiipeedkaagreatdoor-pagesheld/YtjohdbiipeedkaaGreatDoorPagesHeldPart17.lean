/-
  OWN TEXTS.
-/
import Derived.Test.YtjohdbiipeedkaaGreatDoorPagesHeldPart16
import Derived.Test.YtjohdbiipeedkaaGreatDoorRows
import Derived.LaidMore
import Derived.Stop.Joined
import Derived.Lib.LaidTab
import Derived.MakeChecks
set_option maxRecDepth 10000
set_option maxHeartbeats 4000000
namespace Go.Proofs.YtjohdbiipeedkaaGreatDoor
open Go Go.ChangeShapes Go.WideShapes Go.ChangeAt Go.RowKit
theorem gTab : Tryz.prog.globalNamed "paddock/buddy.instead" = some 0 := by kernel_rfl
theorem tTab : (Tryz.prog.globals[0]?).map (·.type) = some 148 := by kernel_rfl
abbrev tabLaid : List (String × DataW Unit) := [("paddock/buddy.instead", Rows.laid_paddock_buddy_instead)]
theorem door_met (os : Os) (args : Array Value) : laidMetH Tryz.prog tabLaid ((World.doorLaid Tryz.prog 400 os).forCall (fun _ _ => 0) ⟨#[], args, []⟩).memory :=
 laidMetH_of_parts3 (fuel := 8) (laidMet_of_run' 8 (by kernel_rfl) (by kernel_rfl)) (by kernel_rfl) (by kernel_rfl)
theorem row2 {W : World} {enc : TypeId × Value → Unit} {m : Nat} {cs : List Value} {x y : Int} {p : List MemPlace} (h : DataW.trod enc Tryz.prog W 0 (fun _ => true) false m 147 cs = some (.agg [.lit (.int .i64 x), .lit (.int .i64 y)], p)) : cs = [.int .i64 x, .int .i64 y] := by
 have := Lib.cells_of_tab (zs := [x, y]) Tryz.underlying147 Tryz.underlying3 (by kernel_rfl) (by kernel_rfl) h
 simpa using this
theorem tab_of_laid {W : World} (h : laidMetH Tryz.prog tabLaid W) : TabAt W := by
 rw [MakeChecks.laidMetH_plain _ _ _ (by kernel_rfl)] at h
 obtain ⟨ps, ⟨g0, t0, cs0, f0, p0, q0, hg0, ht0, hv0, hd0, _⟩, _, _⟩ := h
 obtain rfl := Option.some.inj (gTab.symm.trans hg0)
 obtain rfl := Option.some.inj (tTab.symm.trans ht0)
 obtain ⟨xs, m1, rfl, hx1, hlen, hn3, hel⟩ := DataW.trod_array Tryz.underlying148 hd0
 have c2 : Tryz.prog.cellsOf 147 = 2 := by kernel_rfl
 have c6 : Tryz.prog.cellsOf 148 = 6 := by kernel_rfl
 rw [c6] at hlen
 rw [c2] at hel
 have e0 := hel 0 (by decide)
 have e1 := hel 1 (by decide)
 have e2 := hel 2 (by decide)
 simp only [Prod.mk.injEq, Rows.laid_paddock_buddy_instead, DataW.agg.injEq] at hx1
 match xs, hn3, hx1, e0, e1, e2 with
 | [x0, x1, x2], _, hx1, e0, e1, e2 =>
  obtain ⟨x0, y0⟩ := x0
  obtain ⟨x1, y1⟩ := x1
  obtain ⟨x2, y2⟩ := x2
  simp only [List.map_cons, List.map_nil, List.cons.injEq, and_true] at hx1
  obtain ⟨⟨rfl, rfl, rfl⟩, _⟩ := hx1
  have r0 := row2 (show _ = some (_, y0) from e0)
  have r1 := row2 (show _ = some (_, y1) from e1)
  have r2 := row2 (show _ = some (_, y2) from e2)
  have hc := World.var?_cell hg0 hv0
  obtain ⟨l⟩ := cs0
  match l, hlen with
  | [a, b, c, d, e, f], _ =>
   simp at r0 r1 r2
   obtain ⟨rfl, rfl⟩ := r0
   obtain ⟨rfl, rfl⟩ := r1
   obtain ⟨rfl, rfl⟩ := r2
   exact ⟨by rw [hc 0]; rfl, by rw [hc 1]; rfl, by rw [hc 2]; rfl, by rw [hc 3]; rfl, by rw [hc 4]; rfl, by rw [hc 5]; rfl⟩
end Go.Proofs.YtjohdbiipeedkaaGreatDoor
