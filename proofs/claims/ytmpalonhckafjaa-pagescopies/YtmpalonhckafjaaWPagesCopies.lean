/-
  OWN TEXT. The walk of the law PagesCopies: it returns true and writes nothing that was there.
-/
import Derived.Test.YtmpalonhckafjaaHcCopy
import Derived.Test.YtmpalonhckafjaaSameH
namespace Go.Proofs.Ytmpalonhckafjaa
open Go Go.RowKit Go.Proofs.Ytmpalonhckafjaa.Kit

set_option maxHeartbeats 1000000 in
theorem pagesCopies_walk (x : Hx) (w : World) (h : IsHeap w x) :
    Calls Try.prog 5 #[.agg #[.slice x.zo x.zn x.zc, .slice x.mo x.mn x.mc, .int .i64 x.cpus, .slice x.lo x.ln x.lc, .slice x.vo x.vn x.vc]] w fun e w' => e = .returned (.bool true) ∧ Below w.heap.size w w' := by
  have hx := h.at_
  clear h
  have hb1 := below_box w (.cells #[.slice x.zo x.zn x.zc, .slice x.mo x.mn x.mc, .int .i64 x.cpus, .slice x.lo x.ln x.lc, .slice x.vo x.vn x.vc] 28)
  have A1 := hbox_new w (.slice x.zo x.zn x.zc) (.slice x.mo x.mn x.mc) (.int .i64 x.cpus) (.slice x.lo x.ln x.lc) (.slice x.vo x.vn x.vc) 28
  replace hx := hx.below hb1
  have a0 := A1.c0
  have a1 := A1.c1
  have a2 := A1.c2
  have a3 := A1.c3
  have a4 := A1.c4
  have HC := pCopy_own _ x hx
  go_enter Try.func5, Try.ntmps5
  go_wp2_with fail
  go_at_call 13
  refine HC.mono ?_
  rintro e w2 ⟨⟨gz, gl, gv, y, rfl, ey, O⟩, hb2⟩
  have hb3 := below_box w2 (.cells #[.slice y.zo y.zn y.zc, .slice y.mo y.mn y.mc, .int .i64 y.cpus, .slice y.lo y.ln y.lc, .slice y.vo y.vn y.vc] 28)
  have A2 := hbox_new w2 (.slice y.zo y.zn y.zc) (.slice y.mo y.mn y.mc) (.int .i64 y.cpus) (.slice y.lo y.ln y.lc) (.slice y.vo y.vn y.vc) 28
  have hy := O.at_.below hb3
  replace hx := (hx.below hb2).below hb3
  replace A1 := (A1.below hb2).below hb3
  have hB := hb1.trans ((hb2.trans (hb3.mono hb2.size)).mono hb1.size)
  have HS := sameHeap_eq _ y x hy hx ey
  clear HC a0 a1 a2 a3 a4 O
  have a0 := A1.c0
  have a1 := A1.c1
  have a2 := A1.c2
  have a3 := A1.c3
  have a4 := A1.c4
  have c0 := A2.c0
  have c1 := A2.c1
  have c2 := A2.c2
  have c3 := A2.c3
  have c4 := A2.c4
  go_wp2_with fail
  go_at_call 10
  refine HS.mono ?_
  rintro e w4 ⟨rfl, hb4⟩
  clear a0 a1 a2 a3 a4 c0 c1 c2 c3 c4 HS
  go_wp2
  go_ret
  exact ⟨rfl, hB.trans (hb4.mono hB.size)⟩

end Go.Proofs.Ytmpalonhckafjaa
