/-
  OWN TEXT. The walk of the law BootRegions: it returns true and writes nothing that was there.
-/
import Derived.Test.YtfogdgnlbgoakabBcRegion
namespace Go.Proofs.Ytfogdgnlbgoakab
open Go Go.RowKit Go.Proofs.Ytfogdgnlbgoakab.Kit

theorem bootRegions_walk (f s : Int) (w : World) (_w0 : (Lit.int .i64 f).wf = true) (_w1 : (Lit.int .i64 s).wf = true) :
    Calls Try.prog 7 #[.agg #[.int .i64 f, .int .i64 s]] w fun e w' => e = .returned (.bool true) ∧ Below w.heap.size w w' := by
  have hb0 := below_box w (.cells #[.int .i64 f, .int .i64 s] 38)
  by_cases h : regOk (f, s)
  · go_enter Try.func7, Try.ntmps7
    go_wp2_with fail
    go_at_call 18
    refine (checkRegion_ok _ f s h).mono ?_
    rintro e w1 ⟨rfl, hb1⟩
    have c0 : w1.cell? ⟨w.heap.size, 0, none⟩ = some (.int .i64 f) := (hb1.cell (p := ⟨w.heap.size, 0, none⟩) (by simp)).trans (by simp)
    have c1 : w1.cell? ⟨w.heap.size, 1, none⟩ = some (.int .i64 s) := (hb1.cell (p := ⟨w.heap.size, 1, none⟩) (by simp)).trans (by simp)
    go_wp2_with fail
    go_at_call 19
    refine (fault_ok _ f s h).mono ?_
    rintro e w2 ⟨rfl, hb2⟩
    go_wp2
    go_ret
    exact ⟨rfl, hb0.trans ((hb1.mono hb0.size).trans (hb2.mono (Nat.le_trans hb0.size hb1.size)))⟩
  · go_enter Try.func7, Try.ntmps7
    go_wp2_with fail
    go_at_call 18
    refine (checkRegion_no _ f s (wf_top _w1) h).mono ?_
    rintro e w1 ⟨rfl, hb1⟩
    have c0 : w1.cell? ⟨w.heap.size, 0, none⟩ = some (.int .i64 f) := (hb1.cell (p := ⟨w.heap.size, 0, none⟩) (by simp)).trans (by simp)
    have c1 : w1.cell? ⟨w.heap.size, 1, none⟩ = some (.int .i64 s) := (hb1.cell (p := ⟨w.heap.size, 1, none⟩) (by simp)).trans (by simp)
    go_wp2_with fail
    go_at_call 19
    refine (fault_no _ f s h).mono ?_
    rintro e w2 ⟨rfl, hb2⟩
    go_wp2
    go_ret
    exact ⟨rfl, hb0.trans ((hb1.mono hb0.size).trans (hb2.mono (Nat.le_trans hb0.size hb1.size)))⟩

end Go.Proofs.Ytfogdgnlbgoakab
