/-
  OWN TEXT. Contract of the closure of the law BootPages: the page lies in the region.
-/
import Derived.Test.YtfogdgnlbgoakadKpagesF
namespace Go.Proofs.Ytfogdgnlbgoakad
open Go Go.RowKit Go.Proofs.Ytfogdgnlbgoakad.Kit

/-- The page lies in the region. -/
def pageIn (p : Int) (r : Int × Int) : Bool := decide (r.1 ≤ p ∧ p ≤ r.1 + r.2 - 1)

theorem inL_any (l : List (Int × Int)) (p : Int) : inL l p = l.any (pageIn p) := rfl

set_option maxHeartbeats 1000000 in
theorem pagesF_any (W : World) (bb : Nat) (p f s : Int) (c0 : W.cell? ⟨bb, 0, none⟩ = some (.int .i64 p)) (h : regOk (f, s)) :
    Calls Try.prog 9 (#[.agg #[.int .i64 f, .int .i64 s]] ++ #[.pointer (some ⟨bb, 0, none⟩)]) W fun e W' => e = .returned (.bool (pageIn p (f, s))) ∧ Below W.heap.size W W' := by
  have hb0 := below_box W (.cells #[.int .i64 f, .int .i64 s] 35)
  have c1 := keep c0 hb0
  obtain ⟨h1, h2, h3, h4, h5⟩ := h
  dsimp only at h1 h2 h3 h4 h5
  by_cases g1 : f ≤ p
  · by_cases g2 : p < f + s
    · have HF : Hid (pageIn p (f, s) = true) := decide_eq_true (show f ≤ p ∧ p ≤ f + s - 1 by omega)
      clear c0
      go_enter Try.func9, Try.ntmps9
      go_wp2
      go_ret
      exact ⟨ret_bool HF.out.symm, hb0⟩
    · have HF : Hid (pageIn p (f, s) = false) := decide_eq_false (show ¬ (f ≤ p ∧ p ≤ f + s - 1) by omega)
      clear c0
      go_enter Try.func9, Try.ntmps9
      go_wp2
      go_ret
      exact ⟨ret_bool HF.out.symm, hb0⟩
  · have HF : Hid (pageIn p (f, s) = false) := decide_eq_false (show ¬ (f ≤ p ∧ p ≤ f + s - 1) by omega)
    clear c0
    go_enter Try.func9, Try.ntmps9
    go_wp2
    go_ret
    exact ⟨ret_bool HF.out.symm, hb0⟩

end Go.Proofs.Ytfogdgnlbgoakad
