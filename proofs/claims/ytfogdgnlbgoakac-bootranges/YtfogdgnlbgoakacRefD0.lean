/-
  OWN TEXT. What a closure is asked for drawn.
-/
import Derived.Test.YtfogdgnlbgoakacRefR
import Derived.Test.YtfogdgnlbgoakacRPure
namespace Go.Proofs.Ytfogdgnlbgoakac
open Go Go.RowKit Go.Proofs.Ytfogdgnlbgoakac.Kit

theorem drawn_len (h : Int → Bool) (k : Nat) : (drawnK h k).length ≤ k := by
  induction k with
  | zero => simp [drawnK]
  | succ k ih =>
    simp only [drawnK]
    split
    · split
      · simp [bump]; omega
      · simp; omega
    · omega

/-- What the closure does, whatever new memory there is. -/
def HoldsAt (F : Nat) (caps : Array Value) (h : Int → Bool) (w : World) : Prop :=
  ∀ (p : Int) (W : World), 0 ≤ p → p < 256 → Below w.heap.size w W → Calls Try.prog F (#[Value.int .i64 p] ++ caps) W fun e W' => e = .returned (.bool (h p)) ∧ ∃ d, W' = W.drewN d

end Go.Proofs.Ytfogdgnlbgoakac
