/-
  OWN TEXT. How objects of a size lie in a slab: plain mathematics.
-/
import Derived.Test.YtkfmcihefdhgnaaKit
namespace Go.Proofs.Ytkfmcihefdhgnaa.Kit
open Go Go.RowKit

/-- The order of a slab with objects of 's' words. -/
def layO (s : Int) : Int := if s ≤ 4 then 0 else if s ≤ 8 then 1 else 2
/-- How many of them are in it. -/
def layN (s : Int) : Int := (if s ≤ 4 then 16 else if s ≤ 8 then 32 else 64) / s

theorem tdiv_pos (a s : Int) (ha : 0 ≤ a) : a.tdiv s = a / s := Int.tdiv_eq_ediv_of_nonneg ha
theorem div_ge_four (a s : Int) (hs : 0 < s) (h : 4 * s ≤ a) : 4 ≤ a / s := (Int.le_ediv_iff_mul_le hs).2 h
theorem div_lt_four (a s : Int) (hs : 0 < s) (h : a < 4 * s) : a / s < 4 := (Int.ediv_lt_iff_lt_mul hs).2 h
theorem div_range (a s : Int) (hs : 0 < s) (ha : 0 ≤ a) (hb : a ≤ 64) : 0 ≤ a / s ∧ a / s ≤ 64 :=
  ⟨Int.ediv_nonneg ha (by omega), Int.le_trans (Int.ediv_le_self s ha) hb⟩

end Go.Proofs.Ytkfmcihefdhgnaa.Kit
