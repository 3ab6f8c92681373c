/-
  OWN TEXT. Pages come back one by one: plain mathematics.
-/
import Derived.Test.YtamkgakhgfhmjaeZMayB
namespace Go.Proofs.Ytamkgakhgfhmjae.Kit

/-- n pages, from p on, come back one by one; none: one of them is free. -/
def giveK : Nat → Zn → Int → Option Zn
  | 0, z, _ => some z
  | n + 1, z, p => if z.free.any (ovl1 (p + pw 0) p) = true then none else giveK n (backZ z p 0) (p + 1)

/-- What may be given. -/
def giveOk (z : Zn) (a s : Int) : Prop := z.f ≤ a ∧ a ≤ z.t ∧ 0 ≤ s ∧ s ≤ z.t - a

theorem page_in {z : Zn} {p : Int} (h1 : z.f ≤ p) (h2 : p < z.t) : blkIn z.f z.t p 0 := ⟨⟨by omega, by omega⟩, h1, by omega, by rw [pw_0]; omega⟩
theorem give_none {n : Nat} {z : Zn} {p : Int} (h : ovlP z.free p 0) : giveK (n + 1) z p = none := by
  unfold giveK
  rw [if_pos ((ovl_any z.free p 0).2 h)]
theorem give_some {n : Nat} {z : Zn} {p : Int} (h : ¬ ovlP z.free p 0) : giveK (n + 1) z p = giveK n (backZ z p 0) (p + 1) := by
  show (if _ then _ else _) = _
  rw [if_neg (fun g => h ((ovl_any z.free p 0).1 g))]

end Go.Proofs.Ytamkgakhgfhmjae.Kit
