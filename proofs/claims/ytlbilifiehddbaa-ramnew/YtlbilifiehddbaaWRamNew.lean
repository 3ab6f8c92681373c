/-
  OWN TEXT. The walk of the law RamNew: it returns true and writes nothing that was there.
-/
import Derived.Test.YtlbilifiehddbaaRamN
import Derived.Test.YtlbilifiehddbaaRefN
import Derived.Test.YtlbilifiehddbaaSame
namespace Go.Proofs.Ytlbilifiehddbaa
open Go Go.RowKit Go.Proofs.Ytlbilifiehddbaa.Kit

theorem ramNew_walk (a : Int) (w : World) (_wf : (Lit.int .i64 a).wf = true) :
    Calls Try.prog 3 #[.int .i64 a] w fun e w' => e = .returned (.bool true) ∧ Below w.heap.size w w' := by
  by_cases h : 0 ≤ a ∧ a ≤ 256
  · obtain ⟨p, rfl⟩ : ∃ p : Nat, a = p := ⟨a.toNat, by omega⟩
    have hp : p ≤ 256 := by omega
    clear h
    go_enter Try.func3, Try.ntmps3
    go_wp2_with (go_at_call 7; refine (new_ok w p hp).mono ?_; rintro e w1 ⟨rfl, hown1, hb1⟩)
    go_wp2_with (go_at_call 8; refine (newOf_ok _ p hp).mono ?_; rintro e w2 ⟨bo, c, rfl, hown2, hb2⟩)
    have i1 := (ints_of_owns hown1).below (hb2.mono (Nat.le_refl _))
    have i2 := ints_of_owns hown2
    go_wp2_with (go_at_call 9; refine (same_eq _ _ _ _ _ _ _ (by simp) (by omega) i1 i2).mono ?_; rintro e w3 ⟨rfl, d, rfl⟩)
    go_ret
    exact ⟨rfl, hb1.trans ((hb2.mono hb1.size).trans (below_drewN (Below.refl _ _) _))⟩
  · go_enter Try.func3, Try.ntmps3
    go_wp2_with (first | (go_at_call 7; refine (new_no _ a (by omega)).mono ?_; rintro e w' ⟨rfl, rfl⟩) | (go_at_call 8; refine (newOf_no _ a (by omega)).mono ?_; rintro e w' ⟨rfl, rfl⟩) | (go_at_call 9; refine (same_eq _ none none 0 0 0 [] rfl (by omega) (IntsAt.nil _ _) (IntsAt.nil _ _)).mono ?_; rintro e w' ⟨rfl, d, rfl⟩))
    go_ret
    exact ⟨rfl, below_drawn _⟩

end Go.Proofs.Ytlbilifiehddbaa
