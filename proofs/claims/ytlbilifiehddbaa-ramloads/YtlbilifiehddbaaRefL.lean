/-
  OWN TEXT. Contracts of the document's answer to Load.
-/
import Derived.Test.YtlbilifiehddbaaRefA
namespace Go.Proofs.Ytlbilifiehddbaa
open Go Go.RowKit Go.Proofs.Ytlbilifiehddbaa.Kit

theorem loadOf_no (w : World) (ao : Option Addr) (n cap : Nat) (i : Int) (hr : n * 8 ≤ 140737488351232) (h : ¬ (0 ≤ i ∧ i < n)) :
    Calls Try.prog 11 #[.slice ao n cap, .int .i64 i] w fun e w' => e = .returned (.tuple #[.int .i64 0, .int .i64 1]) ∧ w = w' := by
  have hI : thereB n i 1 = false := thereB_f (by omega)
  clear h
  go_enter Try.func11, Try.ntmps11
  go_wp2_with (go_at_call 19; refine (there_any _ _ _ _ _ hr _).mono ?_; rintro e w' ⟨rfl, rfl⟩)
  go_ret2
  exact ⟨rfl, rfl⟩

theorem loadOf_yes (w : World) (ao : Option Addr) (n cap k : Nat) (xs : List Int) (hn : xs.length = n) (hr : n * 8 ≤ 140737488351232) (h : k < n) (hx : IntsAt w ao xs) :
    Calls Try.prog 11 #[.slice ao n cap, .int .i64 k] w fun e w' => e = .returned (.tuple #[.int .i64 (xs.getD k 0), .int .i64 0]) ∧ w = w' := by
  have hI : thereB n k 1 = true := thereB_t (by omega)
  obtain ⟨b, o, x, rfl, c, hX⟩ := hx.at k (by omega)
  clear hx
  rw [hX.out]
  go_enter Try.func11, Try.ntmps11
  go_wp2_with (go_at_call 19; refine (there_any _ _ _ _ _ hr _).mono ?_; rintro e w' ⟨rfl, rfl⟩)
  go_ret2
  exact ⟨rfl, rfl⟩

end Go.Proofs.Ytlbilifiehddbaa
