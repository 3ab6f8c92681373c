/-
  OWN TEXT. Contracts of ram.Load.
-/
import Derived.Test.YtlbilifiehddbabRamA
namespace Go.Proofs.Ytlbilifiehddbab
open Go Go.RowKit Go.Proofs.Ytlbilifiehddbab.Kit

theorem load_no (w : World) (ao : Option Addr) (n cap : Nat) (i : Int) (h : ¬ (0 ≤ i ∧ i < n)) :
    Calls Try.prog 10 #[.slice ao n cap, .int .i64 i] w fun e w' => e = .returned (.tuple #[.int .i64 0, .int .i64 1]) ∧ w = w' := by
  have hI : addrB n i = false := addrB_f h
  clear h
  go_enter Try.func10, Try.ntmps10
  go_wp2_with (go_at_call 16; refine (isAddr_any _ _ _ _ _).mono ?_; rintro e w' ⟨rfl, rfl⟩)
  go_ret2
  exact ⟨rfl, rfl⟩

theorem load_yes (w : World) (ao : Option Addr) (n cap k : Nat) (xs : List Int) (hn : xs.length = n) (h : k < n) (hx : IntsAt w ao xs) :
    Calls Try.prog 10 #[.slice ao n cap, .int .i64 k] w fun e w' => e = .returned (.tuple #[.int .i64 (xs.getD k 0), .int .i64 0]) ∧ w = w' := by
  have hI : addrB n k = true := addrB_t (by omega)
  obtain ⟨b, o, x, rfl, c, hX⟩ := hx.at k (by omega)
  clear hx
  rw [hX.out]
  go_enter Try.func10, Try.ntmps10
  go_wp2_with (go_at_call 16; refine (isAddr_any _ _ _ _ _).mono ?_; rintro e w' ⟨rfl, rfl⟩)
  go_ret2
  exact ⟨rfl, rfl⟩

end Go.Proofs.Ytlbilifiehddbab
