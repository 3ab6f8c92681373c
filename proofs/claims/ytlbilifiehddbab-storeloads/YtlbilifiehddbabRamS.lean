/-
  OWN TEXT. Contracts of ram.Store.
-/
import Derived.Test.YtlbilifiehddbabRamA
namespace Go.Proofs.Ytlbilifiehddbab
open Go Go.RowKit Go.Proofs.Ytlbilifiehddbab.Kit

theorem store_no (w : World) (ao : Option Addr) (n cap : Nat) (i v : Int) (h : ¬ (0 ≤ i ∧ i < n)) :
    Calls Try.prog 9 #[.slice ao n cap, .int .i64 i, .int .i64 v] w fun e w' => e = .returned (.tuple #[.slice none 0 0, .int .i64 1]) ∧ w = w' := by
  have hI : addrB n i = false := addrB_f h
  clear h
  go_enter Try.func9, Try.ntmps9
  go_wp2_with (go_at_call 16; refine (isAddr_any _ _ _ _ _).mono ?_; rintro e w' ⟨rfl, rfl⟩)
  go_ret2
  exact ⟨rfl, rfl⟩

theorem store_yes (w : World) (ao : Option Addr) (n cap k : Nat) (v : Int) (xs : List Int) (hn : xs.length = n) (hr : n * 8 ≤ 140737488351232) (h : k < n) (hx : IntsAt w ao xs) :
    Calls Try.prog 9 #[.slice ao n cap, .int .i64 k, .int .i64 v] w fun e w' => ∃ bo c, e = .returned (.tuple #[.slice bo n c, .int .i64 0]) ∧
      w'.ownsRow w.heap.size 3 1 (.slice bo n c) n (vals (xs.set k v)) ∧ Below w.heap.size w w' := by
  have hI : addrB n k = true := addrB_t (by omega)
  go_enter Try.func9, Try.ntmps9
  go_wp2_with (first | (go_at_call 16; refine (isAddr_any _ _ _ _ _).mono ?_; rintro e w' ⟨rfl, rfl⟩) | (go_at_call 17; refine (clone_any _ _ _ _ xs hn hr hx).mono ?_; rintro e w1 ⟨g, rfl, hown, hb⟩; obtain ⟨hc, hf, hO⟩ := owns_store hown k h v))
  go_ret2
  exact ⟨_, _, rfl, hO, hb.setCell (owns_head hown (by omega) |>.elim fun g' hg => by have := hg.1; simp at this; subst this; exact hg.2.1) _⟩

end Go.Proofs.Ytlbilifiehddbab
