/-
  OWN TEXT. Contracts of the document's answer to Store.
-/
import Derived.Test.YtlbilifiehddbaaRefA
namespace Go.Proofs.Ytlbilifiehddbaa
open Go Go.RowKit Go.Proofs.Ytlbilifiehddbaa.Kit

theorem storeOf_no (w : World) (ao : Option Addr) (n cap : Nat) (i v : Int) (hr : n * 8 ≤ 140737488351232) (h : ¬ (0 ≤ i ∧ i < n)) :
    Calls Try.prog 14 #[.slice ao n cap, .int .i64 i, .int .i64 v] w fun e w' => e = .returned (.tuple #[.slice none 0 0, .int .i64 1]) ∧ w = w' := by
  have hI : thereB n i 1 = false := thereB_f (by omega)
  clear h
  go_enter Try.func14, Try.ntmps14
  go_wp2_with (go_at_call 19; refine (there_any _ _ _ _ _ hr _).mono ?_; rintro e w' ⟨rfl, rfl⟩)
  go_ret2
  exact ⟨rfl, rfl⟩

theorem storeOf_yes (w : World) (ao : Option Addr) (n cap k : Nat) (v : Int) (xs : List Int) (hn : xs.length = n) (hr : n * 8 ≤ 140737488351232) (h : k < n) (hx : IntsAt w ao xs) :
    Calls Try.prog 14 #[.slice ao n cap, .int .i64 k, .int .i64 v] w fun e w' => ∃ bo c, e = .returned (.tuple #[.slice bo n c, .int .i64 0]) ∧
      w'.ownsRow w.heap.size 3 1 (.slice bo n c) n (vals (xs.set k v)) ∧ Below w.heap.size w w' := by
  have hI : thereB n k 1 = true := thereB_t (by omega)
  go_enter Try.func14, Try.ntmps14
  go_wp2_with (first | (go_at_call 19; refine (there_any _ _ _ _ _ hr _).mono ?_; rintro e w' ⟨rfl, rfl⟩) | (go_at_call 21; refine (words_any _ _ _ _ xs hn hr hx).mono ?_; rintro e w1 ⟨bo, c, rfl, hown, hb⟩; obtain ⟨g, rfl, hg1, hg2⟩ := owns_head hown (by omega); obtain ⟨hc, hf, hO⟩ := owns_store hown k h v))
  go_ret2
  exact ⟨_, _, rfl, hO, hb.setCell hg1 _⟩

end Go.Proofs.Ytlbilifiehddbaa
