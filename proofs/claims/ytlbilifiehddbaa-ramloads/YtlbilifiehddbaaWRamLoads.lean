/-
  OWN TEXT. The walk of the law RamLoads: it returns true and writes nothing that was there.
-/
import Derived.Test.YtlbilifiehddbaaRamL
import Derived.Test.YtlbilifiehddbaaRefL
namespace Go.Proofs.Ytlbilifiehddbaa
open Go Go.RowKit Go.Proofs.Ytlbilifiehddbaa.Kit

theorem ramLoads_walk (ao : Option Addr) (n cap : Nat) (xs : List Int) (i : Int) (w : World) (h : IsInts w ao n cap xs) (_wf : (Lit.int .i64 i).wf = true) :
    Calls Try.prog 4 #[.slice ao n cap, .int .i64 i] w fun e w' => e = .returned (.bool true) ∧ Below w.heap.size w w' := by
  obtain ⟨hn, hle, hr, _, hx⟩ := h
  have hr' : n * 8 ≤ 140737488351232 := by omega
  by_cases hi : 0 ≤ i ∧ i < n
  · obtain ⟨k, rfl⟩ : ∃ k : Nat, i = k := ⟨i.toNat, by omega⟩
    have hk : k < n := by omega
    clear hi
    go_enter Try.func4, Try.ntmps4
    go_wp2_with (first | (go_at_call 10; refine (load_yes _ _ _ _ k xs hn hk hx).mono ?_; rintro e w' ⟨rfl, rfl⟩) | (go_at_call 11; refine (loadOf_yes _ _ _ _ k xs hn hr' hk hx).mono ?_; rintro e w' ⟨rfl, rfl⟩))
    go_ret
    exact ⟨rfl, Below.refl _ _⟩
  · go_enter Try.func4, Try.ntmps4
    go_wp2_with (first | (go_at_call 10; refine (load_no _ _ _ _ _ hi).mono ?_; rintro e w' ⟨rfl, rfl⟩) | (go_at_call 11; refine (loadOf_no _ _ _ _ _ hr' hi).mono ?_; rintro e w' ⟨rfl, rfl⟩))
    go_ret
    exact ⟨rfl, Below.refl _ _⟩

end Go.Proofs.Ytlbilifiehddbaa
