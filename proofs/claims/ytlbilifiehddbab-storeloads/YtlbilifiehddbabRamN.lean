/-
  OWN TEXT. Contracts of ram.New.
-/
import Derived.Test.YtlbilifiehddbabBase
namespace Go.Proofs.Ytlbilifiehddbab
open Go Go.RowKit Go.Proofs.Ytlbilifiehddbab.Kit

theorem new_ok (w : World) (p : Nat) (hp : p ≤ 256) :
    Calls Try.prog 7 #[.int .i64 p] w fun e w' => e = .returned (.tuple #[.slice (some ⟨w.heap.size, 0, none⟩) (p * 16) (p * 16), .int .i64 0]) ∧
      w'.ownsRow w.heap.size 3 1 (.slice (some ⟨w.heap.size, 0, none⟩) (p * 16) (p * 16)) (p * 16) (vals (List.replicate (p * 16) 0)) ∧ Below w.heap.size w w' := by
  obtain ⟨i0, hi, hz0, hz1, hz2⟩ := info_parts info_int
  have hml : p * 16 ≤ maxLen := by unfold maxLen; omega
  have hby : i0.bytes * (p * 16) ≤ 281474976710656 := by rw [hz2]; omega
  go_enter Try.func7, Try.ntmps7
  go_wp2_with (at_make; refine wpList_make_full _ rfl (.tmp 11) (.tmp 11) 22 rfl w.heap.size 3 i0 (.int .i64 0) 1 Try.underlying22 hi hz0 hz1 .i64 .i64 _ _ (p * 16) rfl rfl (by omega) (by omega) hby hml (Nat.le_refl _) ?_; rw [made_vals]; intro w1 hown hg1)
  go_ret2
  exact ⟨rfl, by assumption, (Below.refl _ _).grown (by assumption) (Nat.le_refl _) (by simp)⟩

theorem new_no (w : World) (a : Int) (ha : a < 0 ∨ 256 < a) :
    Calls Try.prog 7 #[.int .i64 a] w fun e w' => e = .returned (.tuple #[.slice none 0 0, .int .i64 1]) ∧ w = w' := by
  rcases ha with ha | ha
  · go_enter Try.func7, Try.ntmps7
    go_wp2
    go_ret2
    exact ⟨rfl, rfl⟩
  · have h0 : ¬ a < 0 := by omega
    go_enter Try.func7, Try.ntmps7
    go_wp2
    go_ret2
    exact ⟨rfl, rfl⟩

end Go.Proofs.Ytlbilifiehddbab
