/-
  OWN TEXT. Contracts of paddocklaw.sameInts (at two slices that hold the same numbers: true; the world only draws) and paddocklaw.ints.
-/
import Derived.Test.YtlbilifiehddbaaBase
namespace Go.Proofs.Ytlbilifiehddbaa
open Go Go.RowKit Go.Proofs.Ytlbilifiehddbaa.Kit

set_option maxHeartbeats 400000 in
theorem same_eq (w : World) (ao bo : Option Addr) (n ca cb : Nat) (xs : List Int) (hn : xs.length = n) (hr : n * 8 ≤ 140737488351232) (ha : IntsAt w ao xs) (hb : IntsAt w bo xs) :
    Calls Try.prog 9 #[.slice ao n ca, .slice bo n cb] w fun e w' => e = .returned (.bool true) ∧ ∃ d, w' = w.drewN d := by
  go_enter Try.func9, Try.ntmps9
  go_wp2
  go_loopw [5] (fun i wr => ∃ k d : Nat, k ≤ n ∧ i = .int .i64 k ∧ wr = w.drewN d) (fun i _ => n - (intOf i).toNat)
  case atStart => exact ⟨0, 0, Nat.zero_le _, rfl, rfl⟩
  case round =>
    obtain ⟨k, d, hk, rfl, rfl⟩ := hrel
    by_cases hlt : k < n
    · obtain ⟨b1, o1, rfl, c1⟩ := ha k (by omega)
      obtain ⟨b2, o2, rfl, c2⟩ := hb k (by omega)
      clear ha hb
      go_wp2
      go_quiet (fail)
      go_wp2
      go_roundw
      case rel => exact ⟨k + 1, _, by omega, by go_num, rfl⟩
      case measure => simp [intOf]; omega
    · go_wp2
      go_ret
      exact ⟨rfl, d, rfl⟩

/-- 'append([]int(nil), l...)': new memory with the same numbers. -/
theorem copyI_any (w : World) (ao : Option Addr) (n cap : Nat) (xs : List Int) (h : IsInts w ao n cap xs) :
    Calls Try.prog 12 #[.slice ao n cap] w fun e w' => ∃ bo c, e = .returned (.slice bo n c) ∧
      w'.ownsRow w.heap.size 3 1 (.slice bo n c) n (vals xs) ∧ Below w.heap.size w w' := by
  obtain ⟨i0, hi, hz0, hz1, hz2⟩ := info_parts info_int
  obtain ⟨hn, hle, hr, hnil, hx⟩ := h
  have hml : 0 + n ≤ maxLen := by unfold maxLen; omega
  have hl : (vals xs).length = n * 1 := by rw [length_vals]; omega
  have hby : (0 + n) * 8 ≤ 140737488355328 := by omega
  cases ao with
  | none =>
    obtain ⟨rfl, rfl⟩ := hnil rfl
    have hv : Hid (vals xs = []) := List.eq_nil_of_length_eq_zero (by simpa using hl)
    clear hnil hx
    go_enter Try.func12, Try.ntmps12
    go_wp2_with (at_builtin; refine wpList_append_own_none rfl _ (.tmp 3) 22 rfl w.heap.size 3 i0 1 Try.underlying22 hi _ _ _ rfl (World.ownsRow_nil _ _ _ _) rfl ?_)
    go_ret
    refine ⟨none, 0, rfl, ?_, Below.refl _ _⟩
    rw [hv.out]
    exact World.ownsRow_nil _ _ _ _
  | some ad =>
    have hsrc : ∀ j u, (vals xs)[j]? = some u → w.cell? (ad.add j) = some u := by
      by_cases h0 : 0 < xs.length
      · obtain ⟨ad', he, hs⟩ := src_of hx h0
        cases he
        exact hs
      · intro j u hj
        have : vals xs = [] := List.eq_nil_of_length_eq_zero (by rw [length_vals]; omega)
        rw [this] at hj
        simp at hj
    have hone := vals_oneCell xs
    obtain ⟨cs, hcs⟩ : ∃ cs, cs = vals xs := ⟨_, rfl⟩
    rw [← hcs] at hl hsrc hone ⊢
    have HC : Hid (cs = vals xs) := hcs
    clear hcs hx hnil
    go_enter Try.func12, Try.ntmps12
    go_wp2_with (at_builtin; refine wpList_append_own _ rfl _ (.tmp 3) 22 rfl w.heap.size 3 i0 (.int .i64 0) 1 8 Try.underlying22 hi hz0 hz1 hz2 rfl (by decide) _ _ _ rfl (World.ownsRow_nil _ _ _ _) ad n cap cs rfl hl hsrc hone hml hby (Nat.le_refl _) ?_)
    intro v' w1 hown hgrow _
    obtain ⟨bo, c, rfl⟩ := owns_shape hown
    have hb : Below w.heap.size w w1 := (Below.refl _ _).grown hgrow (Nat.le_refl _) (by simp [Value.ownBlock])
    clear hgrow
    go_wp2
    go_ret
    exact ⟨bo, c, rfl, hown, hb⟩

end Go.Proofs.Ytlbilifiehddbaa
