/-
  OWN TEXT. Contract of slices.Clone at a slice of integers.
-/
import Derived.Test.YtlbilifiehddbabBase
import Derived.WalkSpells
namespace Go.Proofs.Ytlbilifiehddbab
open Go Go.RowKit Go.Proofs.Ytlbilifiehddbab.Kit

theorem sclone_nil (w : World) :
    Calls Try.prog 11 #[.slice none 0 0] w fun e w' => e = .returned (.slice none 0 0) ∧ w = w' := by
  have q22 : ∀ (w : World) (a : Option Addr) (n c n' c' : Nat), (binOp .eql 22 (.slice a n c) (.slice none n' c')).run Try.prog w = .ok (.bool a.isNone) w := fun w a n c n' c' => Lib.run_eql_slice_nil w _ _ a n c n' c' Try.underlying22
  go_enter Try.func11, Try.ntmps11
  go_wp2
  go_ret
  exact ⟨rfl, rfl⟩

set_option maxHeartbeats 400000 in
theorem sclone_some (w : World) (ad : Addr) (n cap : Nat) (xs : List Int) (hn : xs.length = n) (hr : n * 8 ≤ 140737488351232) (hx : IntsAt w (some ad) xs) :
    Calls Try.prog 11 #[.slice (some ad) n cap] w fun e w' => ∃ bo c, e = .returned (.slice bo n c) ∧
      w'.ownsRow w.heap.size 3 1 (.slice bo n c) n (vals xs) ∧ Below w.heap.size w w' := by
  obtain ⟨i0, hi, hz0, hz1, hz2⟩ := info_parts info_int
  have hml : 0 + n ≤ maxLen := by unfold maxLen; omega
  have hl : (vals xs).length = n * 1 := by rw [length_vals]; omega
  have hby : (0 + n) * 8 ≤ 140737488355328 := by omega
  have hb0 : Below w.heap.size w (w.alloc (.cells #[] 3)) := (Below.refl _ _).alloc (Nat.le_refl _) _
  have hsrc : ∀ j u, (vals xs)[j]? = some u → (w.alloc (.cells #[] 3)).cell? (ad.add j) = some u := by
    by_cases h0 : 0 < xs.length
    · obtain ⟨ad', he, hs⟩ := src_of (hx.below hb0) h0
      cases he
      exact hs
    · intro j u hj
      have : vals xs = [] := List.eq_nil_of_length_eq_zero (by rw [length_vals]; omega)
      rw [this] at hj
      simp at hj
  have hone := vals_oneCell xs
  obtain ⟨cs, hcs⟩ : ∃ cs, cs = vals xs := ⟨_, rfl⟩
  rw [← hcs] at hl hsrc hone ⊢
  have HC : Hid (cs = vals xs) := hcs
  have hown0 : (w.alloc (.cells #[] 3)).ownsRow w.heap.size 3 1 (.slice (some ⟨w.heap.size, 0, none⟩) 0 0) 0 [] := World.ownsRow_lit w #[] 0 (Nat.le_refl _) (by unfold maxLen; omega) rfl
  have hle : w.heap.size ≤ (w.alloc (.cells #[] 3)).heap.size := hb0.size
  have HS : Hid (∀ j u, cs[j]? = some u → (w.alloc (.cells #[] 3)).cell? (ad.add j) = some u) := hsrc
  have HO : Hid ((w.alloc (.cells #[] 3)).ownsRow w.heap.size 3 1 (.slice (some ⟨w.heap.size, 0, none⟩) 0 0) 0 []) := hown0
  clear hcs hx hsrc hown0
  have q22 : ∀ (w : World) (a : Option Addr) (n c n' c' : Nat), (binOp .eql 22 (.slice a n c) (.slice none n' c')).run Try.prog w = .ok (.bool a.isNone) w := fun w a n c n' c' => Lib.run_eql_slice_nil w _ _ a n c n' c' Try.underlying22
  go_enter Try.func11, Try.ntmps11
  go_wp2_with (at_builtin; refine wpList_append_own _ rfl (.tmp 5) (.tmp 6) 22 rfl w.heap.size 3 i0 (.int .i64 0) 1 8 Try.underlying22 hi hz0 hz1 hz2 rfl (by decide) _ _ _ rfl HO.out ad n cap cs rfl hl HS.out hone hml hby hle ?_)
  intro v' w1 hown hgrow _
  obtain ⟨bo, c, rfl⟩ := owns_shape hown
  have hb : Below w.heap.size w w1 := hb0.grown hgrow hb0.size (by simp [Value.ownBlock])
  clear hgrow hb0
  go_wp2
  go_ret
  refine ⟨bo, c, ?_, ?_, hb⟩
  · simp
  · simpa using hown

end Go.Proofs.Ytlbilifiehddbab
