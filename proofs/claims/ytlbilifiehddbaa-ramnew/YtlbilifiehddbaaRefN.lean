/-
  OWN TEXT. Contracts of the document's answer to New.
-/
import Derived.Test.YtlbilifiehddbaaRefA
namespace Go.Proofs.Ytlbilifiehddbaa
open Go Go.RowKit Go.Proofs.Ytlbilifiehddbaa.Kit

theorem newOf_no (w : World) (a : Int) (ha : a < 0 ∨ 256 < a) :
    Calls Try.prog 8 #[.int .i64 a] w fun e w' => e = .returned (.tuple #[.slice none 0 0, .int .i64 1]) ∧ w = w' := by
  have hI : inB a 0 256 = false := inB_f (by omega)
  clear ha
  go_enter Try.func8, Try.ntmps8
  go_wp2_with (go_at_call 17; refine (in_any _ _ _ _).mono ?_; rintro e w' ⟨rfl, rfl⟩)
  go_ret2
  exact ⟨rfl, rfl⟩

set_option maxHeartbeats 400000 in
theorem newOf_ok (w : World) (p : Nat) (hp : p ≤ 256) :
    Calls Try.prog 8 #[.int .i64 p] w fun e w' => ∃ bo c, e = .returned (.tuple #[.slice bo (p * 16) c, .int .i64 0]) ∧
      w'.ownsRow w.heap.size 3 1 (.slice bo (p * 16) c) (p * 16) (vals (List.replicate (p * 16) 0)) ∧ Below w.heap.size w w' := by
  obtain ⟨i0, hi, hz0, hz1, hz2⟩ := info_parts info_int
  have hI : inB p 0 256 = true := inB_t (by omega)
  go_enter Try.func8, Try.ntmps8
  go_wp2_with (go_at_call 17; refine (in_any _ _ _ _).mono ?_; rintro e w' ⟨rfl, rfl⟩)
  go_loopw [4, 5] (fun v i wr => ∃ k : Nat, k ≤ p * 16 ∧ i = .int .i64 k ∧ wr.ownsRow w.heap.size 3 1 v k (vals (List.replicate k 0)) ∧ Below w.heap.size w wr) (fun _ i _ => p * 16 - (intOf i).toNat)
  case atStart => exact ⟨0, Nat.zero_le _, rfl, World.ownsRow_nil _ _ _ _, Below.refl _ _⟩
  case round =>
    obtain ⟨k, hk, rfl, hown, hb⟩ := hrel
    have hs := hb.size
    by_cases hlt : k < p * 16
    · have hml : k + 1 ≤ maxLen := by unfold maxLen; omega
      go_wp2_with (at_builtin; refine wpList_append_own _ rfl (.tmp 15) (.tmp 16) 22 rfl w.heap.size 3 i0 (.int .i64 0) 1 8 Try.underlying22 hi hz0 hz1 hz2 rfl (by decide) _ _ _ rfl (hown.alloc _) ⟨wr.heap.size, 0, none⟩ 1 1 [.int .i64 0] rfl rfl ?c1 ?c2 hml ?c4 ?c5 ?_)
      case c1 => exact cell_one_new' _ _ _
      case c2 => exact ints_oneCell .i64 [_]
      case c4 => omega
      case c5 => simp; omega
      intro v' w1 hown' hgrow _
      rw [rep_snoc] at hown'
      have hb' : Below w.heap.size w w1 := (hb.alloc hs _).grown hgrow (by simp; omega) (fun g hg => (hown.lt g hg).1)
      clear hown hgrow hb
      go_wp2
      go_roundw
      case rel => exact ⟨k + 1, by omega, by go_num, hown', hb'⟩
      case measure => simp [intOf]; omega
    · obtain rfl : k = p * 16 := by omega
      obtain ⟨bo, c, rfl⟩ := owns_shape hown
      go_wp2
      go_ret2
      exact ⟨bo, c, rfl, hown, hb⟩

end Go.Proofs.Ytlbilifiehddbaa
