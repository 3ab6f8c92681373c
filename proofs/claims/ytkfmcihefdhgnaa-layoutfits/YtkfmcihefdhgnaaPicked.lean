/-
  OWN TEXT. Contract of paddockkeep.picked: a number from 0 to below 'many'.
-/
import Derived.Test.YtkfmcihefdhgnaaBase
namespace Go.Proofs.Ytkfmcihefdhgnaa
open Go Go.RowKit Go.Proofs.Ytkfmcihefdhgnaa.Kit

theorem ret_int {k : IntKind} {a b : Int} (h : a = b) : Ending.returned (.int k a) = .returned (.int k b) := by rw [h]

theorem picked_any (n : Int) (many : Nat) (wf : (Lit.int .i64 n).wf = true) (h1 : 1 ≤ many) (h2 : many ≤ 1152921504606846976) (w : World) :
    Calls Try.prog 7 #[.int .i64 n, .int .i64 many] w fun e w' => (∃ r : Nat, r < many ∧ e = .returned (.int .i64 r)) ∧ w = w' := by
  have hb := bounds_i64 wf
  obtain ⟨b1, b2⟩ := hb
  have hm : ((many : Int) == 0) = false := by simp; omega
  clear wf
  by_cases h : n < 0
  · go_enter Try.func7, Try.ntmps7
    go_wp2
    go_ret
    have e1 := Int.emod_lt_of_pos (-(n + 1)) (show (0 : Int) < many by omega)
    have e2 := Int.emod_nonneg (-(n + 1)) (show (many : Int) ≠ 0 by omega)
    have e3 : (n + 1).tmod many = -((-(n + 1)) % many) := by
      have := Int.neg_tmod (-(n + 1)) many
      rw [Int.neg_neg] at this
      rw [this, Int.tmod_eq_emod_of_nonneg (by omega)]
    refine ⟨⟨((-(n + 1)) % many).toNat, by omega, ret_int ?_⟩, rfl⟩
    rw [e3]; omega
  · go_enter Try.func7, Try.ntmps7
    go_wp2
    go_ret
    refine ⟨⟨(n % many).toNat, ?_, ret_int ?_⟩, rfl⟩
    · have := Int.emod_lt_of_pos n (show (0 : Int) < many by omega); have := Int.emod_nonneg n (show (many : Int) ≠ 0 by omega); omega
    · have := Int.emod_nonneg n (show (many : Int) ≠ 0 by omega); omega

theorem picked_int (n mi : Int) (many : Nat) (hmi : mi = many) (wf : (Lit.int .i64 n).wf = true) (h1 : 1 ≤ many) (h2 : many ≤ 1152921504606846976) (w : World) :
    Calls Try.prog 7 #[.int .i64 n, .int .i64 mi] w fun e w' => (∃ r : Nat, r < many ∧ e = .returned (.int .i64 r)) ∧ w = w' := by
  subst hmi; exact picked_any n many wf h1 h2 w

/-- The number that picked answers. -/
def pickN (n : Int) (many : Nat) : Nat := ((if n < 0 then -(n + 1) else n) % many).toNat

theorem pickN_lt (n : Int) (many : Nat) (h : 1 ≤ many) : pickN n many < many := by
  unfold pickN
  have h1 := Int.emod_lt_of_pos (if n < 0 then -(n + 1) else n) (show (0 : Int) < many by omega)
  have h2 := Int.emod_nonneg (if n < 0 then -(n + 1) else n) (show (many : Int) ≠ 0 by omega)
  omega

theorem picked_fn (n mi : Int) (many : Nat) (hmi : mi = many) (wf : (Lit.int .i64 n).wf = true) (h1 : 1 ≤ many) (h2 : many ≤ 1152921504606846976) (w : World) :
    Calls Try.prog 7 #[.int .i64 n, .int .i64 mi] w fun e w' => e = .returned (.int .i64 (pickN n many)) ∧ w = w' := by
  subst hmi
  have hb := bounds_i64 wf
  obtain ⟨b1, b2⟩ := hb
  have hm : ((many : Int) == 0) = false := by simp; omega
  clear wf
  by_cases h : n < 0
  · have e1 := Int.emod_lt_of_pos (-(n + 1)) (show (0 : Int) < many by omega)
    have e2 := Int.emod_nonneg (-(n + 1)) (show (many : Int) ≠ 0 by omega)
    have e3 : (n + 1).tmod many = -((-(n + 1)) % many) := by
      have := Int.neg_tmod (-(n + 1)) many
      rw [Int.neg_neg] at this
      rw [this, Int.tmod_eq_emod_of_nonneg (by omega)]
    have HP : Hid ((pickN n many : Int) = -((n + 1).tmod many)) := by
      show _ = _
      unfold pickN
      rw [if_pos h, e3]; omega
    clear e1 e2 e3
    go_enter Try.func7, Try.ntmps7
    go_wp2
    go_ret
    exact ⟨ret_int HP.out.symm, rfl⟩
  · have e2 := Int.emod_nonneg n (show (many : Int) ≠ 0 by omega)
    have HP : Hid ((pickN n many : Int) = n % many) := by
      show _ = _
      unfold pickN
      rw [if_neg h]; omega
    clear e2
    go_enter Try.func7, Try.ntmps7
    go_wp2
    go_ret
    exact ⟨ret_int HP.out.symm, rfl⟩

end Go.Proofs.Ytkfmcihefdhgnaa
