/-
  OWN TEXT. The walk of the law LayoutFits: it returns true and writes nothing that was there.
-/
import Derived.Test.YtkfmcihefdhgnaaSlLayout
import Derived.Test.YtkfmcihefdhgnaaPicked
namespace Go.Proofs.Ytkfmcihefdhgnaa
open Go Go.RowKit Go.Proofs.Ytkfmcihefdhgnaa.Kit

/-- What is claimed of a layout. -/
theorem lay_facts (K : Int) (h1 : 1 ≤ K) (h2 : K ≤ 64) : ∃ W : Int, (layO K = 0 ∧ W = 16 ∧ 4 ≤ layN K ∨ layO K = 1 ∧ W = 32 ∧ 4 ≤ layN K ∧ 16 / K < 4 ∨ layO K = 2 ∧ W = 64 ∧ 32 / K < 4) ∧ 1 ≤ layN K ∧ layN K ≤ 64 ∧ layN K * K ≤ W ∧ W < (layN K + 1) * K ∧ (layN K + 1) * K ≤ 128 := by
  have key : ∀ W : Int, K ≤ W → W ≤ 64 → 1 ≤ W / K ∧ W / K ≤ 64 ∧ W / K * K ≤ W ∧ W < (W / K + 1) * K ∧ (W / K + 1) * K ≤ 128 := by
    intro W hW hW2
    have a := Int.ediv_mul_le W (show K ≠ 0 by omega)
    have b := Int.lt_ediv_add_one_mul_self W (show 0 < K by omega)
    have c : 1 ≤ W / K := (Int.le_ediv_iff_mul_le (by omega)).2 (by omega)
    have d := div_range W K (by omega) (by omega) hW2
    refine ⟨c, d.2, a, b, ?_⟩
    rw [Int.add_mul]; omega
  rcases (show K ≤ 4 ∨ (4 < K ∧ K ≤ 8) ∨ 8 < K by omega) with hs | hs | hs
  · have e1 : layO K = 0 := by unfold layO; rw [if_pos hs]
    have e2 : layN K = 16 / K := by unfold layN; rw [if_pos hs]
    rw [e1, e2]
    exact ⟨16, .inl ⟨rfl, rfl, div_ge_four 16 K (by omega) (by omega)⟩, key 16 (by omega) (by omega)⟩
  · have e1 : layO K = 1 := by unfold layO; rw [if_neg (show ¬ K ≤ 4 by omega), if_pos hs.2]
    have e2 : layN K = 32 / K := by unfold layN; rw [if_neg (show ¬ K ≤ 4 by omega), if_pos hs.2]
    rw [e1, e2]
    exact ⟨32, .inr (.inl ⟨rfl, rfl, div_ge_four 32 K (by omega) (by omega), div_lt_four 16 K (by omega) (by omega)⟩), key 32 (by omega) (by omega)⟩
  · have e1 : layO K = 2 := by unfold layO; rw [if_neg (show ¬ K ≤ 4 by omega), if_neg (show ¬ K ≤ 8 by omega)]
    have e2 : layN K = 64 / K := by unfold layN; rw [if_neg (show ¬ K ≤ 4 by omega), if_neg (show ¬ K ≤ 8 by omega)]
    rw [e1, e2]
    exact ⟨64, .inr (.inr ⟨rfl, rfl, div_lt_four 32 K (by omega) (by omega)⟩), key 64 (by omega) (by omega)⟩

theorem layoutFits_walk (s : Int) (w : World) (wf : (Lit.int .i64 s).wf = true) :
    Calls Try.prog 4 #[.int .i64 s] w fun e w' => e = .returned (.bool true) ∧ Below w.heap.size w w' := by
  have HP := picked_int s 64 64 rfl wf (by omega) (by omega) w
  clear wf
  go_enter Try.func4, Try.ntmps4
  go_wp2_with fail
  go_at_call 7
  refine HP.mono ?_
  rintro e w0 ⟨⟨r, hr, rfl⟩, rfl⟩
  clear HP
  obtain ⟨K, hK⟩ : ∃ K : Int, 1 + (r : Int) = K := ⟨_, rfl⟩
  obtain ⟨K2, hK2⟩ : ∃ K2 : Int, 64 + K = K2 := ⟨_, rfl⟩
  have k1 : 1 ≤ K := by omega
  have k2 : K ≤ 64 := by omega
  have k3 : 65 ≤ K2 := by omega
  have k4 : K2 ≤ 128 := by omega
  have z : (K == 0) = false := by simp; omega
  have HL := slLayout_ok K k1 k2 w
  have HN := slLayout_no K2 (by omega)
  obtain ⟨W, hc, n1, n2, n3, n4, n5⟩ := lay_facts K k1 k2
  obtain ⟨O, N, hO, hN⟩ : ∃ O N : Int, layO K = O ∧ layN K = N := ⟨_, _, rfl, rfl⟩
  rw [hO, hN] at HL
  rw [hO, hN] at hc
  rw [hN] at n1 n2 n3 n4 n5
  have hc' : Hid _ := hc
  obtain ⟨M, hM⟩ : ∃ M : Int, N * K = M := ⟨_, rfl⟩
  obtain ⟨N1, hN1⟩ : ∃ N1 : Int, N + 1 = N1 := ⟨_, rfl⟩
  rw [hN1] at n4 n5
  obtain ⟨M1, hM1⟩ : ∃ M1 : Int, N1 * K = M1 := ⟨_, rfl⟩
  rw [hM] at n3
  rw [hM1] at n4 n5
  have m0 : 0 ≤ M := by rw [← hM]; exact Int.mul_nonneg (by omega) (by omega)
  have n1' : 2 ≤ N1 := by omega
  have n2' : N1 ≤ 65 := by omega
  clear hc hO hN
  go_wp2_with fail
  go_at_call 5
  refine HL.mono ?_
  rintro e w1 ⟨rfl, d1, rfl⟩
  obtain ⟨w1, hw1⟩ : ∃ w1, w1 = w.drewN d1 := ⟨_, rfl⟩
  rw [← hw1]
  have hb1 : Below w.heap.size w w1 := by rw [hw1]; exact below_drawn d1
  clear hw1 HL
  replace HN := HN w1
  go_wp2_with fail
  go_at_call 5
  refine HN.mono ?_
  rintro e w2 ⟨rfl, rfl⟩
  clear HN hK hK2
  rcases hc'.out with ⟨rfl, rfl, g⟩ | ⟨rfl, rfl, g, g2⟩ | ⟨rfl, rfl, g2⟩
  · clear hc'
    go_wp2
    go_ret
    exact ⟨rfl, hb1⟩
  · clear hc'
    obtain ⟨q, e0⟩ : ∃ q, (16 : Int).tdiv K = q := ⟨_, rfl⟩
    have d0 := tdiv_pos 16 K (by omega)
    rw [e0] at d0
    have hq := div_range 16 K (by omega) (by omega) (by omega)
    rw [← d0] at g2 hq
    obtain ⟨q1, q2⟩ := hq
    clear d0
    go_wp2
    go_ret
    exact ⟨rfl, hb1⟩
  · clear hc'
    obtain ⟨q, e0⟩ : ∃ q, (32 : Int).tdiv K = q := ⟨_, rfl⟩
    have d0 := tdiv_pos 32 K (by omega)
    rw [e0] at d0
    have hq := div_range 32 K (by omega) (by omega) (by omega)
    rw [← d0] at g2 hq
    obtain ⟨q1, q2⟩ := hq
    clear d0
    by_cases h4 : 4 ≤ N
    · go_wp2
      go_ret
      exact ⟨rfl, hb1⟩
    · go_wp2
      go_ret
      exact ⟨rfl, hb1⟩

end Go.Proofs.Ytkfmcihefdhgnaa
