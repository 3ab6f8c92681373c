/-
  OWN TEXT. Contracts of slab.Layout and of the document's answer to it.
-/
import Derived.Test.YtkfmcihefdhgnaaRefI
import Derived.Test.YtkfmcihefdhgnaaSlPure
namespace Go.Proofs.Ytkfmcihefdhgnaa
open Go Go.RowKit Go.Proofs.Ytkfmcihefdhgnaa.Kit

theorem slWords0 (w : World) : Calls Try.prog 9 #[.int .i64 0] w fun e w' => e = .returned (.int .i64 16) ∧ w' = w := by
  go_enter Try.func9, Try.ntmps9
  go_wp2
  go_ret
  exact ⟨rfl, rfl⟩
theorem slWords1 (w : World) : Calls Try.prog 9 #[.int .i64 1] w fun e w' => e = .returned (.int .i64 32) ∧ w' = w := by
  go_enter Try.func9, Try.ntmps9
  go_wp2
  go_ret
  exact ⟨rfl, rfl⟩
theorem slWords2 (w : World) : Calls Try.prog 9 #[.int .i64 2] w fun e w' => e = .returned (.int .i64 64) ∧ w' = w := by
  go_enter Try.func9, Try.ntmps9
  go_wp2
  go_ret
  exact ⟨rfl, rfl⟩

theorem slIsSize_any (s : Int) (w : World) : Calls Try.prog 8 #[.int .i64 s] w fun e w' => e = .returned (.bool (inB s 1 64)) ∧ w = w' := by
  by_cases h1 : 1 ≤ s
  · by_cases h2 : s ≤ 64
    · have hI : Hid (inB s 1 64 = true) := inB_t ⟨h1, h2⟩
      go_enter Try.func8, Try.ntmps8
      go_wp2
      go_ret
      exact ⟨ret_bool hI.out.symm, rfl⟩
    · have hI : Hid (inB s 1 64 = false) := inB_f (by omega)
      go_enter Try.func8, Try.ntmps8
      go_wp2
      go_ret
      exact ⟨ret_bool hI.out.symm, rfl⟩
  · have hI : Hid (inB s 1 64 = false) := inB_f (by omega)
    go_enter Try.func8, Try.ntmps8
    go_wp2
    go_ret
    exact ⟨ret_bool hI.out.symm, rfl⟩

theorem layoutOf_no (s : Int) (h : ¬ (1 ≤ s ∧ s ≤ 64)) (w : World) : Calls Try.prog 6 #[.int .i64 s] w fun e w' => e = .returned (.tuple #[.int .i64 0, .int .i64 0, .int .i64 1]) ∧ w = w' := by
  have hI : inB s 1 64 = false := inB_f (by omega)
  have HI := in_any s 1 64 w
  rw [hI] at HI
  clear hI
  go_enter Try.func6, Try.ntmps6
  go_wp2_with fail
  go_at_call 10
  refine HI.mono ?_
  rintro e w1 ⟨rfl, rfl⟩
  go_wp2
  go_ret3
  exact ⟨rfl, rfl⟩

theorem slLayout_no (s : Int) (h : ¬ (1 ≤ s ∧ s ≤ 64)) (w : World) : Calls Try.prog 5 #[.int .i64 s] w fun e w' => e = .returned (.tuple #[.int .i64 0, .int .i64 0, .int .i64 1]) ∧ w = w' := by
  have hI : inB s 1 64 = false := inB_f (by omega)
  have HI := slIsSize_any s w
  rw [hI] at HI
  clear hI
  go_enter Try.func5, Try.ntmps5
  go_wp2_with fail
  go_at_call 8
  refine HI.mono ?_
  rintro e w1 ⟨rfl, rfl⟩
  go_wp2
  go_ret3
  exact ⟨rfl, rfl⟩

theorem layoutOf_ok (s : Int) (h1 : 1 ≤ s) (h2 : s ≤ 64) (w : World) : Calls Try.prog 6 #[.int .i64 s] w fun e w' => e = .returned (.tuple #[.int .i64 (layO s), .int .i64 (layN s), .int .i64 0]) ∧ ∃ d, w' = w.drewN d := by
  have hI : inB s 1 64 = true := inB_t ⟨h1, h2⟩
  have HI := in_any s 1 64 w
  rw [hI] at HI
  clear hI
  have z : (s == 0) = false := by simp; omega
  obtain ⟨q0, e0⟩ : ∃ q, (16 : Int).tdiv s = q := ⟨_, rfl⟩
  obtain ⟨q1, e1⟩ : ∃ q, (32 : Int).tdiv s = q := ⟨_, rfl⟩
  obtain ⟨q2, e2⟩ : ∃ q, (64 : Int).tdiv s = q := ⟨_, rfl⟩
  have d0 := tdiv_pos 16 s (by omega)
  have d1 := tdiv_pos 32 s (by omega)
  have d2 := tdiv_pos 64 s (by omega)
  rw [e0] at d0; rw [e1] at d1; rw [e2] at d2
  obtain ⟨a0, b0⟩ := div_range 16 s (by omega) (by omega) (by omega)
  obtain ⟨a1, b1⟩ := div_range 32 s (by omega) (by omega) (by omega)
  obtain ⟨a2, b2⟩ := div_range 64 s (by omega) (by omega) (by omega)
  rw [← d0] at a0 b0; rw [← d1] at a1 b1; rw [← d2] at a2 b2
  rcases (show s ≤ 4 ∨ (4 < s ∧ s ≤ 8) ∨ 8 < s by omega) with hs | hs | hs
  · have hq : 4 ≤ q0 := by rw [d0]; exact div_ge_four 16 s (by omega) (by omega)
    have HL : Hid (layO s = 0 ∧ layN s = q0) := by show _ ∧ _; unfold layO layN; rw [if_pos hs, if_pos hs]; exact ⟨rfl, d0.symm⟩
    clear d0 d1 d2 e1 e2
    go_enter Try.func6, Try.ntmps6
    go_wp2_with fail
    go_at_call 10
    refine HI.mono ?_
    rintro e w1 ⟨rfl, rfl⟩
    go_wp2
    go_quiet (fail)
    go_wp2
    go_ret3
    rw [HL.out.1, HL.out.2]
    exact ⟨rfl, _, rfl⟩
  · have hq : q0 < 4 := by rw [d0]; exact div_lt_four 16 s (by omega) (by omega)
    have hq1 : 4 ≤ q1 := by rw [d1]; exact div_ge_four 32 s (by omega) (by omega)
    have HL : Hid (layO s = 1 ∧ layN s = q1) := by show _ ∧ _; unfold layO layN; rw [if_neg (show ¬ s ≤ 4 by omega), if_neg (show ¬ s ≤ 4 by omega), if_pos hs.2, if_pos hs.2]; exact ⟨rfl, d1.symm⟩
    clear d0 d1 d2 e2
    go_enter Try.func6, Try.ntmps6
    go_wp2_with fail
    go_at_call 10
    refine HI.mono ?_
    rintro e w1 ⟨rfl, rfl⟩
    go_wp2
    go_quiet (fail)
    go_wp2
    go_ret3
    rw [HL.out.1, HL.out.2]
    exact ⟨rfl, _, rfl⟩
  · have hq : q0 < 4 := by rw [d0]; exact div_lt_four 16 s (by omega) (by omega)
    have hq1 : q1 < 4 := by rw [d1]; exact div_lt_four 32 s (by omega) (by omega)
    have HL : Hid (layO s = 2 ∧ layN s = q2) := by show _ ∧ _; unfold layO layN; rw [if_neg (show ¬ s ≤ 4 by omega), if_neg (show ¬ s ≤ 4 by omega), if_neg (show ¬ s ≤ 8 by omega), if_neg (show ¬ s ≤ 8 by omega)]; exact ⟨rfl, d2.symm⟩
    clear d0 d1 d2
    go_enter Try.func6, Try.ntmps6
    go_wp2_with fail
    go_at_call 10
    refine HI.mono ?_
    rintro e w1 ⟨rfl, rfl⟩
    go_wp2
    go_quiet (fail)
    go_wp2
    go_ret3
    rw [HL.out.1, HL.out.2]
    exact ⟨rfl, _, rfl⟩


theorem slLayout_ok (s : Int) (h1 : 1 ≤ s) (h2 : s ≤ 64) (w : World) : Calls Try.prog 5 #[.int .i64 s] w fun e w' => e = .returned (.tuple #[.int .i64 (layO s), .int .i64 (layN s), .int .i64 0]) ∧ ∃ d, w' = w.drewN d := by
  have hI : inB s 1 64 = true := inB_t ⟨h1, h2⟩
  have HI := slIsSize_any s w
  rw [hI] at HI
  clear hI
  have z : (s == 0) = false := by simp; omega
  obtain ⟨q0, e0⟩ : ∃ q, (16 : Int).tdiv s = q := ⟨_, rfl⟩
  obtain ⟨q1, e1⟩ : ∃ q, (32 : Int).tdiv s = q := ⟨_, rfl⟩
  obtain ⟨q2, e2⟩ : ∃ q, (64 : Int).tdiv s = q := ⟨_, rfl⟩
  have d0 := tdiv_pos 16 s (by omega)
  have d1 := tdiv_pos 32 s (by omega)
  have d2 := tdiv_pos 64 s (by omega)
  rw [e0] at d0; rw [e1] at d1; rw [e2] at d2
  obtain ⟨a0, b0⟩ := div_range 16 s (by omega) (by omega) (by omega)
  obtain ⟨a1, b1⟩ := div_range 32 s (by omega) (by omega) (by omega)
  obtain ⟨a2, b2⟩ := div_range 64 s (by omega) (by omega) (by omega)
  rw [← d0] at a0 b0; rw [← d1] at a1 b1; rw [← d2] at a2 b2
  obtain ⟨O, N, hO, hN⟩ : ∃ O N : Int, layO s = O ∧ layN s = N := ⟨_, _, rfl, rfl⟩
  have HL : Hid (layO s = O ∧ layN s = N) := ⟨hO, hN⟩
  have W0 := slWords0
  have W1 := slWords1
  have W2 := slWords2
  have HK : Hid ((O = 0 ∧ 4 ≤ q0 ∧ N = q0) ∨ (O = 1 ∧ q0 < 4 ∧ 4 ≤ q1 ∧ N = q1) ∨ (O = 2 ∧ q0 < 4 ∧ q1 < 4 ∧ N = q2)) := by
    show _ ∨ _ ∨ _
    rcases (show s ≤ 4 ∨ (4 < s ∧ s ≤ 8) ∨ 8 < s by omega) with hs | hs | hs
    · have hq : 4 ≤ q0 := by rw [d0]; exact div_ge_four 16 s (by omega) (by omega)
      refine .inl ⟨?_, hq, ?_⟩
      · rw [← hO]; unfold layO; rw [if_pos hs]
      · rw [← hN, d0]; unfold layN; rw [if_pos hs]
    · have hq : q0 < 4 := by rw [d0]; exact div_lt_four 16 s (by omega) (by omega)
      have hq1 : 4 ≤ q1 := by rw [d1]; exact div_ge_four 32 s (by omega) (by omega)
      refine .inr (.inl ⟨?_, hq, hq1, ?_⟩)
      · rw [← hO]; unfold layO; rw [if_neg (show ¬ s ≤ 4 by omega), if_pos hs.2]
      · rw [← hN, d1]; unfold layN; rw [if_neg (show ¬ s ≤ 4 by omega), if_pos hs.2]
    · have hq : q0 < 4 := by rw [d0]; exact div_lt_four 16 s (by omega) (by omega)
      have hq1 : q1 < 4 := by rw [d1]; exact div_lt_four 32 s (by omega) (by omega)
      refine .inr (.inr ⟨?_, hq, hq1, ?_⟩)
      · rw [← hO]; unfold layO; rw [if_neg (show ¬ s ≤ 4 by omega), if_neg (show ¬ s ≤ 8 by omega)]
      · rw [← hN, d2]; unfold layN; rw [if_neg (show ¬ s ≤ 4 by omega), if_neg (show ¬ s ≤ 8 by omega)]
  clear d0 d1 d2 hO hN
  go_enter Try.func5, Try.ntmps5
  go_wp2_with fail
  go_at_call 8
  refine HI.mono ?_
  rintro e w1 ⟨rfl, rfl⟩
  clear HI
  go_wp2_with fail
  go_loopw [5] (fun ov wr => ∃ k : Nat, k ≤ 2 ∧ (k : Int) ≤ O ∧ ov = .int .i64 k ∧ Hid (∃ d, wr = w.drewN d)) (fun ov _ => (2 - intOf ov).toNat)
  case atStart =>
    exact ⟨0, by omega, by rcases HK.out with ⟨h, _⟩ | ⟨h, _⟩ | ⟨h, _⟩ <;> omega, rfl, ⟨0, rfl⟩⟩
  case round =>
    obtain ⟨k, hk, hkO, rfl, hd⟩ := hrel
    clear W0 W1 W2
    rcases HK.out with ⟨rfl, g0, rfl⟩ | ⟨rfl, g0, g1, rfl⟩ | ⟨rfl, g0, g1, rfl⟩
    · obtain rfl : k = 0 := by omega
      clear HK e1 e2
      go_wp2_with fail
      go_at_call 9
      refine (slWords0 _).mono ?_
      rintro e w1 ⟨rfl, rfl⟩
      go_wp2_with fail
      go_quiet ((go_at_call 9; exact Calls.quiet_of_same (slWords0 _)))
      go_wp2
      go_ret3
      rw [HL.out.1, HL.out.2]
      exact ⟨rfl, drawn_more hd.out _⟩
    · rcases (show k = 0 ∨ k = 1 by omega) with rfl | rfl
      · clear e1 e2
        go_wp2_with fail
        go_at_call 9
        refine (slWords0 _).mono ?_
        rintro e w1 ⟨rfl, rfl⟩
        go_wp2_with fail
        go_roundw
        case rel => exact ⟨1, by omega, by omega, by go_num, hd⟩
        case measure => simp [intOf]
      · clear HK e0 e2
        go_wp2_with fail
        go_at_call 9
        refine (slWords1 _).mono ?_
        rintro e w1 ⟨rfl, rfl⟩
        go_wp2_with fail
        go_quiet ((go_at_call 9; exact Calls.quiet_of_same (slWords1 _)))
        go_wp2
        go_ret3
        rw [HL.out.1, HL.out.2]
        exact ⟨rfl, drawn_more hd.out _⟩
    · rcases (show k = 0 ∨ k = 1 ∨ k = 2 by omega) with rfl | rfl | rfl
      · clear e1 e2
        go_wp2_with fail
        go_at_call 9
        refine (slWords0 _).mono ?_
        rintro e w1 ⟨rfl, rfl⟩
        go_wp2_with fail
        go_roundw
        case rel => exact ⟨1, by omega, by omega, by go_num, hd⟩
        case measure => simp [intOf]
      · clear e0 e2
        go_wp2_with fail
        go_at_call 9
        refine (slWords1 _).mono ?_
        rintro e w1 ⟨rfl, rfl⟩
        go_wp2_with fail
        go_roundw
        case rel => exact ⟨2, by omega, by omega, by go_num, hd⟩
        case measure => simp [intOf]
      · clear HK e0 e1
        go_wp2_with fail
        go_quiet ((go_at_call 9; exact Calls.quiet_of_same (slWords2 _)))
        go_wp2
        go_ret3
        rw [HL.out.1, HL.out.2]
        exact ⟨rfl, drawn_more hd.out _⟩

end Go.Proofs.Ytkfmcihefdhgnaa
