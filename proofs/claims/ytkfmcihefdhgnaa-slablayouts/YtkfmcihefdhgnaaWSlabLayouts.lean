/-
  OWN TEXT. The walk of the law SlabLayouts: it returns true and writes nothing that was there.
-/
import Derived.Test.YtkfmcihefdhgnaaSlLayout
namespace Go.Proofs.Ytkfmcihefdhgnaa
open Go Go.RowKit Go.Proofs.Ytkfmcihefdhgnaa.Kit

theorem slabLayouts_walk (s : Int) (w : World) (_wf : (Lit.int .i64 s).wf = true) :
    Calls Try.prog 3 #[.int .i64 s] w fun e w' => e = .returned (.bool true) ∧ Below w.heap.size w w' := by
  by_cases h : 1 ≤ s ∧ s ≤ 64
  · obtain ⟨h1, h2⟩ := h
    have HL := slLayout_ok s h1 h2
    have HR := layoutOf_ok s h1 h2
    obtain ⟨O, N, hO, hN⟩ : ∃ O N : Int, layO s = O ∧ layN s = N := ⟨_, _, rfl, rfl⟩
    rw [hO, hN] at HL HR
    clear hO hN
    have o1 : (O == O) = true := by simp
    have o2 : (N == N) = true := by simp
    go_enter Try.func3, Try.ntmps3
    go_wp2_with fail
    go_at_call 5
    refine (HL _).mono ?_
    rintro e w1 ⟨rfl, d1, rfl⟩
    obtain ⟨w1, hw1⟩ : ∃ w1, w1 = w.drewN d1 := ⟨_, rfl⟩
    rw [← hw1]
    have hb1 : Below w.heap.size w w1 := by rw [hw1]; exact below_drawn d1
    clear hw1
    go_wp2_with fail
    go_at_call 6
    refine (HR _).mono ?_
    rintro e w2 ⟨rfl, d2, rfl⟩
    have hb2 : Below w.heap.size w (w1.drewN d2) := hb1.trans ((below_drawn d2).mono hb1.size)
    obtain ⟨w2, hw2⟩ : ∃ w2, w2 = w1.drewN d2 := ⟨_, rfl⟩
    rw [← hw2] at hb2 ⊢
    clear hw2 hb1
    go_wp2
    go_ret
    exact ⟨rfl, hb2⟩
  · have HL := slLayout_no s h
    have HR := layoutOf_no s h
    go_enter Try.func3, Try.ntmps3
    go_wp2_with fail
    go_at_call 5
    refine (HL _).mono ?_
    rintro e w1 ⟨rfl, rfl⟩
    go_wp2_with fail
    go_at_call 6
    refine (HR _).mono ?_
    rintro e w2 ⟨rfl, rfl⟩
    go_wp2
    go_ret
    exact ⟨rfl, Below.refl _ _⟩

end Go.Proofs.Ytkfmcihefdhgnaa
