/-
  OWN TEXT. Contract of the code: buddy.put.
-/
import Derived.Test.YtamkgakhgfhmjaeZcJoin
import Derived.Test.YtamkgakhgfhmjaeZcPages
import Derived.Test.YtamkgakhgfhmjaeBCon
import Derived.Test.YtamkgakhgfhmjaeBIns4
import Derived.Test.YtamkgakhgfhmjaeZOvl
namespace Go.Proofs.Ytamkgakhgfhmjae
open Go Go.RowKit Go.Proofs.Ytamkgakhgfhmjae.Kit

theorem shl_one (o : Int) (h : ordOk o) (W : World) : (binOp .shl 3 (.int .i64 1) (.int .i64 o)).run Try.prog W = .ok (.int .i64 (pw o)) W := by
  rcases ord_cases h with ⟨rfl, e⟩ | ⟨rfl, e⟩ | ⟨rfl, e⟩ | ⟨rfl, e⟩ | ⟨rfl, e⟩ <;> (rw [e]; rfl)

set_option maxHeartbeats 2000000 in
theorem putF1_any (W : World) (b1 b2 : Nat) (E a : Int) (ba bo bt : Int) (c1 : W.cell? ⟨b1, 0, none⟩ = some (.int .i64 E)) (c2 : W.cell? ⟨b2, 0, none⟩ = some (.int .i64 a)) (ho : ordOk bo) (h0 : 0 ≤ ba) (h1 : ba ≤ 256) :
    Calls Try.prog 41 (#[.agg #[.int .i64 ba, .int .i64 bo, .int .i64 bt]] ++ #[.pointer (some ⟨b1, 0, none⟩), .pointer (some ⟨b2, 0, none⟩)]) W fun e W' => e = .returned (.bool (ovl1 E a ⟨ba, bo, bt⟩)) ∧ Below W.heap.size W W' := by
  have hb0 := below_box W (.cells #[.int .i64 ba, .int .i64 bo, .int .i64 bt] 39)
  have d1 := keep c1 hb0
  have d2 := keep c2 hb0
  have l0 : (W.alloc (.cells #[.int .i64 ba, .int .i64 bo, .int .i64 bt] 39)).cell? ⟨W.heap.size, 0, none⟩ = some (.int .i64 ba) := by go_simp
  have l1 : (W.alloc (.cells #[.int .i64 ba, .int .i64 bo, .int .i64 bt] 39)).cell? ⟨W.heap.size, 1, none⟩ = some (.int .i64 bo) := by go_simp
  have l2 : (W.alloc (.cells #[.int .i64 ba, .int .i64 bo, .int .i64 bt] 39)).cell? ⟨W.heap.size, 2, none⟩ = some (.int .i64 bt) := by go_simp
  obtain ⟨W0, hW0⟩ : ∃ W0, W.alloc (.cells #[.int .i64 ba, .int .i64 bo, .int .i64 bt] 39) = W0 := ⟨_, rfl⟩
  rw [hW0] at hb0 d1 d2 l0 l1 l2
  have HW0 : Hid _ := hW0
  obtain ⟨T, hT⟩ : ∃ T, ba + pw bo = T := ⟨_, rfl⟩
  have HB : Hid (∀ V, Below W0.heap.size W0 V → Calls Try.prog 42 #[.agg #[.int .i64 ba, .int .i64 bo, .int .i64 bt]] V fun e w' => e = .returned (.int .i64 T) ∧ Below W0.heap.size W0 w') := fun V hS => by
    rw [← hT]
    refine (behind_any V ba bo bt ho h0 h1).mono ?_
    rintro e w' ⟨rfl, hb⟩
    exact ⟨rfl, hS.trans (hb.mono hS.size)⟩
  have S0 : Below W0.heap.size W0 W0 := Below.refl _ _
  have m1 : ∀ wx, Below W0.heap.size W0 wx → wx.cell? ⟨b1, 0, none⟩ = some (.int .i64 E) := fun wx h => keep d1 h
  have m2 : ∀ wx, Below W0.heap.size W0 wx → wx.cell? ⟨b2, 0, none⟩ = some (.int .i64 a) := fun wx h => keep d2 h
  clear c1 c2 hW0
  by_cases g1 : ba < E
  · have HF : Hid (decide (a < T) = ovl1 E a ⟨ba, bo, bt⟩) := by
      show _ = decide (_ ∧ _)
      rw [← hT]; simp [g1]
    have g1' : decide (ba < E) = true := decide_eq_true g1
    clear hT
    go_enter Try.func41, Try.ntmps41
    go_wp2_with (rw [HW0.out])
    go_region_with (first | (go_at_call 42; refine (HB.out _ ?_).mono ?_; (first | exact Below.drew S0 | assumption); rintro e w6 ⟨rfl, hS6⟩; have a0 := m1 _ hS6; have a1 := m2 _ hS6))
    all_goals
      go_wp2
      go_ret
      exact ⟨ret_bool HF.out, hb0.trans (hS6.mono hb0.size)⟩
  · have HF : Hid (false = ovl1 E a ⟨ba, bo, bt⟩) := by
      show _ = decide (_ ∧ _)
      simp [g1]
    have g1' : decide (ba < E) = false := decide_eq_false g1
    clear hT
    go_enter Try.func41, Try.ntmps41
    go_wp2_with (rw [HW0.out])
    go_region_with (first | (go_at_call 42; refine (HB.out _ ?_).mono ?_; (first | exact Below.drew S0 | assumption); rintro e w6 ⟨rfl, hS6⟩; have a0 := m1 _ hS6; have a1 := m2 _ hS6))
    all_goals
      go_wp2
      go_ret
      exact ⟨ret_bool HF.out, hb0.trans ((Below.drew S0).mono hb0.size)⟩
theorem putF1_call (args : Array Value) (W : World) : (callFunc 41 args).run Try.prog W = .ok (.enter 41 args) W := by kernel_rfl

set_option maxHeartbeats 1000000 in
theorem putF2_any (W : World) (b1 : Nat) (a : Int) (ba bo bt : Int) (c1 : W.cell? ⟨b1, 0, none⟩ = some (.int .i64 a)) :
    Calls Try.prog 45 (#[.agg #[.int .i64 ba, .int .i64 bo, .int .i64 bt]] ++ #[.pointer (some ⟨b1, 0, none⟩)]) W fun e W' => e = .returned (.bool (decide (a < ba))) ∧ Below W.heap.size W W' := by
  have hb0 := below_box W (.cells #[.int .i64 ba, .int .i64 bo, .int .i64 bt] 39)
  have d1 := keep c1 hb0
  clear c1
  go_enter Try.func45, Try.ntmps45
  go_wp2
  go_ret
  exact ⟨rfl, hb0⟩
theorem putF2_call (args : Array Value) (W : World) : (callFunc 45 args).run Try.prog W = .ok (.enter 45 args) W := by kernel_rfl

/-- The place of a new block. -/
theorem addB_at {l : List Bk} {b : Bk} {i : Nat} (hi : i ≤ l.length) (h1 : ∀ j, j < i → ¬ b.a < (l.getD j .zero).a) (h2 : i < l.length → b.a < (l.getD i .zero).a) : addB l b = insB l i b := by
  induction l generalizing i with
  | nil => obtain rfl : i = 0 := by simpa using hi
           rfl
  | cons x l ih =>
    cases i with
    | zero =>
      have : x.a > b.a := by have := h2 (by simp); simpa using this
      unfold addB
      rw [if_pos this]
      rfl
    | succ i =>
      have : ¬ x.a > b.a := by have := h1 0 (by omega); simpa using this
      unfold addB
      rw [if_neg this, ih (by simpa using hi) (fun j hj => by have := h1 (j + 1) (by omega); simpa using this) (fun hh => by have := h2 (by simpa using hh); simpa using this)]
      rfl

end Go.Proofs.Ytamkgakhgfhmjae
