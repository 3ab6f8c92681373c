/-
  OWN TEXT. Contract of the code: buddy.areBounds.
-/
import Derived.Test.YtamkgakhgfhmjaeZBase
import Derived.Test.YtamkgakhgfhmjaeZPure
namespace Go.Proofs.Ytamkgakhgfhmjae
open Go Go.RowKit Go.Proofs.Ytamkgakhgfhmjae.Kit

/-- P3.1, decided. -/
def newB (f t : Int) : Bool := decide (0 ≤ f ∧ f ≤ t ∧ t ≤ 256 ∧ f % 16 = 0 ∧ t % 16 = 0)
theorem newB_iff (f t : Int) : newB f t = true ↔ newOk f t := by unfold newB newOk; simp
theorem newB_t {f t : Int} (h : newOk f t) : newB f t = true := (newB_iff f t).2 h
theorem newB_f {f t : Int} (h : ¬ newOk f t) : newB f t = false := by
  cases g : newB f t with
  | false => rfl
  | true => exact absurd ((newB_iff f t).1 g) h

set_option maxHeartbeats 1000000 in
theorem bounds_any (w : World) (f t : Int) :
    Calls Try.prog 35 #[.int .i64 f, .int .i64 t] w fun e w' => e = .returned (.bool (newB f t)) ∧ w = w' := by
  by_cases h1 : 0 ≤ f
  · by_cases h2 : f ≤ t
    · by_cases h3 : t ≤ 256
      · obtain ⟨F, rfl⟩ : ∃ F : Nat, f = F := ⟨f.toNat, by omega⟩
        obtain ⟨T, rfl⟩ : ∃ T : Nat, t = T := ⟨t.toNat, by omega⟩
        by_cases h4 : (F : Int) % 16 = 0
        · by_cases h5 : (T : Int) % 16 = 0
          · have HR : Hid (newB F T = true) := newB_t ⟨h1, h2, h3, h4, h5⟩
            go_enter Try.func35, Try.ntmps35
            go_wp2
            go_ret
            exact ⟨ret_bool HR.out.symm, rfl⟩
          · have HR : Hid (newB F T = false) := newB_f fun g => h5 g.2.2.2.2
            have h5' : ((T : Int) % 16 == 0) = false := by simpa using h5
            clear h5
            go_enter Try.func35, Try.ntmps35
            go_wp2
            go_ret
            exact ⟨ret_bool HR.out.symm, rfl⟩
        · have HR : Hid (newB F T = false) := newB_f fun g => h4 g.2.2.2.1
          have h4' : ((F : Int) % 16 == 0) = false := by simpa using h4
          clear h4
          go_enter Try.func35, Try.ntmps35
          go_wp2
          go_ret
          exact ⟨ret_bool HR.out.symm, rfl⟩
      · have HR : Hid (newB f t = false) := newB_f fun g => h3 g.2.2.1
        go_enter Try.func35, Try.ntmps35
        go_wp2
        go_ret
        exact ⟨ret_bool HR.out.symm, rfl⟩
    · have HR : Hid (newB f t = false) := newB_f fun g => h2 g.2.1
      go_enter Try.func35, Try.ntmps35
      go_wp2
      go_ret
      exact ⟨ret_bool HR.out.symm, rfl⟩
  · have HR : Hid (newB f t = false) := newB_f fun g => h1 g.1
    go_enter Try.func35, Try.ntmps35
    go_wp2
    go_ret
    exact ⟨ret_bool HR.out.symm, rfl⟩

end Go.Proofs.Ytamkgakhgfhmjae
