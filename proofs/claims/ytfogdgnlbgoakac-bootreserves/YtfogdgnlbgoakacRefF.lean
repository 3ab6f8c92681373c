/-
  OWN TEXT. Contracts of the document's answer: In, RegionFault.
-/
import Derived.Test.YtfogdgnlbgoakacRefI
import Derived.Test.YtfogdgnlbgoakacRKit
namespace Go.Proofs.Ytfogdgnlbgoakac
open Go Go.RowKit Go.Proofs.Ytfogdgnlbgoakac.Kit

theorem below_box (w : World) (o : Obj) : Below w.heap.size w (w.alloc o) := (Below.refl _ _).alloc (Nat.le_refl _) _

theorem fault_ok (w : World) (f s : Int) (h : regOk (f, s)) :
    Calls Try.prog 25 #[.agg #[.int .i64 f, .int .i64 s]] w fun e w' => e = .returned (.int .i64 0) ∧ Below w.heap.size w w' := by
  obtain ⟨h1, h2, h3, h4, h5⟩ := h
  dsimp only at h1 h2 h3 h4 h5
  have e1 : inB f 0 255 = true := inB_t ⟨h1, h2⟩
  have e2 : inB s 1 256 = true := inB_t ⟨h3, h4⟩
  have e3 : ¬ 256 < f + s := by omega
  go_enter Try.func25, Try.ntmps25
  go_wp2_with (go_at_call 28; refine (in_any _ _ _ _).mono ?_; rintro e w' ⟨rfl, rfl⟩)
  go_ret
  exact ⟨rfl, below_box _ _⟩

theorem fault_no (w : World) (f s : Int) (h : ¬ regOk (f, s)) :
    Calls Try.prog 25 #[.agg #[.int .i64 f, .int .i64 s]] w fun e w' => e = .returned (.int .i64 1) ∧ Below w.heap.size w w' := by
  unfold regOk at h
  dsimp only at h
  by_cases h1 : 0 ≤ f ∧ f ≤ 255
  · have e1 : inB f 0 255 = true := inB_t h1
    by_cases h2 : 1 ≤ s ∧ s ≤ 256
    · have e2 : inB s 1 256 = true := inB_t h2
      have e3 : 256 < f + s := by omega
      obtain ⟨p1, p2⟩ := h1
      obtain ⟨p3, p4⟩ := h2
      clear h
      go_enter Try.func25, Try.ntmps25
      go_wp2_with (go_at_call 28; refine (in_any _ _ _ _).mono ?_; rintro e w' ⟨rfl, rfl⟩)
      go_ret
      exact ⟨rfl, below_box _ _⟩
    · have e2 : inB s 1 256 = false := inB_f h2
      clear h h1 h2
      go_enter Try.func25, Try.ntmps25
      go_wp2_with (go_at_call 28; refine (in_any _ _ _ _).mono ?_; rintro e w' ⟨rfl, rfl⟩)
      go_ret
      exact ⟨rfl, below_box _ _⟩
  · have e1 : inB f 0 255 = false := inB_f h1
    clear h h1
    go_enter Try.func25, Try.ntmps25
    go_wp2_with (go_at_call 28; refine (in_any _ _ _ _).mono ?_; rintro e w' ⟨rfl, rfl⟩)
    go_ret
    exact ⟨rfl, below_box _ _⟩

end Go.Proofs.Ytfogdgnlbgoakac
