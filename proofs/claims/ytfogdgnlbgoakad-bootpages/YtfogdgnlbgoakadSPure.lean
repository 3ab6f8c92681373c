/-
  OWN TEXT. How many regions there are behind a change, as plain mathematics.
-/
import Derived.Test.YtfogdgnlbgoakadRPure
namespace Go.Proofs.Ytfogdgnlbgoakad.Kit

/-- How many runs of pages begin below k. -/
def starts (h : Int → Bool) : Nat → Nat
  | 0 => 0
  | k + 1 => if h k = true ∧ ¬ (0 < k ∧ h (k - 1) = true) then starts h k + 1 else starts h k

theorem drawn_starts (h : Int → Bool) (k : Nat) : (drawnK h k).length = starts h k := by
  induction k with
  | zero => rfl
  | succ k ih =>
    simp only [drawnK, starts]
    by_cases h1 : h k = true
    · by_cases h2 : 0 < k ∧ h (k - 1) = true
      · rw [if_pos h1, if_pos h2, if_neg (fun g => g.2 h2)]
        unfold bump
        rw [List.length_set, ih]
      · rw [if_pos h1, if_neg h2, if_pos ⟨h1, h2⟩, List.length_append, ih]
        rfl
    · rw [if_neg h1, if_neg (fun g => h1 g.1), ih]

theorem starts_mono (h : Int → Bool) {j k : Nat} (hjk : j ≤ k) : starts h j ≤ starts h k := by
  induction k with
  | zero => obtain rfl : j = 0 := by omega
            exact Nat.le_refl _
  | succ k ih =>
    by_cases e : j = k + 1
    · rw [e]; exact Nat.le_refl _
    · have := ih (by omega)
      simp only [starts]
      split <;> omega

/-- Where an interval is made one, at most one run more begins. -/
theorem starts_change (h g : Int → Bool) (wth : Bool) (f s : Nat) (hs : 1 ≤ s) (hout : ∀ p : Int, (p < f ∨ f + s ≤ p) → g p = h p) (hin : ∀ p : Int, f ≤ p → p < f + s → g p = wth) (k : Nat) : starts g k ≤ starts h k + 1 := by
  have p1 : ∀ k, k ≤ f → starts g k = starts h k := by
    intro k
    induction k with
    | zero => intro _; rfl
    | succ k ih =>
      intro hk
      have := ih (by omega)
      simp only [starts]
      rw [hout k (by omega), hout (k - 1) (by omega), this]
  have p2 : ∀ k, f + 1 ≤ k → k ≤ f + s → starts g k ≤ starts h f + (if wth = true then 1 else 0) := by
    intro k
    induction k with
    | zero => intro hk; omega
    | succ k ih =>
      intro hk1 hk2
      simp only [starts]
      by_cases e : k = f
      · subst e
        rw [p1 k (Nat.le_refl _), hin k (by omega) (by omega)]
        cases wth with
        | true => split <;> simp
        | false => rw [if_neg (fun g => by cases g.1)]; simp
      · have := ih (by omega) (by omega)
        rw [hin k (by omega) (by omega), hin (k - 1) (by omega) (by omega)]
        rw [if_neg (fun g => g.2 ⟨by omega, g.1⟩)]
        exact this
  have p3 : starts g (f + s + 1) ≤ starts h f + 1 := by
    have h2 := p2 (f + s) (by omega) (Nat.le_refl _)
    show (if g ((f + s : Nat) : Int) = true ∧ ¬ (0 < f + s ∧ g (((f + s : Nat) : Int) - 1) = true) then starts g (f + s) + 1 else starts g (f + s)) ≤ _
    rw [hin (((f + s : Nat) : Int) - 1) (by omega) (by omega)]
    cases wth with
    | true =>
      rw [if_neg (fun q => q.2 ⟨by omega, rfl⟩)]
      simpa using h2
    | false =>
      simp only [Bool.false_eq_true, if_false, Nat.add_zero] at h2
      split <;> omega
  have p4 : ∀ k, f + s + 1 ≤ k → starts g k ≤ starts h k + 1 ∧ (starts h (f + s + 1) ≤ starts h k) := by
    intro k
    induction k with
    | zero => intro hk; omega
    | succ k ih =>
      intro hk
      by_cases e : k = f + s
      · rw [e]
        have := starts_mono h (show f ≤ f + s + 1 by omega)
        exact ⟨by omega, Nat.le_refl _⟩
      · obtain ⟨i1, i2⟩ := ih (by omega)
        refine ⟨?_, Nat.le_trans i2 (starts_mono h (by omega))⟩
        simp only [starts]
        rw [hout k (by omega), hout (k - 1) (by omega)]
        split <;> omega
  by_cases h1 : k ≤ f
  · rw [p1 k h1]; omega
  · by_cases h2 : k ≤ f + s
    · have a := p2 k (by omega) h2
      have b := starts_mono h (show f ≤ k by omega)
      split at a <;> omega
    · exact (p4 k (by omega)).1

theorem drawnAll_starts (h : Int → Bool) : (drawnAll h).length = starts h 256 := by
  rw [← drawn_all h 256 rfl]; exact drawn_starts h 256

end Go.Proofs.Ytfogdgnlbgoakad.Kit
