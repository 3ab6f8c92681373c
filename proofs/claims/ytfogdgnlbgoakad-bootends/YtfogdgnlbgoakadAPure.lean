/-
  OWN TEXT. Which pages an allocation finds, as plain mathematics.
-/
import Derived.Test.YtfogdgnlbgoakadRPure
namespace Go.Proofs.Ytfogdgnlbgoakad.Kit

/-- The first c pages from p on are free. -/
def allF (h : Int → Bool) (p : Int) : Nat → Bool
  | 0 => true
  | c + 1 => allF h p c && h (p + c)

/-- Pages may be given from p on. -/
def okAt (h : Int → Bool) (sz al p : Nat) : Bool := decide (p % al = 0) && allF h p sz

/-- The best place among the first j from lo on. -/
def bestK (h : Int → Bool) (sz al lo : Nat) (down : Bool) : Nat → Int
  | 0 => -1
  | j + 1 => if okAt h sz al (lo + j) = true ∧ (bestK h sz al lo down j < 0 ∨ down = true) then ((lo + j : Nat) : Int) else bestK h sz al lo down j

theorem allF_iff (h : Int → Bool) (p : Int) (c : Nat) : allF h p c = true ↔ ∀ i : Nat, i < c → h (p + i) = true := by
  induction c with
  | zero => simp [allF]
  | succ c ih =>
    simp only [allF, Bool.and_eq_true, ih]
    constructor
    · rintro ⟨h1, h2⟩ i hi
      by_cases e : i = c
      · rw [e]; exact h2
      · exact h1 i (by omega)
    · intro g; exact ⟨fun i hi => g i (by omega), g c (by omega)⟩

theorem allF_false {h : Int → Bool} {p : Int} {c d : Nat} (hc : allF h p c = false) (hd : c ≤ d) : allF h p d = false := by
  rw [Bool.eq_false_iff] at hc ⊢
  intro g
  exact hc ((allF_iff h p c).2 fun i hi => (allF_iff h p d).1 g i (by omega))

/-- What bestK finds. -/
theorem bestK_spec (h : Int → Bool) (sz al lo : Nat) (down : Bool) (j : Nat) :
    (bestK h sz al lo down j = -1 ∧ ∀ i, i < j → okAt h sz al (lo + i) = false) ∨
    ∃ i, i < j ∧ bestK h sz al lo down j = ((lo + i : Nat) : Int) ∧ okAt h sz al (lo + i) = true ∧ (down = true → ∀ k, i < k → k < j → okAt h sz al (lo + k) = false) ∧ (down = false → ∀ k, k < i → okAt h sz al (lo + k) = false) := by
  induction j with
  | zero => left; exact ⟨rfl, fun i hi => by omega⟩
  | succ j ih =>
    by_cases hok : okAt h sz al (lo + j) = true
    · rcases ih with ⟨e, hn⟩ | ⟨i, hi, e, h1, h2, h3⟩
      · right
        refine ⟨j, by omega, ?_, hok, fun _ k h1 h2 => by omega, fun _ k hk => hn k hk⟩
        simp only [bestK]
        rw [if_pos ⟨hok, Or.inl (by rw [e]; omega)⟩]
      · by_cases hd : down = true
        · right
          refine ⟨j, by omega, ?_, hok, fun _ k h1 h2 => by omega, fun g => absurd hd (by simp [g])⟩
          rw [bestK, if_pos ⟨hok, Or.inr hd⟩]
        · right
          refine ⟨i, by omega, ?_, h1, fun g => absurd g hd, h3⟩
          rw [bestK, if_neg ?_, e]
          rintro ⟨_, g⟩
          rcases g with g | g
          · rw [e] at g; omega
          · exact hd g
    · have hof : okAt h sz al (lo + j) = false := by simpa using hok
      have eq : bestK h sz al lo down (j + 1) = bestK h sz al lo down j := by
        simp only [bestK]; rw [if_neg (fun g => hok g.1)]
      rw [eq]
      rcases ih with ⟨e, hn⟩ | ⟨i, hi, e, h1, h2, h3⟩
      · left
        refine ⟨e, fun i hi => ?_⟩
        by_cases e2 : i = j
        · rw [e2]; exact hof
        · exact hn i (by omega)
      · right
        refine ⟨i, by omega, e, h1, fun g k hk1 hk2 => ?_, h3⟩
        by_cases e2 : k = j
        · rw [e2]; exact hof
        · exact h2 g k hk1 (by omega)

end Go.Proofs.Ytfogdgnlbgoakad.Kit
