/-
  OWN TEXT. Regions that hold runs of pages, as plain mathematics.
-/
import Derived.Test.YtfogdgnlbgoakadKPure
import Derived.Test.YtfogdgnlbgoakadBPure
namespace Go.Proofs.Ytfogdgnlbgoakad
open Go Go.RowKit Go.Proofs.Ytfogdgnlbgoakad.Kit

theorem canon_mem {hi lo : Int} {l : List (Int × Int)} (h : Canon hi lo l) (r : Int × Int) (hr : r ∈ l) : lo ≤ r.1 ∧ 1 ≤ r.2 ∧ r.1 + r.2 ≤ hi := by
  induction l generalizing lo with
  | nil => cases hr
  | cons a l ih =>
    obtain ⟨h1, h2, h3, h4⟩ := h
    rcases List.mem_cons.1 hr with rfl | hr
    · exact ⟨h1, h2, h3⟩
    · have := ih h4 hr; omega

theorem canon_ok {l : List (Int × Int)} (h : Canon 256 0 l) (i : Nat) (hi : i < l.length) : regOk (l.getD i (0, 0)) := by
  have := canon_mem h (l.getD i (0, 0)) (by simp [List.getD_eq_getElem?_getD, hi])
  show 0 ≤ _ ∧ _ ≤ (255 : Int) ∧ 1 ≤ _ ∧ _ ≤ (256 : Int) ∧ _ ≤ (256 : Int)
  omega

theorem inL_of_mem {l : List (Int × Int)} {r : Int × Int} (hr : r ∈ l) {p : Int} (h1 : r.1 ≤ p) (h2 : p < r.1 + r.2) : inL l p = true := by
  unfold inL
  rw [List.any_eq_true]
  exact ⟨r, hr, decide_eq_true (by omega)⟩

/-- A run of pages lies in one region. -/
theorem run_in {hi lo : Int} {l : List (Int × Int)} (h : Canon hi lo l) (p : Int) (n : Nat) (hn : 1 ≤ n) (hall : ∀ i : Nat, i < n → inL l (p + i) = true) : ∃ r, r ∈ l ∧ r.1 ≤ p ∧ p + n ≤ r.1 + r.2 := by
  induction l generalizing lo with
  | nil => have := hall 0 (by omega); cases this
  | cons a l ih =>
    obtain ⟨h1, h2, h3, h4⟩ := h
    by_cases hp : p < a.1 + a.2
    · have ha : a.1 ≤ p := by
        have := hall 0 (by omega)
        rw [inL_cons, Bool.or_eq_true] at this
        rcases this with g | g
        · have := of_decide_eq_true g; omega
        · rw [inL_below h4 (by omega)] at g; cases g
      refine ⟨a, List.mem_cons_self, ha, ?_⟩
      rcases Int.lt_or_le (a.1 + a.2) (p + n) with g | g
      · have := hall (a.1 + a.2 - p).toNat (by omega)
        rw [show p + ((a.1 + a.2 - p).toNat : Int) = a.1 + a.2 by omega, inL_cons, inL_below h4 (by omega), decide_eq_false (by omega)] at this
        cases this
      · exact g
    · obtain ⟨r, hr, g⟩ := ih h4 (fun i hi => by
        have := hall i hi
        rw [inL_cons, decide_eq_false (by omega), Bool.false_or] at this
        exact this)
      exact ⟨r, List.mem_cons_of_mem _ hr, g⟩

def insideR (p n : Int) (r : Int × Int) : Bool := decide (r.1 ≤ p ∧ p + n ≤ r.1 + r.2)
def meetR (p n : Int) (r : Int × Int) : Bool := decide (r.1 < p + n ∧ p < r.1 + r.2)
def fitR (k n : Int) (r : Int × Int) : Bool := decide ((r.1 + k - 1) / k * k + n ≤ r.1 + r.2)

theorem inside_t {h : Int → Bool} (p n : Nat) (hn : 1 ≤ n) (hp : p + n ≤ 256) (hall : ∀ i : Nat, i < n → h ((p : Int) + i) = true) : (drawnAll h).any (insideR p n) = true := by
  obtain ⟨r, hr, h1, h2⟩ := run_in (drawnAll_canon h) p n hn (fun i hi => by rw [drawnAll_pages _ _ (by omega) (by omega)]; exact hall i hi)
  rw [List.any_eq_true]
  exact ⟨r, hr, decide_eq_true ⟨h1, h2⟩⟩

theorem meet_f {h : Int → Bool} (p n : Nat) (hn : 1 ≤ n) (hp : p + n ≤ 256) (hall : ∀ i : Nat, i < n → h ((p : Int) + i) = false) : (drawnAll h).any (meetR p n) = false := by
  rw [Bool.eq_false_iff]
  intro g
  rw [List.any_eq_true] at g
  obtain ⟨r, hr, g⟩ := g
  obtain ⟨g1, g2⟩ := of_decide_eq_true g
  have hm := canon_mem (drawnAll_canon h) r hr
  obtain ⟨q, h1, h2, h3, h4⟩ : ∃ q : Int, r.1 ≤ q ∧ q < r.1 + r.2 ∧ (p : Int) ≤ q ∧ q < p + n := by
    rcases Int.lt_or_le r.1 p with c | c
    · exact ⟨p, by omega, by omega, by omega, by omega⟩
    · exact ⟨r.1, by omega, by omega, by omega, by omega⟩
  have := inL_of_mem hr h1 h2
  rw [drawnAll_pages _ _ (by omega) (by omega)] at this
  have h5 := hall (q - p).toNat (by omega)
  rw [show (p : Int) + ((q - p).toNat : Int) = q by omega] at h5
  rw [h5] at this
  cases this

/-- Where nothing was found no region is great enough. -/
theorem no_fit {h : Int → Bool} (n k : Nat) (down : Bool) (hn : 1 ≤ n) (hk : 1 ≤ k) (hB : bestK h n k 0 down (places n 0 256) < 0) : (drawnAll h).any (fitR k n) = false := by
  rw [Bool.eq_false_iff]
  intro g
  rw [List.any_eq_true] at g
  obtain ⟨r, hr, g⟩ := g
  have g1 := of_decide_eq_true g
  have hm := canon_mem (drawnAll_canon h) r hr
  obtain ⟨f, hf⟩ : ∃ f : Nat, r.1 = f := ⟨r.1.toNat, by omega⟩
  rw [hf] at g1 hm
  have e1 : ((f : Int) + k - 1) / k = ((f + k - 1) / k : Nat) := by
    rw [show (f : Int) + k - 1 = ((f + k - 1 : Nat) : Int) by omega]
    rfl
  rw [e1] at g1
  obtain ⟨q, hq⟩ : ∃ q, (f + k - 1) / k = q := ⟨_, rfl⟩
  have d1 : f ≤ q * k := by
    have g5 := Nat.div_add_mod (f + k - 1) k
    have g6 := Nat.mod_lt (f + k - 1) (show 0 < k by omega)
    rw [hq, Nat.mul_comm] at g5
    omega
  rw [hq] at g1
  have g2 : ((q * k : Nat) : Int) + n ≤ f + r.2 := by rw [Int.natCast_mul]; exact g1
  obtain ⟨P, hP⟩ : ∃ P, q * k = P := ⟨_, rfl⟩
  rw [hP] at d1 g2
  rcases bestK_spec h n k 0 down (places n 0 256) with ⟨_, hno⟩ | ⟨i, _, e, _⟩
  · have := hno P (by unfold places; omega)
    rw [Nat.zero_add] at this
    have hok : okAt h n k P = true := by
      unfold okAt
      rw [Bool.and_eq_true]
      refine ⟨decide_eq_true (by rw [← hP]; exact Nat.mul_mod_left _ _), (allF_iff _ _ _).2 fun i hi => ?_⟩
      rw [← drawnAll_pages h _ (by omega) (by omega)]
      exact inL_of_mem hr (by omega) (by omega)
    rw [hok] at this
    cases this
  · omega

/-- What was found is free. -/
theorem got {h : Int → Bool} {n k : Nat} {down : Bool} (hB : 0 ≤ bestK h n k 0 down (places n 0 256)) : ∃ p : Nat, bestK h n k 0 down (places n 0 256) = p ∧ p + n ≤ 256 ∧ p % k = 0 ∧ ∀ i : Nat, i < n → h ((p : Int) + i) = true := by
  rcases bestK_spec h n k 0 down (places n 0 256) with ⟨e, _⟩ | ⟨i, hi, e, hok, _⟩
  · omega
  · unfold okAt at hok
    rw [Bool.and_eq_true, Nat.zero_add] at hok
    rw [Nat.zero_add] at e
    exact ⟨i, e, by unfold places at hi; omega, of_decide_eq_true hok.1, (allF_iff _ _ _).1 hok.2⟩

/-- Reserved and freed, it is as it was. -/
theorem back_same {R : List (Int × Int)} (hR : MayP R) (p n : Nat) (hn : 1 ≤ n) (hall : ∀ i : Nat, i < n → inL R ((p : Int) + i) = false) : drawnAll (chH p n false (drawnAll (chH p n true R))) = R := by
  refine drawn_of_canon (canon_of_may hR) fun q h1 h2 => ?_
  obtain ⟨q, rfl⟩ : ∃ m : Nat, q = m := ⟨q.toNat, by omega⟩
  rw [chH_at _ _ _ _ _ hn]
  by_cases g : p ≤ q ∧ q < p + n
  · rw [if_pos g]
    have := hall (q - p) (by omega)
    rw [show (p : Int) + ((q - p : Nat) : Int) = q by omega] at this
    exact this
  · rw [if_neg g, drawnAll_pages _ _ h1 h2, chH_at _ _ _ _ _ hn, if_neg g]

/-- What is reserved is not free. -/
theorem less_f {M R : List (Int × Int)} (p n : Nat) (hn : 1 ≤ n) (hp : p + n ≤ 256) (i : Nat) (hi : i < n) : freeH M (drawnAll (chH p n true R)) ((p : Int) + i) = false := by
  unfold freeH
  rw [show (p : Int) + i = ((p + i : Nat) : Int) by omega, drawnAll_pages (chH p n true R) _ (by omega) (by omega), chH_at _ _ _ _ _ hn, if_pos (by omega)]
  simp

end Go.Proofs.Ytfogdgnlbgoakad
