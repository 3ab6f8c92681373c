/-
  OWN TEXT. Regions that may be, as plain mathematics: how they are made of pages, and that their pages tell them.
-/
import Derived.Test.YtmpalonhckafjaaRKit
namespace Go.Proofs.Ytmpalonhckafjaa.Kit

/-- In order, apart, from lo on, up to hi. -/
def Canon (hi : Int) : Int → List (Int × Int) → Prop
  | _, [] => True
  | lo, r :: l => lo ≤ r.1 ∧ 1 ≤ r.2 ∧ r.1 + r.2 ≤ hi ∧ Canon hi (r.1 + r.2 + 1) l

/-- Where the next one may begin. -/
def endOf : Int → List (Int × Int) → Int
  | lo, [] => lo
  | _, r :: l => endOf (r.1 + r.2 + 1) l

theorem endOf_snoc (lo : Int) (l : List (Int × Int)) (r : Int × Int) : endOf lo (l ++ [r]) = r.1 + r.2 + 1 := by
  induction l generalizing lo with
  | nil => rfl
  | cons a l ih => exact ih _

theorem canon_snoc (hi lo : Int) (l : List (Int × Int)) (r : Int × Int) : Canon hi lo (l ++ [r]) ↔ Canon hi lo l ∧ endOf lo l ≤ r.1 ∧ 1 ≤ r.2 ∧ r.1 + r.2 ≤ hi := by
  induction l generalizing lo with
  | nil => simp [Canon, endOf]
  | cons a l ih =>
    show lo ≤ a.1 ∧ 1 ≤ a.2 ∧ a.1 + a.2 ≤ hi ∧ Canon hi (a.1 + a.2 + 1) (l ++ [r]) ↔ (lo ≤ a.1 ∧ 1 ≤ a.2 ∧ a.1 + a.2 ≤ hi ∧ Canon hi (a.1 + a.2 + 1) l) ∧ endOf (a.1 + a.2 + 1) l ≤ r.1 ∧ 1 ≤ r.2 ∧ r.1 + r.2 ≤ hi
    rw [ih]
    constructor
    · rintro ⟨h1, h2, h3, h4, h5, h6, h7⟩; exact ⟨⟨h1, h2, h3, h4⟩, h5, h6, h7⟩
    · rintro ⟨⟨h1, h2, h3, h4⟩, h5, h6, h7⟩; exact ⟨h1, h2, h3, h4, h5, h6, h7⟩

theorem canon_end {hi lo : Int} {l : List (Int × Int)} (h : Canon hi lo l) : lo ≤ endOf lo l := by
  induction l generalizing lo with
  | nil => exact Int.le_refl _
  | cons a l ih =>
    obtain ⟨a1, a2, a3, a4⟩ := h
    have := ih a4
    show lo ≤ endOf (a.1 + a.2 + 1) l
    omega

theorem canon_mono {hi hi' lo lo' : Int} {l : List (Int × Int)} (h : Canon hi lo l) (h1 : hi ≤ hi') (h2 : lo' ≤ lo) : Canon hi' lo' l := by
  induction l generalizing lo lo' with
  | nil => trivial
  | cons a l ih =>
    obtain ⟨a1, a2, a3, a4⟩ := h
    exact ⟨by omega, a2, by omega, ih a4 (Int.le_refl _)⟩

theorem inL_cons (a : Int × Int) (l : List (Int × Int)) (p : Int) : inL (a :: l) p = (decide (a.1 ≤ p ∧ p ≤ a.1 + a.2 - 1) || inL l p) := rfl

theorem inL_append (l m : List (Int × Int)) (p : Int) : inL (l ++ m) p = (inL l p || inL m p) := by simp [inL, List.any_append]

theorem inL_below {hi lo : Int} {l : List (Int × Int)} (h : Canon hi lo l) {p : Int} (hp : p < lo) : inL l p = false := by
  induction l generalizing lo with
  | nil => rfl
  | cons a l ih =>
    obtain ⟨a1, a2, a3, a4⟩ := h
    rw [inL_cons, ih a4 (by omega), Bool.or_false]
    exact decide_eq_false (by omega)

theorem inL_above {hi lo : Int} {l : List (Int × Int)} (h : Canon hi lo l) {p : Int} (hp : hi ≤ p) : inL l p = false := by
  induction l generalizing lo with
  | nil => rfl
  | cons a l ih =>
    obtain ⟨a1, a2, a3, a4⟩ := h
    rw [inL_cons, ih a4, Bool.or_false]
    exact decide_eq_false (by omega)

/-- Their pages tell them. -/
theorem canon_unique {hi lo : Int} {l m : List (Int × Int)} (hl : Canon hi lo l) (hm : Canon hi lo m) (h : ∀ p, lo ≤ p → p < hi → inL l p = inL m p) : l = m := by
  induction l generalizing lo m with
  | nil =>
    cases m with
    | nil => rfl
    | cons b m =>
      obtain ⟨b1, b2, b3, b4⟩ := hm
      have := h b.1 (by omega) (by omega)
      rw [inL_cons, decide_eq_true (by omega)] at this
      simp [inL] at this
  | cons a l ih =>
    obtain ⟨a1, a2, a3, a4⟩ := hl
    cases m with
    | nil =>
      have := h a.1 (by omega) (by omega)
      rw [inL_cons, decide_eq_true (by omega)] at this
      simp [inL] at this
    | cons b m =>
      obtain ⟨b1, b2, b3, b4⟩ := hm
      have e1 : a.1 = b.1 := by
        rcases Int.lt_trichotomy a.1 b.1 with g | g | g
        · have := h a.1 (by omega) (by omega)
          rw [inL_cons, inL_cons, decide_eq_true (by omega), inL_below b4 (by omega), decide_eq_false (by omega)] at this
          simp at this
        · exact g
        · have := h b.1 (by omega) (by omega)
          rw [inL_cons, inL_cons, decide_eq_false (by omega), inL_below a4 (by omega), decide_eq_true (by omega)] at this
          simp at this
      have e2 : a.2 = b.2 := by
        rcases Int.lt_trichotomy a.2 b.2 with g | g | g
        · have := h (a.1 + a.2) (by omega) (by omega)
          rw [inL_cons, inL_cons, decide_eq_false (by omega), inL_below a4 (by omega), decide_eq_true (by omega)] at this
          simp at this
        · exact g
        · have := h (b.1 + b.2) (by omega) (by omega)
          rw [inL_cons, inL_cons, decide_eq_true (by omega), inL_below b4 (by omega), decide_eq_false (by omega)] at this
          simp at this
      have e : a = b := Prod.ext e1 e2
      subst e
      rw [ih a4 b4 (fun p hp hq => ?_)]
      have := h p (by omega) hq
      rw [inL_cons, inL_cons, decide_eq_false (by omega)] at this
      simpa using this

theorem canon_of_may {l : List (Int × Int)} (h : MayP l) : Canon 256 0 l := by
  have key : ∀ (l : List (Int × Int)) (lo : Int), (∀ i, i < l.length → regOk (l.getD i (0, 0))) → (∀ i, i + 1 < l.length → (l.getD i (0, 0)).1 + (l.getD i (0, 0)).2 < (l.getD (i + 1) (0, 0)).1) → (0 < l.length → lo ≤ (l.getD 0 (0, 0)).1) → Canon 256 lo l := by
    intro l
    induction l with
    | nil => intros; trivial
    | cons a l ih =>
      intro lo h1 h2 h3
      have ha := h1 0 (by simp)
      obtain ⟨p1, p2, p3, p4, p5⟩ := ha
      refine ⟨h3 (by simp), p3, p5, ih _ (fun i hi => ?_) (fun i hi => ?_) (fun hl => ?_)⟩
      · have := h1 (i + 1) (by simpa using hi); simpa using this
      · have := h2 (i + 1) (by simpa using hi); simpa using this
      · have := h2 0 (by simpa using hl)
        simp at this
        simp
        omega
  exact key l 0 h.ok h.gap (fun h0 => (h.ok 0 h0).1)

theorem may_of_canon {l : List (Int × Int)} (h : Canon 256 0 l) (hl : l.length ≤ 40) : MayP l := by
  have key : ∀ (l : List (Int × Int)) (lo : Int), 0 ≤ lo → Canon 256 lo l → (∀ i, i < l.length → regOk (l.getD i (0, 0))) ∧ (∀ i, i + 1 < l.length → (l.getD i (0, 0)).1 + (l.getD i (0, 0)).2 < (l.getD (i + 1) (0, 0)).1) := by
    intro l
    induction l with
    | nil => intros; exact ⟨fun i hi => by simp at hi, fun i hi => by simp at hi⟩
    | cons a l ih =>
      intro lo h0 h
      obtain ⟨a1, a2, a3, a4⟩ := h
      obtain ⟨i1, i2⟩ := ih (a.1 + a.2 + 1) (by omega) a4
      refine ⟨fun i hi => ?_, fun i hi => ?_⟩
      · cases i with
        | zero => exact ⟨by simp; omega, by simp; omega, by simpa using a2, by simp; omega, by simpa using a3⟩
        | succ i => have := i1 i (by simpa using hi); simpa using this
      · cases i with
        | zero =>
          cases l with
          | nil => simp at hi
          | cons b l => simp; have := a4.1; omega
        | succ i => have := i2 i (by simpa using hi); simpa using this
  obtain ⟨k1, k2⟩ := key l 0 (Int.le_refl _) h
  exact ⟨hl, k1, k2⟩

/-- The last one has a page more. -/
def bump (l : List (Int × Int)) : List (Int × Int) := l.set (l.length - 1) ((l.getD (l.length - 1) (0, 0)).1, (l.getD (l.length - 1) (0, 0)).2 + 1)

theorem bump_snoc (l : List (Int × Int)) (r : Int × Int) : bump (l ++ [r]) = l ++ [(r.1, r.2 + 1)] := by
  simp [bump, List.getD_eq_getElem?_getD]

/-- Regions of the pages below k of which something holds. -/
def drawnK (h : Int → Bool) : Nat → List (Int × Int)
  | 0 => []
  | k + 1 => if h k then (if 0 < k ∧ h (k - 1) then bump (drawnK h k) else drawnK h k ++ [((k : Int), 1)]) else drawnK h k

structure DrawnInv (h : Int → Bool) (k : Nat) : Prop where
  canon : Canon k 0 (drawnK h k)
  pages : ∀ p : Int, 0 ≤ p → p < k → inL (drawnK h k) p = h p
  run : 0 < k → h (k - 1) = true → ∃ (l : List (Int × Int)) (f s : Int), drawnK h k = l ++ [(f, s)] ∧ f + s = k
  fresh : ¬ (0 < k ∧ h (k - 1) = true) → endOf 0 (drawnK h k) ≤ k

theorem drawn_inv (h : Int → Bool) (k : Nat) : DrawnInv h k := by
  induction k with
  | zero => exact ⟨trivial, fun p h1 h2 => by omega, fun h0 => by omega, fun _ => Int.le_refl _⟩
  | succ k ih =>
    obtain ⟨i1, i2, i3, i4⟩ := ih
    have ek : ((k + 1 : Nat) : Int) - 1 = k := by omega
    by_cases hk : h k = true
    · by_cases hr : 0 < k ∧ h (k - 1) = true
      · obtain ⟨l, f, s, e, hfs⟩ := i3 hr.1 hr.2
        have ed : drawnK h (k + 1) = l ++ [(f, s + 1)] := by
          simp only [drawnK]
          rw [if_pos hk, if_pos hr, e, bump_snoc]
        rw [e, canon_snoc] at i1
        obtain ⟨c1, c2, c3, c4⟩ := i1
        dsimp only at c2 c3 c4
        refine ⟨?_, ?_, ?_, ?_⟩
        · rw [ed, canon_snoc]; exact ⟨canon_mono c1 (by omega) (Int.le_refl _), c2, by dsimp only; omega, by dsimp only; omega⟩
        · intro p h1 h2
          rw [ed, inL_append]
          by_cases hp : p < k
          · have := i2 p h1 hp
            rw [e, inL_append] at this
            rw [← this]
            congr 1
            simp only [inL, List.any_cons, List.any_nil, Bool.or_false]
            congr 1
            apply propext
            constructor <;> intro g <;> omega
          · have : p = k := by omega
            subst this
            rw [hk]
            simp only [inL, List.any_cons, List.any_nil, Bool.or_false, Bool.or_eq_true]
            right
            exact decide_eq_true (by omega)
        · intro _ _; exact ⟨l, f, s + 1, ed, by omega⟩
        · intro g; exact absurd ⟨by omega, by rw [ek]; exact hk⟩ g
      · have ed : drawnK h (k + 1) = drawnK h k ++ [((k : Int), 1)] := by
          simp only [drawnK]
          rw [if_pos hk, if_neg hr]
        have hf := i4 hr
        refine ⟨?_, ?_, ?_, ?_⟩
        · rw [ed, canon_snoc]; exact ⟨canon_mono i1 (by omega) (Int.le_refl _), hf, by dsimp only; omega, by dsimp only; omega⟩
        · intro p h1 h2
          rw [ed, inL_append]
          by_cases hp : p < k
          · rw [i2 p h1 hp]
            simp only [inL, List.any_cons, List.any_nil, Bool.or_false]
            rw [decide_eq_false (by omega), Bool.or_false]
          · have : p = k := by omega
            subst this
            rw [hk]
            simp only [inL, List.any_cons, List.any_nil, Bool.or_false, Bool.or_eq_true]
            right
            exact decide_eq_true (by omega)
        · intro _ _; exact ⟨_, _, _, ed, by omega⟩
        · intro g; exact absurd ⟨by omega, by rw [ek]; exact hk⟩ g
    · have ed : drawnK h (k + 1) = drawnK h k := by
        simp only [drawnK]
        rw [if_neg hk]
      refine ⟨?_, ?_, ?_, ?_⟩
      · rw [ed]; exact canon_mono i1 (by omega) (Int.le_refl _)
      · intro p h1 h2
        rw [ed]
        by_cases hp : p < k
        · exact i2 p h1 hp
        · have : p = k := by omega
          subst this
          rw [inL_above i1 (Int.le_refl _)]
          simpa using hk
      · intro _ g; rw [ek] at g; exact absurd g hk
      · intro _
        rw [ed]
        by_cases hr : 0 < k ∧ h (k - 1) = true
        · obtain ⟨l, f, s, e, hfs⟩ := i3 hr.1 hr.2
          rw [e, endOf_snoc]; dsimp only; omega
        · have := i4 hr; omega

/-- Regions of all pages of which something holds. -/
def drawnAll (h : Int → Bool) : List (Int × Int) := drawnK h 256
theorem drawn_all (h : Int → Bool) (k : Nat) (hk : k = 256) : drawnK h k = drawnAll h := by subst hk; rfl

/-- Regions that have the same pages are those that are drawn. -/
theorem drawn_of_canon {h : Int → Bool} {l : List (Int × Int)} (hl : Canon 256 0 l) (hp : ∀ p : Int, 0 ≤ p → p < 256 → inL l p = h p) : drawnAll h = l := by
  have inv := drawn_inv h 256
  have e := drawn_all h 256 rfl
  have c1 := inv.canon
  have c2 := inv.pages
  rw [e] at c1 c2
  exact canon_unique c1 hl (fun p h1 h2 => by rw [c2 p h1 h2, hp p h1 h2])

theorem drawnAll_canon (h : Int → Bool) : Canon 256 0 (drawnAll h) := by
  have := (drawn_inv h 256).canon
  rw [drawn_all h 256 rfl] at this
  exact this

theorem drawnAll_pages (h : Int → Bool) (p : Int) (h1 : 0 ≤ p) (h2 : p < 256) : inL (drawnAll h) p = h p := by
  have := (drawn_inv h 256).pages p h1 h2
  rw [drawn_all h 256 rfl] at this
  exact this

end Go.Proofs.Ytmpalonhckafjaa.Kit
