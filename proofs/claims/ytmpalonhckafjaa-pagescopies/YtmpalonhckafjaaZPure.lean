/-
  OWN TEXT. Zones that may be, as plain mathematics.
-/
import Derived.Test.YtmpalonhckafjaaZKit
namespace Go.Proofs.Ytmpalonhckafjaa.Kit

/-- A power of two. -/
def pw (n : Int) : Int := ((2 ^ n.toNat : Nat) : Int)
theorem pw_0 : pw 0 = 1 := rfl
theorem pw_1 : pw 1 = 2 := rfl
theorem pw_2 : pw 2 = 4 := rfl
theorem pw_3 : pw 3 = 8 := rfl
theorem pw_4 : pw 4 = 16 := rfl
theorem pw_nat (n : Nat) : pw (n : Int) = ((2 ^ n : Nat) : Int) := rfl
theorem pw_pos (n : Int) : 1 ≤ pw n := by
  unfold pw
  have := Nat.two_pow_pos n.toNat
  omega
/-- An order from 0 to 4. -/
def ordOk (o : Int) : Prop := 0 ≤ o ∧ o ≤ 4
theorem ord_cases {o : Int} (h : ordOk o) : (o = 0 ∧ pw o = 1) ∨ (o = 1 ∧ pw o = 2) ∨ (o = 2 ∧ pw o = 4) ∨ (o = 3 ∧ pw o = 8) ∨ (o = 4 ∧ pw o = 16) := by
  obtain ⟨h1, h2⟩ := h
  rcases (show o = 0 ∨ o = 1 ∨ o = 2 ∨ o = 3 ∨ o = 4 by omega) with rfl | rfl | rfl | rfl | rfl
  · exact Or.inl ⟨rfl, rfl⟩
  · exact Or.inr (Or.inl ⟨rfl, rfl⟩)
  · exact Or.inr (Or.inr (Or.inl ⟨rfl, rfl⟩))
  · exact Or.inr (Or.inr (Or.inr (Or.inl ⟨rfl, rfl⟩)))
  · exact Or.inr (Or.inr (Or.inr (Or.inr ⟨rfl, rfl⟩)))
theorem pw_le {o : Int} (h : ordOk o) : pw o ≤ 16 := by rcases ord_cases h with ⟨_, e⟩ | ⟨_, e⟩ | ⟨_, e⟩ | ⟨_, e⟩ | ⟨_, e⟩ <;> omega

/-- A block may be in a zone. -/
def blkIn (f t a o : Int) : Prop := ordOk o ∧ f ≤ a ∧ a ≤ t - 1 ∧ a % pw o = 0
/-- May a block be in the zone, decided. -/
def blkB (f t a o : Int) : Bool := inB o 0 4 && (inB a f (t - 1) && decide (a % pw o = 0))
theorem blkB_iff (f t a o : Int) : blkB f t a o = true ↔ blkIn f t a o := by
  unfold blkB blkIn ordOk
  simp only [Bool.and_eq_true, inB, decide_eq_true_eq]
  constructor
  · rintro ⟨h1, h2, h3⟩; exact ⟨h1, h2.1, h2.2, h3⟩
  · rintro ⟨h1, h2, h3, h4⟩; exact ⟨h1, ⟨h2, h3⟩, h4⟩

def typeOk (x : Int) : Prop := 0 ≤ x ∧ x ≤ 2
/-- Two blocks, the first one lower, are beside each other. -/
def besideP (p b : Bk) : Prop := b.o < 4 ∧ p.o = b.o ∧ p.a + pw b.o = b.a ∧ p.a % pw (b.o + 1) = 0

/-- Free blocks that may be, from lo on, behind pv. -/
def FreeOk (f t : Int) : Int → Option Bk → List Bk → Prop
  | _, _, [] => True
  | lo, pv, b :: l => blkIn f t b.a b.o ∧ typeOk b.t ∧ lo ≤ b.a ∧ (∀ p, pv = some p → ¬ besideP p b) ∧ FreeOk f t (b.a + pw b.o) (some b) l

/-- The last one, or what was before. -/
def lastOf : Option Bk → List Bk → Option Bk
  | pv, [] => pv
  | _, b :: l => lastOf (some b) l
/-- Where the next one may begin. -/
def lowOf : Int → List Bk → Int
  | lo, [] => lo
  | _, b :: l => lowOf (b.a + pw b.o) l

theorem lastOf_snoc (pv : Option Bk) (l : List Bk) (b : Bk) : lastOf pv (l ++ [b]) = some b := by
  induction l generalizing pv with
  | nil => rfl
  | cons a l ih => exact ih _
theorem lowOf_snoc (lo : Int) (l : List Bk) (b : Bk) : lowOf lo (l ++ [b]) = b.a + pw b.o := by
  induction l generalizing lo with
  | nil => rfl
  | cons a l ih => exact ih _

theorem freeOk_snoc (f t lo : Int) (pv : Option Bk) (l : List Bk) (b : Bk) : FreeOk f t lo pv (l ++ [b]) ↔ FreeOk f t lo pv l ∧ blkIn f t b.a b.o ∧ typeOk b.t ∧ lowOf lo l ≤ b.a ∧ ∀ p, lastOf pv l = some p → ¬ besideP p b := by
  induction l generalizing lo pv with
  | nil => simp [FreeOk, lowOf, lastOf]
  | cons a l ih =>
    show _ ∧ _ ∧ _ ∧ _ ∧ FreeOk f t (a.a + pw a.o) (some a) (l ++ [b]) ↔ (_ ∧ _ ∧ _ ∧ _ ∧ FreeOk f t (a.a + pw a.o) (some a) l) ∧ _ ∧ _ ∧ lowOf (a.a + pw a.o) l ≤ b.a ∧ ∀ p, lastOf (some a) l = some p → ¬ besideP p b
    rw [ih]
    constructor
    · rintro ⟨h1, h2, h3, h4, h5, h6⟩; exact ⟨⟨h1, h2, h3, h4, h5⟩, h6⟩
    · rintro ⟨⟨h1, h2, h3, h4, h5⟩, h6⟩; exact ⟨h1, h2, h3, h4, h5, h6⟩

theorem freeOk_left {f t lo : Int} {pv : Option Bk} {l m : List Bk} (h : FreeOk f t lo pv (l ++ m)) : FreeOk f t lo pv l := by
  induction l generalizing lo pv with
  | nil => trivial
  | cons a l ih => exact ⟨h.1, h.2.1, h.2.2.1, h.2.2.2.1, ih h.2.2.2.2⟩

/-- P3.1. -/
def newOk (f t : Int) : Prop := 0 ≤ f ∧ f ≤ t ∧ t ≤ 256 ∧ f % 16 = 0 ∧ t % 16 = 0

/-- A zone that may be. -/
structure ZMay (z : Zn) : Prop where
  new : newOk z.f z.t
  len : 8 * (z.types.length : Int) = z.t - z.f
  ty : ∀ i, i < z.types.length → typeOk (z.types.getD i 0)
  free : FreeOk z.f z.t z.f none z.free

/-- The types of a new zone. -/
def newTypes (f t : Int) : List Int := List.replicate ((t - f) / 8).toNat 1
def newZ (f t : Int) : Zn := ⟨f, t, [], newTypes f t⟩

/-- Pages in free blocks. -/
def freeN : List Bk → Int
  | [] => 0
  | b :: l => pw b.o + freeN l
theorem freeN_snoc (l : List Bk) (b : Bk) : freeN (l ++ [b]) = freeN l + pw b.o := by
  induction l with
  | nil => simp [freeN]
  | cons a l ih => simp only [List.cons_append, freeN, ih]; omega

/-- Free blocks hold no more pages than there are. -/
theorem freeN_le {f t lo : Int} {pv : Option Bk} {l : List Bk} (h : FreeOk f t lo pv l) (ht : t % 16 = 0) (hlo : lo ≤ t) : 0 ≤ freeN l ∧ freeN l ≤ t - lo := by
  induction l generalizing lo pv with
  | nil => simp only [freeN]; omega
  | cons a l ih =>
    obtain ⟨⟨h1, h2, h3, h4⟩, _, h6, _, h7⟩ := h
    have hle : a.a + pw a.o ≤ t := by
      rcases ord_cases h1 with ⟨_, e⟩ | ⟨_, e⟩ | ⟨_, e⟩ | ⟨_, e⟩ | ⟨_, e⟩ <;> rw [e] at h4 ⊢ <;> omega
    have := ih h7 hle
    have := pw_pos a.o
    simp only [freeN]
    omega

theorem freeOk_count {f t lo : Int} {pv : Option Bk} {l : List Bk} (h : FreeOk f t lo pv l) (ht : t % 16 = 0) (hlo : lo ≤ t) : (l.length : Int) ≤ t - lo := by
  have h1 := (freeN_le h ht hlo).2
  have h2 : (l.length : Int) ≤ freeN l := by
    clear h h1
    induction l with
    | nil => simp [freeN]
    | cons a l ih => simp only [freeN, List.length_cons]; have := pw_pos a.o; omega
  omega

theorem freeOk_at {f t lo : Int} {pv : Option Bk} {l : List Bk} (h : FreeOk f t lo pv l) {k : Nat} (hk : k < l.length) {b : Bk} (hb : l.getD k .zero = b) :
    blkIn f t b.a b.o ∧ typeOk b.t ∧ lowOf lo (l.take k) ≤ b.a ∧ ∀ p, lastOf pv (l.take k) = some p → ¬ besideP p b := by
  have h1 : FreeOk f t lo pv (l.take (k + 1)) := by rw [← List.take_append_drop (k + 1) l] at h; exact freeOk_left h
  rw [take_getD l k hk hb, freeOk_snoc] at h1
  exact h1.2

end Go.Proofs.Ytmpalonhckafjaa.Kit
