/-
  OWN TEXT. A block comes back, as plain mathematics.
-/
import Derived.Test.YtamkgakhgfhmjaeZPure2
namespace Go.Proofs.Ytamkgakhgfhmjae.Kit

/-- The block beside one. -/
def besideA (a o : Int) : Int := if a % pw (o + 1) = 0 then a + pw o else a - pw o

/-- Blocks are joined, n times at most. -/
def backGo : Nat → List Bk → Int → Int → List Bk × Int × Int
  | 0, l, a, o => (l, a, o)
  | n + 1, l, a, o => if hasB l (besideA a o) o = true then backGo n (dropB l (besideA a o) o) (if besideA a o < a then besideA a o else a) (o + 1) else (l, a, o)

/-- The zone when a block has come back. -/
def backZ (z : Zn) (a o : Int) : Zn :=
  ⟨z.f, z.t, addB (backGo (4 - o).toNat z.free a o).1 ⟨(backGo (4 - o).toNat z.free a o).2.1, (backGo (4 - o).toNat z.free a o).2.2, z.types.getD (((backGo (4 - o).toNat z.free a o).2.1 - z.f) / 8).toNat 0⟩, z.types⟩

theorem dropB_mem {l : List Bk} {a o : Int} {b : Bk} (h : b ∈ dropB l a o) : b ∈ l := (List.mem_filter.1 h).1
theorem hasB_in {l : List Bk} {f t a o : Int} (h : hasB l a o = true) (hl : ∀ b ∈ l, blkIn f t b.a b.o) : blkIn f t a o := by
  unfold hasB at h
  rw [List.any_eq_true] at h
  obtain ⟨b, hb, hi⟩ := h
  have := of_decide_eq_true hi
  have h2 := hl b hb
  rw [this.1, this.2] at h2
  exact h2

/-- Both together are a block that may be. -/
theorem join_in {f t a o : Int} (h : blkIn f t a o) (hb : blkIn f t (besideA a o) o) (ho : o < 4) : blkIn f t (if besideA a o < a then besideA a o else a) (o + 1) := by
  obtain ⟨⟨h1, h2⟩, h3, h4, h5⟩ := h
  obtain ⟨_, g3, g4, g5⟩ := hb
  have ho' : ordOk (o + 1) := ⟨by omega, by omega⟩
  rcases (show o = 0 ∨ o = 1 ∨ o = 2 ∨ o = 3 by omega) with rfl | rfl | rfl | rfl
  all_goals
    unfold besideA at g3 g4 g5 ⊢
    simp only [pw_0, pw_1, pw_2, pw_3, pw_4, show (0 : Int) + 1 = 1 from rfl, show (1 : Int) + 1 = 2 from rfl, show (2 : Int) + 1 = 3 from rfl, show (3 : Int) + 1 = 4 from rfl] at g3 g4 g5 h5 ⊢
    refine ⟨⟨by omega, by omega⟩, ?_, ?_, ?_⟩
    · split at g3 <;> split <;> omega
    · split at g4 <;> split <;> omega
    · simp only [pw_1, pw_2, pw_3, pw_4]
      split at g5 <;> split <;> omega

end Go.Proofs.Ytamkgakhgfhmjae.Kit
