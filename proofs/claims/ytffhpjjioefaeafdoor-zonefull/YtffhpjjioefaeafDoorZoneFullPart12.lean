/-
  OWN TEXTS, bundled: Peel3, ZTyp, ZFulP.
-/
import Derived.Test.YtffhpjjioefaeafDoorPart6
import Derived.Test.YtffhpjjioefaeafDoorPart2
import Derived.Test.YtffhpjjioefaeafDoorPart3
import Derived.KernelRfl

/-
  OWN TEXT. Three operations of a region that draws its order are ready; over whatever program.
-/
namespace Go.Proofs.YtffhpjjioefaeafDoor.Kit
open Go Go.RowKit

theorem threeH {P : Program} {md : Region.Mode} {Q : Exit → Act → World → Prop} {S : World → Prop} {l : List Oper} (i j k : Nat) {oi oj ok : Oper} {fuel : Nat} {listed : Array Bool} {a : Act} {w : World} (hr : Region.ready md l.toArray listed = [i, j, k]) (hi : l[i]? = some oi) (hj : l[j]? = some oj) (hk : l[k]? = some ok) (hg : oi.guard = none) (hgj : oj.guard = none) (hgk : ok.guard = none)
    (h : ∀ K : Act → World → Prop, (∀ a' w', S w' → wpAnyH P md l.toArray Q S fuel (listed.setIfInBounds i true) a' w' → K a' w') → oi.wp P a w K Q)
    (h' : ∀ K : Act → World → Prop, (∀ a' w', S w' → wpAnyH P md l.toArray Q S fuel (listed.setIfInBounds j true) a' w' → K a' w') → oj.wp P a w K Q)
    (h'' : ∀ K : Act → World → Prop, (∀ a' w', S w' → wpAnyH P md l.toArray Q S fuel (listed.setIfInBounds k true) a' w' → K a' w') → ok.wp P a w K Q) : wpAnyH P md l.toArray Q S (fuel + 1) listed a w := by
  refine wpAnyH_all hr (by simp) ?_
  intro x hx
  have hi' : l.toArray[i]? = some oi := by simpa using hi
  have hj' : l.toArray[j]? = some oj := by simpa using hj
  have hk' : l.toArray[k]? = some ok := by simpa using hk
  have hw : ∀ y, Region.wanted oi y = true := fun y => by simp [Region.wanted, hg]
  have hw' : ∀ y, Region.wanted oj y = true := fun y => by simp [Region.wanted, hgj]
  have hw'' : ∀ y, Region.wanted ok y = true := fun y => by simp [Region.wanted, hgk]
  rcases (show x = i ∨ x = j ∨ x = k by simpa using hx) with rfl | rfl | rfl
  · unfold wpOp
    rw [hi']
    simp only [hw, if_true]
    exact .inl (h _ fun a' w' h1 h2 => ⟨h1, h2⟩)
  · unfold wpOp
    rw [hj']
    simp only [hw', if_true]
    exact .inl (h' _ fun a' w' h1 h2 => ⟨h1, h2⟩)
  · unfold wpOp
    rw [hk']
    simp only [hw'', if_true]
    exact .inl (h'' _ fun a' w' h1 h2 => ⟨h1, h2⟩)

/-- A block of one cell that may be written. -/
structure Res1 (W : World) (b : Nat) : Prop where
  d : ∃ v, W.cell? ⟨b, 0, none⟩ = some v
  z : W.frozen? ⟨b, 0, none⟩ = false
theorem Res1.lt {W : World} {b : Nat} (h : Res1 W b) : b < W.heap.size := by
  obtain ⟨v, hv⟩ := h.d
  have := World.block_lt_of_cell? W _ hv
  exact this
theorem Res1.below {W W' : World} {b : Nat} (h : Res1 W b) (hb : Below W.heap.size W W') : Res1 W' b := by
  have hl := h.lt
  obtain ⟨v, hv⟩ := h.d
  exact ⟨⟨v, keep hv hb⟩, (hb.frozen (p := ⟨b, 0, none⟩) hl).trans h.z⟩

end Go.Proofs.YtffhpjjioefaeafDoor.Kit

/-
  OWN TEXT. The type of a page's group.
-/
namespace Go.Proofs.YtffhpjjioefaeafDoor.Kit

/-- The type of the group of a page. -/
def typeZ (z : Zn) (a : Int) : Int := z.types.getD ((a - z.f) / 8).toNat 0

end Go.Proofs.YtffhpjjioefaeafDoor.Kit

/-
  OWN TEXT. When there is a block: plain mathematics. The zone at the beginning, and what is taken of it.
-/
namespace Go.Proofs.YtffhpjjioefaeafDoor.Kit

theorem fidx_has {g : Bk → Bool} {l : List Bk} {b : Bk} (hb : b ∈ l) (hg : g b = true) : 0 ≤ fidx g l := by
  induction l with
  | nil => simp at hb
  | cons x l ih =>
    show 0 ≤ (if g x = true then (0 : Int) else if fidx g l < 0 then -1 else fidx g l + 1)
    by_cases hx : g x = true
    · rw [if_pos hx]; omega
    · rw [if_neg hx]
      have hm : b ∈ l := by
        rcases List.mem_cons.1 hb with rfl | hm
        · exact absurd hg hx
        · exact hm
      have := ih hm
      rw [if_neg (by omega)]
      omega

theorem upI_has {l : List Bk} {t : Int} : ∀ (n : Nat) (o : Int) (k : Nat), k < n → 0 ≤ fidx (isT (o + k) t) l → 0 ≤ upI l t n o := by
  intro n
  induction n with
  | zero => intro o k hk; omega
  | succ n ih =>
    intro o k hk hf
    unfold upI
    split
    · assumption
    · rename_i hno
      cases k with
      | zero => exact absurd (by simpa using hf) hno
      | succ k => exact ih (o + 1) k (by omega) (by rw [show o + 1 + (k : Int) = o + ((k + 1 : Nat) : Int) by omega]; exact hf)

theorem dnI_has {l : List Bk} {u v o : Int} : ∀ (n : Nat) (k : Nat), k < n → (0 ≤ fidx (isT (o + k) u) l ∨ 0 ≤ fidx (isT (o + k) v) l) → 0 ≤ dnI l u v o n := by
  intro n
  induction n with
  | zero => intro k hk; omega
  | succ n ih =>
    intro k hk hf
    unfold dnI
    split
    · assumption
    · split
      · assumption
      · rename_i h1 h2
        by_cases hkn : k = n
        · subst hkn
          rcases hf with hf | hf
          · exact absurd hf h1
          · exact absurd hf h2
        · exact ih k (by omega) hf

theorem choose_iff {l : List Bk} {o t : Int} (hl : ∀ b ∈ l, ordOk b.o ∧ typeOk b.t) (ho : ordOk o) (ht : typeOk t) : 0 ≤ chooseI l o t ↔ ∃ b ∈ l, o ≤ b.o := by
  constructor
  · intro h
    obtain ⟨i, _, hi, hob⟩ := choose_in h
    exact ⟨_, getD_mem hi, hob⟩
  · rintro ⟨b, hb, hob⟩
    obtain ⟨⟨b0, b4⟩, ⟨c0, c2⟩⟩ := hl b hb
    have hk : (b.o - o).toNat < (5 - o).toNat := by have := ho.1; omega
    have e : o + ((b.o - o).toNat : Int) = b.o := by omega
    unfold chooseI
    split
    · assumption
    · rename_i hno
      refine dnI_has _ (b.o - o).toNat hk ?_
      rw [e]
      by_cases h1 : b.t = t
      · exact absurd (upI_has _ o (b.o - o).toNat hk (by rw [e]; exact fidx_has hb (decide_eq_true ⟨rfl, h1⟩))) hno
      · obtain ⟨t0, t2⟩ := ht
        by_cases h2 : b.t = other1 t
        · exact .inl (fidx_has hb (decide_eq_true ⟨rfl, h2⟩))
        · refine .inr (fidx_has hb (decide_eq_true ⟨rfl, ?_⟩))
          unfold other1 at h2
          unfold other2
          split at h2 <;> split <;> omega

theorem may_ok {z : Zn} (h : ZMay z) : ∀ b ∈ z.free, ordOk b.o ∧ typeOk b.t := fun b hb => by
  obtain ⟨h1, h2⟩ := (free_iff.1 h.free).1 b hb
  exact ⟨h1.1, h2⟩

/-- The zone at the beginning. -/
def zone0 : Zn := ⟨16, 112, [⟨18, 1, 1⟩, ⟨20, 2, 1⟩, ⟨24, 3, 1⟩, ⟨32, 4, 1⟩, ⟨48, 4, 1⟩, ⟨64, 4, 1⟩, ⟨80, 4, 1⟩, ⟨96, 3, 1⟩, ⟨104, 2, 1⟩], [1, 1, 1, 1, 1, 1, 1, 1, 1, 1, 1, 1]⟩
set_option maxRecDepth 100000 in
theorem first_zone : firstZ = some zone0 := by kernel_rfl
theorem ch1 : chooseI zone0.free 3 1 = ((2 : Nat) : Int) := by kernel_rfl
theorem ch0 : chooseI zone0.free 3 0 = ((3 : Nat) : Int) := by kernel_rfl
theorem ch2 : chooseI zone0.free 3 2 = ((3 : Nat) : Int) := by kernel_rfl
theorem ch00 : chooseI (takeZ zone0 3 0 3).free 0 0 = ((3 : Nat) : Int) := by kernel_rfl
theorem ch22 : chooseI (takeZ zone0 3 2 3).free 0 2 = ((3 : Nat) : Int) := by kernel_rfl
theorem at1 : (zone0.free.getD 2 .zero).a = 24 := by kernel_rfl
theorem at0 : (zone0.free.getD 3 .zero).a = 32 := by kernel_rfl
theorem at00 : ((takeZ zone0 3 0 3).free.getD 3 .zero).a = 40 := by kernel_rfl
theorem at22 : ((takeZ zone0 3 2 3).free.getD 3 .zero).a = 40 := by kernel_rfl
theorem ty1 : typeZ (takeZ zone0 3 1 2) 24 = 1 := by kernel_rfl
theorem ty0 : typeZ (takeZ zone0 3 0 3) 32 = 0 := by kernel_rfl
theorem ty2 : typeZ (takeZ zone0 3 2 3) 32 = 2 := by kernel_rfl
theorem ty00 : typeZ (takeZ (takeZ zone0 3 0 3) 0 0 3) 40 = 0 := by kernel_rfl
theorem ty22 : typeZ (takeZ (takeZ zone0 3 2 3) 0 2 3) 40 = 2 := by kernel_rfl

end Go.Proofs.YtffhpjjioefaeafDoor.Kit
