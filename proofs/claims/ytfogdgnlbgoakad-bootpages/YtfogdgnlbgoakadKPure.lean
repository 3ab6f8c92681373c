/-
  OWN TEXT. Regions behind changes, and the marks of their pages, as plain mathematics.
-/
import Derived.Test.YtfogdgnlbgoakadSPure
import Derived.Test.YtfogdgnlbgoakadBPure
namespace Go.Proofs.Ytfogdgnlbgoakad
open Go Go.RowKit Go.Proofs.Ytfogdgnlbgoakad.Kit

theorem may_drawn {L : List (Int × Int)} (h : MayP L) : drawnAll (inL L) = L := drawn_of_canon (canon_of_may h) (fun _ _ _ => rfl)

/-- A change makes at most one region more. -/
theorem change_len {L : List (Int × Int)} (hL : MayP L) (f s : Nat) (wth : Bool) (h1 : 1 ≤ s) : (drawnAll (chH f s wth L)).length ≤ L.length + 1 := by
  have e : L.length = starts (inL L) 256 := by rw [← drawnAll_starts, may_drawn hL]
  rw [drawnAll_starts, e]
  refine starts_change (inL L) (chH f s wth L) wth f s h1 ?_ ?_ 256
  · intro p hp
    unfold chH
    rw [if_neg]
    rw [inB_f (by omega)]
    simp
  · intro p h1 h2
    unfold chH
    rw [if_pos (inB_t (by omega))]

theorem change_may {L : List (Int × Int)} (f s : Nat) (wth : Bool) (hl : (drawnAll (chH f s wth L)).length ≤ 40) : MayP (drawnAll (chH f s wth L)) :=
  may_of_canon (drawnAll_canon _) hl

/-- The marks of the pages: 256 for the one list, 256 for the other. -/
structure CurOk (cur : Array Value) (M R : List (Int × Int)) : Prop where
  size : cur.size = 512
  m : ∀ p : Nat, p < 256 → cur[p]? = some (.bool (inL M p))
  r : ∀ p : Nat, p < 256 → cur[256 + p]? = some (.bool (inL R p))

/-- The marks behind q stores. -/
def stK (cur : Array Value) (o : Nat) (wth : Bool) : Nat → Array Value
  | 0 => cur
  | q + 1 => (stK cur o wth q).setIfInBounds (o + q) (.bool wth)

theorem stK_size (cur : Array Value) (o : Nat) (wth : Bool) (q : Nat) : (stK cur o wth q).size = cur.size := by
  induction q with
  | zero => rfl
  | succ q ih => simp [stK, ih]

theorem stK_at (cur : Array Value) (o : Nat) (wth : Bool) (q i : Nat) (hi : i < cur.size) : (stK cur o wth q)[i]? = if o ≤ i ∧ i < o + q then some (.bool wth) else cur[i]? := by
  induction q with
  | zero => rw [if_neg (by omega)]; rfl
  | succ q ih =>
    have hs := stK_size cur o wth q
    simp only [stK, Array.getElem?_setIfInBounds]
    by_cases h : o + q = i
    · rw [if_pos h, if_pos (by omega), if_pos (by omega)]
    · rw [if_neg h, ih]
      by_cases h2 : o ≤ i ∧ i < o + q
      · rw [if_pos h2, if_pos (by omega)]
      · rw [if_neg h2, if_neg (by omega)]

theorem chH_at (f s : Nat) (wth : Bool) (L : List (Int × Int)) (p : Nat) (_hs : 1 ≤ s) : chH f s wth L p = if f ≤ p ∧ p < f + s then wth else inL L p := by
  unfold chH
  by_cases h : f ≤ p ∧ p < f + s
  · rw [if_pos h, if_pos (inB_t (by omega))]
  · rw [if_neg h, if_neg]
    rw [inB_f (by omega)]
    simp

theorem cur_m {cur : Array Value} {M R : List (Int × Int)} (h : CurOk cur M R) (f s : Nat) (wth : Bool) (hs : 1 ≤ s) (hf : f + s ≤ 256) : CurOk (stK cur f wth s) (drawnAll (chH f s wth M)) R := by
  have h512 := h.size
  refine ⟨by rw [stK_size]; exact h.size, fun p hp => ?_, fun p hp => ?_⟩
  · rw [stK_at _ _ _ _ _ (by omega), drawnAll_pages _ _ (by omega) (by omega), chH_at _ _ _ _ _ hs]
    by_cases g : f ≤ p ∧ p < f + s
    · rw [if_pos g, if_pos g]
    · rw [if_neg g, if_neg g]; exact h.m p hp
  · rw [stK_at _ _ _ _ _ (by omega), if_neg (by omega)]; exact h.r p hp

theorem cur_r {cur : Array Value} {M R : List (Int × Int)} (h : CurOk cur M R) (f s : Nat) (wth : Bool) (hs : 1 ≤ s) (hf : f + s ≤ 256) : CurOk (stK cur (256 + f) wth s) M (drawnAll (chH f s wth R)) := by
  have h512 := h.size
  refine ⟨by rw [stK_size]; exact h.size, fun p hp => ?_, fun p hp => ?_⟩
  · rw [stK_at _ _ _ _ _ (by omega), if_neg (by omega)]; exact h.m p hp
  · rw [stK_at _ _ _ _ _ (by omega), drawnAll_pages _ _ (by omega) (by omega), chH_at _ _ _ _ _ hs]
    by_cases g : f ≤ p ∧ p < f + s
    · rw [if_pos (by omega), if_pos g]
    · rw [if_neg (by omega), if_neg g]; exact h.r p hp

theorem may_nil : MayP [] := ⟨by simp, fun i hi => by simp at hi, fun i hi => by simp at hi⟩

end Go.Proofs.Ytfogdgnlbgoakad
