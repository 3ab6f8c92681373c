/-
  OWN TEXT. Contracts of slices.IndexFunc and slices.ContainsFunc over blocks, whatever the closure.
-/
import Derived.Test.YtamkgakhgfhmjaeZBase
namespace Go.Proofs.Ytamkgakhgfhmjae
open Go Go.RowKit Go.Proofs.Ytamkgakhgfhmjae.Kit

/-- What the closure does at the blocks of a list, whatever new memory there is. -/
def HoldsB (F : Nat) (caps : Array Value) (l : List Bk) (g : Bk → Bool) (w : World) : Prop :=
  ∀ (i : Nat), i < l.length → ∀ W : World, Below w.heap.size w W → Calls Try.prog F (#[Value.agg #[.int .i64 (l.getD i .zero).a, .int .i64 (l.getD i .zero).o, .int .i64 (l.getD i .zero).t]] ++ caps) W fun e W' => e = .returned (.bool (g (l.getD i .zero))) ∧ Below W.heap.size W W'

/-- The first place at which it holds is returned, or -1. -/
def FoundAt (e : Ending) (l : List Bk) (g : Bk → Bool) : Prop :=
  (∃ k : Nat, k < l.length ∧ e = .returned (.int .i64 (k : Int)) ∧ g (l.getD k .zero) = true ∧ ∀ j, j < k → g (l.getD j .zero) = false) ∨ (e = .returned (.int .i64 (-1)) ∧ ∀ j, j < l.length → g (l.getD j .zero) = false)

set_option maxHeartbeats 1000000 in
theorem bIndex_any (w : World) (F : Nat) (caps : Array Value) (ao : Option Addr) (n cap : Nat) (l : List Bk) (g : Bk → Bool) (h : Blks w ao n l)
    (hcall : ∀ args W, (callFunc F args).run Try.prog W = .ok (.enter F args) W) (hc : HoldsB F caps l g w) :
    Calls Try.prog 44 #[.slice ao n cap, .func (.func F) #[] caps] w fun e w' => FoundAt e l g ∧ Below w.heap.size w w' := by
  have hlen := h.len
  have hrch := h.reach
  go_enter Try.func44, Try.ntmps44
  go_wp2
  go_loopw [8] (fun i wr => ∃ k : Nat, k ≤ n ∧ i = .int .i64 k ∧ Hid (∀ j, j < k → g (l.getD j .zero) = false) ∧ Below w.heap.size w wr) (fun i _ => n - (intOf i).toNat)
  case atStart => exact ⟨0, Nat.zero_le _, rfl, (fun j hj => absurd hj (Nat.not_lt_zero j)), Below.refl _ _⟩
  case round =>
    obtain ⟨k, hk, rfl, hN, hb⟩ := hrel
    by_cases hlt : k < n
    · obtain ⟨b, o, rfl, c0, c1, c2⟩ := h.at_ k (by omega)
      have hc1 := hc k (by omega) wr hb
      obtain ⟨r, hr⟩ : ∃ r, l.getD k .zero = r := ⟨_, rfl⟩
      have HR : Hid (l.getD k .zero = r) := hr
      rw [hr] at c0 c1 c2 hc1
      clear hr
      obtain ⟨x, y, u⟩ := r
      dsimp only at c0 c1 c2 hc1
      have d0 := keep c0 hb
      have d1 := keep c1 hb
      have d2 := keep c2 hb
      clear c0 c1 c2
      go_wp2_with fail
      refine hc1.mono ?_
      rintro e w1 ⟨rfl, hb1⟩
      have hB := hb.trans (hb1.mono hb.size)
      clear hc1 d0 d1 d2 hc
      cases hg : g ⟨x, y, u⟩ with
      | true =>
        have HT : Hid (g (l.getD k .zero) = true) := by show _ = _; rw [HR.out]; exact hg
        clear hg
        go_wp2
        go_ret
        exact ⟨.inl ⟨k, by omega, rfl, HT.out, hN.out⟩, hB⟩
      | false =>
        have HF : Hid (∀ j, j < k + 1 → g (l.getD j .zero) = false) := fun j hj => by
          by_cases e : j = k
          · rw [e, HR.out]; exact hg
          · exact hN.out j (by omega)
        clear hg hN
        go_wp2
        go_roundw
        case rel => exact ⟨k + 1, by omega, by go_num, HF, hB⟩
        case measure => simp [intOf]; omega
    · have HF : Hid (∀ j, j < l.length → g (l.getD j .zero) = false) := fun j hj => hN.out j (by omega)
      clear hN hc
      go_wp2
      go_ret
      exact ⟨.inr ⟨rfl, HF.out⟩, hb⟩

theorem any_of_found {l : List Bk} {g : Bk → Bool} {k : Nat} (hk : k < l.length) (h : g (l.getD k .zero) = true) : l.any g = true := by
  rw [List.any_eq_true]
  exact ⟨l[k], List.getElem_mem _, by rw [List.getD_eq_getElem?_getD, List.getElem?_eq_getElem hk] at h; exact h⟩
theorem any_of_none {l : List Bk} {g : Bk → Bool} (h : ∀ j, j < l.length → g (l.getD j .zero) = false) : l.any g = false := by
  rw [List.any_eq_false]
  intro x hx
  obtain ⟨i, hi, rfl⟩ := List.getElem_of_mem hx
  have := h i hi
  rw [List.getD_eq_getElem?_getD, List.getElem?_eq_getElem hi] at this
  simp only [Option.getD_some] at this
  simp [this]

end Go.Proofs.Ytamkgakhgfhmjae
