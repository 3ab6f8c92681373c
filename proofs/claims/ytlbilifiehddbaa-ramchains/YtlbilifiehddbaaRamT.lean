/-
  OWN TEXT. Contracts of ram.Store, of the document's answer to it, and of paddocklaw.ints.
-/
import Derived.Test.YtlbilifiehddbaaRam
import Derived.Test.YtlbilifiehddbaaArgs
namespace Go.Proofs.Ytlbilifiehddbaa
open Go Go.RowKit Go.Proofs.Ytlbilifiehddbaa.Kit

/-- 'append([]int(nil), l...)': new memory with the same numbers. -/
theorem copyI_any (w : World) (ao : Option Addr) (n cap : Nat) (xs : List Int) (h : IsInts w ao n cap xs) :
    Calls Try.prog 12 #[.slice ao n cap] w fun e w' => ∃ bo c, e = .returned (.slice bo n c) ∧
      w'.ownsRow w.heap.size 3 1 (.slice bo n c) n (vals xs) ∧ Below w.heap.size w w' := by
  obtain ⟨i0, hi, hz0, hz1, hz2⟩ := info_parts info_int
  obtain ⟨hn, hle, hr, hnil, hx⟩ := h
  have hml : 0 + n ≤ maxLen := by unfold maxLen; omega
  have hl : (vals xs).length = n * 1 := by rw [length_vals]; omega
  have hby : (0 + n) * 8 ≤ 140737488355328 := by omega
  cases ao with
  | none =>
    obtain ⟨rfl, rfl⟩ := hnil rfl
    have hv : Hid (vals xs = []) := List.eq_nil_of_length_eq_zero (by simpa using hl)
    clear hnil hx
    go_enter Try.func12, Try.ntmps12
    go_wp2_with (at_builtin; refine wpList_append_own_none rfl _ (.tmp 3) 22 rfl w.heap.size 3 i0 1 Try.underlying22 hi _ _ _ rfl (World.ownsRow_nil _ _ _ _) rfl ?_)
    go_ret
    refine ⟨none, 0, rfl, ?_, Below.refl _ _⟩
    rw [hv.out]
    exact World.ownsRow_nil _ _ _ _
  | some ad =>
    have hsrc : ∀ j u, (vals xs)[j]? = some u → w.cell? (ad.add j) = some u := by
      by_cases h0 : 0 < xs.length
      · obtain ⟨ad', he, hs⟩ := src_of hx h0
        cases he
        exact hs
      · intro j u hj
        have : vals xs = [] := List.eq_nil_of_length_eq_zero (by rw [length_vals]; omega)
        rw [this] at hj
        simp at hj
    have hone := vals_oneCell xs
    obtain ⟨cs, hcs⟩ : ∃ cs, cs = vals xs := ⟨_, rfl⟩
    rw [← hcs] at hl hsrc hone ⊢
    have HC : Hid (cs = vals xs) := hcs
    clear hcs hx hnil
    go_enter Try.func12, Try.ntmps12
    go_wp2_with (at_builtin; refine wpList_append_own _ rfl _ (.tmp 3) 22 rfl w.heap.size 3 i0 (.int .i64 0) 1 8 Try.underlying22 hi hz0 hz1 hz2 rfl (by decide) _ _ _ rfl (World.ownsRow_nil _ _ _ _) ad n cap cs rfl hl hsrc hone hml hby (Nat.le_refl _) ?_)
    intro v' w1 hown hgrow _
    obtain ⟨bo, c, rfl⟩ := owns_shape hown
    have hb : Below w.heap.size w w1 := (Below.refl _ _).grown hgrow (Nat.le_refl _) (by simp [Value.ownBlock])
    clear hgrow
    go_wp2
    go_ret
    exact ⟨bo, c, rfl, hown, hb⟩

theorem store_no (w : World) (ao : Option Addr) (n cap : Nat) (i v : Int) (h : ¬ (0 ≤ i ∧ i < n)) :
    Calls Try.prog 13 #[.slice ao n cap, .int .i64 i, .int .i64 v] w fun e w' => e = .returned (.tuple #[.slice none 0 0, .int .i64 1]) ∧ w = w' := by
  have hI : addrB n i = false := addrB_f h
  clear h
  go_enter Try.func13, Try.ntmps13
  go_wp2_with (go_at_call 18; refine (isAddr_any _ _ _ _ _).mono ?_; rintro e w' ⟨rfl, rfl⟩)
  go_ret2
  exact ⟨rfl, rfl⟩

/-- A store into an owned row. -/
theorem owns_store {w : World} {base : Nat} {e : TypeId} {g n cap : Nat} {xs : List Int} (h : w.ownsRow base e 1 (.slice (some ⟨g, 0, none⟩) n cap) n (vals xs)) (k : Nat) (hk : k < n) (v : Int) :
    w.cell? ⟨g, k, none⟩ = some (.int .i64 (xs.getD k 0)) ∧ w.frozen? ⟨g, k, none⟩ = false ∧
    (w.setCell ⟨g, k, none⟩ (.int .i64 v)).ownsRow base e 1 (.slice (some ⟨g, 0, none⟩) n cap) n (vals (xs.set k v)) := by
  have hl := owns_len h
  refine ⟨?_, h.frozenAt k, ?_⟩
  · rw [h.cellAt k (by omega), vals_get, List.getElem?_eq_getElem (by omega), List.getD_eq_getElem?_getD, List.getElem?_eq_getElem (by omega)]
    rfl
  · have := (h.stored k (.int .i64 v)).1
    rwa [vals_set] at this

theorem store_yes (w : World) (ao : Option Addr) (n cap k : Nat) (v : Int) (xs : List Int) (hn : xs.length = n) (hr : n * 8 ≤ 140737488351232) (h : k < n) (hx : IntsAt w ao xs) :
    Calls Try.prog 13 #[.slice ao n cap, .int .i64 k, .int .i64 v] w fun e w' => ∃ bo c, e = .returned (.tuple #[.slice bo n c, .int .i64 0]) ∧
      w'.ownsRow w.heap.size 3 1 (.slice bo n c) n (vals (xs.set k v)) ∧ Below w.heap.size w w' := by
  have hI : addrB n k = true := addrB_t (by omega)
  go_enter Try.func13, Try.ntmps13
  go_wp2_with (first | (go_at_call 18; refine (isAddr_any _ _ _ _ _).mono ?_; rintro e w' ⟨rfl, rfl⟩) | (go_at_call 20; refine (clone_any _ _ _ _ xs hn hr hx).mono ?_; rintro e w1 ⟨g, rfl, hown, hb⟩; obtain ⟨hc, hf, hO⟩ := owns_store hown k h v))
  go_ret2
  exact ⟨_, _, rfl, hO, hb.setCell (owns_head hown (by omega) |>.elim fun g' hg => by have := hg.1; simp at this; subst this; exact hg.2.1) _⟩

theorem storeOf_no (w : World) (ao : Option Addr) (n cap : Nat) (i v : Int) (hr : n * 8 ≤ 140737488351232) (h : ¬ (0 ≤ i ∧ i < n)) :
    Calls Try.prog 14 #[.slice ao n cap, .int .i64 i, .int .i64 v] w fun e w' => e = .returned (.tuple #[.slice none 0 0, .int .i64 1]) ∧ w = w' := by
  have hI : thereB n i 1 = false := thereB_f (by omega)
  clear h
  go_enter Try.func14, Try.ntmps14
  go_wp2_with (go_at_call 19; refine (there_any _ _ _ _ _ hr _).mono ?_; rintro e w' ⟨rfl, rfl⟩)
  go_ret2
  exact ⟨rfl, rfl⟩

theorem storeOf_yes (w : World) (ao : Option Addr) (n cap k : Nat) (v : Int) (xs : List Int) (hn : xs.length = n) (hr : n * 8 ≤ 140737488351232) (h : k < n) (hx : IntsAt w ao xs) :
    Calls Try.prog 14 #[.slice ao n cap, .int .i64 k, .int .i64 v] w fun e w' => ∃ bo c, e = .returned (.tuple #[.slice bo n c, .int .i64 0]) ∧
      w'.ownsRow w.heap.size 3 1 (.slice bo n c) n (vals (xs.set k v)) ∧ Below w.heap.size w w' := by
  have hI : thereB n k 1 = true := thereB_t (by omega)
  go_enter Try.func14, Try.ntmps14
  go_wp2_with (first | (go_at_call 19; refine (there_any _ _ _ _ _ hr _).mono ?_; rintro e w' ⟨rfl, rfl⟩) | (go_at_call 21; refine (words_any _ _ _ _ xs hn hr hx).mono ?_; rintro e w1 ⟨bo, c, rfl, hown, hb⟩; obtain ⟨g, rfl, hg1, hg2⟩ := owns_head hown (by omega); obtain ⟨hc, hf, hO⟩ := owns_store hown k h v))
  go_ret2
  exact ⟨_, _, rfl, hO, hb.setCell hg1 _⟩

end Go.Proofs.Ytlbilifiehddbaa
