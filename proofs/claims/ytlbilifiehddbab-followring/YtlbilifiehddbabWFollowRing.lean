/-
  OWN TEXT. The walk of the law FollowRing: it returns true and writes nothing that was there.
-/
import Derived.Test.YtlbilifiehddbabRamF
import Derived.Test.YtlbilifiehddbabPicked
namespace Go.Proofs.Ytlbilifiehddbab
open Go Go.RowKit Go.Proofs.Ytlbilifiehddbab.Kit

/-- A ring of k words behind j stores. -/
def ringK (k : Nat) : Nat → List Int
  | 0 => List.replicate k 0
  | j + 1 => (ringK k j).set j (((j : Int) + 1) % k)

theorem ringK_length (k j : Nat) : (ringK k j).length = k := by
  induction j with
  | zero => simp [ringK]
  | succ j ih => simp [ringK, ih]

theorem ringK_at (k j i : Nat) (hj : j ≤ k) (hi : i < j) : (ringK k j).getD i 0 = ((i : Int) + 1) % k := by
  induction j with
  | zero => omega
  | succ j ih =>
    have hl := ringK_length k j
    simp only [ringK, List.getD_eq_getElem?_getD, List.getElem?_set]
    by_cases h : j = i
    · subst h; have hjk : j < k := by omega
      simp [hl, hjk]
    · have := ih (by omega) (by omega)
      rw [List.getD_eq_getElem?_getD] at this
      simp [h, this]

theorem ring_none (k m : Nat) : ∀ i : Nat, i < k → fol (ringK k k) m i = none := by
  induction m with
  | zero => intro i _; exact fol_full _ _ (by omega)
  | succ m ih =>
    intro i hi
    rw [fol_step _ _ _ (by rw [ringK_length]; exact hi), ringK_at k k i (Nat.le_refl _) hi]
    have h1 := Int.emod_lt_of_pos ((i : Int) + 1) (show (0 : Int) < k by omega)
    have h2 := Int.emod_nonneg ((i : Int) + 1) (show (k : Int) ≠ 0 by omega)
    obtain ⟨r, hr⟩ : ∃ r : Nat, ((i : Int) + 1) % k = r := ⟨(((i : Int) + 1) % k).toNat, by omega⟩
    rw [hr, ih r (by omega)]
    rfl

set_option maxHeartbeats 1000000 in
theorem followRing_walk (n : Int) (w : World) (wf : (Lit.int .i64 n).wf = true) :
    Calls Try.prog 6 #[.int .i64 n] w fun e w' => e = .returned (.bool true) ∧ Below w.heap.size w w' := by
  obtain ⟨i0, hi, hz0, hz1, hz2⟩ := info_parts info_int
  go_enter Try.func6, Try.ntmps6
  go_wp2_with fail
  go_at_call 8
  refine (picked_any n 10 wf (by omega) (by omega) _).mono ?_
  rintro e w' ⟨⟨r, hr, rfl⟩, rfl⟩
  obtain ⟨k, hk⟩ : ∃ k : Nat, (1 : Int) + r = k := ⟨1 + r, by simp⟩
  have hk1 : 1 ≤ k := by omega
  have hk2 : k ≤ 10 := by omega
  have hk0 : ((k : Int) == 0) = false := by simp; omega
  have hml : k ≤ maxLen := by unfold maxLen; omega
  have hby : i0.bytes * k ≤ 281474976710656 := by rw [hz2]; omega
  clear wf
  go_wp2_with (at_make; refine wpList_make_full _ rfl (.tmp 15) (.tmp 15) 22 rfl w.heap.size 3 i0 (.int .i64 0) 1 Try.underlying22 hi hz0 hz1 .i64 .i64 _ _ k rfl rfl rfl rfl hby hml (Nat.le_refl _) ?_; rw [made_vals]; intro w1 hown1 hg1)
  have hb1 : Below w.heap.size w w1 := (Below.refl _ _).grown hg1 (Nat.le_refl _) (by simp)
  go_loopw [19] (fun t wr => ∃ j : Nat, j ≤ k ∧ t = .int .i64 j ∧ wr.ownsRow w.heap.size 3 1 (.slice (some ⟨w.heap.size, 0, none⟩) k k) k (vals (ringK k j)) ∧ Below w.heap.size w wr) (fun t _ => k - (intOf t).toNat)
  case atStart => exact ⟨0, Nat.zero_le _, rfl, hown1, hb1⟩
  case round =>
    obtain ⟨j, hj, rfl, hown, hb⟩ := hrel
    by_cases hlt : j < k
    · obtain ⟨hc, hf, hO⟩ := owns_store hown j hlt (((j : Int) + 1) % k)
      have hb' := hb.setCell (p := ⟨w.heap.size, j, none⟩) (Nat.le_refl _) (Value.int .i64 (((j : Int) + 1) % k))
      clear hown hb
      go_wp2
      go_roundw
      case rel => exact ⟨j + 1, by omega, by go_num, hO, hb'⟩
      case measure => simp [intOf]; omega
    · obtain rfl : j = k := by omega
      have i1 := ints_of_owns hown
      have hl := ringK_length j j
      go_wp2_with fail
      go_at_call 15
      refine (follow_none _ _ j j 0 100 100 _ rfl hl (by omega) i1 (ring_none j _ 0 hk1)).mono ?_
      rintro e w2 ⟨rfl, hb2⟩
      have i2 := i1.below hb2
      go_wp2_with fail
      go_at_call 15
      refine (follow_none _ _ j j j 100 100 _ rfl hl (by omega) i2 (fol_out _ _ _ (by omega) (by rw [hl]; omega))).mono ?_
      rintro e w3 ⟨rfl, hb3⟩
      have i3 := i2.below hb3
      go_wp2_with fail
      go_at_call 15
      refine (follow_some _ _ j j (-1) 0 0 _ [] 0 rfl hl (by omega) i3 (fol_end _ _) rfl).mono ?_
      rintro e w4 ⟨bo, c, rfl, hown4, hb4⟩
      go_wp2
      go_ret
      exact ⟨rfl, hb.trans ((hb2.mono hb.size).trans ((hb3.mono (Nat.le_trans hb.size hb2.size)).trans (hb4.mono (Nat.le_trans hb.size (Nat.le_trans hb2.size hb3.size)))))⟩

end Go.Proofs.Ytlbilifiehddbab
