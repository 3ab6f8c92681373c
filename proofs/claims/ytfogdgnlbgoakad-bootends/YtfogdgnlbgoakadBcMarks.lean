/-
  OWN TEXT. Contracts of the code: the marks' set, all.
-/
import Derived.Test.YtfogdgnlbgoakadMKit
import Derived.Test.YtfogdgnlbgoakadBPure
namespace Go.Proofs.Ytfogdgnlbgoakad
open Go Go.RowKit Go.Proofs.Ytfogdgnlbgoakad.Kit

set_option maxHeartbeats 2000000 in
set_option maxRecDepth 4000 in
theorem bset_any (w : World) (b : Nat) (h : Int → Bool) (f s : Nat) (v : Bool) (hm : MarksAt w b 51 h) (hfs : f + s ≤ 256) :
    Calls Try.prog 30 #[.pointer (some ⟨b, 0, none⟩), .agg #[.int .i64 f, .int .i64 s], .bool v] w fun e w' => e = .returned (.tuple #[]) ∧ MarksAt w' b 51 (setH f s v h) ∧ But b w w' := by
  have hb0 := below_box w (.cells #[.int .i64 f, .int .i64 s] 35)
  have x0 : (w.alloc (.cells #[.int .i64 f, .int .i64 s] 35)).cell? ⟨w.heap.size, 0, none⟩ = some (.int .i64 f) := by go_simp
  have x1 : (w.alloc (.cells #[.int .i64 f, .int .i64 s] 35)).cell? ⟨w.heap.size, 1, none⟩ = some (.int .i64 s) := by go_simp
  have hlt := hm.lt
  have hm0 := hm.below hb0
  have hB0 : But b w (w.alloc (.cells #[.int .i64 f, .int .i64 s] 35)) := .of_below hb0
  obtain ⟨W0, hW0⟩ : ∃ W0, w.alloc (.cells #[.int .i64 f, .int .i64 s] 35) = W0 := ⟨_, rfl⟩
  rw [hW0] at x0 x1 hm0 hB0
  clear hb0 hm
  go_enter Try.func30, Try.ntmps30
  go_wp2
  clear hW0
  go_loopw [9] (fun i wr => ∃ k : Nat, k ≤ s ∧ i = .int .i64 k ∧ MarksAt wr b 51 (setH f k v h) ∧ But b W0 wr) (fun i _ => s - (intOf i).toNat)
  case atStart => exact ⟨0, Nat.zero_le _, rfl, (show W0.heap[b]? = some (.cells (mk (setH (f : Int) (0 : Int) v h)) _ _) by rw [mk_set0]; exact hm0), But.refl _ _⟩
  case round =>
    obtain ⟨k, hk, rfl, hM, hB⟩ := hrel
    by_cases hk1 : k < s
    · have c0 := hB.cell x0 (by omega)
      have c1 := hM.cell (f + k) (by omega)
      have c2 := hM.fz (f + k)
      have hM' := hM.set (by omega)
      have hB' := hB.setCell (o := f + k) (.bool v)
      clear hM hB hm0 hB0
      go_wp2
      go_region
      all_goals go_wp2
      all_goals go_roundw
      case rel => exact ⟨k + 1, by omega, by go_num, hM', ⟨hB'.os, hB'.tape, hB'.output, hB'.size, hB'.block⟩⟩
      case measure => simp [intOf]; omega
    · have hk2 : k = s := by omega
      subst hk2
      clear hm0
      go_wp2
      go_end0
      exact ⟨rfl, hM, hB0.trans hB⟩

set_option maxHeartbeats 2000000 in
set_option maxRecDepth 4000 in
theorem ball_any (w : World) (b : Nat) (h : Int → Bool) (p s : Nat) (hm : MarksAt w b 51 h) (hps : p + s ≤ 256) :
    Calls Try.prog 36 #[.pointer (some ⟨b, 0, none⟩), .int .i64 p, .int .i64 s] w fun e w' => e = .returned (.bool (allF h p s)) ∧ w = w' := by
  obtain ⟨r, hr⟩ : ∃ r, allF h p s = r := ⟨_, rfl⟩
  rw [hr]
  have HR : Hid _ := hr
  clear hr
  go_enter Try.func36, Try.ntmps36
  go_wp2
  go_loopw [9] (fun i wr => ∃ k : Nat, k ≤ s ∧ i = .int .i64 k ∧ Hid (allF h p k = true) ∧ w = wr) (fun i _ => s - (intOf i).toNat)
  case atStart => exact ⟨0, Nat.zero_le _, rfl, rfl, rfl⟩
  case round =>
    obtain ⟨k, hk, rfl, hA, rfl⟩ := hrel
    by_cases hk1 : k < s
    · have c1 := hm.cell (p + k) (by omega)
      by_cases hv : h ((p + k : Nat) : Int) = true
      · rw [hv] at c1
        have hA' : Hid (allF h p (k + 1) = true) := by
          show (allF h p k && h ((p : Int) + k)) = true
          rw [hA.out, Bool.true_and, ← hv]; congr 1
        clear hA hv hm
        go_wp2
        go_roundw
        case rel => exact ⟨k + 1, by omega, by go_num, hA', trivial⟩
        case measure => simp [intOf]; omega
      · have hv' : h ((p + k : Nat) : Int) = false := by simpa using hv
        rw [hv'] at c1
        have hF : Hid (false = r) := by
          show false = r
          rw [← HR.out]
          refine (allF_false (c := k + 1) ?_ (by omega)).symm
          show (allF h p k && h ((p : Int) + k)) = false
          rw [hA.out, Bool.true_and, ← hv']; congr 1
        clear hA hv hv' hm
        go_wp2
        go_ret
        exact ⟨ret_bool hF.out, rfl⟩
    · obtain rfl : k = s := by omega
      have hT : Hid (true = r) := hA.out.symm.trans HR.out
      clear hm hA HR
      go_wp2
      go_ret
      exact ⟨ret_bool hT.out, rfl⟩

end Go.Proofs.Ytfogdgnlbgoakad
