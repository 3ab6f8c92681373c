/-
  OWN TEXT. Contracts of ram.Move.
-/
import Derived.Test.YtlbilifiehddbabRamA
namespace Go.Proofs.Ytlbilifiehddbab
open Go Go.RowKit Go.Proofs.Ytlbilifiehddbab.Kit

/-- The words behind j moves. -/
def moveK (xs : List Int) (to from_ : Nat) : Nat → List Int
  | 0 => xs
  | j + 1 => (moveK xs to from_ j).set (to + j) (xs.getD (from_ + j) 0)

theorem moveK_length (xs : List Int) (to from_ j : Nat) : (moveK xs to from_ j).length = xs.length := by
  induction j with
  | zero => rfl
  | succ j ih => simp [moveK, ih]

theorem are_yes (ao : Option Addr) (len cap : Nat) (i n : Nat) (hr : len * 8 ≤ 140737488351232) (h : i + n ≤ len) (w : World) :
    Calls Try.prog 18 #[.slice ao len cap, .int .i64 i, .int .i64 n] w fun e w' => e = .returned (.bool true) ∧ w = w' := by
  have h3 : (0 : Int) ≤ i := by omega
  have h4 : (i : Int) ≤ len - n := by omega
  by_cases h0 : n = 0
  · have e0 : ((n : Int) == 0) = true := by simp; omega
    clear h0
    go_enter Try.func18, Try.ntmps18
    go_wp2
    go_ret
    exact ⟨rfl, rfl⟩
  · have e0 : ((n : Int) == 0) = false := by simp; omega
    clear h0
    go_enter Try.func18, Try.ntmps18
    go_wp2
    go_ret
    exact ⟨rfl, rfl⟩

theorem are_no (ao : Option Addr) (len cap : Nat) (i n : Nat) (hr : len * 8 ≤ 140737488351232) (h0 : 1 ≤ n) (h2 : n ≤ 1152921504606846976) (h : len < i + n) (w : World) :
    Calls Try.prog 18 #[.slice ao len cap, .int .i64 i, .int .i64 n] w fun e w' => e = .returned (.bool false) ∧ w = w' := by
  have h3 : (0 : Int) ≤ i := by omega
  have h4 : ¬ (i : Int) ≤ len - n := by omega
  have e0 : ((n : Int) == 0) = false := by simp; omega
  go_enter Try.func18, Try.ntmps18
  go_wp2
  go_ret
  exact ⟨rfl, rfl⟩

/-- One of the two places is not there (n at least 1). -/
theorem move_no (w : World) (ao : Option Addr) (len cap to from_ n : Nat) (hr : len * 8 ≤ 140737488351232) (h0 : 1 ≤ n) (h2 : n ≤ 1152921504606846976) (h : len < to + n ∨ len < from_ + n) :
    Calls Try.prog 12 #[.slice ao len cap, .int .i64 to, .int .i64 from_, .int .i64 n] w fun e w' => e = .returned (.tuple #[.slice none 0 0, .int .i64 1]) ∧ w = w' := by
  have hp : ¬ (n : Int) < 0 := by omega
  by_cases h1 : len < to + n
  · clear h
    go_enter Try.func12, Try.ntmps12
    go_wp2_with fail
    go_at_call 18
    refine (are_no _ _ _ _ _ hr h0 h2 h1 _).mono ?_
    rintro e w' ⟨rfl, rfl⟩
    go_wp2
    go_ret2
    exact ⟨rfl, rfl⟩
  · have h3 : len < from_ + n := by omega
    clear h
    go_enter Try.func12, Try.ntmps12
    go_wp2_with fail
    go_at_call 18
    refine (are_yes _ _ _ _ _ hr (by omega) _).mono ?_
    rintro e w' ⟨rfl, rfl⟩
    go_wp2_with fail
    go_at_call 18
    refine (are_no _ _ _ _ _ hr h0 h2 h3 _).mono ?_
    rintro e w' ⟨rfl, rfl⟩
    go_wp2
    go_ret2
    exact ⟨rfl, rfl⟩

theorem move_no_int (w : World) (ao : Option Addr) (len cap to from_ n : Nat) (ni : Int) (hni : ni = n) (hr : len * 8 ≤ 140737488351232) (h0 : 1 ≤ n) (h2 : n ≤ 1152921504606846976) (h : len < to + n ∨ len < from_ + n) :
    Calls Try.prog 12 #[.slice ao len cap, .int .i64 to, .int .i64 from_, .int .i64 ni] w fun e w' => e = .returned (.tuple #[.slice none 0 0, .int .i64 1]) ∧ w = w' := by
  subst hni; exact move_no w ao len cap to from_ n hr h0 h2 h

set_option maxHeartbeats 1000000 in
theorem move_yes (w : World) (ao : Option Addr) (len cap to from_ n : Nat) (xs : List Int) (hn : xs.length = len) (hr : len * 8 ≤ 140737488351232) (hx : IntsAt w ao xs) (h1 : to + n ≤ len) (h2 : from_ + n ≤ len) :
    Calls Try.prog 12 #[.slice ao len cap, .int .i64 to, .int .i64 from_, .int .i64 n] w fun e w' => ∃ bo c, e = .returned (.tuple #[.slice bo len c, .int .i64 0]) ∧
      w'.ownsRow w.heap.size 3 1 (.slice bo len c) len (vals (moveK xs to from_ n)) ∧ Below w.heap.size w w' := by
  have hp : ¬ (n : Int) < 0 := by omega
  go_enter Try.func12, Try.ntmps12
  go_wp2_with fail
  go_at_call 18
  refine (are_yes _ _ _ _ _ hr h1 _).mono ?_
  rintro e w' ⟨rfl, rfl⟩
  go_wp2_with fail
  go_at_call 18
  refine (are_yes _ _ _ _ _ hr h2 _).mono ?_
  rintro e w' ⟨rfl, rfl⟩
  go_wp2_with fail
  go_at_call 17
  refine (clone_any _ _ _ _ xs hn hr hx).mono ?_
  rintro e w1 ⟨g, rfl, hown, hb⟩
  go_wp2
  go_loopw [31] (fun t wr => ∃ j : Nat, j ≤ n ∧ t = .int .i64 j ∧ wr.ownsRow w.heap.size 3 1 (.slice (some ⟨g, 0, none⟩) len len) len (vals (moveK xs to from_ j)) ∧ Below w.heap.size w wr) (fun t _ => n - (intOf t).toNat)
  case atStart => exact ⟨0, Nat.zero_le _, rfl, hown, hb⟩
  case round =>
    obtain ⟨j, hj, rfl, hown, hb⟩ := hrel
    by_cases hlt : j < n
    · have hg : w.heap.size ≤ g := by obtain ⟨g', e1, e2, _⟩ := owns_head hown (by omega); cases e1; exact e2
      obtain ⟨b, o, x, rfl, c, hX⟩ := (hx.below hb).at (from_ + j) (by omega)
      obtain ⟨hc, hf, hO⟩ := owns_store hown (to + j) (by omega) x
      have HE : Hid ((moveK xs to from_ j).set (to + j) x = moveK xs to from_ (j + 1)) := by
        show _ = (moveK xs to from_ j).set (to + j) (xs.getD (from_ + j) 0)
        rw [hX.out]
      rw [HE.out] at hO
      have hb' := hb.setCell (p := ⟨g, to + j, none⟩) hg (Value.int .i64 x)
      clear hown hb hx
      go_wp2
      go_roundw
      case rel => exact ⟨j + 1, by omega, by go_num, hO, hb'⟩
      case measure => simp [intOf]; omega
    · obtain rfl : j = n := by omega
      go_wp2
      go_ret2
      exact ⟨_, _, rfl, hown, hb⟩

end Go.Proofs.Ytlbilifiehddbab
