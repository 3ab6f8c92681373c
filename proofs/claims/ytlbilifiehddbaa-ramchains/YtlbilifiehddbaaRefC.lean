/-
  OWN TEXT. Contracts of the document's answer to Chain.
-/
import Derived.Test.YtlbilifiehddbaaRefA
namespace Go.Proofs.Ytlbilifiehddbaa
open Go Go.RowKit Go.Proofs.Ytlbilifiehddbaa.Kit

set_option maxHeartbeats 400000 in
theorem chainOf_no1 (w : World) (ao : Option Addr) (len cap : Nat) (i s n : Int) (h : ¬ (1 ≤ s ∧ s ≤ 64 ∧ 1 ≤ n ∧ n ≤ len)) :
    Calls Try.prog 16 #[.slice ao len cap, .int .i64 i, .int .i64 s, .int .i64 n] w fun e w' => e = .returned (.tuple #[.slice none 0 0, .int .i64 1]) ∧ w = w' := by
  by_cases h1 : 1 ≤ s ∧ s ≤ 64
  · have e1 : inB s 1 64 = true := inB_t h1
    have e2 : inB n 1 len = false := inB_f (by omega)
    clear h h1
    go_enter Try.func16, Try.ntmps16
    go_wp2_with (go_at_call 17; refine (in_any _ _ _ _).mono ?_; rintro e w' ⟨rfl, rfl⟩)
    go_ret2
    exact ⟨rfl, rfl⟩
  · have e1 : inB s 1 64 = false := inB_f h1
    clear h h1
    go_enter Try.func16, Try.ntmps16
    go_wp2_with (go_at_call 17; refine (in_any _ _ _ _).mono ?_; rintro e w' ⟨rfl, rfl⟩)
    go_ret2
    exact ⟨rfl, rfl⟩

theorem chainOf_no2 (w : World) (ao : Option Addr) (len cap : Nat) (i : Int) (s n q : Nat) (hr : len * 8 ≤ 140737488351232) (h1 : 1 ≤ s) (h2 : s ≤ 64) (h3 : 1 ≤ n) (h4 : n ≤ len) (hq : (s : Int) * (n : Int) = q) (h : ¬ (0 ≤ i ∧ i + q ≤ len)) :
    Calls Try.prog 16 #[.slice ao len cap, .int .i64 i, .int .i64 s, .int .i64 n] w fun e w' => e = .returned (.tuple #[.slice none 0 0, .int .i64 1]) ∧ w = w' := by
  have hI : thereB len i q = false := thereB_f (by omega)
  have e1 : inB s 1 64 = true := inB_t (by omega)
  have e2 : inB n 1 len = true := inB_t (by omega)
  have q1 : 1 ≤ q ∧ q ≤ 64 * len := by
    have a1 : 1 * 1 ≤ s * n := Nat.mul_le_mul h1 h3
    have a2 : s * n ≤ 64 * len := Nat.mul_le_mul h2 h4
    have a3 : s * n = q := by exact_mod_cast hq
    omega
  obtain ⟨q1, q2⟩ := q1
  clear h
  go_enter Try.func16, Try.ntmps16
  go_wp2_with (first | (go_at_call 17; refine (in_any _ _ _ _).mono ?_; rintro e w' ⟨rfl, rfl⟩) | (go_at_call 19; refine (there_any _ _ _ _ _ hr _).mono ?_; rintro e w' ⟨rfl, rfl⟩))
  go_ret2
  exact ⟨rfl, rfl⟩

set_option maxHeartbeats 1000000 in
theorem chainOf_yes (w : World) (ao : Option Addr) (len cap : Nat) (a s n q p : Nat) (xs : List Int) (hn : xs.length = len) (hr : len * 8 ≤ 140737488351232) (hx : IntsAt w ao xs) (F : Fits len a s n q p) (hp : Hid (p = s * (n - 1))) (hqq : Hid (q = s * n)) :
    Calls Try.prog 16 #[.slice ao len cap, .int .i64 a, .int .i64 s, .int .i64 n] w fun e w' => ∃ bo c, e = .returned (.tuple #[.slice bo len c, .int .i64 0]) ∧
      w'.ownsRow w.heap.size 3 1 (.slice bo len c) len (vals (chainL xs a s n)) ∧ Below w.heap.size w w' := by
  obtain ⟨h1, h2, h3, h4, hq, hpp, ht, hpq⟩ := F
  have hI : thereB len a q = true := thereB_t (by omega)
  have e1 : inB s 1 64 = true := inB_t (by omega)
  have e2 : inB n 1 len = true := inB_t (by omega)
  have hlast : (a : Int) + q - s = a + p := by omega
  clear hpp
  go_enter Try.func16, Try.ntmps16
  go_wp2_with (first | (go_at_call 17; refine (in_any _ _ _ _).mono ?_; rintro e w' ⟨rfl, rfl⟩) | (go_at_call 19; refine (there_any _ _ _ _ _ hr _).mono ?_; rintro e w' ⟨rfl, rfl⟩))
  go_at_call 21
  refine (words_any _ _ _ _ xs hn hr hx).mono ?_
  rintro e w1 ⟨bo, c, rfl, hown, hb⟩
  obtain ⟨g, rfl, hg, _⟩ := owns_head hown (by omega)
  go_wp2
  go_loopw [11] (fun iv wr => ∃ k : Nat, k ≤ n ∧ iv = .int .i64 k ∧ wr.ownsRow w.heap.size 3 1 (.slice (some ⟨g, 0, none⟩) len c) len (vals (chainK xs a s k)) ∧ Below w.heap.size w wr) (fun iv _ => n - (intOf iv).toNat)
  case atStart => exact ⟨0, Nat.zero_le _, rfl, hown, hb⟩
  case round =>
    obtain ⟨k, hk, rfl, hown, hb⟩ := hrel
    by_cases hlt : k < n
    · obtain ⟨m, hm⟩ : ∃ m, m = s * k := ⟨_, rfl⟩
      have hsk : (s : Int) * (k : Int) = m := by rw [hm]; simp
      have hmq : m + s ≤ q := by
        have e1 := hqq.out
        have : s * (k + 1) ≤ s * n := Nat.mul_le_mul_left _ hlt
        rw [Nat.mul_succ] at this
        omega
      have HM : Hid (m = s * k) := hm
      clear hm
      obtain ⟨hc, hf, hO⟩ := owns_store hown (a + m) (by omega) (a + m + s)
      have HE : Hid ((chainK xs a s k).set (a + m) (a + m + s) = chainK xs a s (k + 1)) := by
        show _ = (chainK xs a s k).set (a + s * k) ((a + s * k + s : Nat) : Int)
        rw [← HM.out]; simp
      rw [HE.out] at hO
      have hb' := hb.setCell (p := ⟨g, a + m, none⟩) hg (Value.int .i64 (a + m + s))
      clear hown hb
      go_wp2
      go_roundw
      case rel => exact ⟨k + 1, by omega, by go_num, hO, hb'⟩
      case measure => simp [intOf]; omega
    · have hkn : Hid (k = n) := by show k = n; omega
      obtain ⟨hc, hf, hO⟩ := owns_store hown (a + p) (by omega) (-1)
      have HE : Hid ((chainK xs a s k).set (a + p) (-1) = chainL xs a s n) := by
        show (chainK xs a s k).set (a + p) (-1) = _
        rw [hkn.out, hp.out]
        exact chainL_eq xs a s n h3
      rw [HE.out] at hO
      have hb' := hb.setCell (p := ⟨g, a + p, none⟩) hg (Value.int .i64 (-1))
      clear hown hb
      go_wp2
      go_ret2
      exact ⟨_, _, rfl, hO, hb'⟩

end Go.Proofs.Ytlbilifiehddbaa
