/-
  OWN TEXT. Contracts of ram.Chain.
-/
import Derived.Test.YtlbilifiehddbabRamA
import Derived.Test.YtlbilifiehddbabRamB
namespace Go.Proofs.Ytlbilifiehddbab
open Go Go.RowKit Go.Proofs.Ytlbilifiehddbab.Kit

set_option maxHeartbeats 400000 in
theorem chain_no1 (w : World) (ao : Option Addr) (len cap : Nat) (i s n : Int) (h : ¬ (1 ≤ s ∧ s ≤ 64 ∧ 1 ≤ n ∧ n ≤ len)) :
    Calls Try.prog 14 #[.slice ao len cap, .int .i64 i, .int .i64 s, .int .i64 n] w fun e w' => e = .returned (.tuple #[.slice none 0 0, .int .i64 1]) ∧ w = w' := by
  by_cases h1 : s < 1
  · clear h
    go_enter Try.func14, Try.ntmps14
    go_wp2
    go_ret2
    exact ⟨rfl, rfl⟩
  · by_cases h2 : 64 < s
    · clear h
      go_enter Try.func14, Try.ntmps14
      go_wp2
      go_ret2
      exact ⟨rfl, rfl⟩
    · by_cases h3 : n < 1
      · clear h
        go_enter Try.func14, Try.ntmps14
        go_wp2
        go_ret2
        exact ⟨rfl, rfl⟩
      · have h4 : (len : Int) < n := by omega
        clear h
        go_enter Try.func14, Try.ntmps14
        go_wp2
        go_ret2
        exact ⟨rfl, rfl⟩

theorem chain_no2 (w : World) (ao : Option Addr) (len cap : Nat) (i : Int) (s n q : Nat) (hr : len * 8 ≤ 140737488351232) (h1 : 1 ≤ s) (h2 : s ≤ 64) (h3 : 1 ≤ n) (h4 : n ≤ len) (hq : (s : Int) * (n : Int) = q) (h : ¬ (0 ≤ i ∧ i + q ≤ len)) :
    Calls Try.prog 14 #[.slice ao len cap, .int .i64 i, .int .i64 s, .int .i64 n] w fun e w' => e = .returned (.tuple #[.slice none 0 0, .int .i64 1]) ∧ w = w' := by
  have hI : thereB len i q = false := thereB_f (by omega)
  have q1 : 1 ≤ q ∧ q ≤ 64 * len := by
    have a1 : 1 * 1 ≤ s * n := Nat.mul_le_mul h1 h3
    have a2 : s * n ≤ 64 * len := Nat.mul_le_mul h2 h4
    have a3 : s * n = q := by exact_mod_cast hq
    omega
  obtain ⟨q1, q2⟩ := q1
  clear h
  go_enter Try.func14, Try.ntmps14
  go_wp2_with fail
  go_at_call 18
  refine (are_any _ _ _ _ _ hr (by omega) (by omega) _).mono ?_
  rintro e w' ⟨rfl, rfl⟩
  go_wp2
  go_ret2
  exact ⟨rfl, rfl⟩

set_option maxHeartbeats 1000000 in
theorem chain_yes (w : World) (ao : Option Addr) (len cap : Nat) (a s n q p : Nat) (xs : List Int) (hn : xs.length = len) (hr : len * 8 ≤ 140737488351232) (hx : IntsAt w ao xs) (F : Fits len a s n q p) (hp : Hid (p = s * (n - 1))) :
    Calls Try.prog 14 #[.slice ao len cap, .int .i64 a, .int .i64 s, .int .i64 n] w fun e w' => ∃ bo c, e = .returned (.tuple #[.slice bo len c, .int .i64 0]) ∧
      w'.ownsRow w.heap.size 3 1 (.slice bo len c) len (vals (chainL xs a s n)) ∧ Below w.heap.size w w' := by
  obtain ⟨h1, h2, h3, h4, hq, hpp, ht, hpq⟩ := F
  have hI : thereB len a q = true := thereB_t (by omega)
  have k1 : ¬ (s : Int) < 1 := by omega
  have k2 : ¬ (64 : Int) < s := by omega
  have k3 : ¬ (n : Int) < 1 := by omega
  have k4 : ¬ (len : Int) < n := by omega
  go_enter Try.func14, Try.ntmps14
  go_wp2_with fail
  go_at_call 18
  refine (are_any _ _ _ _ _ hr (by omega) (by omega) _).mono ?_
  rintro e w' ⟨rfl, rfl⟩
  go_wp2_with fail
  go_at_call 17
  refine (clone_any _ _ _ _ xs hn hr hx).mono ?_
  rintro e w1 ⟨g, rfl, hown, hb⟩
  go_wp2
  go_loopw [12] (fun av wr => ∃ k m : Nat, Hid (m = a + s * k) ∧ Hid (k ≤ n - 1) ∧ m ≤ a + p ∧ av = .int .i64 m ∧ wr.ownsRow w.heap.size 3 1 (.slice (some ⟨g, 0, none⟩) len len) len (vals (chainK xs a s k)) ∧ Below w.heap.size w wr) (fun av _ => a + p - (intOf av).toNat)
  case atStart => exact ⟨0, a, show a = a + s * 0 by omega, Nat.zero_le _, by omega, rfl, hown, hb⟩
  case round =>
    obtain ⟨k, m, hm, hk, hle, rfl, hown, hb⟩ := hrel
    have hg : w.heap.size ≤ g := by obtain ⟨g', e1, e2, _⟩ := owns_head hown (by omega); cases e1; exact e2
    by_cases hlt : m < a + p
    · obtain ⟨hc, hf, hO⟩ := owns_store hown m (by omega) (m + s)
      have hk' : k < n - 1 := by
        have e1 := hm.out; have e2 := hp.out; have e3 := hk.out
        rcases Nat.lt_or_ge k (n - 1) with h | h
        · exact h
        · have : k = n - 1 := by omega
          subst this; omega
      have hm' : Hid (m + s = a + s * (k + 1)) := by have := hm.out; show m + s = _; rw [Nat.mul_succ]; omega
      have hle' : m + s ≤ a + p := by
        have e1 := hm'.out; have e2 := hp.out
        have : s * (k + 1) ≤ s * (n - 1) := Nat.mul_le_mul_left _ hk'
        omega
      have HE : Hid ((chainK xs a s k).set m (m + s) = chainK xs a s (k + 1)) := by
        have e1 := hm.out
        show _ = (chainK xs a s k).set (a + s * k) ((a + s * k + s : Nat) : Int)
        rw [← e1]; simp
      rw [HE.out] at hO
      have hb' := hb.setCell (p := ⟨g, m, none⟩) hg (Value.int .i64 (m + s))
      clear hown hb
      go_wp2
      go_roundw
      case rel => exact ⟨k + 1, m + s, hm', hk', hle', by go_num, hO, hb'⟩
      case measure => simp [intOf]; omega
    · obtain rfl : m = a + p := by omega
      obtain ⟨hc, hf, hO⟩ := owns_store hown (a + p) (by omega) (-1)
      have hk' : k = n - 1 := by
        have e1 := hm.out; have e2 := hp.out; have e3 := hk.out
        have : s * k = s * (n - 1) := by omega
        exact Nat.eq_of_mul_eq_mul_left (by omega) this
      have HE : Hid ((chainK xs a s k).set (a + p) (-1) = chainL xs a s n) := by
        show _ = (chainK xs a s (n - 1)).set (a + s * (n - 1)) (-1)
        rw [hk', hp.out]
      rw [HE.out] at hO
      have hb' := hb.setCell (p := ⟨g, a + p, none⟩) hg (Value.int .i64 (-1))
      clear hown hb hk'
      go_wp2
      go_ret2
      exact ⟨_, _, rfl, hO, hb'⟩

end Go.Proofs.Ytlbilifiehddbab
