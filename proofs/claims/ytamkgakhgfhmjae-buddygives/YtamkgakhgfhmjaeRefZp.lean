/-
  OWN TEXT. Contracts of the document's answer: power.
-/
import Derived.Test.YtamkgakhgfhmjaeRefI
import Derived.Test.YtamkgakhgfhmjaeZPure
namespace Go.Proofs.Ytamkgakhgfhmjae
open Go Go.RowKit Go.Proofs.Ytamkgakhgfhmjae.Kit

set_option maxHeartbeats 1000000 in
theorem power_nat (w : World) (n : Nat) (hn : n ≤ 8) :
    Calls Try.prog 30 #[.int .i64 n] w fun e w' => e = .returned (.int .i64 ((2 ^ n : Nat) : Int)) ∧ w = w' := by
  obtain ⟨P, hP⟩ : ∃ P : Nat, 2 ^ n = P := ⟨_, rfl⟩
  rw [hP]
  have HP : Hid (2 ^ n = P) := hP
  clear hP
  go_enter Try.func30, Try.ntmps30
  go_wp2
  go_loopw [0, 3] (fun nv pv wr => ∃ k q : Nat, k ≤ n ∧ q ≤ 256 ∧ nv = .int .i64 k ∧ pv = .int .i64 q ∧ Hid (q * 2 ^ k = P) ∧ w = wr) (fun nv _ _ => (intOf nv).toNat)
  case atStart => exact ⟨n, 1, Nat.le_refl _, by omega, rfl, rfl, by show _ = _; rw [Nat.one_mul]; exact HP.out, rfl⟩
  case round =>
    obtain ⟨k, q, hk, hq, rfl, rfl, hI, rfl⟩ := hrel
    cases k with
    | zero =>
      obtain rfl : q = P := by have := hI.out; simpa using this
      clear hI HP
      go_wp2
      go_ret
      exact ⟨rfl, rfl⟩
    | succ k =>
      have hI2 : Hid (2 * q * 2 ^ k = P) := by have := hI.out; show _ = _; rw [← this, Nat.pow_succ]; rw [Nat.mul_comm 2 q, Nat.mul_assoc, Nat.mul_comm 2]
      have hq3 : 2 * q ≤ 256 := by
        have h1 := hI2.out
        have h2 := HP.out
        have h3 : P ≤ 256 := by rw [← h2]; exact Nat.le_trans (Nat.pow_le_pow_right (by omega) hn) (by decide)
        have h4 := Nat.two_pow_pos k
        have h5 : 2 * q * 1 ≤ 2 * q * 2 ^ k := Nat.mul_le_mul_left _ h4
        omega
      have t1 : (0 : Int) < ((k + 1 : Nat) : Int) := by omega
      clear hI HP
      go_wp2
      go_roundw
      case rel => exact ⟨k, 2 * q, by omega, hq3, by go_num, by go_num, hI2, trivial⟩
      case measure => simp [intOf]

theorem power_any (w : World) (o : Int) (h0 : 0 ≤ o) (h : o ≤ 8) :
    Calls Try.prog 30 #[.int .i64 o] w fun e w' => e = .returned (.int .i64 (pw o)) ∧ w = w' := by
  obtain ⟨n, rfl⟩ : ∃ n : Nat, o = n := ⟨o.toNat, by omega⟩
  exact power_nat w n (by omega)

/-- The same, as a quiet region asks for it. -/
theorem power_q (o : Int) (h0 : 0 ≤ o) (h : o ≤ 8) (w : World) :
    Calls Try.prog 30 #[.int .i64 o] w fun e w' => e = .returned (.int .i64 (pw o)) ∧ w' = w :=
  (power_any w o h0 h).mono fun _ _ ⟨h1, h2⟩ => ⟨h1, h2.symm⟩

/-- The same, the power under a name. -/
theorem power_v (o v : Int) (h0 : 0 ≤ o) (h : o ≤ 8) (hv : pw o = v) (w : World) :
    Calls Try.prog 30 #[.int .i64 o] w fun e w' => e = .returned (.int .i64 v) ∧ w' = w := by
  subst hv; exact power_q o h0 h w

end Go.Proofs.Ytamkgakhgfhmjae
