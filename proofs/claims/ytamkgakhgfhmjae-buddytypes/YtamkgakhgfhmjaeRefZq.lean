/-
  OWN TEXT. Contracts of the document's answer: freeOf.
-/
import Derived.Test.YtamkgakhgfhmjaeRefZp
namespace Go.Proofs.Ytamkgakhgfhmjae
open Go Go.RowKit Go.Proofs.Ytamkgakhgfhmjae.Kit

set_option maxHeartbeats 1000000 in
set_option maxRecDepth 4000 in
theorem freeOf_any (w : World) (ao : Option Addr) (n cap : Nat) (l : List Bk) (h : Blks w ao n l) (ho : ∀ i, i < l.length → ordOk (l.getD i .zero).o) :
    Calls Try.prog 19 #[.slice ao n cap] w fun e w' => e = .returned (.int .i64 (freeN l)) ∧ ∃ d, w' = w.drewN d := by
  obtain ⟨hn, hr, hx⟩ := h
  go_enter Try.func19, Try.ntmps19
  go_wp2
  go_loopw [3, 4] (fun v i wr => ∃ (k d : Nat) (q : Int), k ≤ n ∧ i = .int .i64 k ∧ v = .int .i64 q ∧ Hid (freeN (l.take k) = q) ∧ 0 ≤ q ∧ q ≤ 16 * k ∧ wr = w.drewN d) (fun _ i _ => n - (intOf i).toNat)
  case atStart => exact ⟨0, 0, 0, Nat.zero_le _, rfl, rfl, rfl, by omega, by omega, rfl⟩
  case round =>
    obtain ⟨k, d, q, hk, rfl, rfl, hQ, q0, q1, rfl⟩ := hrel
    by_cases hlt : k < n
    · obtain ⟨b, o, x, y, u, rfl, c1, c2, c3, hX⟩ := (hx.below (below_drawn d)).at k (by omega)
      have hy : ordOk y := by have := ho k (by omega); rw [hX.out] at this; exact this
      obtain ⟨P, hP⟩ : ∃ P, pw y = P := ⟨_, rfl⟩
      have HP : Hid (pw y = P) := hP
      have p1 := pw_pos y
      have p2 := pw_le hy
      have hQ' : Hid (freeN (l.take (k + 1)) = q + P) := by show _ = _; rw [take_getD l k (by omega) hX.out, freeN_snoc, hQ.out, ← hP]
      obtain ⟨y0, y4⟩ := hy
      rw [hP] at p1 p2
      clear hQ hP ho hx hX
      go_wp2_with fail
      go_at_call 30
      refine (power_v y P y0 (by omega) HP.out _).mono ?_
      rintro e w' ⟨rfl, rfl⟩
      go_wp2
      go_roundw
      case rel => exact ⟨k + 1, d, q + P, by omega, by go_num, by go_num, hQ', by omega, by omega, rfl⟩
      case measure => simp [intOf]; omega
    · have hk2 : k = n := by omega
      have hQ2 : freeN l = q := by have := hQ.out; rw [List.take_of_length_le (by omega)] at this; exact this
      subst hQ2
      clear hQ
      go_wp2
      go_ret
      exact ⟨rfl, d, rfl⟩

end Go.Proofs.Ytamkgakhgfhmjae
