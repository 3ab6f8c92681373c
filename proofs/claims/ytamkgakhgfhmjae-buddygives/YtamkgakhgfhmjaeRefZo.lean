/-
  OWN TEXT. Contracts of the document's answer: overlaps.
-/
import Derived.Test.YtamkgakhgfhmjaeRefZp
namespace Go.Proofs.Ytamkgakhgfhmjae
open Go Go.RowKit Go.Proofs.Ytamkgakhgfhmjae.Kit

set_option maxHeartbeats 1000000 in
set_option maxRecDepth 4000 in
theorem overlaps_any (w : World) (ao : Option Addr) (n cap : Nat) (l : List Bk) (a o : Int) (h : Blks w ao n l) (ho : ∀ i, i < l.length → ordOk (l.getD i .zero).o ∧ 0 ≤ (l.getD i .zero).a ∧ (l.getD i .zero).a ≤ 256) (hoo : ordOk o) (h0 : 0 ≤ a) (h1 : a ≤ 256) :
    Calls Try.prog 29 #[.slice ao n cap, .int .i64 a, .int .i64 o] w fun e w' => RetIff e (∃ i, i < l.length ∧ (l.getD i .zero).a < a + pw o ∧ a < (l.getD i .zero).a + pw (l.getD i .zero).o) ∧ ∃ d, w' = w.drewN d := by
  obtain ⟨hn, hr, hx⟩ := h
  obtain ⟨P, hP⟩ : ∃ P, pw o = P := ⟨_, rfl⟩
  have HP : Hid (pw o = P) := hP
  have p1 := pw_pos o
  have p2 := pw_le hoo
  obtain ⟨o0, o4⟩ := hoo
  rw [hP] at p1 p2 ⊢
  clear hP
  go_enter Try.func29, Try.ntmps29
  go_wp2
  go_loopw [7] (fun i wr => ∃ k : Nat, k ≤ n ∧ i = .int .i64 k ∧ Hid (∀ i, i < k → ¬ ((l.getD i .zero).a < a + P ∧ a < (l.getD i .zero).a + pw (l.getD i .zero).o)) ∧ ∃ d, wr = w.drewN d) (fun i _ => n - (intOf i).toNat)
  case atStart => exact ⟨0, Nat.zero_le _, rfl, (fun i hi => absurd hi (Nat.not_lt_zero i)), 0, rfl⟩
  case round =>
    obtain ⟨k, hk, rfl, hN, hd⟩ := hrel
    have hbw : Below w.heap.size w wr := by obtain ⟨d, rfl⟩ := hd; exact below_drawn d
    by_cases hlt : k < n
    · obtain ⟨b, bo, x, y, u, rfl, c1, c2, c3, hX⟩ := (hx.below hbw).at k (by omega)
      have hy : ordOk y ∧ 0 ≤ x ∧ x ≤ 256 := by have := ho k (by omega); rw [hX.out] at this; exact this
      obtain ⟨hy1, x0, x1⟩ := hy
      obtain ⟨P', hP'⟩ : ∃ P', pw y = P' := ⟨_, rfl⟩
      have HP' : Hid (pw y = P') := hP'
      have p1' := pw_pos y
      have p2' := pw_le hy1
      obtain ⟨y0, y4⟩ := hy1
      rw [hP'] at p1' p2'
      clear hP' c3
      by_cases g1 : x < a + P
      · have g1b : decide (x < a + P) = true := decide_eq_true g1
        by_cases g2 : a < x + P'
        · have g2b : decide (a < x + P') = true := decide_eq_true g2
          have HT : Hid (∃ i, i < l.length ∧ (l.getD i .zero).a < a + P ∧ a < (l.getD i .zero).a + pw (l.getD i .zero).o) := ⟨k, by omega, by rw [hX.out]; exact g1, by rw [hX.out]; dsimp only; rw [HP'.out]; exact g2⟩
          clear hN ho hx hX
          go_wp2
          go_quiet (first | (go_at_call_of 30 o; exact Calls.quiet_of_same (power_v o P o0 (by omega) HP.out _)) | (go_at_call_of 30 y; exact Calls.quiet_of_same (power_v y P' y0 (by omega) HP'.out _)))
          go_wp2
          go_ret
          exact ⟨⟨true, rfl, fun _ => HT.out, fun _ => rfl⟩, drawn_more hd _⟩
        · have g2b : decide (a < x + P') = false := decide_eq_false g2
          have hN' : Hid (∀ i, i < k + 1 → ¬ ((l.getD i .zero).a < a + P ∧ a < (l.getD i .zero).a + pw (l.getD i .zero).o)) := fun i hi => by
            by_cases e : i = k
            · rw [e, hX.out]; dsimp only; rw [HP'.out]; exact fun g => g2 g.2
            · exact hN.out i (by omega)
          clear hN ho hX
          go_wp2
          go_quiet (first | (go_at_call_of 30 o; exact Calls.quiet_of_same (power_v o P o0 (by omega) HP.out _)) | (go_at_call_of 30 y; exact Calls.quiet_of_same (power_v y P' y0 (by omega) HP'.out _)))
          go_wp2
          go_roundw
          case rel => exact ⟨k + 1, by omega, by go_num, hN', drawn_more hd _⟩
          case measure => simp [intOf]; omega
      · have g1b : decide (x < a + P) = false := decide_eq_false g1
        have hN' : Hid (∀ i, i < k + 1 → ¬ ((l.getD i .zero).a < a + P ∧ a < (l.getD i .zero).a + pw (l.getD i .zero).o)) := fun i hi => by
          by_cases e : i = k
          · rw [e, hX.out]; exact fun g => g1 g.1
          · exact hN.out i (by omega)
        clear hN ho hX
        go_wp2
        go_quiet (first | (go_at_call_of 30 o; exact Calls.quiet_of_same (power_v o P o0 (by omega) HP.out _)) | (go_at_call_of 30 y; exact Calls.quiet_of_same (power_v y P' y0 (by omega) HP'.out _)))
        go_wp2
        go_roundw
        case rel => exact ⟨k + 1, by omega, by go_num, hN', drawn_more hd _⟩
        case measure => simp [intOf]; omega
    · have HF : Hid (¬ ∃ i, i < l.length ∧ (l.getD i .zero).a < a + P ∧ a < (l.getD i .zero).a + pw (l.getD i .zero).o) := fun ⟨i, hi, g⟩ => hN.out i (by omega) g
      clear hN ho
      go_wp2
      go_ret
      exact ⟨⟨false, rfl, fun g => (by cases g), fun g => absurd g HF.out⟩, hd⟩

end Go.Proofs.Ytamkgakhgfhmjae
