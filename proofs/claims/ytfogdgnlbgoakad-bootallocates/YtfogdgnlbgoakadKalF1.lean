/-
  OWN TEXT. Contracts of slices.IndexFunc and slices.ContainsFunc over regions, at the closure 13.
-/
import Derived.Test.YtfogdgnlbgoakadKFunc
namespace Go.Proofs.Ytfogdgnlbgoakad
open Go Go.RowKit Go.Proofs.Ytfogdgnlbgoakad.Kit

set_option maxHeartbeats 1000000 in
theorem index_alF1 (w : World) (q1 q2 : Value) (ao : Option Addr) (n cap : Nat) (l : List (Int × Int)) (g : Int × Int → Bool) (h : Regs w ao n l) (hc : HoldsR 13 #[q1, q2] l g w) :
    Calls Try.prog 24 #[.slice ao n cap, .func (.func 13) #[] #[q1, q2]] w fun e w' => FoundIff e (l.any g) ∧ Below w.heap.size w w' := by
  have hlen := h.len
  have hrch := h.reach
  go_enter Try.func24, Try.ntmps24
  go_wp2
  go_loopw [8] (fun i wr => ∃ k : Nat, k ≤ n ∧ i = .int .i64 k ∧ Hid ((l.take k).any g = false) ∧ Below w.heap.size w wr) (fun i _ => n - (intOf i).toNat)
  case atStart => exact ⟨0, Nat.zero_le _, rfl, rfl, Below.refl _ _⟩
  case round =>
    obtain ⟨k, hk, rfl, hN, hb⟩ := hrel
    by_cases hlt : k < n
    · obtain ⟨b, o, rfl, c0, c1⟩ := h.at_ k (by omega)
      have hc1 := hc k (by omega) wr hb
      have HA : Hid ((l.take (k + 1)).any g = g (l.getD k (0, 0))) := any_next hN.out (by omega)
      obtain ⟨r, hr⟩ : ∃ r, l.getD k (0, 0) = r := ⟨_, rfl⟩
      rw [hr] at c0 c1 hc1 HA
      clear hr hN
      obtain ⟨f, s⟩ := r
      dsimp only at c0 c1 hc1
      have d0 := keep c0 hb
      have d1 := keep c1 hb
      clear c0 c1
      go_wp2_with fail
      go_at_call 13
      refine hc1.mono ?_
      rintro e w1 ⟨rfl, hb1⟩
      have hB := hb.trans (hb1.mono hb.size)
      clear hc1
      by_cases hg : g (f, s) = true
      · have HF : Hid (l.any g = true) := by have := HA.out; rw [hg] at this; exact any_of_take this
        clear HA hc
        go_wp2
        go_ret
        exact ⟨⟨k, rfl, fun _ => HF.out, fun _ => by omega⟩, hB⟩
      · have hg' : g (f, s) = false := by simpa using hg
        have HF : Hid ((l.take (k + 1)).any g = false) := by have := HA.out; rw [hg'] at this; exact this
        clear HA hc hg
        go_wp2
        go_roundw
        case rel => exact ⟨k + 1, by omega, by go_num, HF, hB⟩
        case measure => simp [intOf]; omega
    · have HF : Hid (l.any g = false) := by have := hN.out; rw [List.take_of_length_le (by omega)] at this; exact this
      clear hN hc
      go_wp2
      go_ret
      exact ⟨⟨-1, rfl, fun g => absurd g (by omega), fun g => by rw [HF.out] at g; cases g⟩, hb⟩

set_option maxHeartbeats 1000000 in
theorem contains_alF1 (w : World) (q1 q2 : Value) (ao : Option Addr) (n cap : Nat) (l : List (Int × Int)) (g : Int × Int → Bool) (h : Regs w ao n l) (hc : HoldsR 13 #[q1, q2] l g w) :
    Calls Try.prog 8 #[.slice ao n cap, .func (.func 13) #[] #[q1, q2]] w fun e w' => e = .returned (.bool (l.any g)) ∧ Below w.heap.size w w' := by
  go_enter Try.func8, Try.ntmps8
  go_wp2_with fail
  go_at_call 24
  refine (index_alF1 w q1 q2 ao n cap l g h hc).mono ?_
  rintro e w1 ⟨⟨i, rfl, hi⟩, hb⟩
  by_cases hn : (0 : Int) ≤ i
  · have HF : Hid (l.any g = true) := hi.1 hn
    clear hi hc
    go_wp2
    go_ret
    exact ⟨ret_bool HF.out.symm, hb⟩
  · have HF : Hid (l.any g = false) := by
      show _ = _
      cases hh : l.any g with
      | false => rfl
      | true => exact absurd (hi.2 hh) hn
    have hd : decide (0 ≤ i) = false := decide_eq_false hn
    clear hi hc
    go_wp2
    go_ret
    exact ⟨ret_bool HF.out.symm, hb⟩

end Go.Proofs.Ytfogdgnlbgoakad
