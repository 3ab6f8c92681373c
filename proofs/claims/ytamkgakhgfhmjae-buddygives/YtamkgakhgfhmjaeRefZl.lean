/-
  OWN TEXT. Contracts of the document's answer: withBlock, without.
-/
import Derived.Test.YtamkgakhgfhmjaeRefZb
import Derived.Test.YtamkgakhgfhmjaeZPure2
namespace Go.Proofs.Ytamkgakhgfhmjae
open Go Go.RowKit Go.Proofs.Ytamkgakhgfhmjae.Kit

set_option maxHeartbeats 2000000 in
theorem without_any (w : World) (ao : Option Addr) (n cap : Nat) (l : List Bk) (a o : Int) (h : Blks w ao n l) :
    Calls Try.prog 31 #[.slice ao n cap, .int .i64 a, .int .i64 o] w fun e w' => ∃ bo m c, e = .returned (.tuple #[.slice bo m c, .bool (hasB l a o)]) ∧
      w'.ownsRow w.heap.size 39 3 (.slice bo m c) m (bvals (dropB l a o)) ∧ Below w.heap.size w w' := by
  obtain ⟨i0, hi, hz0, hz1, hz2⟩ := info_parts info_block
  obtain ⟨hn, hr, hx⟩ := h
  go_enter Try.func31, Try.ntmps31
  go_wp2
  go_loopw [8, 9, 10] (fun v fv i wr => ∃ (k m c : Nat) (bo : Option Addr), k ≤ n ∧ m ≤ k ∧ v = .slice bo m c ∧ fv = .bool (hasB (l.take k) a o) ∧ i = .int .i64 k ∧ wr.ownsRow w.heap.size 39 3 (.slice bo m c) m (bvals (dropB (l.take k) a o)) ∧ Below w.heap.size w wr) (fun _ _ i _ => n - (intOf i).toNat)
  case atStart => exact ⟨0, 0, 0, none, Nat.zero_le _, Nat.le_refl _, rfl, rfl, rfl, World.ownsRow_nil _ _ _ _, Below.refl _ _⟩
  case round =>
    obtain ⟨k, m, c, bo, hk, hm, rfl, rfl, rfl, hown, hb⟩ := hrel
    have hs := hb.size
    by_cases hlt : k < n
    · obtain ⟨b, of, x, y, u, rfl, c1, c2, c3, hX⟩ := (hx.below hb).at k (by omega)
      have htk := take_getD l k (by omega) hX.out
      have hml : m + 1 ≤ maxLen := by unfold maxLen; omega
      by_cases g1 : x = a
      · have g1b : (x == a) = true := by simpa using g1
        by_cases g2 : y = o
        · have g2b : (y == o) = true := by simpa using g2
          have hT : isB a o ⟨x, y, u⟩ = true := decide_eq_true ⟨g1, g2⟩
          have hH' : Value.bool true = .bool (hasB (l.take (k + 1)) a o) := by rw [htk, hasB_snoc, hT, Bool.or_true]
          have hown2 : wr.ownsRow w.heap.size 39 3 (.slice bo m c) m (bvals (dropB (l.take (k + 1)) a o)) := by rw [htk, dropB_snoc, if_pos hT]; exact hown
          have HH' : Hid _ := hH'
          clear hx hX htk hT hown hH' g1 g2
          go_wp2
          go_roundw
          case rel => exact ⟨k + 1, m, c, bo, by omega, by omega, rfl, HH'.out, by go_num, hown2, hb⟩
          case measure => simp [intOf]; omega
        · have g2b : (y == o) = false := by simpa using g2
          have hT : isB a o ⟨x, y, u⟩ = false := decide_eq_false (fun g => g2 g.2)
          have hH' : Value.bool (hasB (l.take k) a o) = .bool (hasB (l.take (k + 1)) a o) := by rw [htk, hasB_snoc, hT, Bool.or_false]
          have HE : Hid (bvals (dropB (l.take k) a o) ++ [.int .i64 x, .int .i64 y, .int .i64 u] = bvals (dropB (l.take (k + 1)) a o)) := by show _ = _; rw [htk, dropB_snoc, hT, if_neg (by simp), bvals_append]; rfl
          have HH' : Hid _ := hH'
          clear hx hX htk hT hH' g1 g2
          go_wp2_with (at_builtin; refine wpList_append_own _ rfl (.tmp 33) (.tmp 38) 22 rfl w.heap.size 39 i0 (.agg #[.int .i64 0, .int .i64 0, .int .i64 0]) 3 24 Try.underlying22 hi hz0 hz1 hz2 rfl (by decide) _ _ _ rfl (hown.alloc _) ⟨wr.heap.size, 0, none⟩ 1 1 [.int .i64 x, .int .i64 y, .int .i64 u] rfl rfl ?c1 ?c2 hml ?c4 ?c5 ?_)
          case c1 => exact cell_three_new _ _ _ _ _
          case c2 => exact ints_oneCell .i64 [_, _, _]
          case c4 => omega
          case c5 => simp; omega
          intro v' w1 hown' hgrow _
          rw [HE.out] at hown'
          have hb' : Below w.heap.size w w1 := (hb.alloc hs _).grown hgrow (by simp; omega) (fun g hg => (hown.lt g hg).1)
          obtain ⟨bo', c', rfl⟩ := owns_shape hown'
          clear hown hgrow hb
          go_wp2
          go_roundw
          case rel => exact ⟨k + 1, m + 1, c', bo', by omega, by omega, rfl, HH'.out, by go_num, hown', hb'⟩
          case measure => simp [intOf]; omega
      · have g1b : (x == a) = false := by simpa using g1
        have hT : isB a o ⟨x, y, u⟩ = false := decide_eq_false (fun g => g1 g.1)
        have hH' : Value.bool (hasB (l.take k) a o) = .bool (hasB (l.take (k + 1)) a o) := by rw [htk, hasB_snoc, hT, Bool.or_false]
        have HE : Hid (bvals (dropB (l.take k) a o) ++ [.int .i64 x, .int .i64 y, .int .i64 u] = bvals (dropB (l.take (k + 1)) a o)) := by show _ = _; rw [htk, dropB_snoc, hT, if_neg (by simp), bvals_append]; rfl
        have HH' : Hid _ := hH'
        clear hx hX htk hT hH' g1
        go_wp2_with (at_builtin; refine wpList_append_own _ rfl (.tmp 33) (.tmp 38) 22 rfl w.heap.size 39 i0 (.agg #[.int .i64 0, .int .i64 0, .int .i64 0]) 3 24 Try.underlying22 hi hz0 hz1 hz2 rfl (by decide) _ _ _ rfl (hown.alloc _) ⟨wr.heap.size, 0, none⟩ 1 1 [.int .i64 x, .int .i64 y, .int .i64 u] rfl rfl ?c1 ?c2 hml ?c4 ?c5 ?_)
        case c1 => exact cell_three_new _ _ _ _ _
        case c2 => exact ints_oneCell .i64 [_, _, _]
        case c4 => omega
        case c5 => simp; omega
        intro v' w1 hown' hgrow _
        rw [HE.out] at hown'
        have hb' : Below w.heap.size w w1 := (hb.alloc hs _).grown hgrow (by simp; omega) (fun g hg => (hown.lt g hg).1)
        obtain ⟨bo', c', rfl⟩ := owns_shape hown'
        clear hown hgrow hb
        go_wp2
        go_roundw
        case rel => exact ⟨k + 1, m + 1, c', bo', by omega, by omega, rfl, HH'.out, by go_num, hown', hb'⟩
        case measure => simp [intOf]; omega
    · obtain rfl : k = n := by omega
      rw [List.take_of_length_le (by omega)] at hown ⊢
      go_wp2
      go_ret2
      exact ⟨bo, m, c, rfl, hown, hb⟩

end Go.Proofs.Ytamkgakhgfhmjae
