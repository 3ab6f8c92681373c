/-
  OWN TEXT. Contracts of the document's answer: withBlock.
-/
import Derived.Test.YtamkgakhgfhmjaeRefZb
import Derived.Test.YtamkgakhgfhmjaeZPure2
namespace Go.Proofs.Ytamkgakhgfhmjae
open Go Go.RowKit Go.Proofs.Ytamkgakhgfhmjae.Kit

theorem box3 (w : World) (x y z : Value) (t : TypeId) : (w.alloc (.cells #[x, y, z] t)).cell? ⟨w.heap.size, 0, none⟩ = some x ∧ (w.alloc (.cells #[x, y, z] t)).cell? ⟨w.heap.size, 1, none⟩ = some y ∧ (w.alloc (.cells #[x, y, z] t)).cell? ⟨w.heap.size, 2, none⟩ = some z := ⟨by simp, by simp, by simp⟩

set_option maxHeartbeats 2000000 in
theorem withBlock_any (w : World) (ao : Option Addr) (n cap : Nat) (l : List Bk) (b : Bk) (h : Blks w ao n l) (hn1 : n ≤ 4096) :
    Calls Try.prog 32 #[.slice ao n cap, .agg #[.int .i64 b.a, .int .i64 b.o, .int .i64 b.t]] w fun e w' => ∃ bo c, e = .returned (.slice bo (n + 1) c) ∧
      w'.ownsRow w.heap.size 39 3 (.slice bo (n + 1) c) (n + 1) (bvals (addB l b)) ∧ Below w.heap.size w w' := by
  obtain ⟨i0, hi, hz0, hz1, hz2⟩ := info_parts info_block
  obtain ⟨hn, hr, hx⟩ := h
  obtain ⟨W0, hW0⟩ : ∃ W0, w.alloc (.cells #[.int .i64 b.a, .int .i64 b.o, .int .i64 b.t] 39) = W0 := ⟨_, rfl⟩
  have hs0 : w.heap.size + 1 ≤ W0.heap.size := by rw [← hW0]; simp
  have hb0 : Below w.heap.size w W0 := by rw [← hW0]; exact below_box _ _
  have B0 : W0.cell? ⟨w.heap.size, 0, none⟩ = some (.int .i64 b.a) := by rw [← hW0]; exact (box3 _ _ _ _ _).1
  have B1 : W0.cell? ⟨w.heap.size, 1, none⟩ = some (.int .i64 b.o) := by rw [← hW0]; exact (box3 _ _ _ _ _).2.1
  have B2 : W0.cell? ⟨w.heap.size, 2, none⟩ = some (.int .i64 b.t) := by rw [← hW0]; exact (box3 _ _ _ _ _).2.2
  have HQ : ∀ W, Below (w.heap.size + 1) W0 W → W.cell? ⟨w.heap.size, 0, none⟩ = some (.int .i64 b.a) ∧ W.cell? ⟨w.heap.size, 1, none⟩ = some (.int .i64 b.o) ∧ W.cell? ⟨w.heap.size, 2, none⟩ = some (.int .i64 b.t) ∧ BlksAt W ao l := fun W h =>
    ⟨(h.cell (p := ⟨w.heap.size, 0, none⟩) (show w.heap.size < w.heap.size + 1 by omega)).trans B0, (h.cell (p := ⟨w.heap.size, 1, none⟩) (show w.heap.size < w.heap.size + 1 by omega)).trans B1, (h.cell (p := ⟨w.heap.size, 2, none⟩) (show w.heap.size < w.heap.size + 1 by omega)).trans B2, hx.below (hb0.trans (h.mono (Nat.le_succ _)))⟩
  have HQ' : Hid _ := HQ
  clear HQ B0 B1 B2 hx
  go_enter Try.func32, Try.ntmps32
  go_wp2
  try rw [hW0]
  clear hW0
  go_loopw [5, 6, 7] (fun v dv i wr => ∃ (k m c : Nat) (bo : Option Addr) (dn : Bool), k ≤ n ∧ m ≤ k + 1 ∧ v = .slice bo m c ∧ dv = .bool dn ∧ Hid (gtB (l.take k) b = dn) ∧ i = .int .i64 k ∧ wr.ownsRow (w.heap.size + 1) 39 3 (.slice bo m c) m (bvals (outB (l.take k) b)) ∧ Below (w.heap.size + 1) W0 wr) (fun _ _ i _ => n - (intOf i).toNat)
  case atStart => exact ⟨0, 0, 0, none, false, Nat.zero_le _, by omega, rfl, rfl, rfl, rfl, World.ownsRow_nil _ _ _ _, Below.refl _ _⟩
  case round =>
    obtain ⟨k, m, c, bo, dn, hk, hm, rfl, rfl, hG, rfl, hown, hb⟩ := hrel
    obtain ⟨b0, b1, b2, hxr⟩ := HQ'.out _ hb
    by_cases hlt : k < n
    · obtain ⟨g, of, x, y, u, rfl, c1, c2, c3, hX⟩ := hxr.at k (by omega)
      have htk := take_getD l k (by omega) hX.out
      clear hxr
      have hsz := hb.size
      cases dn with
      | true =>
        have hG' : Hid (gtB (l.take (k + 1)) b = true) := by show _ = _; rw [htk, gtB_snoc, hG.out]; rfl
        have HE : Hid (bvals (outB (l.take k) b) ++ [.int .i64 x, .int .i64 y, .int .i64 u] = bvals (outB (l.take (k + 1)) b)) := by
          show _ = _
          have h1 : outB (l.take k) b = addB (l.take k) b := by unfold outB; rw [if_pos hG.out]
          have h2 : outB (l.take (k + 1)) b = addB (l.take (k + 1)) b := by unfold outB; rw [if_pos hG'.out]
          rw [h1, h2, htk, addB_snoc_t _ hG.out, bvals_append]; rfl
        clear hG htk hX
        go_wp2
        go_quiet (fail)
        have hbq := below_drawn (w := wr) nq
        have own1 := owns_below hown hbq (Nat.le_refl _)
        have hb1 := hb.trans (hbq.mono (by omega))
        replace c1 := keep c1 hbq
        replace c2 := keep c2 hbq
        replace c3 := keep c3 hbq
        obtain ⟨W1, hW1⟩ : ∃ W1, wr.drewN nq = W1 := ⟨_, rfl⟩
        rw [hW1] at own1 hb1 c1 c2 c3 ⊢
        clear hW1 hbq hown hb b0 b1 b2
        go_wp2_with (at_builtin; refine wpList_append_own _ rfl (.tmp 30) (.tmp 35) 22 rfl (w.heap.size + 1) 39 i0 (.agg #[.int .i64 0, .int .i64 0, .int .i64 0]) 3 24 Try.underlying22 hi hz0 hz1 hz2 rfl (by decide) _ _ _ rfl (own1.alloc _) ⟨W1.heap.size, 0, none⟩ 1 1 [.int .i64 x, .int .i64 y, .int .i64 u] rfl rfl ?c1 ?c2 (by unfold maxLen; omega) ?c4 ?c5 ?_)
        case c1 => exact cell_three_new _ _ _ _ _
        case c2 => exact ints_oneCell .i64 [_, _, _]
        case c4 => omega
        case c5 => have := hb1.size; simp; omega
        intro v' w3 hown' hgrow _
        have hbN : Below (w.heap.size + 1) W0 w3 := (hb1.alloc (by have := hb1.size; omega) _).grown hgrow (by have := hb1.size; simp; omega) (fun g hg => (own1.lt g hg).1)
        obtain ⟨bo', c', rfl⟩ := owns_shape hown'
        rw [HE.out] at hown'
        clear own1 hgrow hb1 c1 c2 c3
        go_wp2
        go_roundw
        case rel => exact ⟨k + 1, m + 1, c', bo', true, by omega, by omega, rfl, rfl, hG', by go_num, hown', hbN⟩
        case measure => simp [intOf]; omega
      | false =>
        have ho1 : outB (l.take k) b = l.take k := by unfold outB; rw [if_neg (by rw [hG.out]; simp)]
        by_cases hgt : b.a < x
        · have hgb : decide (b.a < x) = true := decide_eq_true hgt
          have hG' : Hid (gtB (l.take (k + 1)) b = true) := by show _ = _; rw [htk, gtB_snoc]; simp [hgt]
          have HE : Hid ((bvals (outB (l.take k) b) ++ [.int .i64 b.a, .int .i64 b.o, .int .i64 b.t]) ++ [.int .i64 x, .int .i64 y, .int .i64 u] = bvals (outB (l.take (k + 1)) b)) := by
            show _ = _
            have h2 : outB (l.take (k + 1)) b = addB (l.take (k + 1)) b := by unfold outB; rw [if_pos hG'.out]
            rw [ho1, h2, htk, addB_snoc_f hG.out hgt, bvals_append, List.append_assoc]; rfl
          have hm2 : m ≤ k := by
            have h3 := bowns_len hown
            rw [ho1, List.length_take] at h3
            omega
          clear hG htk ho1 hgt
          go_wp2
          go_quiet (fail)
          have hbq := below_drawn (w := wr) nq
          have own1 := owns_below hown hbq (Nat.le_refl _)
          have hb1 := hb.trans (hbq.mono (by omega))
          obtain ⟨W1, hW1⟩ : ∃ W1, wr.drewN nq = W1 := ⟨_, rfl⟩
          rw [hW1] at own1 hb1 ⊢
          clear hW1 hbq hown hb b0 b1 b2 c1 c2 c3
          obtain ⟨b0, b1, b2, hx1⟩ := HQ'.out _ hb1
          go_wp2_with (at_builtin; refine wpList_append_own _ rfl (.tmp 26) (.tmp 28) 22 rfl (w.heap.size + 1) 39 i0 (.agg #[.int .i64 0, .int .i64 0, .int .i64 0]) 3 24 Try.underlying22 hi hz0 hz1 hz2 rfl (by decide) _ _ _ rfl (own1.alloc _) ⟨W1.heap.size, 0, none⟩ 1 1 [.int .i64 b.a, .int .i64 b.o, .int .i64 b.t] rfl rfl ?c1 ?c2 (by unfold maxLen; omega) ?c4 ?c5 ?_)
          case c1 => exact cell_three_new _ _ _ _ _
          case c2 => exact ints_oneCell .i64 [_, _, _]
          case c4 => omega
          case c5 => have := hb1.size; simp; omega
          intro v' w3 hown' hgrow _
          have hbN : Below (w.heap.size + 1) W0 w3 := (hb1.alloc (by have := hb1.size; omega) _).grown hgrow (by have := hb1.size; simp; omega) (fun g hg => (own1.lt g hg).1)
          obtain ⟨bo', c', rfl⟩ := owns_shape hown'
          obtain ⟨b0', b1', b2', hx3⟩ := HQ'.out _ hbN
          have own3 := hown'
          have hb3 := hbN
          clear own1 hgrow hb1 b0 b1 b2 b0' b1' b2' hown' hbN hx1
          obtain ⟨g', of', x', y', u', he, c1, c2, c3, hX'⟩ := hx3.at k (by omega)
          cases he
          have hxy : (⟨x, y, u⟩ : Bk) = ⟨x', y', u'⟩ := hX.out.symm.trans hX'.out
          cases hxy
          clear hX hX' hx3
          have hsz3 := hb3.size
          go_wp2_with (at_builtin; refine wpList_append_own _ rfl (.tmp 30) (.tmp 35) 22 rfl (w.heap.size + 1) 39 i0 (.agg #[.int .i64 0, .int .i64 0, .int .i64 0]) 3 24 Try.underlying22 hi hz0 hz1 hz2 rfl (by decide) _ _ _ rfl (own3.alloc _) ⟨w3.heap.size, 0, none⟩ 1 1 [.int .i64 x, .int .i64 y, .int .i64 u] rfl rfl ?c1 ?c2 (by unfold maxLen; omega) ?c4 ?c5 ?_)
          case c1 => exact cell_three_new _ _ _ _ _
          case c2 => exact ints_oneCell .i64 [_, _, _]
          case c4 => omega
          case c5 => have := hb3.size; simp; omega
          intro v' w4 hown' hgrow _
          have hbN : Below (w.heap.size + 1) W0 w4 := (hb3.alloc (by have := hb3.size; omega) _).grown hgrow (by have := hb3.size; simp; omega) (fun g hg => (own3.lt g hg).1)
          obtain ⟨bo', c', rfl⟩ := owns_shape hown'
          replace hown' : w4.ownsRow (w.heap.size + 1) 39 3 (.slice bo' (m + 1 + 1) c') (m + 1 + 1) (bvals (outB (l.take (k + 1)) b)) := by rw [← HE.out]; simpa using hown'
          clear own3 hgrow hb3 c1 c2 c3
          go_wp2
          go_roundw
          case rel => exact ⟨k + 1, m + 1 + 1, c', bo', true, by omega, by omega, rfl, rfl, hG', by go_num, hown', hbN⟩
          case measure => simp [intOf]; omega
        · have hgb : decide (b.a < x) = false := decide_eq_false hgt
          have hG' : Hid (gtB (l.take (k + 1)) b = false) := by show _ = _; rw [htk, gtB_snoc, hG.out]; simpa using hgt
          have HE : Hid (bvals (outB (l.take k) b) ++ [.int .i64 x, .int .i64 y, .int .i64 u] = bvals (outB (l.take (k + 1)) b)) := by
            show _ = _
            have h2 : outB (l.take (k + 1)) b = l.take (k + 1) := by unfold outB; rw [if_neg (by rw [hG'.out]; simp)]
            rw [ho1, h2, htk, bvals_append]; rfl
          clear hG htk ho1 hgt hX
          go_wp2
          go_quiet (fail)
          have hbq := below_drawn (w := wr) nq
          have own1 := owns_below hown hbq (Nat.le_refl _)
          have hb1 := hb.trans (hbq.mono (by omega))
          replace c1 := keep c1 hbq
          replace c2 := keep c2 hbq
          replace c3 := keep c3 hbq
          obtain ⟨W1, hW1⟩ : ∃ W1, wr.drewN nq = W1 := ⟨_, rfl⟩
          rw [hW1] at own1 hb1 c1 c2 c3 ⊢
          clear hW1 hbq hown hb b0 b1 b2
          go_wp2_with (at_builtin; refine wpList_append_own _ rfl (.tmp 30) (.tmp 35) 22 rfl (w.heap.size + 1) 39 i0 (.agg #[.int .i64 0, .int .i64 0, .int .i64 0]) 3 24 Try.underlying22 hi hz0 hz1 hz2 rfl (by decide) _ _ _ rfl (own1.alloc _) ⟨W1.heap.size, 0, none⟩ 1 1 [.int .i64 x, .int .i64 y, .int .i64 u] rfl rfl ?c1 ?c2 (by unfold maxLen; omega) ?c4 ?c5 ?_)
          case c1 => exact cell_three_new _ _ _ _ _
          case c2 => exact ints_oneCell .i64 [_, _, _]
          case c4 => omega
          case c5 => have := hb1.size; simp; omega
          intro v' w3 hown' hgrow _
          have hbN : Below (w.heap.size + 1) W0 w3 := (hb1.alloc (by have := hb1.size; omega) _).grown hgrow (by have := hb1.size; simp; omega) (fun g hg => (own1.lt g hg).1)
          obtain ⟨bo', c', rfl⟩ := owns_shape hown'
          rw [HE.out] at hown'
          clear own1 hgrow hb1 c1 c2 c3
          go_wp2
          go_roundw
          case rel => exact ⟨k + 1, m + 1, c', bo', false, by omega, by omega, rfl, rfl, hG', by go_num, hown', hbN⟩
          case measure => simp [intOf]; omega
    · obtain rfl : k = n := by omega
      have htk : l.take k = l := List.take_of_length_le (by omega)
      rw [htk] at hown hG
      have hsz := hb.size
      cases dn with
      | true =>
        have h1 : outB l b = addB l b := by unfold outB; rw [if_pos hG.out]
        rw [h1] at hown
        have hmn : m = k + 1 := by
          have h3 := bowns_len hown
          rw [addB_len] at h3
          omega
        subst hmn
        clear hG h1 htk
        go_wp2
        go_ret
        exact ⟨bo, c, rfl, owns_weaken hown (Nat.le_succ _), hb0.trans (hb.mono (Nat.le_succ _))⟩
      | false =>
        have h1 : outB l b = l := by unfold outB; rw [if_neg (by rw [hG.out]; simp)]
        have HE : Hid (bvals (outB l b) ++ [.int .i64 b.a, .int .i64 b.o, .int .i64 b.t] = bvals (addB l b)) := by
          show _ = _
          rw [h1, addB_none hG.out, bvals_append]; rfl
        have hmn : m = k := by
          have h3 := bowns_len hown
          rw [h1] at h3
          omega
        subst hmn
        clear hG h1 htk
        go_wp2_with (at_builtin; refine wpList_append_own _ rfl (.tmp 39) (.tmp 41) 22 rfl (w.heap.size + 1) 39 i0 (.agg #[.int .i64 0, .int .i64 0, .int .i64 0]) 3 24 Try.underlying22 hi hz0 hz1 hz2 rfl (by decide) _ _ _ rfl (hown.alloc _) ⟨wr.heap.size, 0, none⟩ 1 1 [.int .i64 b.a, .int .i64 b.o, .int .i64 b.t] rfl rfl ?c1 ?c2 (by unfold maxLen; omega) ?c4 ?c5 ?_)
        case c1 => exact cell_three_new _ _ _ _ _
        case c2 => exact ints_oneCell .i64 [_, _, _]
        case c4 => omega
        case c5 => have := hb.size; simp; omega
        intro v' w3 hown' hgrow _
        have hbN : Below (w.heap.size + 1) W0 w3 := (hb.alloc (by have := hb.size; omega) _).grown hgrow (by have := hb.size; simp; omega) (fun g hg => (hown.lt g hg).1)
        obtain ⟨bo', c', rfl⟩ := owns_shape hown'
        rw [HE.out] at hown'
        clear hgrow
        go_wp2
        go_ret
        exact ⟨bo', c', rfl, owns_weaken hown' (Nat.le_succ _), hb0.trans (hbN.mono (Nat.le_succ _))⟩

end Go.Proofs.Ytamkgakhgfhmjae
