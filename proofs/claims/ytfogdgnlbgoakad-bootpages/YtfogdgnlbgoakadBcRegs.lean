/-
  OWN TEXT. Contracts of the code: the marks' regions.
-/
import Derived.Test.YtfogdgnlbgoakadBcMarks
import Derived.Test.YtfogdgnlbgoakadBPure
namespace Go.Proofs.Ytfogdgnlbgoakad
open Go Go.RowKit Go.Proofs.Ytfogdgnlbgoakad.Kit

set_option maxHeartbeats 4000000 in
set_option maxRecDepth 4000 in
theorem bregions_any (w : World) (b : Nat) (h : Int → Bool) (hm : MarksAt w b 51 h) :
    Calls Try.prog 23 #[.pointer (some ⟨b, 0, none⟩)] w fun e w' => ∃ bo c, e = .returned (.slice bo (drawnAll h).length c) ∧
      w'.ownsRow w.heap.size 35 2 (.slice bo (drawnAll h).length c) (drawnAll h).length (rvals (drawnAll h)) ∧ Below w.heap.size w w' := by
  obtain ⟨i0, hi, hz0, hz1, hz2⟩ := info_parts info_region
  obtain ⟨N, hN1, hN2⟩ : ∃ N : Nat, N ≤ 256 ∧ 256 ≤ N := ⟨256, Nat.le_refl _, Nat.le_refl _⟩
  go_enter Try.func23, Try.ntmps23
  go_wp2
  go_loopw [3, 7] (fun v i wr => ∃ (k n c : Nat) (bo : Option Addr), k ≤ N ∧ i = .int .i64 k ∧ v = .slice bo n c ∧ Hid ((drawnK h k).length = n) ∧ wr.ownsRow w.heap.size 35 2 (.slice bo n c) n (rvals (drawnK h k)) ∧ Below w.heap.size w wr) (fun _ i _ => N - (intOf i).toNat)
  case atStart => exact ⟨0, 0, 0, none, by omega, rfl, rfl, rfl, World.ownsRow_nil _ _ _ _, Below.refl _ _⟩
  case round =>
    obtain ⟨k, n, c, bo, hk, rfl, rfl, hL, hown, hb⟩ := hrel
    have hs := hb.size
    by_cases hlt : k < N
    · have hmr := hm.below hb
      have c1 := hmr.cell k (by omega)
      by_cases h1 : h k = true
      · rw [h1] at c1
        go_wp2
        go_quiet (fail)
        have hown1 := owns_below hown (below_drawn (w := wr) nq) (Nat.le_refl _)
        have hb1 := below_drewN hb nq
        have hm1 := hm.below hb1
        obtain ⟨W1, hW1⟩ : ∃ W1, wr.drewN nq = W1 := ⟨_, rfl⟩
        rw [hW1] at hown1 hb1 hm1 ⊢
        clear hW1 hown hb hmr c1 hs hm
        by_cases h0 : k = 0
        · subst h0
          have h0' : Hid (¬ (0 < 0 ∧ h (((0 : Nat) : Int) - 1) = true)) := fun g => by omega
          clear hm1
          have hml : n + 1 ≤ maxLen := by have := drawn_len h 0; have := hL.out; unfold maxLen; omega
          have hsz : (n + 1) * 16 ≤ 140737488355328 := by have := drawn_len h 0; have := hL.out; omega
          have hlen := hL.out
          have HE0 : Hid (rvals (drawnK h 0) ++ [Value.int .i64 0, Value.int .i64 0] = rvals (drawnK h 0 ++ [(((0 : Nat) : Int), 0)])) := by
            show _ = _
            rw [rvals_append]; rfl
          have HE : Hid ((rvals (drawnK h 0 ++ [(((0 : Nat) : Int), 0)])).set (n * 2 + 1) (.int .i64 1) = rvals (drawnK h (0 + 1))) := by
            show _ = rvals (if h ((0 : Nat) : Int) then (if 0 < 0 ∧ h (((0 : Nat) : Int) - 1) then bump (drawnK h 0) else drawnK h 0 ++ [(((0 : Nat) : Int), 1)]) else drawnK h 0)
            rw [if_pos h1, if_neg h0'.out, rvals_set_snd _ _ _ (by simp; omega), ← hlen]
            simp [List.getD_eq_getElem?_getD]
          have HL' : Hid ((drawnK h (0 + 1)).length = n + 1) := by
            show (if h ((0 : Nat) : Int) then (if 0 < 0 ∧ h (((0 : Nat) : Int) - 1) then bump (drawnK h 0) else drawnK h 0 ++ [(((0 : Nat) : Int), 1)]) else drawnK h 0).length = n + 1
            rw [if_pos h1, if_neg h0'.out]; simp [hlen]
          have hget : (drawnK h 0 ++ [(((0 : Nat) : Int), 0)]).getD n (0, 0) = (((0 : Nat) : Int), 0) := by rw [← hlen]; simp [List.getD_eq_getElem?_getD]
          have hl2 : n < (drawnK h 0 ++ [(((0 : Nat) : Int), 0)]).length := by simp; omega
          have hn256 : n ≤ 256 := by have := drawn_len h 0; omega
          obtain ⟨L1, hL1⟩ : ∃ L1, drawnK h 0 ++ [(((0 : Nat) : Int), 0)] = L1 := ⟨_, rfl⟩
          rw [hL1] at HE0 HE hget hl2
          clear hL hlen hL1 h0' h1
          go_wp2_with (at_builtin; refine wpList_append_own _ rfl (.tmp 26) (.tmp 29) 23 rfl w.heap.size 35 i0 (.agg #[.int .i64 0, .int .i64 0]) 2 16 Try.underlying23 hi hz0 hz1 hz2 rfl (by decide) _ _ _ rfl (hown1.alloc _) ⟨W1.heap.size, 0, none⟩ 1 1 [.int .i64 0, .int .i64 0] rfl rfl ?c1 ?c2 hml hsz ?c5 ?_)
          case c1 => exact cell_two_new _ _ _ _
          case c2 => exact ints_oneCell .i64 [_, _]
          case c5 => have := hb1.size; simp; omega
          intro v' w3 hown' hgrow _
          rw [HE0.out] at hown'
          have hb' : Below w.heap.size w w3 := (hb1.alloc hb1.size _).grown hgrow (by have := hb1.size; simp; omega) (fun g hg => (hown1.lt g hg).1)
          obtain ⟨bo', c', rfl⟩ := owns_shape hown'
          obtain ⟨g, rfl, hg1, hg2⟩ := owns_head hown' (by omega)
          have hcell : w3.cell? ⟨g, n * 2 + 1, none⟩ = some (.int .i64 0) := by rw [hown'.cellAt (n * 2 + 1) (by omega), rvals_snd _ _ hl2, hget]
          have hfz : w3.frozen? ⟨g, n * 2 + 1, none⟩ = false := hown'.frozenAt _
          have hO := (hown'.stored (n * 2 + 1) (.int .i64 1)).1
          rw [HE.out] at hO
          have hb'' := hb'.setCell (p := ⟨g, n * 2 + 1, none⟩) hg1 (.int .i64 1)
          clear hown1 hgrow hb1 hown' hb' hget hl2
          go_wp2
          go_roundw
          case rel => exact ⟨0 + 1, n + 1, c', _, by omega, by go_num, rfl, HL', hO, hb''⟩
          case measure => simp [intOf]; omega
        · obtain ⟨j, rfl⟩ : ∃ j, k = j + 1 := ⟨k - 1, by omega⟩
          have c2 := hm1.cell j (by omega)
          have hj1 : (((j + 1 : Nat) : Int) - 1) = (j : Int) := by omega
          have t0 : ((j : Int) + 1 == 0) = false := by simp; omega
          by_cases h2 : h (j : Int) = true
          · rw [h2] at c2
            obtain ⟨l, f, s, el, hfs⟩ := (drawn_inv h (j + 1)).run (by omega) (by rw [hj1]; exact h2)
            have hcan := (drawn_inv h (j + 1)).canon
            rw [el, canon_snoc] at hcan
            obtain ⟨g0, g1, g2, g3⟩ := hcan
            have g4 := canon_end g0
            clear g0
            dsimp only at g1 g2 g3
            have hlen := hL.out
            obtain ⟨m, rfl⟩ : ∃ m, n = m + 1 := ⟨l.length, by rw [← hlen, el]; simp⟩
            have hm' : m = l.length := by rw [el] at hlen; simp at hlen; omega
            have hget : (drawnK h (j + 1)).getD m (0, 0) = (f, s) := by rw [el, hm']; simp [List.getD_eq_getElem?_getD]
            obtain ⟨g, rfl, hg1, hg2⟩ := owns_head hown1 (by omega)
            have hcell : W1.cell? ⟨g, m * 2 + 1, none⟩ = some (.int .i64 s) := by rw [hown1.cellAt (m * 2 + 1) (by omega), rvals_snd _ _ (by omega), hget]
            have hfz : W1.frozen? ⟨g, m * 2 + 1, none⟩ = false := hown1.frozenAt _
            have hO := (hown1.stored (m * 2 + 1) (.int .i64 (s + 1))).1
            have hmb : m ≤ 256 := by have := drawn_len h (j + 1); omega
            have hdef : drawnK h (j + 1 + 1) = bump (drawnK h (j + 1)) := by
              show (if h ((j + 1 : Nat) : Int) then (if 0 < j + 1 ∧ h (((j + 1 : Nat) : Int) - 1) then bump (drawnK h (j + 1)) else drawnK h (j + 1) ++ [(((j + 1 : Nat) : Int), 1)]) else drawnK h (j + 1)) = _
              rw [if_pos h1, if_pos ⟨by omega, by rw [hj1]; exact h2⟩]
            have HE : Hid ((rvals (drawnK h (j + 1))).set (m * 2 + 1) (.int .i64 (s + 1)) = rvals (drawnK h (j + 1 + 1))) := by
              show _ = _
              rw [hdef, rvals_set_snd _ _ _ (by omega), hget]
              unfold bump
              rw [hlen, Nat.add_sub_cancel, hget]
            have HL' : Hid ((drawnK h (j + 1 + 1)).length = m + 1) := by
              show _ = _
              rw [hdef]; unfold bump; rw [List.length_set]; exact hlen
            rw [HE.out] at hO
            have hb' := hb1.setCell (p := ⟨g, m * 2 + 1, none⟩) hg1 (.int .i64 (s + 1))
            have hs1 : s ≤ 256 := by omega
            clear hL hown1 hb1 el hget hlen hfs g1 g3 g4 hm' hdef h1 h2 hm1 hj1
            go_wp2
            go_roundw
            case rel => exact ⟨j + 1 + 1, m + 1, c, _, by omega, by go_num, rfl, HL', hO, hb'⟩
            case measure => simp [intOf]; omega
          · have h2' : h (j : Int) = false := by simpa using h2
            rw [h2'] at c2
            have h0' : Hid (¬ (0 < j + 1 ∧ h (((j + 1 : Nat) : Int) - 1) = true)) := fun g => h2 (by rw [hj1] at g; exact g.2)
            clear h2 h2' hj1 hm1 h0
            have hml : n + 1 ≤ maxLen := by have := drawn_len h (j + 1); have := hL.out; unfold maxLen; omega
            have hsz : (n + 1) * 16 ≤ 140737488355328 := by have := drawn_len h (j + 1); have := hL.out; omega
            have hlen := hL.out
            have HE0 : Hid (rvals (drawnK h (j + 1)) ++ [Value.int .i64 ((j : Int) + 1), Value.int .i64 0] = rvals (drawnK h (j + 1) ++ [((((j + 1) : Nat) : Int), 0)])) := by
              show _ = _
              rw [rvals_append]; rfl
            have HE : Hid ((rvals (drawnK h (j + 1) ++ [((((j + 1) : Nat) : Int), 0)])).set (n * 2 + 1) (.int .i64 1) = rvals (drawnK h ((j + 1) + 1))) := by
              show _ = rvals (if h (((j + 1) : Nat) : Int) then (if 0 < (j + 1) ∧ h ((((j + 1) : Nat) : Int) - 1) then bump (drawnK h (j + 1)) else drawnK h (j + 1) ++ [((((j + 1) : Nat) : Int), 1)]) else drawnK h (j + 1))
              rw [if_pos h1, if_neg h0'.out, rvals_set_snd _ _ _ (by simp; omega), ← hlen]
              simp [List.getD_eq_getElem?_getD]
            have HL' : Hid ((drawnK h ((j + 1) + 1)).length = n + 1) := by
              show (if h (((j + 1) : Nat) : Int) then (if 0 < (j + 1) ∧ h ((((j + 1) : Nat) : Int) - 1) then bump (drawnK h (j + 1)) else drawnK h (j + 1) ++ [((((j + 1) : Nat) : Int), 1)]) else drawnK h (j + 1)).length = n + 1
              rw [if_pos h1, if_neg h0'.out]; simp [hlen]
            have hget : (drawnK h (j + 1) ++ [((((j + 1) : Nat) : Int), 0)]).getD n (0, 0) = ((((j + 1) : Nat) : Int), 0) := by rw [← hlen]; simp [List.getD_eq_getElem?_getD]
            have hl2 : n < (drawnK h (j + 1) ++ [((((j + 1) : Nat) : Int), 0)]).length := by simp; omega
            have hn256 : n ≤ 256 := by have := drawn_len h (j + 1); omega
            obtain ⟨L1, hL1⟩ : ∃ L1, drawnK h (j + 1) ++ [((((j + 1) : Nat) : Int), 0)] = L1 := ⟨_, rfl⟩
            rw [hL1] at HE0 HE hget hl2
            clear hL hlen hL1 h0' h1
            go_wp2_with (at_builtin; refine wpList_append_own _ rfl (.tmp 26) (.tmp 29) 23 rfl w.heap.size 35 i0 (.agg #[.int .i64 0, .int .i64 0]) 2 16 Try.underlying23 hi hz0 hz1 hz2 rfl (by decide) _ _ _ rfl (hown1.alloc _) ⟨W1.heap.size, 0, none⟩ 1 1 [.int .i64 ((j : Int) + 1), .int .i64 0] rfl rfl ?c1 ?c2 hml hsz ?c5 ?_)
            case c1 => exact cell_two_new _ _ _ _
            case c2 => exact ints_oneCell .i64 [_, _]
            case c5 => have := hb1.size; simp; omega
            intro v' w3 hown' hgrow _
            rw [HE0.out] at hown'
            have hb' : Below w.heap.size w w3 := (hb1.alloc hb1.size _).grown hgrow (by have := hb1.size; simp; omega) (fun g hg => (hown1.lt g hg).1)
            obtain ⟨bo', c', rfl⟩ := owns_shape hown'
            obtain ⟨g, rfl, hg1, hg2⟩ := owns_head hown' (by omega)
            have hcell : w3.cell? ⟨g, n * 2 + 1, none⟩ = some (.int .i64 0) := by rw [hown'.cellAt (n * 2 + 1) (by omega), rvals_snd _ _ hl2, hget]
            have hfz : w3.frozen? ⟨g, n * 2 + 1, none⟩ = false := hown'.frozenAt _
            have hO := (hown'.stored (n * 2 + 1) (.int .i64 1)).1
            rw [HE.out] at hO
            have hb'' := hb'.setCell (p := ⟨g, n * 2 + 1, none⟩) hg1 (.int .i64 1)
            clear hown1 hgrow hb1 hown' hb' hget hl2
            go_wp2
            go_roundw
            case rel => exact ⟨(j + 1) + 1, n + 1, c', _, by omega, by go_num, rfl, HL', hO, hb''⟩
            case measure => simp [intOf]; omega
      · have h1' : h k = false := by simpa using h1
        rw [h1'] at c1
        have HE : Hid (drawnK h k = drawnK h (k + 1)) := by
          show _ = (if h k then (if 0 < k ∧ h (k - 1) then bump (drawnK h k) else drawnK h k ++ [((k : Int), 1)]) else drawnK h k)
          rw [if_neg h1]
        rw [HE.out] at hown hL
        clear h1 h1' hm hmr
        go_wp2
        go_quiet (fail)
        go_wp2
        go_roundw
        case rel => exact ⟨k + 1, n, c, bo, by omega, by go_num, rfl, hL, owns_below hown (below_drawn _) (Nat.le_refl _), below_drewN hb _⟩
        case measure => simp [intOf]; omega
    · have hk2 : k = 256 := by omega
      rw [drawn_all h k hk2] at hL hown
      have hL' := hL.out
      subst hL'
      clear hk2 hL
      go_wp2
      go_ret
      exact ⟨bo, c, rfl, hown, hb⟩

end Go.Proofs.Ytfogdgnlbgoakad
