/-
  OWN TEXT. Contract of the document's answer: drawn, at the closure of RangesOf.
-/
import Derived.Test.YtfogdgnlbgoakacRefD0
namespace Go.Proofs.Ytfogdgnlbgoakac
open Go Go.RowKit Go.Proofs.Ytfogdgnlbgoakac.Kit

set_option maxHeartbeats 2000000 in
set_option maxRecDepth 4000 in
theorem drawn_ranges (w : World) (q1 : Value) (h : Int → Bool) (hc : HoldsAt 37 #[q1] h w) :
    Calls Try.prog 26 #[.func (.func 37) #[] #[q1]] w fun e w' => ∃ bo c, e = .returned (.slice bo (drawnAll h).length c) ∧
      w'.ownsRow w.heap.size 26 2 (.slice bo (drawnAll h).length c) (drawnAll h).length (rvals (drawnAll h)) ∧ Below w.heap.size w w' := by
  obtain ⟨i0, hi, hz0, hz1, hz2⟩ := info_parts info_region
  obtain ⟨N, hN1, hN2⟩ : ∃ N : Nat, N ≤ 256 ∧ 256 ≤ N := ⟨256, Nat.le_refl _, Nat.le_refl _⟩
  go_enter Try.func26, Try.ntmps26
  go_wp2
  go_loopw [3, 4] (fun v i wr => ∃ (k n c : Nat) (bo : Option Addr), k ≤ N ∧ i = .int .i64 k ∧ v = .slice bo n c ∧ Hid ((drawnK h k).length = n) ∧ wr.ownsRow w.heap.size 26 2 (.slice bo n c) n (rvals (drawnK h k)) ∧ Below w.heap.size w wr) (fun _ i _ => N - (intOf i).toNat)
  case atStart => exact ⟨0, 0, 0, none, by omega, rfl, rfl, rfl, World.ownsRow_nil _ _ _ _, Below.refl _ _⟩
  case round =>
    obtain ⟨k, n, c, bo, hk, rfl, rfl, hL, hown, hb⟩ := hrel
    have hs := hb.size
    by_cases hlt : k < N
    · have hbl : Below wr.heap.size wr wr := Below.refl _ _
      go_wp2_with fail
      go_at_call 37
      refine (hc k wr (by omega) (by omega) hb).mono ?_
      rintro e w1 ⟨rfl, hd1⟩
      have hbw : Below wr.heap.size wr w1 := by obtain ⟨d, rfl⟩ := hd1; exact below_drawn d
      have hown1 := owns_below hown hbw (Nat.le_refl _)
      have hb1 : Below w.heap.size w w1 := hb.trans (hbw.mono hb.size)
      clear hd1 hbw hbl
      by_cases h1 : h k = true
      · by_cases h0 : k = 0
        · have t0 : ¬ (0 : Int) < k := by omega
          have h0' : Hid (¬ (0 < k ∧ h (k - 1) = true)) := fun g => by omega
          clear h0
          have hml : n + 1 ≤ maxLen := by have := drawn_len h k; have := hL.out; unfold maxLen; omega
          have hsz : (n + 1) * 16 ≤ 140737488355328 := by have := drawn_len h k; have := hL.out; omega
          have HE : Hid (rvals (drawnK h k) ++ [Value.int .i64 k, Value.int .i64 1] = rvals (drawnK h (k + 1))) := by
            show _ = rvals (if h k then (if 0 < k ∧ h (k - 1) then bump (drawnK h k) else drawnK h k ++ [((k : Int), 1)]) else drawnK h k)
            rw [if_pos h1, if_neg h0'.out, rvals_append]; rfl
          have HL' : Hid ((drawnK h (k + 1)).length = n + 1) := by
            show (if h k then (if 0 < k ∧ h (k - 1) then bump (drawnK h k) else drawnK h k ++ [((k : Int), 1)]) else drawnK h k).length = n + 1
            rw [if_pos h1, if_neg h0'.out]; have := hL.out; simp [this]
          clear hL hc
          go_wp2_with (at_builtin; refine wpList_append_own _ rfl (.tmp 31) (.tmp 34) 22 rfl w.heap.size 26 i0 (.agg #[.int .i64 0, .int .i64 0]) 2 16 Try.underlying22 hi hz0 hz1 hz2 rfl (by decide) _ _ _ rfl (hown1.alloc _) ⟨w1.heap.size, 0, none⟩ 1 1 [.int .i64 k, .int .i64 1] rfl rfl ?c1 ?c2 hml hsz ?c5 ?_)
          case c1 => exact cell_two_new _ _ _ _
          case c2 => exact ints_oneCell .i64 [_, _]
          case c5 => have := hb1.size; simp; omega
          intro v' w3 hown' hgrow _
          rw [HE.out] at hown'
          have hb' : Below w.heap.size w w3 := (hb1.alloc hb1.size _).grown hgrow (by have := hb1.size; simp; omega) (fun g hg => (hown1.lt g hg).1)
          obtain ⟨bo', c', rfl⟩ := owns_shape hown'
          clear hown hown1 hgrow hb hb1
          go_wp2
          go_roundw
          case rel => exact ⟨k + 1, n + 1, c', bo', by omega, by go_num, rfl, HL', hown', hb'⟩
          case measure => simp [intOf]; omega
        · have t0 : (0 : Int) < k := by omega
          go_wp2_with fail
          go_at_call 37
          refine (hc (k - 1) w1 (by omega) (by omega) hb1).mono ?_
          rintro e w2 ⟨rfl, hd2⟩
          have hbw : Below w1.heap.size w1 w2 := by obtain ⟨d, rfl⟩ := hd2; exact below_drawn d
          replace hown1 := owns_below hown1 hbw (Nat.le_refl _)
          replace hb1 : Below w.heap.size w w2 := hb1.trans (hbw.mono hb1.size)
          clear hd2 hbw
          by_cases h2 : h (k - 1) = true
          · obtain ⟨l, f, s, el, hfs⟩ := (drawn_inv h k).run (by omega) h2
            have hcan := (drawn_inv h k).canon
            rw [el, canon_snoc] at hcan
            obtain ⟨g0, g1, g2, g3⟩ := hcan
            have g4 := canon_end g0
            clear g0
            dsimp only at g1 g2 g3
            have hlen := hL.out
            obtain ⟨m, rfl⟩ : ∃ m, n = m + 1 := ⟨l.length, by rw [← hlen, el]; simp⟩
            have hm : m = l.length := by rw [el] at hlen; simp at hlen; omega
            have hget : (drawnK h k).getD m (0, 0) = (f, s) := by rw [el, hm]; simp [List.getD_eq_getElem?_getD]
            obtain ⟨g, rfl, hg1, hg2⟩ := owns_head hown1 (by omega)
            have hcell : w2.cell? ⟨g, m * 2 + 1, none⟩ = some (.int .i64 s) := by rw [hown1.cellAt (m * 2 + 1) (by omega), rvals_snd _ _ (by omega), hget]
            have hfz : w2.frozen? ⟨g, m * 2 + 1, none⟩ = false := hown1.frozenAt _
            have hO := (hown1.stored (m * 2 + 1) (.int .i64 (s + 1))).1
            have hmb : m ≤ 256 := by have := drawn_len h k; omega
            have HE : Hid ((rvals (drawnK h k)).set (m * 2 + 1) (.int .i64 (s + 1)) = rvals (drawnK h (k + 1))) := by
              show _ = rvals (if h k then (if 0 < k ∧ h (k - 1) then bump (drawnK h k) else drawnK h k ++ [((k : Int), 1)]) else drawnK h k)
              rw [if_pos h1, if_pos ⟨by omega, h2⟩, rvals_set_snd _ _ _ (by omega), hget]
              unfold bump
              rw [hlen, Nat.add_sub_cancel, hget]
            have HL' : Hid ((drawnK h (k + 1)).length = m + 1) := by
              show (if h k then (if 0 < k ∧ h (k - 1) then bump (drawnK h k) else drawnK h k ++ [((k : Int), 1)]) else drawnK h k).length = m + 1
              rw [if_pos h1, if_pos ⟨by omega, h2⟩]; unfold bump; rw [List.length_set]; exact hlen
            rw [HE.out] at hO
            have hb' := hb1.setCell (p := ⟨g, m * 2 + 1, none⟩) hg1 (.int .i64 (s + 1))
            have hs1 : s ≤ 256 := by omega
            clear hL hc hown hown1 hb hb1 el hget hlen hfs g1 g3 g4 hm
            go_wp2
            go_roundw
            case rel => exact ⟨k + 1, m + 1, c, _, by omega, by go_num, rfl, HL', hO, hb'⟩
            case measure => simp [intOf]; omega
          · have h2' : h (k - 1) = false := by simpa using h2
            have hml : n + 1 ≤ maxLen := by have := drawn_len h k; have := hL.out; unfold maxLen; omega
            have hsz : (n + 1) * 16 ≤ 140737488355328 := by have := drawn_len h k; have := hL.out; omega
            have HE : Hid (rvals (drawnK h k) ++ [Value.int .i64 k, Value.int .i64 1] = rvals (drawnK h (k + 1))) := by
              show _ = rvals (if h k then (if 0 < k ∧ h (k - 1) then bump (drawnK h k) else drawnK h k ++ [((k : Int), 1)]) else drawnK h k)
              rw [if_pos h1, if_neg (fun g => h2 g.2), rvals_append]; rfl
            have HL' : Hid ((drawnK h (k + 1)).length = n + 1) := by
              show (if h k then (if 0 < k ∧ h (k - 1) then bump (drawnK h k) else drawnK h k ++ [((k : Int), 1)]) else drawnK h k).length = n + 1
              rw [if_pos h1, if_neg (fun g => h2 g.2)]; have := hL.out; simp [this]
            clear hL hc
            go_wp2_with (at_builtin; refine wpList_append_own _ rfl (.tmp 31) (.tmp 34) 22 rfl w.heap.size 26 i0 (.agg #[.int .i64 0, .int .i64 0]) 2 16 Try.underlying22 hi hz0 hz1 hz2 rfl (by decide) _ _ _ rfl (hown1.alloc _) ⟨w2.heap.size, 0, none⟩ 1 1 [.int .i64 k, .int .i64 1] rfl rfl ?c1 ?c2 hml hsz ?c5 ?_)
            case c1 => exact cell_two_new _ _ _ _
            case c2 => exact ints_oneCell .i64 [_, _]
            case c5 => have := hb1.size; simp; omega
            intro v' w3 hown' hgrow _
            rw [HE.out] at hown'
            have hb' : Below w.heap.size w w3 := (hb1.alloc hb1.size _).grown hgrow (by have := hb1.size; simp; omega) (fun g hg => (hown1.lt g hg).1)
            obtain ⟨bo', c', rfl⟩ := owns_shape hown'
            clear hown hown1 hgrow hb hb1
            go_wp2
            go_roundw
            case rel => exact ⟨k + 1, n + 1, c', bo', by omega, by go_num, rfl, HL', hown', hb'⟩
            case measure => simp [intOf]; omega
      · have h1' : h k = false := by simpa using h1
        have HE : Hid (drawnK h k = drawnK h (k + 1)) := by
          show _ = (if h k then (if 0 < k ∧ h (k - 1) then bump (drawnK h k) else drawnK h k ++ [((k : Int), 1)]) else drawnK h k)
          rw [if_neg h1]
        rw [HE.out] at hown1 hL
        clear hc h1 hown hb
        go_wp2
        go_roundw
        case rel => exact ⟨k + 1, n, c, bo, by omega, by go_num, rfl, hL, hown1, hb1⟩
        case measure => simp [intOf]; omega
    · have hk2 : k = 256 := by omega
      rw [drawn_all h k hk2] at hL hown
      have hL' := hL.out
      subst hL'
      clear hk2 hL
      go_wp2
      go_ret
      exact ⟨bo, c, rfl, hown, hb⟩

end Go.Proofs.Ytfogdgnlbgoakac
