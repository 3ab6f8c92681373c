/-
  OWN TEXT. Contracts of the document's answer: inRegions, regionsCopy.
-/
import Derived.Test.YtfogdgnlbgoakacRefF
namespace Go.Proofs.Ytfogdgnlbgoakac
open Go Go.RowKit Go.Proofs.Ytfogdgnlbgoakac.Kit

theorem info_region : (Try.prog.info? 26).map (fun i => (i.zero, i.size, i.bytes)) = some (some (.agg #[.int .i64 0, .int .i64 0]), 2, 16) := by kernel_rfl

theorem inL_yes {l : List (Int × Int)} {p x y : Int} {k : Nat} (hk : k < l.length) (hX : l.getD k (0, 0) = (x, y)) (h : x ≤ p ∧ p ≤ x + y - 1) : inL l p = true := by
  unfold inL
  rw [List.any_eq_true]
  refine ⟨(x, y), ?_, by simpa using h⟩
  rw [← hX, List.getD_eq_getElem?_getD, List.getElem?_eq_getElem hk]
  exact List.getElem_mem hk

theorem inL_no {l : List (Int × Int)} {p : Int} (h : ∀ i, i < l.length → ¬ ((l.getD i (0, 0)).1 ≤ p ∧ p ≤ (l.getD i (0, 0)).1 + (l.getD i (0, 0)).2 - 1)) : inL l p = false := by
  unfold inL
  rw [List.any_eq_false]
  intro r hr
  obtain ⟨i, hi, rfl⟩ := List.getElem_of_mem hr
  have := h i hi
  rw [List.getD_eq_getElem?_getD, List.getElem?_eq_getElem hi] at this
  simpa using this

theorem in_qt (n lo hi : Int) (h : inB n lo hi = true) (w : World) :
    Calls Try.prog 28 #[.int .i64 n, .int .i64 lo, .int .i64 hi] w fun e w' => e = .returned (.bool true) ∧ w' = w :=
  (in_any n lo hi w).mono fun _ _ ⟨h1, h2⟩ => ⟨by rw [h1, h], h2.symm⟩
theorem in_qf (n lo hi : Int) (h : inB n lo hi = false) (w : World) :
    Calls Try.prog 28 #[.int .i64 n, .int .i64 lo, .int .i64 hi] w fun e w' => e = .returned (.bool false) ∧ w' = w :=
  (in_any n lo hi w).mono fun _ _ ⟨h1, h2⟩ => ⟨by rw [h1, h], h2.symm⟩

set_option maxHeartbeats 1000000 in
theorem inR_any (w : World) (ao : Option Addr) (n cap : Nat) (l : List (Int × Int)) (hn : l.length = n) (h40 : n ≤ 40) (hx : RegsAt w ao l) (hok : ∀ i, i < l.length → regOk (l.getD i (0, 0))) (p : Int) :
    Calls Try.prog 29 #[.slice ao n cap, .int .i64 p] w fun e w' => e = .returned (.bool (inL l p)) ∧ ∃ d, w' = w.drewN d := by
  go_enter Try.func29, Try.ntmps29
  go_wp2
  go_loopw [5] (fun i wr => ∃ k : Nat, k ≤ n ∧ i = .int .i64 k ∧ Hid (∃ d, wr = w.drewN d) ∧ Hid (∀ i, i < k → ¬ ((l.getD i (0, 0)).1 ≤ p ∧ p ≤ (l.getD i (0, 0)).1 + (l.getD i (0, 0)).2 - 1))) (fun i _ => n - (intOf i).toNat)
  case atStart => exact ⟨0, Nat.zero_le _, rfl, ⟨0, rfl⟩, fun i hi => by omega⟩
  case round =>
    obtain ⟨k, hk, rfl, hD, hN⟩ := hrel
    by_cases hlt : k < n
    · have hxr : RegsAt wr ao l := by obtain ⟨d, e⟩ := hD.out; rw [e]; exact hx.below (below_drawn d)
      obtain ⟨b, o, x, y, rfl, c1, c2, hX⟩ := hxr.at k (by omega)
      have hq := hok k (by omega)
      rw [hX.out] at hq
      obtain ⟨p1, p2, p3, p4, p5⟩ := hq
      dsimp only at p1 p2 p3 p4 p5
      by_cases hi : x ≤ p ∧ p ≤ x + y - 1
      · have e1 : inB p x (x + y - 1) = true := inB_t hi
        have HT : Hid (inL l p = true) := inL_yes (by omega) hX.out hi
        clear hx hok hi hN hxr
        go_wp2_with fail
        go_quiet ((go_at_call 28; exact Calls.quiet_of_same (in_qt _ _ _ e1 _)))
        go_wp2
        go_ret
        exact ⟨ret_bool HT.out.symm, drawn_more hD.out _⟩
      · have e1 : inB p x (x + y - 1) = false := inB_f hi
        have HN' : Hid (∀ i, i < k + 1 → ¬ ((l.getD i (0, 0)).1 ≤ p ∧ p ≤ (l.getD i (0, 0)).1 + (l.getD i (0, 0)).2 - 1)) := fun i hik => by
          by_cases e : i = k
          · rw [e, hX.out]; exact hi
          · exact hN.out i (by omega)
        clear hx hok hi hN hxr
        go_wp2_with fail
        go_quiet ((go_at_call 28; exact Calls.quiet_of_same (in_qf _ _ _ e1 _)))
        go_wp2
        go_roundw
        case rel => exact ⟨k + 1, by omega, by go_num, drawn_more hD.out _, HN'⟩
        case measure => simp [intOf]; omega
    · have HT : Hid (inL l p = false) := inL_no (fun i hi => hN.out i (by omega))
      clear hx hok hN
      go_wp2
      go_ret
      exact ⟨ret_bool HT.out.symm, hD.out⟩

set_option maxHeartbeats 1000000 in
theorem regsCopy_any (w : World) (ao : Option Addr) (n cap : Nat) (l : List (Int × Int)) (hn : l.length = n) (hr : n * 16 ≤ 140737488351232) (hx : RegsAt w ao l) :
    Calls Try.prog 30 #[.slice ao n cap] w fun e w' => ∃ bo c, e = .returned (.slice bo n c) ∧
      w'.ownsRow w.heap.size 26 2 (.slice bo n c) n (rvals l) ∧ Below w.heap.size w w' := by
  obtain ⟨i0, hi, hz0, hz1, hz2⟩ := info_parts info_region
  go_enter Try.func30, Try.ntmps30
  go_wp2
  go_loopw [3, 4] (fun v i wr => ∃ k : Nat, k ≤ n ∧ i = .int .i64 k ∧ wr.ownsRow w.heap.size 26 2 v k (rvals (l.take k)) ∧ Below w.heap.size w wr) (fun _ i _ => n - (intOf i).toNat)
  case atStart => exact ⟨0, Nat.zero_le _, rfl, World.ownsRow_nil _ _ _ _, Below.refl _ _⟩
  case round =>
    obtain ⟨k, hk, rfl, hown, hb⟩ := hrel
    have hs := hb.size
    by_cases hlt : k < n
    · obtain ⟨b, o, x, y, rfl, c1, c2, hX⟩ := (hx.below hb).at k (by omega)
      have hml : k + 1 ≤ maxLen := by unfold maxLen; omega
      clear hx
      go_wp2_with (at_builtin; refine wpList_append_own _ rfl (.tmp 11) (.tmp 16) 22 rfl w.heap.size 26 i0 (.agg #[.int .i64 0, .int .i64 0]) 2 16 Try.underlying22 hi hz0 hz1 hz2 rfl (by decide) _ _ _ rfl (hown.alloc _) ⟨wr.heap.size, 0, none⟩ 1 1 [.int .i64 x, .int .i64 y] rfl rfl ?c1 ?c2 hml ?c4 ?c5 ?_)
      case c1 => exact cell_two_new _ _ _ _
      case c2 => exact ints_oneCell .i64 [_, _]
      case c4 => omega
      case c5 => simp; omega
      intro v' w1 hown' hgrow _
      rw [rtake_snoc l k (by omega) hX.out] at hown'
      have hb' : Below w.heap.size w w1 := (hb.alloc hs _).grown hgrow (by simp; omega) (fun g hg => (hown.lt g hg).1)
      clear hown hgrow hb
      go_wp2
      go_roundw
      case rel => exact ⟨k + 1, by omega, by go_num, hown', hb'⟩
      case measure => simp [intOf]; omega
    · obtain rfl : k = n := by omega
      obtain ⟨bo, c, rfl⟩ := owns_shape hown
      go_wp2
      go_ret
      exact ⟨bo, c, rfl, by rw [List.take_of_length_le (by omega)] at hown; exact hown, hb⟩

end Go.Proofs.Ytfogdgnlbgoakac
