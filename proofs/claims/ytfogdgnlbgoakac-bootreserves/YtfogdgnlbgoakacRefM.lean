/-
  OWN TEXT. Contracts of the document's answer: regionsMay, BootMay.
-/
import Derived.Test.YtfogdgnlbgoakacRefF
namespace Go.Proofs.Ytfogdgnlbgoakac
open Go Go.RowKit Go.Proofs.Ytfogdgnlbgoakac.Kit

/-- The first k regions may be. -/
def GoodTo (l : List (Int × Int)) (k : Nat) : Prop :=
  (∀ i, i < k → regOk (l.getD i (0, 0))) ∧ ∀ i, i + 1 < k → (l.getD i (0, 0)).1 + (l.getD i (0, 0)).2 < (l.getD (i + 1) (0, 0)).1

theorem goodTo_zero (l : List (Int × Int)) : GoodTo l 0 := ⟨fun i hi => by omega, fun i hi => by omega⟩
theorem goodTo_one {l : List (Int × Int)} (h : regOk (l.getD 0 (0, 0))) : GoodTo l 1 := by
  refine ⟨fun i hi => ?_, fun i hi => by omega⟩
  obtain rfl : i = 0 := by omega
  exact h
theorem goodTo_succ {l : List (Int × Int)} {k : Nat} (h : GoodTo l (k + 1)) (h1 : regOk (l.getD (k + 1) (0, 0))) (h2 : (l.getD k (0, 0)).1 + (l.getD k (0, 0)).2 < (l.getD (k + 1) (0, 0)).1) : GoodTo l (k + 2) := by
  refine ⟨fun i hi => ?_, fun i hi => ?_⟩
  · by_cases e : i = k + 1
    · rw [e]; exact h1
    · exact h.1 i (by omega)
  · by_cases e : i = k
    · rw [e]; exact h2
    · exact h.2 i (by omega)

set_option maxHeartbeats 2000000 in
theorem may_any (w : World) (ao : Option Addr) (n cap : Nat) (l : List (Int × Int)) (h : Regs w ao n l) :
    Calls Try.prog 42 #[.slice ao n cap] w fun e w' => RetIff e (MayP l) ∧ Below w.heap.size w w' := by
  obtain ⟨hn, hr, hx⟩ := h
  by_cases h40 : (40 : Int) < n
  · have HF : Hid (¬ MayP l) := fun h => by have := h.len; omega
    clear hx
    go_enter Try.func42, Try.ntmps42
    go_wp2
    go_ret
    exact ⟨⟨false, rfl, fun h => (by cases h), fun h => absurd h HF.out⟩, Below.refl _ _⟩
  · go_enter Try.func42, Try.ntmps42
    go_wp2
    go_loopw [3] (fun i wr => ∃ k : Nat, k ≤ n ∧ i = .int .i64 k ∧ Hid (GoodTo l k) ∧ Below w.heap.size w wr) (fun i _ => n - (intOf i).toNat)
    case atStart => exact ⟨0, Nat.zero_le _, rfl, goodTo_zero l, Below.refl _ _⟩
    case round =>
      obtain ⟨k, hk, rfl, hG, hb⟩ := hrel
      by_cases hlt : k < n
      · have hxr := hx.below hb
        obtain ⟨b, o, x, y, rfl, c1, c2, hX⟩ := hxr.at k (by omega)
        by_cases hok : regOk (x, y)
        · go_wp2_with fail
          go_at_call 25
          refine (fault_ok _ x y hok).mono ?_
          rintro e w1 ⟨rfl, hb1⟩
          have hB1 : Below w.heap.size w w1 := hb.trans (hb1.mono hb.size)
          have hx1 := hx.below hB1
          have d1 := (hb1.cell (p := ⟨b, o + k * 2, none⟩) (World.block_lt_of_cell? _ _ c1)).trans c1
          have d2 := (hb1.cell (p := ⟨b, o + k * 2 + 1, none⟩) (World.block_lt_of_cell? _ _ c2)).trans c2
          clear c1 c2 hxr
          by_cases hk0 : k = 0
          · subst hk0
            have HG' : Hid (GoodTo l 1) := goodTo_one (by rw [hX.out]; exact hok)
            clear hx hx1 hG hok
            go_wp2_with fail
            go_quiet (fail)
            go_wp2
            go_roundw
            case rel => exact ⟨1, by omega, by go_num, HG', below_drewN hB1 _⟩
            case measure => simp [intOf]; omega
          · obtain ⟨j, rfl⟩ : ∃ j, k = j + 1 := ⟨k - 1, by omega⟩
            obtain ⟨b', o', x', y', he, f1, f2, hX'⟩ := hx1.at j (by omega)
            cases he
            have hj : regOk (x', y') := by have := hG.out.1 j (by omega); rw [hX'.out] at this; exact this
            obtain ⟨p1, p2, p3, p4, p5⟩ := hj
            dsimp only at p1 p2 p3 p4 p5
            have hjI : ((j + 1 : Nat) : Int) = (j : Int) + 1 := by simp
            have t1 : decide ((0 : Int) < (j : Int) + 1) = true := decide_eq_true (by omega)
            by_cases hg : x ≤ x' + y'
            · have HF : Hid (¬ MayP l) := fun h => absurd (by have := h.gap j (by omega); rw [hX.out, hX'.out] at this; exact this) (by dsimp only; omega)
              clear hx hx1 hG hok hk0
              go_wp2_with fail
              go_quiet (fail)
              go_wp2
              go_ret
              exact ⟨⟨false, rfl, fun h => (by cases h), fun h => absurd h HF.out⟩, below_drewN hB1 _⟩
            · have HG' : Hid (GoodTo l (j + 2)) := goodTo_succ hG.out (by rw [hX.out]; exact hok) (by rw [hX.out, hX'.out]; dsimp only; omega)
              clear hx hx1 hG hok hk0
              go_wp2_with fail
              go_quiet (fail)
              go_wp2
              go_roundw
              case rel => exact ⟨j + 2, by omega, by go_num, HG', below_drewN hB1 _⟩
              case measure => simp [intOf]; omega
        · go_wp2_with fail
          go_at_call 25
          refine (fault_no _ x y hok).mono ?_
          rintro e w1 ⟨rfl, hb1⟩
          have HF : Hid (¬ MayP l) := fun h => absurd (by have := h.ok k (by omega); rw [hX.out] at this; exact this) hok
          clear hx hok hxr
          go_wp2
          go_ret
          exact ⟨⟨false, rfl, fun h => (by cases h), fun h => absurd h HF.out⟩, hb.trans (hb1.mono hb.size)⟩
      · have HM : Hid (MayP l) := ⟨by omega, fun i hi => hG.out.1 i (by omega), fun i hi => hG.out.2 i (by omega)⟩
        clear hx
        go_wp2
        go_ret
        exact ⟨⟨true, rfl, fun _ => HM.out, fun _ => rfl⟩, hb⟩

set_option maxHeartbeats 1000000 in
theorem bootMay_any (w : World) (mo : Option Addr) (mn mc : Nat) (M : List (Int × Int)) (ro : Option Addr) (rn rc : Nat) (R : List (Int × Int)) (hm : Regs w mo mn M) (hr : Regs w ro rn R) :
    Calls Try.prog 24 #[.agg #[.slice mo mn mc, .slice ro rn rc]] w fun e w' => RetIff e (MayP M ∧ MayP R) ∧ Below w.heap.size w w' := by
  have hb0 := below_box w (.cells #[.slice mo mn mc, .slice ro rn rc] 24)
  go_enter Try.func24, Try.ntmps24
  go_wp2_with fail
  go_at_call 42
  refine (may_any _ mo mn mc M (hm.below hb0)).mono ?_
  rintro e w1 ⟨⟨r, rfl, h1⟩, hb1⟩
  have hB1 : Below w.heap.size w w1 := hb0.trans (hb1.mono hb0.size)
  have c1 : w1.cell? ⟨w.heap.size, 1, none⟩ = some (.slice ro rn rc) := (hb1.cell (p := ⟨w.heap.size, 1, none⟩) (by simp)).trans (by simp)
  clear hb0 hb1
  cases r with
  | false =>
    have H1 : Hid (¬ MayP M) := fun h => absurd (h1.2 h) (by simp)
    clear h1
    go_wp2
    go_ret
    exact ⟨⟨false, rfl, fun h => (by cases h), fun h => absurd h.1 H1.out⟩, hB1⟩
  | true =>
    have H1 : Hid (MayP M) := h1.1 rfl
    clear h1
    go_wp2_with fail
    go_at_call 42
    refine (may_any _ ro rn rc R (hr.below hB1)).mono ?_
    rintro e w2 ⟨⟨r, rfl, h2⟩, hb2⟩
    have H2 : Hid (r = true ↔ MayP R) := h2
    clear h2
    go_wp2
    go_ret
    exact ⟨⟨r, rfl, fun h => ⟨H1.out, H2.out.1 h⟩, fun h => H2.out.2 h.2⟩, hB1.trans (hb2.mono hB1.size)⟩

end Go.Proofs.Ytfogdgnlbgoakac
