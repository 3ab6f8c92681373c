/-
  OWN TEXT. Contracts of the code: boot.mayBe, boot.Check.
-/
import Derived.Test.YtfogdgnlbgoakadBPure
import Derived.Test.YtfogdgnlbgoakadBcRegion
namespace Go.Proofs.Ytfogdgnlbgoakad
open Go Go.RowKit Go.Proofs.Ytfogdgnlbgoakad.Kit

/-- What the loop knows behind k regions: they may be, and the next one may begin at q. -/
structure BeTo (l : List (Int × Int)) (k : Nat) (q : Int) : Prop where
  good : GoodTo l k
  lo : 0 ≤ q
  hi : q ≤ 257
  zero : k = 0 → q = 0
  succ : ∀ j, k = j + 1 → q = (l.getD j (0, 0)).1 + (l.getD j (0, 0)).2 + 1

theorem beTo_zero (l : List (Int × Int)) : BeTo l 0 0 := ⟨goodTo_zero l, by omega, by omega, fun _ => rfl, fun j h => by omega⟩

theorem beTo_succ {l : List (Int × Int)} {k : Nat} {q x y : Int} (h : BeTo l k q) (e : l.getD k (0, 0) = (x, y)) (h1 : regOk (x, y)) (h2 : q ≤ x) : BeTo l (k + 1) (x + y + 1) := by
  have h1' := h1
  obtain ⟨p1, p2, p3, p4, p5⟩ := h1'
  dsimp only at p1 p2 p3 p4 p5
  refine ⟨?_, by omega, by omega, fun g => by omega, fun j hj => ?_⟩
  · cases k with
    | zero => exact goodTo_one (by rw [e]; exact h1)
    | succ j =>
      have hq := h.succ j rfl
      exact goodTo_succ h.good (by rw [e]; exact h1) (by rw [e]; dsimp only; omega)
  · obtain rfl : j = k := by omega
    rw [e]

theorem beTo_gap {l : List (Int × Int)} {k : Nat} {q x y : Int} (h : BeTo l k q) (hk : k < l.length) (e : l.getD k (0, 0) = (x, y)) (h1 : 0 ≤ x) (h2 : x < q) : ¬ MayP l := by
  intro g
  cases k with
  | zero => have := h.zero rfl; omega
  | succ j =>
    have hq := h.succ j rfl
    have := g.gap j (by omega)
    rw [e] at this
    dsimp only at this
    omega

theorem top_of_may {l : List (Int × Int)} (h : MayP l) : TopL l := by
  intro r hr
  obtain ⟨i, hi, rfl⟩ := List.getElem_of_mem hr
  have := h.ok i hi
  rw [List.getD_eq_getElem?_getD, List.getElem?_eq_getElem hi] at this
  have := this.2.2.2.1
  simp only [Option.getD_some] at this
  omega

set_option maxHeartbeats 2000000 in
theorem mayBe_any (w : World) (ao : Option Addr) (n cap : Nat) (l : List (Int × Int)) (h : Regs w ao n l) (ht : TopL l) :
    Calls Try.prog 25 #[.slice ao n cap] w fun e w' => RetIff e (MayP l) ∧ Below w.heap.size w w' := by
  obtain ⟨hn, hr, hx⟩ := h
  by_cases h40 : (40 : Int) < n
  · have HF : Hid (¬ MayP l) := fun h => by have := h.len; omega
    clear hx ht
    go_enter Try.func25, Try.ntmps25
    go_wp2
    go_ret
    exact ⟨⟨false, rfl, fun h => (by cases h), fun h => absurd h HF.out⟩, Below.refl _ _⟩
  · go_enter Try.func25, Try.ntmps25
    go_wp2
    go_loopw [3, 11] (fun q i wr => ∃ (k : Nat) (z : Int), k ≤ n ∧ i = .int .i64 k ∧ q = .int .i64 z ∧ BeTo l k z ∧ Below w.heap.size w wr) (fun _ i _ => n - (intOf i).toNat)
    case atStart => exact ⟨0, 0, Nat.zero_le _, rfl, rfl, beTo_zero l, Below.refl _ _⟩
    case round =>
      obtain ⟨k, z, hk, rfl, rfl, hG, hb⟩ := hrel
      by_cases hlt : k < n
      · have hxr := hx.below hb
        obtain ⟨b, o, x, y, rfl, c1, c2, hX⟩ := hxr.at k (by omega)
        have hty := ht.at k (by omega) hX.out
        have hz1 := hG.lo
        have hz2 := hG.hi
        clear hxr
        go_wp2_with fail
        go_at_call 35
        have hbx := below_box wr (.cells #[.int .i64 x, .int .i64 y] 35)
        have x0 : (wr.alloc (.cells #[.int .i64 x, .int .i64 y] 35)).cell? ⟨wr.heap.size, 0, none⟩ = some (.int .i64 x) := by go_simp
        have x1 : (wr.alloc (.cells #[.int .i64 x, .int .i64 y] 35)).cell? ⟨wr.heap.size, 1, none⟩ = some (.int .i64 y) := by go_simp
        by_cases hok : regOk (x, y)
        · refine (checkRegion_ok _ x y hok).mono ?_
          rintro e w1 ⟨rfl, hb1⟩
          have hB1 := hb.trans ((hbx.mono hb.size).trans (hb1.mono (Nat.le_trans hb.size hbx.size)))
          replace x0 := keep x0 hb1
          replace x1 := keep x1 hb1
          by_cases hg : x < z
          · have HF : Hid (¬ MayP l) := beTo_gap hG (by omega) hX.out hok.1 hg
            clear hx ht hG hok c1 c2 hb hbx hb1
            go_wp2
            go_ret
            exact ⟨⟨false, rfl, fun h => (by cases h), fun h => absurd h HF.out⟩, hB1⟩
          · have HG' : BeTo l (k + 1) (x + y + 1) := beTo_succ hG hX.out hok (by omega)
            obtain ⟨p1, p2, p3, p4, p5⟩ := hok
            dsimp only at p1 p2 p3 p4 p5
            clear hx ht hG c1 c2 hb hbx hb1
            go_wp2
            go_roundw
            case rel => exact ⟨k + 1, x + y + 1, by omega, by go_num, by go_num, HG', hB1⟩
            case measure => simp [intOf]; omega
        · refine (checkRegion_no _ x y hty hok).mono ?_
          rintro e w1 ⟨rfl, hb1⟩
          have hB1 := hb.trans ((hbx.mono hb.size).trans (hb1.mono (Nat.le_trans hb.size hbx.size)))
          have HF : Hid (¬ MayP l) := fun h => absurd (by have := h.ok k (by omega); rw [hX.out] at this; exact this) hok
          clear hx ht hG hok c1 c2 hb hbx hb1 x0 x1
          go_wp2
          go_ret
          exact ⟨⟨false, rfl, fun h => (by cases h), fun h => absurd h HF.out⟩, hB1⟩
      · have HM : Hid (MayP l) := ⟨by omega, fun i hi => hG.good.1 i (by omega), fun i hi => hG.good.2 i (by omega)⟩
        clear hx ht
        go_wp2
        go_ret
        exact ⟨⟨true, rfl, fun _ => HM.out, fun _ => rfl⟩, hb⟩

set_option maxHeartbeats 1000000 in
theorem cCheck_ok (w : World) (mo : Option Addr) (mn mc : Nat) (M : List (Int × Int)) (ro : Option Addr) (rn rc : Nat) (R : List (Int × Int)) (hm : Regs w mo mn M) (hr : Regs w ro rn R) (h : MayP M ∧ MayP R) :
    Calls Try.prog 10 #[.agg #[.slice mo mn mc, .slice ro rn rc]] w fun e w' => e = .returned (.int .i64 0) ∧ Below w.heap.size w w' := by
  have hb0 := below_box w (.cells #[.slice mo mn mc, .slice ro rn rc] 25)
  have p1 : (w.alloc (.cells #[.slice mo mn mc, .slice ro rn rc] 25)).cell? ⟨w.heap.size, 1, none⟩ = some (.slice ro rn rc) := by go_simp
  obtain ⟨hM, hR⟩ := h
  have HM : Hid _ := hM
  have HR : Hid _ := hR
  clear hM hR
  go_enter Try.func10, Try.ntmps10
  go_wp2_with fail
  go_at_call 25
  refine (mayBe_any _ mo mn mc M (hm.below hb0) (top_of_may HM.out)).mono ?_
  rintro e w1 ⟨⟨r, rfl, h1⟩, hb1⟩
  obtain rfl : r = true := h1.2 HM.out
  clear h1
  have hB1 := hb0.trans (hb1.mono hb0.size)
  replace p1 := keep p1 hb1
  have r1 := hr.below hB1
  clear hm hr hb0 hb1
  go_wp2_with fail
  go_at_call 25
  refine (mayBe_any _ ro rn rc R r1 (top_of_may HR.out)).mono ?_
  rintro e w2 ⟨⟨r, rfl, h2⟩, hb2⟩
  obtain rfl : r = true := h2.2 HR.out
  clear h2
  go_wp2
  go_ret
  exact ⟨rfl, hB1.trans (hb2.mono hB1.size)⟩

set_option maxHeartbeats 1000000 in
theorem cCheck_no (w : World) (mo : Option Addr) (mn mc : Nat) (M : List (Int × Int)) (ro : Option Addr) (rn rc : Nat) (R : List (Int × Int)) (hm : Regs w mo mn M) (hr : Regs w ro rn R) (tm : TopL M) (tr : TopL R) (h : ¬ (MayP M ∧ MayP R)) :
    Calls Try.prog 10 #[.agg #[.slice mo mn mc, .slice ro rn rc]] w fun e w' => e = .returned (.int .i64 8) ∧ Below w.heap.size w w' := by
  have hb0 := below_box w (.cells #[.slice mo mn mc, .slice ro rn rc] 25)
  have p1 : (w.alloc (.cells #[.slice mo mn mc, .slice ro rn rc] 25)).cell? ⟨w.heap.size, 1, none⟩ = some (.slice ro rn rc) := by go_simp
  by_cases hM : MayP M
  · have HM : Hid _ := hM
    have HR : Hid (¬ MayP R) := fun g => h ⟨hM, g⟩
    clear hM h
    go_enter Try.func10, Try.ntmps10
    go_wp2_with fail
    go_at_call 25
    refine (mayBe_any _ mo mn mc M (hm.below hb0) tm).mono ?_
    rintro e w1 ⟨⟨r, rfl, h1⟩, hb1⟩
    obtain rfl : r = true := h1.2 HM.out
    clear h1
    have hB1 := hb0.trans (hb1.mono hb0.size)
    replace p1 := keep p1 hb1
    have r1 := hr.below hB1
    clear hm hr hb0 hb1 tm
    go_wp2_with fail
    go_at_call 25
    refine (mayBe_any _ ro rn rc R r1 tr).mono ?_
    rintro e w2 ⟨⟨r, rfl, h2⟩, hb2⟩
    obtain rfl : r = false := by
      cases r with
      | false => rfl
      | true => exact absurd (h2.1 rfl) HR.out
    clear h2 tr
    go_wp2
    go_ret
    exact ⟨rfl, hB1.trans (hb2.mono hB1.size)⟩
  · have HM : Hid _ := hM
    clear hM h
    go_enter Try.func10, Try.ntmps10
    go_wp2_with fail
    go_at_call 25
    refine (mayBe_any _ mo mn mc M (hm.below hb0) tm).mono ?_
    rintro e w1 ⟨⟨r, rfl, h1⟩, hb1⟩
    obtain rfl : r = false := by
      cases r with
      | false => rfl
      | true => exact absurd (h1.1 rfl) HM.out
    clear h1 tm tr hm hr
    go_wp2
    go_ret
    exact ⟨rfl, hb0.trans (hb1.mono hb0.size)⟩

end Go.Proofs.Ytfogdgnlbgoakad
