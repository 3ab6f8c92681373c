/-
  OWN TEXT. Contracts of the document's answer: blocks, ZoneCopy.
-/
import Derived.Test.YtamkgakhgfhmjaeRefZa
import Derived.Test.YtamkgakhgfhmjaeZBase
import Derived.Test.YtamkgakhgfhmjaeRefW
import Derived.Deep.RegionHeld3
namespace Go.Proofs.Ytamkgakhgfhmjae
open Go Go.RowKit Go.Proofs.Ytamkgakhgfhmjae.Kit

set_option maxHeartbeats 1000000 in
theorem blocksCopy_any (w : World) (ao : Option Addr) (n cap : Nat) (l : List Bk) (h : Blks w ao n l) :
    Calls Try.prog 23 #[.slice ao n cap] w fun e w' => ∃ bo c, e = .returned (.slice bo n c) ∧
      w'.ownsRow w.heap.size 39 3 (.slice bo n c) n (bvals l) ∧ Below w.heap.size w w' := by
  obtain ⟨i0, hi, hz0, hz1, hz2⟩ := info_parts info_block
  obtain ⟨hn, hr, hx⟩ := h
  go_enter Try.func23, Try.ntmps23
  go_wp2
  go_loopw [3, 4] (fun v i wr => ∃ k : Nat, k ≤ n ∧ i = .int .i64 k ∧ wr.ownsRow w.heap.size 39 3 v k (bvals (l.take k)) ∧ Below w.heap.size w wr) (fun _ i _ => n - (intOf i).toNat)
  case atStart => exact ⟨0, Nat.zero_le _, rfl, World.ownsRow_nil _ _ _ _, Below.refl _ _⟩
  case round =>
    obtain ⟨k, hk, rfl, hown, hb⟩ := hrel
    have hs := hb.size
    by_cases hlt : k < n
    · obtain ⟨b, o, x, y, z, rfl, c1, c2, c3, hX⟩ := (hx.below hb).at k (by omega)
      have hml : k + 1 ≤ maxLen := by unfold maxLen; omega
      clear hx
      go_wp2_with (at_builtin; refine wpList_append_own _ rfl (.tmp 11) (.tmp 16) 22 rfl w.heap.size 39 i0 (.agg #[.int .i64 0, .int .i64 0, .int .i64 0]) 3 24 Try.underlying22 hi hz0 hz1 hz2 rfl (by decide) _ _ _ rfl (hown.alloc _) ⟨wr.heap.size, 0, none⟩ 1 1 [.int .i64 x, .int .i64 y, .int .i64 z] rfl rfl ?c1 ?c2 hml ?c4 ?c5 ?_)
      case c1 => exact cell_three_new _ _ _ _ _
      case c2 => exact ints_oneCell .i64 [_, _, _]
      case c4 => omega
      case c5 => simp; omega
      intro v' w1 hown' hgrow _
      rw [btake_snoc l k (by omega) hX.out] at hown'
      have hb' : Below w.heap.size w w1 := (hb.alloc hs _).grown hgrow (by simp; omega) (fun g hg => (hown.lt g hg).1)
      clear hown hgrow hb
      go_wp2
      go_roundw
      case rel => exact ⟨k + 1, by omega, by go_num, hown', hb'⟩
      case measure => simp [intOf]; omega
    · obtain rfl : k = n := by omega
      obtain ⟨bo, c, rfl⟩ := owns_shape hown
      go_wp2
      go_ret
      exact ⟨bo, c, rfl, by rw [List.take_of_length_le (by omega)] at hown; exact hown, hb⟩

/-- What is held while a zone is copied: the argument's block and what lies below it; the result's block may be written. -/
structure CopyS (w W0 wx : World) : Prop where
  b : Below (w.heap.size + 1) W0 wx
  r : Res4 wx (w.heap.size + 1)
  s : W0.heap.size ≤ wx.heap.size

/-- What lies in a cell. -/
def cont (wx : World) (b i : Nat) : Value := (wx.cell? ⟨b, i, none⟩).getD undef
theorem cont_eq {wx : World} {b i : Nat} (h : ∃ v, wx.cell? ⟨b, i, none⟩ = some v) : wx.cell? ⟨b, i, none⟩ = some (cont wx b i) := by
  obtain ⟨v, e⟩ := h
  unfold cont
  rw [e]; rfl

theorem CopyS.drew {w W0 : World} (h : CopyS w W0 W0) : CopyS w W0 W0.drew := ⟨h.b.drew, h.r.belowB (B := W0.heap.size) (Below.refl _ _).drew (by obtain ⟨v, e⟩ := h.r.d0; have := World.block_lt_of_cell? W0 _ e; exact this), h.s⟩
theorem CopyS.step {w W0 W W' : World} (h : CopyS w W0 W) (hb : Below W.heap.size W W') (hs : w.heap.size + 1 ≤ W.heap.size) : CopyS w W0 W' := ⟨h.b.trans (hb.mono hs), h.r.below hb, Nat.le_trans h.s hb.size⟩
theorem CopyS.store {w W0 W : World} (h : CopyS w W0 W) (x y u v : Value) : CopyS w W0 ((((W.setCell ⟨w.heap.size + 1, 0, none⟩ x).setCell ⟨w.heap.size + 1, 1, none⟩ y).setCell ⟨w.heap.size + 1, 2, none⟩ u).setCell ⟨w.heap.size + 1, 3, none⟩ v) := by
  obtain ⟨⟨v0, e0⟩, ⟨v1, e1⟩, ⟨v2, e2⟩, ⟨v3, e3⟩, z0, z1, z2, z3⟩ := h.r
  have hbt := but4 W (w.heap.size + 1) x y u v
  have hlt := World.block_lt_of_cell? W _ e0
  dsimp only at hlt
  exact ⟨h.b.trans (hbt.below (Nat.le_refl _) (by omega)), (ZBox.set4 ⟨e0, e1, e2, e3, z0, z1, z2, z3⟩ x y u v).res, Nat.le_trans h.s hbt.size⟩

set_option maxHeartbeats 2000000 in
theorem zoneCopy_any (w : World) (fo : Option Addr) (fn fc : Nat) (to_ : Option Addr) (tn tc : Nat) (z : Zn) (h : ZnAt w fo fn to_ tn z) :
    Calls Try.prog 11 #[.agg #[.int .i64 z.f, .int .i64 z.t, .slice fo fn fc, .slice to_ tn tc]] w fun e w' => RetZ w.heap.size w' z e ∧ Below w.heap.size w w' := by
  obtain ⟨f, t, free, types⟩ := z
  obtain ⟨hf, ht⟩ := h
  dsimp only at hf ht ⊢
  obtain ⟨W0, hW0⟩ : ∃ W0, (w.alloc (.cells #[.int .i64 f, .int .i64 t, .slice fo fn fc, .slice to_ tn tc] 25)).alloc (.cells #[.int .i64 0, .int .i64 0, .slice none 0 0, .slice none 0 0] 25) = W0 := ⟨_, rfl⟩
  have hb0 : Below w.heap.size w W0 := by rw [← hW0]; exact ((Below.refl _ _).alloc (Nat.le_refl _) _).alloc (by simp) _
  have Z0 : ZBox W0 w.heap.size (.int .i64 f) (.int .i64 t) (.slice fo fn fc) (.slice to_ tn tc) := by rw [← hW0]; exact (zbox_new w _ _ _ _ _).below (below_box _ _)
  have R0 : Res4 W0 (w.heap.size + 1) := by
    rw [← hW0]
    have := zbox_new (w.alloc (.cells #[.int .i64 f, .int .i64 t, .slice fo fn fc, .slice to_ tn tc] 25)) (.int .i64 0) (.int .i64 0) (.slice none 0 0) (.slice none 0 0) 25
    have h2 := this.res
    simpa using h2
  have hs0 : w.heap.size + 2 = W0.heap.size := by rw [← hW0]; simp
  have S0 : CopyS w W0 W0 := ⟨Below.refl _ _, R0, Nat.le_refl _⟩
  have hz := Z0.lt
  have q0 : ∀ wx, CopyS w W0 wx → wx.cell? ⟨w.heap.size, 0, none⟩ = some (.int .i64 f) := fun wx h => (h.b.cell (p := ⟨w.heap.size, 0, none⟩) (show w.heap.size < w.heap.size + 1 by omega)).trans Z0.c0
  have q1 : ∀ wx, CopyS w W0 wx → wx.cell? ⟨w.heap.size, 1, none⟩ = some (.int .i64 t) := fun wx h => (h.b.cell (p := ⟨w.heap.size, 1, none⟩) (show w.heap.size < w.heap.size + 1 by omega)).trans Z0.c1
  have q2 : ∀ wx, CopyS w W0 wx → wx.cell? ⟨w.heap.size, 2, none⟩ = some (.slice fo fn fc) := fun wx h => (h.b.cell (p := ⟨w.heap.size, 2, none⟩) (show w.heap.size < w.heap.size + 1 by omega)).trans Z0.c2
  have q3 : ∀ wx, CopyS w W0 wx → wx.cell? ⟨w.heap.size, 3, none⟩ = some (.slice to_ tn tc) := fun wx h => (h.b.cell (p := ⟨w.heap.size, 3, none⟩) (show w.heap.size < w.heap.size + 1 by omega)).trans Z0.c3
  have d0 : ∀ wx, CopyS w W0 wx → wx.cell? ⟨w.heap.size + 1, 0, none⟩ = some (cont wx (w.heap.size + 1) 0) := fun wx h => cont_eq h.r.d0
  have d1 : ∀ wx, CopyS w W0 wx → wx.cell? ⟨w.heap.size + 1, 1, none⟩ = some (cont wx (w.heap.size + 1) 1) := fun wx h => cont_eq h.r.d1
  have d2 : ∀ wx, CopyS w W0 wx → wx.cell? ⟨w.heap.size + 1, 2, none⟩ = some (cont wx (w.heap.size + 1) 2) := fun wx h => cont_eq h.r.d2
  have d3 : ∀ wx, CopyS w W0 wx → wx.cell? ⟨w.heap.size + 1, 3, none⟩ = some (cont wx (w.heap.size + 1) 3) := fun wx h => cont_eq h.r.d3
  have z0 : ∀ wx, CopyS w W0 wx → wx.frozen? ⟨w.heap.size + 1, 0, none⟩ = false := fun wx h => h.r.z0
  have z1 : ∀ wx, CopyS w W0 wx → wx.frozen? ⟨w.heap.size + 1, 1, none⟩ = false := fun wx h => h.r.z1
  have z2 : ∀ wx, CopyS w W0 wx → wx.frozen? ⟨w.heap.size + 1, 2, none⟩ = false := fun wx h => h.r.z2
  have z3 : ∀ wx, CopyS w W0 wx → wx.frozen? ⟨w.heap.size + 1, 3, none⟩ = false := fun wx h => h.r.z3
  have HB : Hid (∀ W, CopyS w W0 W → Calls Try.prog 23 #[.slice fo fn fc] W fun e w' => ∃ bo c, e = .returned (.slice bo fn c) ∧ (Blks w' bo fn free ∧ Fresh W0.heap.size bo ∧ Below W.heap.size W w') ∧ CopyS w W0 w') := fun W hS => by
    have hs := hS.s
    refine (blocksCopy_any W fo fn fc free (hf.below (hb0.trans (hS.b.mono (by omega))))).mono ?_
    rintro e w' ⟨bo, c, rfl, own, hb⟩
    exact ⟨bo, c, rfl, ⟨blks_own own hf.reach, (owns_fresh own).mono hs, hb⟩, hS.step hb (by omega)⟩
  have HW : Hid (∀ W, CopyS w W0 W → Calls Try.prog 24 #[.slice to_ tn tc] W fun e w' => ∃ bo c, e = .returned (.slice bo tn c) ∧ (Nums w' bo tn types ∧ Fresh W0.heap.size bo ∧ Below W.heap.size W w') ∧ CopyS w W0 w') := fun W hS => by
    have hs := hS.s
    refine (words_any W to_ tn tc types ht.len ht.reach (ht.below (hb0.trans (hS.b.mono (by omega)))).at_).mono ?_
    rintro e w' ⟨bo, c, rfl, own, hb⟩
    exact ⟨bo, c, rfl, ⟨nums_of_owns own ht.reach, (owns_fresh own).mono hs, hb⟩, hS.step hb (by omega)⟩
  go_enter Try.func11, Try.ntmps11
  go_wp2_with fail
  clear hf ht hW0 Z0 R0 hz
  go_region_held3 (fun wx => CopyS w W0 wx) (first | assumption | exact CopyS.drew (by assumption) | exact CopyS.store (by assumption) _ _ _ _)
    (first
      | (go_at_call 23; refine (HB.out _ ?_).mono ?_; assumption; rintro e w3 ⟨bo, c, rfl, g1, hS3⟩)
      | (go_at_call 24; refine (HW.out _ ?_).mono ?_; assumption; rintro e w4 ⟨bo2, c2, rfl, g2, hS4⟩))
  obtain ⟨g11, g12, g13⟩ := g1
  obtain ⟨g21, g22, g23⟩ := g2
  have hR4 := hS4.r
  have hB4 := hb0.trans (hS4.b.mono (Nat.le_succ _))
  replace g11 := g11.below g23
  have hs4 := hS4.s
  clear q0 q1 q2 q3 d0 d1 d2 d3 z0 z1 z2 z3 HB HW S0 hS3 hS4
  go_wp2
  obtain ⟨k0, k1, k2, k3⟩ := res4 hR4 (.int .i64 f) (.int .i64 t) (.slice bo fn c) (.slice bo2 tn c2)
  have hbt := but4 w4 (w.heap.size + 1) (.int .i64 f) (.int .i64 t) (.slice bo fn c) (.slice bo2 tn c2)
  refine bodyPost_ret (v := .agg #[.int .i64 f, .int .i64 t, .slice bo fn c, .slice bo2 tn c2]) (by simp [results, Try.results11, go_sem, k0, k1, k2, k3]) rfl ⟨⟨bo, fn, c, bo2, tn, c2, rfl, ?_, g12.mono (by omega), g22.mono (by omega)⟩, hB4.trans (hbt.below (by omega) (by omega))⟩
  exact hbt.zn ⟨g11, g21⟩ (fun a ha => by have := g12 a ha; omega) (fun a ha => by have := g22 a ha; omega)

end Go.Proofs.Ytamkgakhgfhmjae
