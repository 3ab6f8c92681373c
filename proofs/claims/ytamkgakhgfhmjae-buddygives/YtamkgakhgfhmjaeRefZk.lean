/-
  OWN TEXT. Contracts of the document's answer: BackOf.
-/
import Derived.Test.YtamkgakhgfhmjaeRefZm
import Derived.Test.YtamkgakhgfhmjaeRefZo
import Derived.Test.YtamkgakhgfhmjaeRefZl
import Derived.Test.YtamkgakhgfhmjaeRefZw
import Derived.Test.YtamkgakhgfhmjaeZPure3
import Derived.Test.YtamkgakhgfhmjaeZOvl
namespace Go.Proofs.Ytamkgakhgfhmjae
open Go Go.RowKit Go.Proofs.Ytamkgakhgfhmjae.Kit

/-- The world in the midst of BackOf: its argument's box, the result's block, and what can be read. -/
structure BaInv (w : World) (fo : Option Addr) (fn fc : Nat) (to_ : Option Addr) (tn tc : Nat) (z : Zn) (W : World) : Prop where
  size : w.heap.size + 2 ≤ W.heap.size
  b : Below w.heap.size w W
  box : ZBox W w.heap.size (.int .i64 z.f) (.int .i64 z.t) (.slice fo fn fc) (.slice to_ tn tc)
  res : Res4 W (w.heap.size + 1)
  zn : ZnAt W fo fn to_ tn z

theorem BaInv.step {w : World} {fo : Option Addr} {fn fc : Nat} {to_ : Option Addr} {tn tc : Nat} {z : Zn} {W W' : World} (h : BaInv w fo fn fc to_ tn tc z W) (hb : Below W.heap.size W W') : BaInv w fo fn fc to_ tn tc z W' :=
  ⟨Nat.le_trans h.size hb.size, h.b.trans (hb.mono h.b.size), h.box.below hb, h.res.below hb, h.zn.below hb⟩

theorem baInv_first (w : World) (fo : Option Addr) (fn fc : Nat) (to_ : Option Addr) (tn tc : Nat) (z : Zn) (h : ZnAt w fo fn to_ tn z) :
    BaInv w fo fn fc to_ tn tc z ((w.alloc (.cells #[.int .i64 z.f, .int .i64 z.t, .slice fo fn fc, .slice to_ tn tc] 25)).alloc (.cells #[.int .i64 0, .int .i64 0, .slice none 0 0, .slice none 0 0] 25)) := by
  have hb2 : Below w.heap.size w ((w.alloc (.cells #[.int .i64 z.f, .int .i64 z.t, .slice fo fn fc, .slice to_ tn tc] 25)).alloc (.cells #[.int .i64 0, .int .i64 0, .slice none 0 0, .slice none 0 0] 25)) := ((Below.refl _ _).alloc (Nat.le_refl _) _).alloc (by simp) _
  have R0 : Res4 ((w.alloc (.cells #[.int .i64 z.f, .int .i64 z.t, .slice fo fn fc, .slice to_ tn tc] 25)).alloc (.cells #[.int .i64 0, .int .i64 0, .slice none 0 0, .slice none 0 0] 25)) (w.heap.size + 1) := by
    have := zbox_new (w.alloc (.cells #[.int .i64 z.f, .int .i64 z.t, .slice fo fn fc, .slice to_ tn tc] 25)) (.int .i64 0) (.int .i64 0) (.slice none 0 0) (.slice none 0 0) 25
    have h2 := this.res
    simpa using h2
  exact ⟨by simp, hb2, (zbox_new w _ _ _ _ _).below (below_box _ _), R0, h.below hb2⟩

set_option maxHeartbeats 2000000 in
theorem backOf_no (w : World) (fo : Option Addr) (fn fc : Nat) (to_ : Option Addr) (tn tc : Nat) (z : Zn) (a o : Int) (h : ZnAt w fo fn to_ tn z) (hM : ¬ ZMay z) :
    Calls Try.prog 13 #[.agg #[.int .i64 z.f, .int .i64 z.t, .slice fo fn fc, .slice to_ tn tc], .int .i64 a, .int .i64 o] w fun e w' => RetNone 8 e ∧ Below w.heap.size w w' := by
  have I0 := baInv_first w fo fn fc to_ tn tc z h
  have c0 := I0.box.c0
  have c1 := I0.box.c1
  have c2 := I0.box.c2
  have c3 := I0.box.c3
  clear h
  go_enter Try.func13, Try.ntmps13
  go_wp2_with fail
  go_at_call 18
  refine (zoneMay_any _ fo fn fc to_ tn tc z I0.zn).mono ?_
  rintro e w1 ⟨⟨r, rfl, hr⟩, hb1⟩
  have I1 := I0.step hb1
  obtain rfl : r = false := by
    cases r with
    | false => rfl
    | true => exact absurd (hr.1 rfl) hM
  have R1 := I1.res
  obtain ⟨⟨x0, d0⟩, ⟨x1, d1⟩, ⟨x2, d2⟩, ⟨x3, d3⟩, z0, z1, z2, z3⟩ := id R1
  have hB := I1.b
  have hs := I1.size
  clear hr hM I0 I1 hb1 c0 c1 c2 c3
  go_wp2
  obtain ⟨k0, k1, k2, k3⟩ := res4 R1 (.int .i64 0) (.int .i64 0) (.slice none 0 0) (.slice none 0 0)
  have hbt := but4 w1 (w.heap.size + 1) (.int .i64 0) (.int .i64 0) (.slice none 0 0) (.slice none 0 0)
  exact bodyPost_ret (v := .tuple #[.agg #[.int .i64 0, .int .i64 0, .slice none 0 0, .slice none 0 0], .int .i64 8]) (by simp [results, Try.results13, go_sem, k0, k1, k2, k3]) rfl ⟨rfl, hB.trans (hbt.below (by omega) (by omega))⟩


theorem may_nums {z : Zn} (h : ZMay z) : ∀ i, i < z.free.length → ordOk (z.free.getD i .zero).o ∧ 0 ≤ (z.free.getD i .zero).a ∧ (z.free.getD i .zero).a ≤ 256 := fun i hi => by
  obtain ⟨⟨h1, h2, h3, h4⟩, _⟩ := freeOk_at h.free hi rfl
  obtain ⟨g1, g2, g3, g4, g5⟩ := h.new
  exact ⟨h1, by omega, by omega⟩

set_option maxHeartbeats 2000000 in
theorem backOf_range (w : World) (fo : Option Addr) (fn fc : Nat) (to_ : Option Addr) (tn tc : Nat) (z : Zn) (a o : Int) (h : ZnAt w fo fn to_ tn z) (hM : ZMay z) (ho : ¬ blkIn z.f z.t a o) :
    Calls Try.prog 13 #[.agg #[.int .i64 z.f, .int .i64 z.t, .slice fo fn fc, .slice to_ tn tc], .int .i64 a, .int .i64 o] w fun e w' => RetNone 1 e ∧ Below w.heap.size w w' := by
  have I0 := baInv_first w fo fn fc to_ tn tc z h
  have c0 := I0.box.c0
  have c1 := I0.box.c1
  have c2 := I0.box.c2
  have c3 := I0.box.c3
  clear h
  go_enter Try.func13, Try.ntmps13
  go_wp2_with fail
  go_at_call 18
  refine (zoneMay_any _ fo fn fc to_ tn tc z I0.zn).mono ?_
  rintro e w1 ⟨⟨r, rfl, hr⟩, hb1⟩
  have I1 := I0.step hb1
  obtain rfl : r = true := hr.2 hM
  replace c0 := I1.box.c0
  replace c1 := I1.box.c1
  replace c2 := I1.box.c2
  replace c3 := I1.box.c3
  clear hr I0 hb1
  go_wp2_with fail
  go_at_call 28
  refine (blockMay_any _ z.f z.t fo to_ fn fc tn tc a o hM.new).mono ?_
  rintro e w2 ⟨rfl, hb2⟩
  have I2 := I1.step hb2
  clear I1 hb2
  have hB2 : blkB z.f z.t a o = false := by
    cases hb : blkB z.f z.t a o with
    | false => rfl
    | true => exact absurd ((blkB_iff z.f z.t a o).1 hb) ho
  rw [hB2]
  have R1 := I2.res
  obtain ⟨⟨x0, d0⟩, ⟨x1, d1⟩, ⟨x2, d2⟩, ⟨x3, d3⟩, z0, z1, z2, z3⟩ := id R1
  have hB := I2.b
  have hs := I2.size
  clear hM I2 c0 c1 c2 c3 ho hB2
  go_wp2
  obtain ⟨k0, k1, k2, k3⟩ := res4 R1 (.int .i64 0) (.int .i64 0) (.slice none 0 0) (.slice none 0 0)
  have hbt := but4 w2 (w.heap.size + 1) (.int .i64 0) (.int .i64 0) (.slice none 0 0) (.slice none 0 0)
  exact bodyPost_ret (v := .tuple #[.agg #[.int .i64 0, .int .i64 0, .slice none 0 0, .slice none 0 0], .int .i64 1]) (by simp [results, Try.results13, go_sem, k0, k1, k2, k3]) rfl ⟨rfl, hB.trans (hbt.below (by omega) (by omega))⟩

set_option maxHeartbeats 2000000 in
theorem backOf_twice (w : World) (fo : Option Addr) (fn fc : Nat) (to_ : Option Addr) (tn tc : Nat) (z : Zn) (a o : Int) (h : ZnAt w fo fn to_ tn z) (hM : ZMay z) (ho : blkIn z.f z.t a o) (hv : ovlP z.free a o) :
    Calls Try.prog 13 #[.agg #[.int .i64 z.f, .int .i64 z.t, .slice fo fn fc, .slice to_ tn tc], .int .i64 a, .int .i64 o] w fun e w' => RetNone 5 e ∧ Below w.heap.size w w' := by
  have I0 := baInv_first w fo fn fc to_ tn tc z h
  have c0 := I0.box.c0
  have c1 := I0.box.c1
  have c2 := I0.box.c2
  have c3 := I0.box.c3
  clear h
  go_enter Try.func13, Try.ntmps13
  go_wp2_with fail
  go_at_call 18
  refine (zoneMay_any _ fo fn fc to_ tn tc z I0.zn).mono ?_
  rintro e w1 ⟨⟨r, rfl, hr⟩, hb1⟩
  have I1 := I0.step hb1
  obtain rfl : r = true := hr.2 hM
  replace c0 := I1.box.c0
  replace c1 := I1.box.c1
  replace c2 := I1.box.c2
  replace c3 := I1.box.c3
  clear hr I0 hb1
  go_wp2_with fail
  go_at_call 28
  refine (blockMay_any _ z.f z.t fo to_ fn fc tn tc a o hM.new).mono ?_
  rintro e w2 ⟨rfl, hb2⟩
  have I2 := I1.step hb2
  clear I1 hb2
  rw [(blkB_iff z.f z.t a o).2 ho]
  replace c2 := I2.box.c2
  obtain ⟨n1, n2, n3, n4, n5⟩ := hM.new
  have HO := overlaps_any w2 fo fn fc z.free a o I2.zn.free (may_nums hM) ho.1 (by have := ho.2.1; omega) (by have := ho.2.2.1; omega)
  clear c0 c1 c3
  go_wp2_with fail
  go_at_call 29
  refine HO.mono ?_
  rintro e w3 ⟨⟨r, rfl, hr⟩, d, rfl⟩
  obtain rfl : r = true := hr.2 hv
  have I3 := I2.step (below_drawn d)
  obtain ⟨W3, hW3⟩ : ∃ W3, w2.drewN d = W3 := ⟨_, rfl⟩
  rw [hW3] at I3 ⊢
  have R1 := I3.res
  obtain ⟨⟨x0, d0⟩, ⟨x1, d1⟩, ⟨x2, d2⟩, ⟨x3, d3⟩, z0, z1, z2, z3⟩ := id R1
  have hB := I3.b
  have hs := I3.size
  clear hM I2 I3 c2 ho hv hr HO hW3
  go_wp2
  obtain ⟨k0, k1, k2, k3⟩ := res4 R1 (.int .i64 0) (.int .i64 0) (.slice none 0 0) (.slice none 0 0)
  have hbt := but4 W3 (w.heap.size + 1) (.int .i64 0) (.int .i64 0) (.slice none 0 0) (.slice none 0 0)
  exact bodyPost_ret (v := .tuple #[.agg #[.int .i64 0, .int .i64 0, .slice none 0 0, .slice none 0 0], .int .i64 5]) (by simp [results, Try.results13, go_sem, k0, k1, k2, k3]) rfl ⟨rfl, hB.trans (hbt.below (by omega) (by omega))⟩

end Go.Proofs.Ytamkgakhgfhmjae
