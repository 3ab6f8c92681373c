/-
  OWN TEXTS, bundled: RefZk, RefZk2, RefF, RefR0, RefM0.
-/
import Derived.Test.YtbjlbmofdnkmiaaPagesNewPart15
import Derived.Test.YtbjlbmofdnkmiaaPagesNewPart5
import Derived.Test.YtbjlbmofdnkmiaaPagesNewPart4
import Derived.Deep.CutBlock
import Derived.Deep.DeepCutAuto
import Derived.Test.YtbjlbmofdnkmiaaPagesNewPart13

/-
  OWN TEXT. Contracts of the document's answer: BackOf.
-/
namespace Go.Proofs.Ytbjlbmofdnkmiaa
open Go Go.RowKit Go.Proofs.Ytbjlbmofdnkmiaa.Kit

/-- The world in the midst of BackOf: its argument's box, the result's block, and what can be read. -/
structure BaInv (w : World) (fo : Option Addr) (fn fc : Nat) (to_ : Option Addr) (tn tc : Nat) (z : Zn) (W : World) : Prop where
  size : w.heap.size + 2 ≤ W.heap.size
  b : Below w.heap.size w W
  box : ZBox W w.heap.size (.int .i64 z.f) (.int .i64 z.t) (.slice fo fn fc) (.slice to_ tn tc)
  res : Res4 W (w.heap.size + 1)
  zn : ZnAt W fo fn to_ tn z

theorem BaInv.step {w : World} {fo : Option Addr} {fn fc : Nat} {to_ : Option Addr} {tn tc : Nat} {z : Zn} {W W' : World} (h : BaInv w fo fn fc to_ tn tc z W) (hb : Below W.heap.size W W') : BaInv w fo fn fc to_ tn tc z W' :=
  ⟨Nat.le_trans h.size hb.size, h.b.trans (hb.mono h.b.size), h.box.below hb, h.res.below hb, h.zn.below hb⟩

theorem baInv_first (w : World) (fo : Option Addr) (fn fc : Nat) (to_ : Option Addr) (tn tc : Nat) (z : Zn) (h : ZnAt w fo fn to_ tn z) :
    BaInv w fo fn fc to_ tn tc z ((w.alloc (.cells #[.int .i64 z.f, .int .i64 z.t, .slice fo fn fc, .slice to_ tn tc] 44)).alloc (.cells #[.int .i64 0, .int .i64 0, .slice none 0 0, .slice none 0 0] 44)) := by
  have hb2 : Below w.heap.size w ((w.alloc (.cells #[.int .i64 z.f, .int .i64 z.t, .slice fo fn fc, .slice to_ tn tc] 44)).alloc (.cells #[.int .i64 0, .int .i64 0, .slice none 0 0, .slice none 0 0] 44)) := ((Below.refl _ _).alloc (Nat.le_refl _) _).alloc (by simp) _
  have R0 : Res4 ((w.alloc (.cells #[.int .i64 z.f, .int .i64 z.t, .slice fo fn fc, .slice to_ tn tc] 44)).alloc (.cells #[.int .i64 0, .int .i64 0, .slice none 0 0, .slice none 0 0] 44)) (w.heap.size + 1) := by
    have := zbox_new (w.alloc (.cells #[.int .i64 z.f, .int .i64 z.t, .slice fo fn fc, .slice to_ tn tc] 44)) (.int .i64 0) (.int .i64 0) (.slice none 0 0) (.slice none 0 0) 44
    have h2 := this.res
    simpa using h2
  exact ⟨by simp, hb2, (zbox_new w _ _ _ _ _).below (below_box _ _), R0, h.below hb2⟩

set_option maxHeartbeats 2000000 in
theorem backOf_no (w : World) (fo : Option Addr) (fn fc : Nat) (to_ : Option Addr) (tn tc : Nat) (z : Zn) (a o : Int) (h : ZnAt w fo fn to_ tn z) (hM : ¬ ZMay z) :
    Calls Try.prog 27 #[.agg #[.int .i64 z.f, .int .i64 z.t, .slice fo fn fc, .slice to_ tn tc], .int .i64 a, .int .i64 o] w fun e w' => RetNone 8 e ∧ Below w.heap.size w w' := by
  have I0 := baInv_first w fo fn fc to_ tn tc z h
  have c0 := I0.box.c0
  have c1 := I0.box.c1
  have c2 := I0.box.c2
  have c3 := I0.box.c3
  clear h
  go_enter Try.func27, Try.ntmps27
  go_wp2_with fail
  go_at_call 36
  refine (zoneMay_any _ fo fn fc to_ tn tc z I0.zn).mono ?_
  rintro e w1 ⟨⟨r, rfl, hr⟩, hb1⟩
  have I1 := I0.step hb1
  obtain rfl : r = false := by
    cases r with
    | false => rfl
    | true => exact absurd (hr.1 rfl) hM
  have R1 := I1.res
  obtain ⟨⟨x0, d0⟩, ⟨x1, d1⟩, ⟨x2, d2⟩, ⟨x3, d3⟩, z0, z1, z2, z3⟩ := id R1
  have hB := I1.b
  have hs := I1.size
  clear hr hM I0 I1 hb1 c0 c1 c2 c3
  go_wp2
  obtain ⟨k0, k1, k2, k3⟩ := res4 R1 (.int .i64 0) (.int .i64 0) (.slice none 0 0) (.slice none 0 0)
  have hbt := but4 w1 (w.heap.size + 1) (.int .i64 0) (.int .i64 0) (.slice none 0 0) (.slice none 0 0)
  exact bodyPost_ret (v := .tuple #[.agg #[.int .i64 0, .int .i64 0, .slice none 0 0, .slice none 0 0], .int .i64 8]) (by simp [results, Try.results27, go_sem, k0, k1, k2, k3]) rfl ⟨rfl, hB.trans (hbt.below (by omega) (by omega))⟩


theorem may_nums {z : Zn} (h : ZMay z) : ∀ i, i < z.free.length → ordOk (z.free.getD i .zero).o ∧ 0 ≤ (z.free.getD i .zero).a ∧ (z.free.getD i .zero).a ≤ 256 := fun i hi => by
  obtain ⟨⟨h1, h2, h3, h4⟩, _⟩ := freeOk_at h.free hi rfl
  obtain ⟨g1, g2, g3, g4, g5⟩ := h.new
  exact ⟨h1, by omega, by omega⟩

set_option maxHeartbeats 2000000 in
theorem backOf_range (w : World) (fo : Option Addr) (fn fc : Nat) (to_ : Option Addr) (tn tc : Nat) (z : Zn) (a o : Int) (h : ZnAt w fo fn to_ tn z) (hM : ZMay z) (ho : ¬ blkIn z.f z.t a o) :
    Calls Try.prog 27 #[.agg #[.int .i64 z.f, .int .i64 z.t, .slice fo fn fc, .slice to_ tn tc], .int .i64 a, .int .i64 o] w fun e w' => RetNone 1 e ∧ Below w.heap.size w w' := by
  have I0 := baInv_first w fo fn fc to_ tn tc z h
  have c0 := I0.box.c0
  have c1 := I0.box.c1
  have c2 := I0.box.c2
  have c3 := I0.box.c3
  clear h
  go_enter Try.func27, Try.ntmps27
  go_wp2_with fail
  go_at_call 36
  refine (zoneMay_any _ fo fn fc to_ tn tc z I0.zn).mono ?_
  rintro e w1 ⟨⟨r, rfl, hr⟩, hb1⟩
  have I1 := I0.step hb1
  obtain rfl : r = true := hr.2 hM
  replace c0 := I1.box.c0
  replace c1 := I1.box.c1
  replace c2 := I1.box.c2
  replace c3 := I1.box.c3
  clear hr I0 hb1
  go_wp2_with fail
  go_at_call 61
  refine (blockMay_any _ z.f z.t fo to_ fn fc tn tc a o hM.new).mono ?_
  rintro e w2 ⟨rfl, hb2⟩
  have I2 := I1.step hb2
  clear I1 hb2
  have hB2 : blkB z.f z.t a o = false := by
    cases hb : blkB z.f z.t a o with
    | false => rfl
    | true => exact absurd ((blkB_iff z.f z.t a o).1 hb) ho
  rw [hB2]
  have R1 := I2.res
  obtain ⟨⟨x0, d0⟩, ⟨x1, d1⟩, ⟨x2, d2⟩, ⟨x3, d3⟩, z0, z1, z2, z3⟩ := id R1
  have hB := I2.b
  have hs := I2.size
  clear hM I2 c0 c1 c2 c3 ho hB2
  go_wp2
  obtain ⟨k0, k1, k2, k3⟩ := res4 R1 (.int .i64 0) (.int .i64 0) (.slice none 0 0) (.slice none 0 0)
  have hbt := but4 w2 (w.heap.size + 1) (.int .i64 0) (.int .i64 0) (.slice none 0 0) (.slice none 0 0)
  exact bodyPost_ret (v := .tuple #[.agg #[.int .i64 0, .int .i64 0, .slice none 0 0, .slice none 0 0], .int .i64 1]) (by simp [results, Try.results27, go_sem, k0, k1, k2, k3]) rfl ⟨rfl, hB.trans (hbt.below (by omega) (by omega))⟩

set_option maxHeartbeats 2000000 in
theorem backOf_twice (w : World) (fo : Option Addr) (fn fc : Nat) (to_ : Option Addr) (tn tc : Nat) (z : Zn) (a o : Int) (h : ZnAt w fo fn to_ tn z) (hM : ZMay z) (ho : blkIn z.f z.t a o) (hv : ovlP z.free a o) :
    Calls Try.prog 27 #[.agg #[.int .i64 z.f, .int .i64 z.t, .slice fo fn fc, .slice to_ tn tc], .int .i64 a, .int .i64 o] w fun e w' => RetNone 5 e ∧ Below w.heap.size w w' := by
  have I0 := baInv_first w fo fn fc to_ tn tc z h
  have c0 := I0.box.c0
  have c1 := I0.box.c1
  have c2 := I0.box.c2
  have c3 := I0.box.c3
  clear h
  go_enter Try.func27, Try.ntmps27
  go_wp2_with fail
  go_at_call 36
  refine (zoneMay_any _ fo fn fc to_ tn tc z I0.zn).mono ?_
  rintro e w1 ⟨⟨r, rfl, hr⟩, hb1⟩
  have I1 := I0.step hb1
  obtain rfl : r = true := hr.2 hM
  replace c0 := I1.box.c0
  replace c1 := I1.box.c1
  replace c2 := I1.box.c2
  replace c3 := I1.box.c3
  clear hr I0 hb1
  go_wp2_with fail
  go_at_call 61
  refine (blockMay_any _ z.f z.t fo to_ fn fc tn tc a o hM.new).mono ?_
  rintro e w2 ⟨rfl, hb2⟩
  have I2 := I1.step hb2
  clear I1 hb2
  rw [(blkB_iff z.f z.t a o).2 ho]
  replace c2 := I2.box.c2
  obtain ⟨n1, n2, n3, n4, n5⟩ := hM.new
  have HO := overlaps_any w2 fo fn fc z.free a o I2.zn.free (may_nums hM) ho.1 (by have := ho.2.1; omega) (by have := ho.2.2.1; omega)
  clear c0 c1 c3
  go_wp2_with fail
  go_at_call 38
  refine HO.mono ?_
  rintro e w3 ⟨⟨r, rfl, hr⟩, d, rfl⟩
  obtain rfl : r = true := hr.2 hv
  have I3 := I2.step (below_drawn d)
  obtain ⟨W3, hW3⟩ : ∃ W3, w2.drewN d = W3 := ⟨_, rfl⟩
  rw [hW3] at I3 ⊢
  have R1 := I3.res
  obtain ⟨⟨x0, d0⟩, ⟨x1, d1⟩, ⟨x2, d2⟩, ⟨x3, d3⟩, z0, z1, z2, z3⟩ := id R1
  have hB := I3.b
  have hs := I3.size
  clear hM I2 I3 c2 ho hv hr HO hW3
  go_wp2
  obtain ⟨k0, k1, k2, k3⟩ := res4 R1 (.int .i64 0) (.int .i64 0) (.slice none 0 0) (.slice none 0 0)
  have hbt := but4 W3 (w.heap.size + 1) (.int .i64 0) (.int .i64 0) (.slice none 0 0) (.slice none 0 0)
  exact bodyPost_ret (v := .tuple #[.agg #[.int .i64 0, .int .i64 0, .slice none 0 0, .slice none 0 0], .int .i64 5]) (by simp [results, Try.results27, go_sem, k0, k1, k2, k3]) rfl ⟨rfl, hB.trans (hbt.below (by omega) (by omega))⟩

end Go.Proofs.Ytbjlbmofdnkmiaa

/-
  OWN TEXT. Contracts of the document's answer: BackOf where it answers a zone.
-/
namespace Go.Proofs.Ytbjlbmofdnkmiaa
open Go Go.RowKit Go.Proofs.Ytbjlbmofdnkmiaa.Kit

/-- A zone in a variable that was laid behind w4: its box, its free blocks; its types are those that w4 had. -/
structure OutInv (B : Nat) (w4 : World) (z : Zn) (uo : Option Addr) (un uc : Nat) (l : List Bk) (W : World) : Prop where
  b : Below w4.heap.size w4 W
  ex : ∃ lo ln lc, ZBox W w4.heap.size (.int .i64 z.f) (.int .i64 z.t) (.slice lo ln lc) (.slice uo un uc) ∧ Blks W lo ln l ∧ Fresh B lo

theorem OutInv.step {B : Nat} {w4 : World} {z : Zn} {uo : Option Addr} {un uc : Nat} {l : List Bk} {W W' : World} (h : OutInv B w4 z uo un uc l W) (hb : Below W.heap.size W W') : OutInv B w4 z uo un uc l W' := by
  obtain ⟨lo, ln, lc, hz, hl, hf⟩ := h.ex
  exact ⟨h.b.trans (hb.mono h.b.size), lo, ln, lc, hz.below hb, hl.below hb, hf⟩

/-- The free blocks are taken over. -/
theorem OutInv.take {B : Nat} {w4 : World} {z : Zn} {uo : Option Addr} {un uc : Nat} {l m : List Bk} {W : World} (h : OutInv B w4 z uo un uc l W) {lo : Option Addr} {ln lc : Nat} (hm : Blks W lo ln m) (hf : Fresh (w4.heap.size + 1) lo) (hB : B ≤ w4.heap.size + 1) : OutInv B w4 z uo un uc m (W.setCell ⟨w4.heap.size, 2, none⟩ (.slice lo ln lc)) := by
  obtain ⟨_, _, _, hz, _, _⟩ := h.ex
  have hbt : But w4.heap.size W (W.setCell ⟨w4.heap.size, 2, none⟩ (.slice lo ln lc)) := (But.refl _ _).setCell _
  exact ⟨h.b.trans (hbt.below (Nat.le_refl _) h.b.size), lo, ln, lc, hz.set2 _, hbt.blks hm (fun a ha => by have := hf a ha; omega), hf.mono hB⟩

theorem tail_keep {W : World} {ob wz g k : Nat} {v p q x : Value} (h : W.cell? ⟨ob, 3, none⟩ = some p ∧ W.cell? ⟨wz, 0, none⟩ = some q ∧ W.cell? ⟨g, k, none⟩ = some x) (hg : g ≠ ob) :
    (W.setCell ⟨ob, 2, none⟩ v).cell? ⟨ob, 3, none⟩ = some p ∧ (W.setCell ⟨ob, 2, none⟩ v).cell? ⟨wz, 0, none⟩ = some q ∧ (W.setCell ⟨ob, 2, none⟩ v).cell? ⟨g, k, none⟩ = some x :=
  ⟨(World.cell?_setCell_other _ _ _ _ (by simp)).trans h.1, (World.cell?_setCell_other _ _ _ _ (by simp)).trans h.2.1, (World.cell?_setCell_other _ _ _ _ (by intro e; cases e; exact hg rfl)).trans h.2.2⟩

theorem may_in {z : Zn} (h : ZMay z) : ∀ b ∈ z.free, blkIn z.f z.t b.a b.o := by
  intro b hb
  obtain ⟨i, hi, rfl⟩ := List.getElem_of_mem hb
  have := (freeOk_at h.free hi rfl).1
  rw [List.getD_eq_getElem?_getD, List.getElem?_eq_getElem hi] at this
  exact this

set_option maxHeartbeats 4000000 in
theorem backOf_ok (w : World) (fo : Option Addr) (fn fc : Nat) (to_ : Option Addr) (tn tc : Nat) (z : Zn) (a o : Int) (h : ZnAt w fo fn to_ tn z) (hM : ZMay z) (ho : blkIn z.f z.t a o) (hv : ¬ ovlP z.free a o) :
    Calls Try.prog 27 #[.agg #[.int .i64 z.f, .int .i64 z.t, .slice fo fn fc, .slice to_ tn tc], .int .i64 a, .int .i64 o] w fun e w' => RetZone w.heap.size w' (backZ z a o) e ∧ Below w.heap.size w w' := by
  have I0 := baInv_first w fo fn fc to_ tn tc z h
  have c0 := I0.box.c0
  have c1 := I0.box.c1
  have c2 := I0.box.c2
  have c3 := I0.box.c3
  clear h
  go_enter Try.func27, Try.ntmps27
  go_wp2_with fail
  go_at_call 36
  refine (zoneMay_any _ fo fn fc to_ tn tc z I0.zn).mono ?_
  rintro e w1 ⟨⟨r, rfl, hr⟩, hb1⟩
  have I1 := I0.step hb1
  obtain rfl : r = true := hr.2 hM
  replace c0 := I1.box.c0
  replace c1 := I1.box.c1
  replace c2 := I1.box.c2
  replace c3 := I1.box.c3
  clear hr I0 hb1
  go_wp2_with fail
  go_at_call 61
  refine (blockMay_any _ z.f z.t fo to_ fn fc tn tc a o hM.new).mono ?_
  rintro e w2 ⟨rfl, hb2⟩
  have I2 := I1.step hb2
  clear I1 hb2
  rw [(blkB_iff z.f z.t a o).2 ho]
  replace c2 := I2.box.c2
  obtain ⟨n1, n2, n3, n4, n5⟩ := hM.new
  have HO := overlaps_any w2 fo fn fc z.free a o I2.zn.free (may_nums hM) ho.1 (by have := ho.2.1; omega) (by have := ho.2.2.1; omega)
  clear c0 c1 c3
  go_wp2_with fail
  go_at_call 38
  refine HO.mono ?_
  rintro e w3 ⟨⟨r, rfl, hr⟩, d, rfl⟩
  obtain rfl : r = false := by
    cases r with
    | false => rfl
    | true => exact absurd (hr.1 rfl) hv
  have I3 := I2.step (below_drawn d)
  obtain ⟨W3, hW3⟩ : ∃ W3, w2.drewN d = W3 := ⟨_, rfl⟩
  rw [hW3] at I3 ⊢
  clear hr HO hW3 I2 c2 hv
  have c0 := I3.box.c0
  have c1 := I3.box.c1
  have c2 := I3.box.c2
  have c3 := I3.box.c3
  go_wp2_with fail
  go_at_call 44
  refine (zoneCopy_any W3 fo fn fc to_ tn tc z I3.zn).mono ?_
  rintro e w4 ⟨⟨lo, ln, lc, uo, un, uc, rfl, hz4, f1, f2⟩, hb4⟩
  have hbx := below_box w4 (.cells #[.int .i64 z.f, .int .i64 z.t, .slice lo ln lc, .slice uo un uc] 44)
  have I4 := I3.step hb4
  have hs3 := I3.size
  have O4 : OutInv (w.heap.size + 2) w4 z uo un uc z.free (w4.alloc (.cells #[.int .i64 z.f, .int .i64 z.t, .slice lo ln lc, .slice uo un uc] 44)) :=
    ⟨hbx, lo, ln, lc, zbox_new _ _ _ _ _ _, (hz4.below hbx).free, f1.mono hs3⟩
  have hcnt : z.free.length ≤ 256 := by have := freeOk_count hM.free n5 n2; omega
  have hin := may_in hM
  have hT4 := hz4.types
  have hFu : Fresh (w.heap.size + 2) uo := f2.mono hs3
  have hlen := hM.len
  have hs4 := I4.size
  obtain ⟨R, hR⟩ : ∃ R, backGo (4 - o).toNat z.free a o = R := ⟨_, rfl⟩
  have HR : Hid (backZ z a o = ⟨z.f, z.t, addB R.1 ⟨R.2.1, R.2.2, z.types.getD ((R.2.1 - z.f) / 8).toNat 0⟩, z.types⟩) := by show _ = _; unfold backZ; rw [hR]
  have HR0 : Hid (backGo (4 - o).toNat z.free a o = R) := hR
  clear c0 c1 c2 c3 I3 hb4 hbx f1 f2 hz4 hM hR
  go_upto_block 0 with fail
  go_cut [1, 2] (fun av ov W => ∃ (AN : Nat) (O : Int) (l : List Bk), av = .int .i64 AN ∧ ov = .int .i64 O ∧ blkIn z.f z.t AN O ∧ Hid (R = (l, ((AN : Int)), O)) ∧ l.length ≤ 256 ∧ OutInv (w.heap.size + 2) w4 z uo un uc l W)
  case rest =>
    obtain ⟨AN, O, l, rfl, rfl, hA, hRR, hlen2, OI⟩ := hcut
    obtain ⟨⟨o0, o4⟩, a1, a2, a3⟩ := id hA
    clear O4 HR0 hin hcnt ho hA
    go_wp2_with fail
    obtain ⟨l5, m5, k5, Z5, hB5, hF5⟩ := OI.ex
    have IX := I4.step OI.b
    have y2 := Z5.c2
    have y3 := Z5.c3
    have yz := Z5.z2
    have y0 := IX.box.c0
    obtain ⟨K, hK⟩ : ∃ K : Nat, ((AN : Int) - z.f) / 8 = (K : Int) := ⟨(((AN : Int) - z.f) / 8).toNat, by omega⟩
    have htl := hT4.len
    have hKn : K < un := by omega
    obtain ⟨g, of, x, rfl, cx, hX⟩ := (hT4.below OI.b).at_.at K (by omega)
    have hgo : g ≠ w4.heap.size := by
      obtain ⟨g', of', x', hu', cx', _⟩ := hT4.at_.at K (by omega)
      cases hu'
      have := World.block_lt_of_cell? w4 _ cx'
      dsimp only at this
      omega
    have hS0 : wc.drew.cell? ⟨w4.heap.size, 3, none⟩ = some (.slice (some ⟨g, of, none⟩) un uc) ∧ wc.drew.cell? ⟨w.heap.size, 0, none⟩ = some (.int .i64 z.f) ∧ wc.drew.cell? ⟨g, of + K, none⟩ = some (.int .i64 x) := ⟨by simpa using y3, by simpa using y0, by simpa using cx⟩
    obtain ⟨D, hD⟩ : ∃ D : Nat, (AN : Int) - z.f = (D : Int) := ⟨((AN : Int) - z.f).toNat, by omega⟩
    have hDK : D / 8 = K := by omega
    have hq8 : (D : Int) / 8 = (K : Int) := by omega
    have hKi : (K : Int) < (un : Int) := by omega
    have hTr := hT4.reach
    have hw1 : IntKind.i64.wrap (D : Int) = (D : Int) := IntWalk.i64_in _ (by omega)
    have hw2 : IntKind.i64.wrap (K : Int) = (K : Int) := IntWalk.i64_in _ (by omega)
    have htd : ((D : Int)).tdiv 8 = (K : Int) := by rw [Int.tdiv_eq_ediv_of_nonneg (by omega)]; omega
    have htd2 : ((AN : Int) - z.f).tdiv 8 = (K : Int) := by rw [Int.tdiv_eq_ediv_of_nonneg (by omega)]; omega
    have hty : Hid (z.types.getD (((AN : Int) - z.f) / 8).toNat 0 = x) := by show _ = _; rw [hK]; simpa using hX.out
    have HZ : Hid (backZ z a o = ⟨z.f, z.t, addB l ⟨AN, O, x⟩, z.types⟩) := by
      show _ = _
      rw [HR.out, hRR.out]
      dsimp only
      rw [hty.out]
    have HWB0 := withBlock_any wc.drew l5 m5 k5 l ⟨AN, O, x⟩ (hB5.below (Below.refl _ _).drew) (by have := hB5.len; omega)
    dsimp only at HWB0
    have HWB := HWB0.mono (fun e w' (hh : ∃ bo c, e = .returned (.slice bo (m5 + 1) c) ∧ w'.ownsRow wc.drew.heap.size 63 3 (.slice bo (m5 + 1) c) (m5 + 1) (bvals (addB l ⟨AN, O, x⟩)) ∧ Below wc.drew.heap.size wc.drew w') => (show ∃ bo c, e = .returned (.slice bo (m5 + 1) c) ∧ w'.ownsRow wc.drew.heap.size 63 3 (.slice bo (m5 + 1) c) (m5 + 1) (bvals (addB l ⟨AN, O, x⟩)) ∧ Below wc.drew.heap.size wc.drew w' ∧ w'.cell? ⟨w4.heap.size, 2, none⟩ = some (.slice l5 m5 k5) ∧ w'.frozen? ⟨w4.heap.size, 2, none⟩ = false ∧ (w'.cell? ⟨w4.heap.size, 3, none⟩ = some (.slice (some ⟨g, of, none⟩) un uc) ∧ w'.cell? ⟨w.heap.size, 0, none⟩ = some (.int .i64 z.f) ∧ w'.cell? ⟨g, of + K, none⟩ = some (.int .i64 x)) by
      obtain ⟨bo, c, he, ho, hb⟩ := hh
      have Zd := (Z5.belowB (B := wc.heap.size) (Below.refl _ _).drew Z5.lt).below hb
      exact ⟨bo, c, he, ho, hb, Zd.c2, Zd.z2, Zd.c3, keep hS0.2.1 hb, keep hS0.2.2 hb⟩))
    clear HWB0
    have hm5 : m5 ≤ 256 := by have := hB5.len; omega
    have hobx := Z5.lt
    clear hRR hty HR hX
    go_region_with (go_at_call 62; refine HWB.mono ?_; rintro e w6 ⟨bo6, c6, rfl, own6, hb6, q62, q6z, q6S⟩)
    all_goals
      have Wd : Below wc.heap.size wc wc.drew := (Below.refl _ _).drew
      have hb6' : Below wc.heap.size wc w6 := Wd.trans hb6
      have Z7 := ((Z5.belowB Wd Z5.lt).below hb6).set2 (.slice bo6 (m5 + 1) c6)
      have I6 := IX.step hb6'
      have hbt : But w4.heap.size w6 (w6.setCell ⟨w4.heap.size, 2, none⟩ (.slice bo6 (m5 + 1) c6)) := (But.refl _ _).setCell _
      have R7 := I6.res.but hbt (by omega)
      have hfr6 : Fresh wc.heap.size bo6 := owns_fresh own6
      have B7 := hbt.blks (blks_own own6 (by omega)) (fun a ha => by have := hfr6 a ha; omega)
      have N7 := hbt.nums (hT4.below (OI.b.trans (hb6'.mono OI.b.size))) (fun a ha => by cases ha; exact hgo)
      have hs6 := I6.size
      have hB7 := I6.b.trans (hbt.below (B := w.heap.size) (by omega) (by omega))
      have e0 := Z7.c0
      have e1 := Z7.c1
      have e2 := Z7.c2
      have e3 := Z7.c3
      have hs7 := hbt.size
      obtain ⟨W7, hW7⟩ : ∃ W7, w6.setCell ⟨w4.heap.size, 2, none⟩ (.slice bo6 (m5 + 1) c6) = W7 := ⟨_, rfl⟩
      rw [hW7] at R7 B7 N7 hB7 e0 e1 e2 e3 hs7 ⊢
      obtain ⟨⟨r0, s0⟩, ⟨r1, s1⟩, ⟨r2, s2⟩, ⟨r3, s3⟩, v0, v1, v2, v3⟩ := id R7
      clear hW7 Wd hb6' Z7 I6 hbt own6 hb6 q62 q6z q6S hw1 hw2 htd htd2 hq8 hD hDK hK HWB Z5 IX OI
      go_wp2
      obtain ⟨k0, k1, k2, k3⟩ := res4 R7 (.int .i64 z.f) (.int .i64 z.t) (.slice bo6 (m5 + 1) c6) (.slice (some ⟨g, of, none⟩) un uc)
      have hbu := but4 W7 (w.heap.size + 1) (.int .i64 z.f) (.int .i64 z.t) (.slice bo6 (m5 + 1) c6) (.slice (some ⟨g, of, none⟩) un uc)
      refine bodyPost_ret (v := .tuple #[.agg #[.int .i64 z.f, .int .i64 z.t, .slice bo6 (m5 + 1) c6, .slice (some ⟨g, of, none⟩) un uc], .int .i64 0]) (by simp [results, Try.results27, go_sem, k0, k1, k2, k3]) rfl ⟨?_, hB7.trans (hbu.below (by omega) (by omega))⟩
      rw [HZ.out]
      exact ⟨bo6, m5 + 1, c6, some ⟨g, of, none⟩, un, uc, rfl, hbu.zn ⟨B7, N7⟩ (fun a ha => by have := hfr6 a ha; omega) (fun a ha => by have := hFu a ha; omega), hfr6.mono (by omega), hFu.mono (by omega)⟩
  case first =>
    go_wp2_with fail
    go_loopw [1, 2] (fun av ov wr => ∃ (A O : Int) (l : List Bk), av = .int .i64 A ∧ ov = .int .i64 O ∧ blkIn z.f z.t A O ∧ Hid (backGo (4 - O).toNat l A O = R) ∧ (∀ b ∈ l, blkIn z.f z.t b.a b.o) ∧ l.length ≤ 256 ∧ OutInv (w.heap.size + 2) w4 z uo un uc l wr) (fun _ ov _ => (4 - intOf ov).toNat)
    case atStart => exact ⟨a, o, z.free, rfl, rfl, ho, HR0, hin, hcnt, O4⟩
    case round =>
      obtain ⟨A, O, l, rfl, rfl, hA, hG, hL, hlen2, OI⟩ := hrel
      clear O4 HR0 hin hcnt ho
      obtain ⟨⟨o0, o4⟩, a1, a2, a3⟩ := id hA
      obtain ⟨lo', ln', lc', Z, hB, hFr⟩ := OI.ex
      have x2 := Z.c2
      have z2 := Z.z2
      obtain ⟨AN, rfl⟩ : ∃ AN : Nat, A = AN := ⟨A.toNat, by omega⟩
      by_cases hO : O < 4
      · obtain ⟨P, hP⟩ : ∃ P, pw O = P := ⟨_, rfl⟩
        have HP : Hid (pw O = P) := hP
        have p1 := pw_pos O
        have p2 := pw_le hA.1
        obtain ⟨P2, hP2, hP2p, hP2q⟩ : ∃ P2 : Nat, pw (O + 1) = P2 ∧ 0 < P2 ∧ P2 ≤ 16 := ⟨(pw (O + 1)).toNat, by have := pw_pos (O + 1); omega, by have := pw_pos (O + 1); omega, by have := pw_le (o := O + 1) ⟨by omega, by omega⟩; omega⟩
        have HP2 : Hid (pw (O + 1) = P2) := hP2
        have hP20 : ((P2 : Int) == 0) = false := by simp; omega
        rw [hP] at p1 p2
        obtain ⟨n, hn⟩ : ∃ n : Nat, (4 - O).toNat = n + 1 := ⟨(4 - O).toNat - 1, by omega⟩
        have hn2 : (4 - (O + 1)).toNat = n := by omega
        have HN2 : Hid _ := hn2
        have hG1 := hG.out
        rw [hn] at hG1
        clear hG hn2 hP hP2
        by_cases hm : (AN : Int) % (P2 : Int) = 0
        · have hbs : besideA (AN : Int) O = AN + P := by unfold besideA; rw [HP2.out, if_pos hm, HP.out]
          have HW := without_any wr lo' ln' lc' l ((AN : Int) + P) O hB
          go_wp2_with fail
          go_at_call 39
          refine (power_v O P o0 (by omega) HP.out _).mono ?_
          rintro e w' ⟨rfl, rfl⟩
          go_wp2_with fail
          go_at_call 39
          refine (power_v (O + 1) P2 (by omega) (by omega) HP2.out _).mono ?_
          rintro e w' ⟨rfl, rfl⟩
          go_wp2_with fail
          go_at_call 50
          refine HW.mono ?_
          rintro e w5 ⟨bo, m, c, rfl, own, hb5⟩
          have OI5 := OI.step hb5
          have hob := Z.lt
          have x2' := (Z.below hb5).c2
          have z2' := (Z.below hb5).z2
          have hm256 : m ≤ 256 := by have h1 := bowns_len own; have h2 := dropB_len l ((AN : Int) + P) O; omega
          have hb6 : Blks w5 bo m (dropB l ((AN : Int) + P) O) := blks_own own (by omega)
          have hfb : Fresh (w4.heap.size + 1) bo := (owns_fresh own).mono (by omega)
          clear HW own OI Z x2 z2 hB hFr
          cases hh : hasB l ((AN : Int) + P) O with
          | true =>
            have hG2 : Hid (backGo (4 - (O + 1)).toNat (dropB l ((AN : Int) + P) O) ((AN : Int)) (O + 1) = R) := by
              show _ = _
              rw [HN2.out, ← hG1, backGo, hbs, if_pos hh]
              rw [if_neg (by omega)]
            have hA2 : blkIn z.f z.t ((AN : Int)) (O + 1) := by
              have h1 := join_in hA (by rw [hbs]; exact hasB_in hh hL) hO
              rw [hbs] at h1
              rw [if_neg (by omega)] at h1; exact h1
            have hL2 : ∀ b ∈ dropB l ((AN : Int) + P) O, blkIn z.f z.t b.a b.o := fun b hb => hL b (dropB_mem hb)
            have hlen3 : (dropB l ((AN : Int) + P) O).length ≤ 256 := by have := dropB_len l ((AN : Int) + P) O; omega
            have OI6 := OI5.take (lc := c) hb6 hfb (by omega)
            obtain ⟨D, hD⟩ : ∃ D, dropB l ((AN : Int) + P) O = D := ⟨_, rfl⟩
            rw [hD] at hG2 hL2 hlen3 OI6
            clear hG1 hL hb6 hfb OI5 hh hD hbs hb5
            go_wp2
            go_roundw
            case rel => exact ⟨(AN : Int), O + 1, D, by go_num, by go_num, hA2, hG2, hL2, hlen3, OI6⟩
            case measure => simp [intOf]; omega
          | false =>
            have hRR : Hid (R = (l, ((AN : Int)), O)) := by
              show _ = _
              rw [← hG1, backGo, hbs, hh, if_neg (by simp)]
            clear hG1 hL hb6 hfb hh hbs hb5 hm x2' z2'
            go_wp2
            go_meet
            exact ⟨AN, O, l, rfl, rfl, hA, hRR, hlen2, OI5⟩
        · have hbs : besideA (AN : Int) O = AN - P := by unfold besideA; rw [HP2.out, if_neg hm, HP.out]
          have HW := without_any wr lo' ln' lc' l ((AN : Int) - P) O hB
          go_wp2_with fail
          go_at_call 39
          refine (power_v O P o0 (by omega) HP.out _).mono ?_
          rintro e w' ⟨rfl, rfl⟩
          go_wp2_with fail
          go_at_call 39
          refine (power_v (O + 1) P2 (by omega) (by omega) HP2.out _).mono ?_
          rintro e w' ⟨rfl, rfl⟩
          go_wp2_with fail
          go_at_call 39
          refine (power_v O P o0 (by omega) HP.out _).mono ?_
          rintro e w' ⟨rfl, rfl⟩
          go_wp2_with fail
          go_at_call 50
          refine HW.mono ?_
          rintro e w5 ⟨bo, m, c, rfl, own, hb5⟩
          have OI5 := OI.step hb5
          have hob := Z.lt
          have x2' := (Z.below hb5).c2
          have z2' := (Z.below hb5).z2
          have hm256 : m ≤ 256 := by have h1 := bowns_len own; have h2 := dropB_len l ((AN : Int) - P) O; omega
          have hb6 : Blks w5 bo m (dropB l ((AN : Int) - P) O) := blks_own own (by omega)
          have hfb : Fresh (w4.heap.size + 1) bo := (owns_fresh own).mono (by omega)
          clear HW own OI Z x2 z2 hB hFr
          cases hh : hasB l ((AN : Int) - P) O with
          | true =>
            have hG2 : Hid (backGo (4 - (O + 1)).toNat (dropB l ((AN : Int) - P) O) ((AN : Int) - P) (O + 1) = R) := by
              show _ = _
              rw [HN2.out, ← hG1, backGo, hbs, if_pos hh]
              rw [if_pos (by omega)]
            have hA2 : blkIn z.f z.t ((AN : Int) - P) (O + 1) := by
              have h1 := join_in hA (by rw [hbs]; exact hasB_in hh hL) hO
              rw [hbs] at h1
              rw [if_pos (by omega)] at h1; exact h1
            have hL2 : ∀ b ∈ dropB l ((AN : Int) - P) O, blkIn z.f z.t b.a b.o := fun b hb => hL b (dropB_mem hb)
            have hlen3 : (dropB l ((AN : Int) - P) O).length ≤ 256 := by have := dropB_len l ((AN : Int) - P) O; omega
            have OI6 := OI5.take (lc := c) hb6 hfb (by omega)
            obtain ⟨D, hD⟩ : ∃ D, dropB l ((AN : Int) - P) O = D := ⟨_, rfl⟩
            rw [hD] at hG2 hL2 hlen3 OI6
            clear hG1 hL hb6 hfb OI5 hh hD hbs hb5
            go_wp2
            go_roundw
            case rel => exact ⟨(AN : Int) - P, O + 1, D, by go_num, by go_num, hA2, hG2, hL2, hlen3, OI6⟩
            case measure => simp [intOf]; omega
          | false =>
            have hRR : Hid (R = (l, ((AN : Int)), O)) := by
              show _ = _
              rw [← hG1, backGo, hbs, hh, if_neg (by simp)]
            clear hG1 hL hb6 hfb hh hbs hb5 hm x2' z2'
            go_wp2
            go_meet
            exact ⟨AN, O, l, rfl, rfl, hA, hRR, hlen2, OI5⟩
      · have hRR : Hid (R = (l, ((AN : Int)), O)) := by
          show _ = _
          have h1 := hG.out
          have h2 : (4 - O).toNat = 0 := by omega
          rw [h2] at h1
          rw [← h1]; rfl
        clear hG hL
        go_wp2
        go_meet
        exact ⟨AN, O, l, rfl, rfl, hA, hRR, hlen2, OI⟩


end Go.Proofs.Ytbjlbmofdnkmiaa

/-
  OWN TEXT. Contracts of the document's answer: In, RegionFault.
-/
namespace Go.Proofs.Ytbjlbmofdnkmiaa
open Go Go.RowKit Go.Proofs.Ytbjlbmofdnkmiaa.Kit

theorem fault_ok (w : World) (f s : Int) (h : regOk (f, s)) :
    Calls Try.prog 60 #[.agg #[.int .i64 f, .int .i64 s]] w fun e w' => e = .returned (.int .i64 0) ∧ Below w.heap.size w w' := by
  obtain ⟨h1, h2, h3, h4, h5⟩ := h
  dsimp only at h1 h2 h3 h4 h5
  have e1 : inB f 0 255 = true := inB_t ⟨h1, h2⟩
  have e2 : inB s 1 256 = true := inB_t ⟨h3, h4⟩
  have e3 : ¬ 256 < f + s := by omega
  go_enter Try.func60, Try.ntmps60
  go_wp2_with (go_at_call 25; refine (in_any _ _ _ _).mono ?_; rintro e w' ⟨rfl, rfl⟩)
  go_ret
  exact ⟨rfl, below_box _ _⟩

theorem fault_no (w : World) (f s : Int) (h : ¬ regOk (f, s)) :
    Calls Try.prog 60 #[.agg #[.int .i64 f, .int .i64 s]] w fun e w' => e = .returned (.int .i64 1) ∧ Below w.heap.size w w' := by
  unfold regOk at h
  dsimp only at h
  by_cases h1 : 0 ≤ f ∧ f ≤ 255
  · have e1 : inB f 0 255 = true := inB_t h1
    by_cases h2 : 1 ≤ s ∧ s ≤ 256
    · have e2 : inB s 1 256 = true := inB_t h2
      have e3 : 256 < f + s := by omega
      obtain ⟨p1, p2⟩ := h1
      obtain ⟨p3, p4⟩ := h2
      clear h
      go_enter Try.func60, Try.ntmps60
      go_wp2_with (go_at_call 25; refine (in_any _ _ _ _).mono ?_; rintro e w' ⟨rfl, rfl⟩)
      go_ret
      exact ⟨rfl, below_box _ _⟩
    · have e2 : inB s 1 256 = false := inB_f h2
      clear h h1 h2
      go_enter Try.func60, Try.ntmps60
      go_wp2_with (go_at_call 25; refine (in_any _ _ _ _).mono ?_; rintro e w' ⟨rfl, rfl⟩)
      go_ret
      exact ⟨rfl, below_box _ _⟩
  · have e1 : inB f 0 255 = false := inB_f h1
    clear h h1
    go_enter Try.func60, Try.ntmps60
    go_wp2_with (go_at_call 25; refine (in_any _ _ _ _).mono ?_; rintro e w' ⟨rfl, rfl⟩)
    go_ret
    exact ⟨rfl, below_box _ _⟩

end Go.Proofs.Ytbjlbmofdnkmiaa

/-
  OWN TEXT. Contracts of the document's answer: inRegions, regionsCopy.
-/
namespace Go.Proofs.Ytbjlbmofdnkmiaa
open Go Go.RowKit Go.Proofs.Ytbjlbmofdnkmiaa.Kit

theorem inL_yes {l : List (Int × Int)} {p x y : Int} {k : Nat} (hk : k < l.length) (hX : l.getD k (0, 0) = (x, y)) (h : x ≤ p ∧ p ≤ x + y - 1) : inL l p = true := by
  unfold inL
  rw [List.any_eq_true]
  refine ⟨(x, y), ?_, by simpa using h⟩
  rw [← hX, List.getD_eq_getElem?_getD, List.getElem?_eq_getElem hk]
  exact List.getElem_mem hk

theorem inL_no {l : List (Int × Int)} {p : Int} (h : ∀ i, i < l.length → ¬ ((l.getD i (0, 0)).1 ≤ p ∧ p ≤ (l.getD i (0, 0)).1 + (l.getD i (0, 0)).2 - 1)) : inL l p = false := by
  unfold inL
  rw [List.any_eq_false]
  intro r hr
  obtain ⟨i, hi, rfl⟩ := List.getElem_of_mem hr
  have := h i hi
  rw [List.getD_eq_getElem?_getD, List.getElem?_eq_getElem hi] at this
  simpa using this

theorem in_qt (n lo hi : Int) (h : inB n lo hi = true) (w : World) :
    Calls Try.prog 25 #[.int .i64 n, .int .i64 lo, .int .i64 hi] w fun e w' => e = .returned (.bool true) ∧ w' = w :=
  (in_any n lo hi w).mono fun _ _ ⟨h1, h2⟩ => ⟨by rw [h1, h], h2.symm⟩
theorem in_qf (n lo hi : Int) (h : inB n lo hi = false) (w : World) :
    Calls Try.prog 25 #[.int .i64 n, .int .i64 lo, .int .i64 hi] w fun e w' => e = .returned (.bool false) ∧ w' = w :=
  (in_any n lo hi w).mono fun _ _ ⟨h1, h2⟩ => ⟨by rw [h1, h], h2.symm⟩

set_option maxHeartbeats 1000000 in
theorem inR_any (w : World) (ao : Option Addr) (n cap : Nat) (l : List (Int × Int)) (hn : l.length = n) (h40 : n ≤ 40) (hx : RegsAt w ao l) (hok : ∀ i, i < l.length → regOk (l.getD i (0, 0))) (p : Int) :
    Calls Try.prog 26 #[.slice ao n cap, .int .i64 p] w fun e w' => e = .returned (.bool (inL l p)) ∧ ∃ d, w' = w.drewN d := by
  go_enter Try.func26, Try.ntmps26
  go_wp2
  go_loopw [5] (fun i wr => ∃ k : Nat, k ≤ n ∧ i = .int .i64 k ∧ Hid (∃ d, wr = w.drewN d) ∧ Hid (∀ i, i < k → ¬ ((l.getD i (0, 0)).1 ≤ p ∧ p ≤ (l.getD i (0, 0)).1 + (l.getD i (0, 0)).2 - 1))) (fun i _ => n - (intOf i).toNat)
  case atStart => exact ⟨0, Nat.zero_le _, rfl, ⟨0, rfl⟩, fun i hi => by omega⟩
  case round =>
    obtain ⟨k, hk, rfl, hD, hN⟩ := hrel
    by_cases hlt : k < n
    · have hxr : RegsAt wr ao l := by obtain ⟨d, e⟩ := hD.out; rw [e]; exact hx.below (below_drawn d)
      obtain ⟨b, o, x, y, rfl, c1, c2, hX⟩ := hxr.at k (by omega)
      have hq := hok k (by omega)
      rw [hX.out] at hq
      obtain ⟨p1, p2, p3, p4, p5⟩ := hq
      dsimp only at p1 p2 p3 p4 p5
      by_cases hi : x ≤ p ∧ p ≤ x + y - 1
      · have e1 : inB p x (x + y - 1) = true := inB_t hi
        have HT : Hid (inL l p = true) := inL_yes (by omega) hX.out hi
        clear hx hok hi hN hxr
        go_wp2_with fail
        go_quiet ((go_at_call 25; exact Calls.quiet_of_same (in_qt _ _ _ e1 _)))
        go_wp2
        go_ret
        exact ⟨ret_bool HT.out.symm, drawn_more hD.out _⟩
      · have e1 : inB p x (x + y - 1) = false := inB_f hi
        have HN' : Hid (∀ i, i < k + 1 → ¬ ((l.getD i (0, 0)).1 ≤ p ∧ p ≤ (l.getD i (0, 0)).1 + (l.getD i (0, 0)).2 - 1)) := fun i hik => by
          by_cases e : i = k
          · rw [e, hX.out]; exact hi
          · exact hN.out i (by omega)
        clear hx hok hi hN hxr
        go_wp2_with fail
        go_quiet ((go_at_call 25; exact Calls.quiet_of_same (in_qf _ _ _ e1 _)))
        go_wp2
        go_roundw
        case rel => exact ⟨k + 1, by omega, by go_num, drawn_more hD.out _, HN'⟩
        case measure => simp [intOf]; omega
    · have HT : Hid (inL l p = false) := inL_no (fun i hi => hN.out i (by omega))
      clear hx hok hN
      go_wp2
      go_ret
      exact ⟨ret_bool HT.out.symm, hD.out⟩

end Go.Proofs.Ytbjlbmofdnkmiaa

/-
  OWN TEXT. Contracts of the document's answer: regionsMay, BootMay.
-/
namespace Go.Proofs.Ytbjlbmofdnkmiaa
open Go Go.RowKit Go.Proofs.Ytbjlbmofdnkmiaa.Kit

set_option maxHeartbeats 2000000 in
theorem may_any (w : World) (ao : Option Addr) (n cap : Nat) (l : List (Int × Int)) (h : Regs w ao n l) :
    Calls Try.prog 23 #[.slice ao n cap] w fun e w' => RetIff e (MayP l) ∧ Below w.heap.size w w' := by
  obtain ⟨hn, hr, hx⟩ := h
  by_cases h40 : (40 : Int) < n
  · have HF : Hid (¬ MayP l) := fun h => by have := h.len; omega
    clear hx
    go_enter Try.func23, Try.ntmps23
    go_wp2
    go_ret
    exact ⟨⟨false, rfl, fun h => (by cases h), fun h => absurd h HF.out⟩, Below.refl _ _⟩
  · go_enter Try.func23, Try.ntmps23
    go_wp2
    go_loopw [3] (fun i wr => ∃ k : Nat, k ≤ n ∧ i = .int .i64 k ∧ Hid (GoodTo l k) ∧ Below w.heap.size w wr) (fun i _ => n - (intOf i).toNat)
    case atStart => exact ⟨0, Nat.zero_le _, rfl, goodTo_zero l, Below.refl _ _⟩
    case round =>
      obtain ⟨k, hk, rfl, hG, hb⟩ := hrel
      by_cases hlt : k < n
      · have hxr := hx.below hb
        obtain ⟨b, o, x, y, rfl, c1, c2, hX⟩ := hxr.at k (by omega)
        by_cases hok : regOk (x, y)
        · go_wp2_with fail
          go_at_call 60
          refine (fault_ok _ x y hok).mono ?_
          rintro e w1 ⟨rfl, hb1⟩
          have hB1 : Below w.heap.size w w1 := hb.trans (hb1.mono hb.size)
          have hx1 := hx.below hB1
          have d1 := (hb1.cell (p := ⟨b, o + k * 2, none⟩) (World.block_lt_of_cell? _ _ c1)).trans c1
          have d2 := (hb1.cell (p := ⟨b, o + k * 2 + 1, none⟩) (World.block_lt_of_cell? _ _ c2)).trans c2
          clear c1 c2 hxr
          by_cases hk0 : k = 0
          · subst hk0
            have HG' : Hid (GoodTo l 1) := goodTo_one (by rw [hX.out]; exact hok)
            clear hx hx1 hG hok
            go_wp2_with fail
            go_quiet (fail)
            go_wp2
            go_roundw
            case rel => exact ⟨1, by omega, by go_num, HG', below_drewN hB1 _⟩
            case measure => simp [intOf]; omega
          · obtain ⟨j, rfl⟩ : ∃ j, k = j + 1 := ⟨k - 1, by omega⟩
            obtain ⟨b', o', x', y', he, f1, f2, hX'⟩ := hx1.at j (by omega)
            cases he
            have hj : regOk (x', y') := by have := hG.out.1 j (by omega); rw [hX'.out] at this; exact this
            obtain ⟨p1, p2, p3, p4, p5⟩ := hj
            dsimp only at p1 p2 p3 p4 p5
            have hjI : ((j + 1 : Nat) : Int) = (j : Int) + 1 := by simp
            have t1 : decide ((0 : Int) < (j : Int) + 1) = true := decide_eq_true (by omega)
            by_cases hg : x ≤ x' + y'
            · have HF : Hid (¬ MayP l) := fun h => absurd (by have := h.gap j (by omega); rw [hX.out, hX'.out] at this; exact this) (by dsimp only; omega)
              clear hx hx1 hG hok hk0
              go_wp2_with fail
              go_quiet (fail)
              go_wp2
              go_ret
              exact ⟨⟨false, rfl, fun h => (by cases h), fun h => absurd h HF.out⟩, below_drewN hB1 _⟩
            · have HG' : Hid (GoodTo l (j + 2)) := goodTo_succ hG.out (by rw [hX.out]; exact hok) (by rw [hX.out, hX'.out]; dsimp only; omega)
              clear hx hx1 hG hok hk0
              go_wp2_with fail
              go_quiet (fail)
              go_wp2
              go_roundw
              case rel => exact ⟨j + 2, by omega, by go_num, HG', below_drewN hB1 _⟩
              case measure => simp [intOf]; omega
        · go_wp2_with fail
          go_at_call 60
          refine (fault_no _ x y hok).mono ?_
          rintro e w1 ⟨rfl, hb1⟩
          have HF : Hid (¬ MayP l) := fun h => absurd (by have := h.ok k (by omega); rw [hX.out] at this; exact this) hok
          clear hx hok hxr
          go_wp2
          go_ret
          exact ⟨⟨false, rfl, fun h => (by cases h), fun h => absurd h HF.out⟩, hb.trans (hb1.mono hb.size)⟩
      · have HM : Hid (MayP l) := ⟨by omega, fun i hi => hG.out.1 i (by omega), fun i hi => hG.out.2 i (by omega)⟩
        clear hx
        go_wp2
        go_ret
        exact ⟨⟨true, rfl, fun _ => HM.out, fun _ => rfl⟩, hb⟩

end Go.Proofs.Ytbjlbmofdnkmiaa
