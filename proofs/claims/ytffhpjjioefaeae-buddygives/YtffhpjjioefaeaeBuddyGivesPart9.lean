/-
  OWN TEXTS, bundled: RefZk, RefZk2, RefZg, SameI, SameZ, WBuddyGives.
-/
import Derived.Test.YtffhpjjioefaeaeBuddyGivesPart8
import Derived.Test.YtffhpjjioefaeaeBuddyGivesPart2
import Derived.Test.YtffhpjjioefaeaeBuddyGivesPart4
import Derived.Deep.CutBlock
import Derived.Deep.DeepCutAuto
import Derived.Test.YtffhpjjioefaeaeBuddyGivesPart7
import Derived.Test.YtffhpjjioefaeaeBuddyGivesPart1
import Derived.Test.YtffhpjjioefaeaeBuddyGivesPart5

/-
  OWN TEXT. Contracts of the document's answer: BackOf.
-/
namespace Go.Proofs.Ytffhpjjioefaeae
open Go Go.RowKit Go.Proofs.Ytffhpjjioefaeae.Kit

/-- The world in the midst of BackOf: its argument's box, the result's block, and what can be read. -/
structure BaInv (w : World) (fo : Option Addr) (fn fc : Nat) (to_ : Option Addr) (tn tc : Nat) (z : Zn) (W : World) : Prop where
  size : w.heap.size + 2 ≤ W.heap.size
  b : Below w.heap.size w W
  box : ZBox W w.heap.size (.int .i64 z.f) (.int .i64 z.t) (.slice fo fn fc) (.slice to_ tn tc)
  res : Res4 W (w.heap.size + 1)
  zn : ZnAt W fo fn to_ tn z

theorem BaInv.step {w : World} {fo : Option Addr} {fn fc : Nat} {to_ : Option Addr} {tn tc : Nat} {z : Zn} {W W' : World} (h : BaInv w fo fn fc to_ tn tc z W) (hb : Below W.heap.size W W') : BaInv w fo fn fc to_ tn tc z W' :=
  ⟨Nat.le_trans h.size hb.size, h.b.trans (hb.mono h.b.size), h.box.below hb, h.res.below hb, h.zn.below hb⟩

theorem baInv_first (w : World) (fo : Option Addr) (fn fc : Nat) (to_ : Option Addr) (tn tc : Nat) (z : Zn) (h : ZnAt w fo fn to_ tn z) :
    BaInv w fo fn fc to_ tn tc z ((w.alloc (.cells #[.int .i64 z.f, .int .i64 z.t, .slice fo fn fc, .slice to_ tn tc] 25)).alloc (.cells #[.int .i64 0, .int .i64 0, .slice none 0 0, .slice none 0 0] 25)) := by
  have hb2 : Below w.heap.size w ((w.alloc (.cells #[.int .i64 z.f, .int .i64 z.t, .slice fo fn fc, .slice to_ tn tc] 25)).alloc (.cells #[.int .i64 0, .int .i64 0, .slice none 0 0, .slice none 0 0] 25)) := ((Below.refl _ _).alloc (Nat.le_refl _) _).alloc (by simp) _
  have R0 : Res4 ((w.alloc (.cells #[.int .i64 z.f, .int .i64 z.t, .slice fo fn fc, .slice to_ tn tc] 25)).alloc (.cells #[.int .i64 0, .int .i64 0, .slice none 0 0, .slice none 0 0] 25)) (w.heap.size + 1) := by
    have := zbox_new (w.alloc (.cells #[.int .i64 z.f, .int .i64 z.t, .slice fo fn fc, .slice to_ tn tc] 25)) (.int .i64 0) (.int .i64 0) (.slice none 0 0) (.slice none 0 0) 25
    have h2 := this.res
    simpa using h2
  exact ⟨by simp, hb2, (zbox_new w _ _ _ _ _).below (below_box _ _), R0, h.below hb2⟩

set_option maxHeartbeats 2000000 in
theorem backOf_no (w : World) (fo : Option Addr) (fn fc : Nat) (to_ : Option Addr) (tn tc : Nat) (z : Zn) (a o : Int) (h : ZnAt w fo fn to_ tn z) (hM : ¬ ZMay z) :
    Calls Try.prog 13 #[.agg #[.int .i64 z.f, .int .i64 z.t, .slice fo fn fc, .slice to_ tn tc], .int .i64 a, .int .i64 o] w fun e w' => RetNone 8 e ∧ Below w.heap.size w w' := by
  have I0 := baInv_first w fo fn fc to_ tn tc z h
  have c0 := I0.box.c0
  have c1 := I0.box.c1
  have c2 := I0.box.c2
  have c3 := I0.box.c3
  clear h
  go_enter Try.func13, Try.ntmps13
  go_wp2_with fail
  go_at_call 18
  refine (zoneMay_any _ fo fn fc to_ tn tc z I0.zn).mono ?_
  rintro e w1 ⟨⟨r, rfl, hr⟩, hb1⟩
  have I1 := I0.step hb1
  obtain rfl : r = false := by
    cases r with
    | false => rfl
    | true => exact absurd (hr.1 rfl) hM
  have R1 := I1.res
  obtain ⟨⟨x0, d0⟩, ⟨x1, d1⟩, ⟨x2, d2⟩, ⟨x3, d3⟩, z0, z1, z2, z3⟩ := id R1
  have hB := I1.b
  have hs := I1.size
  clear hr hM I0 I1 hb1 c0 c1 c2 c3
  go_wp2
  obtain ⟨k0, k1, k2, k3⟩ := res4 R1 (.int .i64 0) (.int .i64 0) (.slice none 0 0) (.slice none 0 0)
  have hbt := but4 w1 (w.heap.size + 1) (.int .i64 0) (.int .i64 0) (.slice none 0 0) (.slice none 0 0)
  exact bodyPost_ret (v := .tuple #[.agg #[.int .i64 0, .int .i64 0, .slice none 0 0, .slice none 0 0], .int .i64 8]) (by simp [results, Try.results13, go_sem, k0, k1, k2, k3]) rfl ⟨rfl, hB.trans (hbt.below (by omega) (by omega))⟩


theorem may_nums {z : Zn} (h : ZMay z) : ∀ i, i < z.free.length → ordOk (z.free.getD i .zero).o ∧ 0 ≤ (z.free.getD i .zero).a ∧ (z.free.getD i .zero).a ≤ 256 := fun i hi => by
  obtain ⟨⟨h1, h2, h3, h4⟩, _⟩ := freeOk_at h.free hi rfl
  obtain ⟨g1, g2, g3, g4, g5⟩ := h.new
  exact ⟨h1, by omega, by omega⟩

set_option maxHeartbeats 2000000 in
theorem backOf_range (w : World) (fo : Option Addr) (fn fc : Nat) (to_ : Option Addr) (tn tc : Nat) (z : Zn) (a o : Int) (h : ZnAt w fo fn to_ tn z) (hM : ZMay z) (ho : ¬ blkIn z.f z.t a o) :
    Calls Try.prog 13 #[.agg #[.int .i64 z.f, .int .i64 z.t, .slice fo fn fc, .slice to_ tn tc], .int .i64 a, .int .i64 o] w fun e w' => RetNone 1 e ∧ Below w.heap.size w w' := by
  have I0 := baInv_first w fo fn fc to_ tn tc z h
  have c0 := I0.box.c0
  have c1 := I0.box.c1
  have c2 := I0.box.c2
  have c3 := I0.box.c3
  clear h
  go_enter Try.func13, Try.ntmps13
  go_wp2_with fail
  go_at_call 18
  refine (zoneMay_any _ fo fn fc to_ tn tc z I0.zn).mono ?_
  rintro e w1 ⟨⟨r, rfl, hr⟩, hb1⟩
  have I1 := I0.step hb1
  obtain rfl : r = true := hr.2 hM
  replace c0 := I1.box.c0
  replace c1 := I1.box.c1
  replace c2 := I1.box.c2
  replace c3 := I1.box.c3
  clear hr I0 hb1
  go_wp2_with fail
  go_at_call 28
  refine (blockMay_any _ z.f z.t fo to_ fn fc tn tc a o hM.new).mono ?_
  rintro e w2 ⟨rfl, hb2⟩
  have I2 := I1.step hb2
  clear I1 hb2
  have hB2 : blkB z.f z.t a o = false := by
    cases hb : blkB z.f z.t a o with
    | false => rfl
    | true => exact absurd ((blkB_iff z.f z.t a o).1 hb) ho
  rw [hB2]
  have R1 := I2.res
  obtain ⟨⟨x0, d0⟩, ⟨x1, d1⟩, ⟨x2, d2⟩, ⟨x3, d3⟩, z0, z1, z2, z3⟩ := id R1
  have hB := I2.b
  have hs := I2.size
  clear hM I2 c0 c1 c2 c3 ho hB2
  go_wp2
  obtain ⟨k0, k1, k2, k3⟩ := res4 R1 (.int .i64 0) (.int .i64 0) (.slice none 0 0) (.slice none 0 0)
  have hbt := but4 w2 (w.heap.size + 1) (.int .i64 0) (.int .i64 0) (.slice none 0 0) (.slice none 0 0)
  exact bodyPost_ret (v := .tuple #[.agg #[.int .i64 0, .int .i64 0, .slice none 0 0, .slice none 0 0], .int .i64 1]) (by simp [results, Try.results13, go_sem, k0, k1, k2, k3]) rfl ⟨rfl, hB.trans (hbt.below (by omega) (by omega))⟩

set_option maxHeartbeats 2000000 in
theorem backOf_twice (w : World) (fo : Option Addr) (fn fc : Nat) (to_ : Option Addr) (tn tc : Nat) (z : Zn) (a o : Int) (h : ZnAt w fo fn to_ tn z) (hM : ZMay z) (ho : blkIn z.f z.t a o) (hv : ovlP z.free a o) :
    Calls Try.prog 13 #[.agg #[.int .i64 z.f, .int .i64 z.t, .slice fo fn fc, .slice to_ tn tc], .int .i64 a, .int .i64 o] w fun e w' => RetNone 5 e ∧ Below w.heap.size w w' := by
  have I0 := baInv_first w fo fn fc to_ tn tc z h
  have c0 := I0.box.c0
  have c1 := I0.box.c1
  have c2 := I0.box.c2
  have c3 := I0.box.c3
  clear h
  go_enter Try.func13, Try.ntmps13
  go_wp2_with fail
  go_at_call 18
  refine (zoneMay_any _ fo fn fc to_ tn tc z I0.zn).mono ?_
  rintro e w1 ⟨⟨r, rfl, hr⟩, hb1⟩
  have I1 := I0.step hb1
  obtain rfl : r = true := hr.2 hM
  replace c0 := I1.box.c0
  replace c1 := I1.box.c1
  replace c2 := I1.box.c2
  replace c3 := I1.box.c3
  clear hr I0 hb1
  go_wp2_with fail
  go_at_call 28
  refine (blockMay_any _ z.f z.t fo to_ fn fc tn tc a o hM.new).mono ?_
  rintro e w2 ⟨rfl, hb2⟩
  have I2 := I1.step hb2
  clear I1 hb2
  rw [(blkB_iff z.f z.t a o).2 ho]
  replace c2 := I2.box.c2
  obtain ⟨n1, n2, n3, n4, n5⟩ := hM.new
  have HO := overlaps_any w2 fo fn fc z.free a o I2.zn.free (may_nums hM) ho.1 (by have := ho.2.1; omega) (by have := ho.2.2.1; omega)
  clear c0 c1 c3
  go_wp2_with fail
  go_at_call 29
  refine HO.mono ?_
  rintro e w3 ⟨⟨r, rfl, hr⟩, d, rfl⟩
  obtain rfl : r = true := hr.2 hv
  have I3 := I2.step (below_drawn d)
  obtain ⟨W3, hW3⟩ : ∃ W3, w2.drewN d = W3 := ⟨_, rfl⟩
  rw [hW3] at I3 ⊢
  have R1 := I3.res
  obtain ⟨⟨x0, d0⟩, ⟨x1, d1⟩, ⟨x2, d2⟩, ⟨x3, d3⟩, z0, z1, z2, z3⟩ := id R1
  have hB := I3.b
  have hs := I3.size
  clear hM I2 I3 c2 ho hv hr HO hW3
  go_wp2
  obtain ⟨k0, k1, k2, k3⟩ := res4 R1 (.int .i64 0) (.int .i64 0) (.slice none 0 0) (.slice none 0 0)
  have hbt := but4 W3 (w.heap.size + 1) (.int .i64 0) (.int .i64 0) (.slice none 0 0) (.slice none 0 0)
  exact bodyPost_ret (v := .tuple #[.agg #[.int .i64 0, .int .i64 0, .slice none 0 0, .slice none 0 0], .int .i64 5]) (by simp [results, Try.results13, go_sem, k0, k1, k2, k3]) rfl ⟨rfl, hB.trans (hbt.below (by omega) (by omega))⟩

end Go.Proofs.Ytffhpjjioefaeae

/-
  OWN TEXT. Contracts of the document's answer: BackOf where it answers a zone.
-/
namespace Go.Proofs.Ytffhpjjioefaeae
open Go Go.RowKit Go.Proofs.Ytffhpjjioefaeae.Kit

/-- A zone in a variable that was laid behind w4: its box, its free blocks; its types are those that w4 had. -/
structure OutInv (B : Nat) (w4 : World) (z : Zn) (uo : Option Addr) (un uc : Nat) (l : List Bk) (W : World) : Prop where
  b : Below w4.heap.size w4 W
  ex : ∃ lo ln lc, ZBox W w4.heap.size (.int .i64 z.f) (.int .i64 z.t) (.slice lo ln lc) (.slice uo un uc) ∧ Blks W lo ln l ∧ Fresh B lo

theorem OutInv.step {B : Nat} {w4 : World} {z : Zn} {uo : Option Addr} {un uc : Nat} {l : List Bk} {W W' : World} (h : OutInv B w4 z uo un uc l W) (hb : Below W.heap.size W W') : OutInv B w4 z uo un uc l W' := by
  obtain ⟨lo, ln, lc, hz, hl, hf⟩ := h.ex
  exact ⟨h.b.trans (hb.mono h.b.size), lo, ln, lc, hz.below hb, hl.below hb, hf⟩

/-- The free blocks are taken over. -/
theorem OutInv.take {B : Nat} {w4 : World} {z : Zn} {uo : Option Addr} {un uc : Nat} {l m : List Bk} {W : World} (h : OutInv B w4 z uo un uc l W) {lo : Option Addr} {ln lc : Nat} (hm : Blks W lo ln m) (hf : Fresh (w4.heap.size + 1) lo) (hB : B ≤ w4.heap.size + 1) : OutInv B w4 z uo un uc m (W.setCell ⟨w4.heap.size, 2, none⟩ (.slice lo ln lc)) := by
  obtain ⟨_, _, _, hz, _, _⟩ := h.ex
  have hbt : But w4.heap.size W (W.setCell ⟨w4.heap.size, 2, none⟩ (.slice lo ln lc)) := (But.refl _ _).setCell _
  exact ⟨h.b.trans (hbt.below (Nat.le_refl _) h.b.size), lo, ln, lc, hz.set2 _, hbt.blks hm (fun a ha => by have := hf a ha; omega), hf.mono hB⟩

theorem tail_keep {W : World} {ob wz g k : Nat} {v p q x : Value} (h : W.cell? ⟨ob, 3, none⟩ = some p ∧ W.cell? ⟨wz, 0, none⟩ = some q ∧ W.cell? ⟨g, k, none⟩ = some x) (hg : g ≠ ob) :
    (W.setCell ⟨ob, 2, none⟩ v).cell? ⟨ob, 3, none⟩ = some p ∧ (W.setCell ⟨ob, 2, none⟩ v).cell? ⟨wz, 0, none⟩ = some q ∧ (W.setCell ⟨ob, 2, none⟩ v).cell? ⟨g, k, none⟩ = some x :=
  ⟨(World.cell?_setCell_other _ _ _ _ (by simp)).trans h.1, (World.cell?_setCell_other _ _ _ _ (by simp)).trans h.2.1, (World.cell?_setCell_other _ _ _ _ (by intro e; cases e; exact hg rfl)).trans h.2.2⟩

theorem may_in {z : Zn} (h : ZMay z) : ∀ b ∈ z.free, blkIn z.f z.t b.a b.o := by
  intro b hb
  obtain ⟨i, hi, rfl⟩ := List.getElem_of_mem hb
  have := (freeOk_at h.free hi rfl).1
  rw [List.getD_eq_getElem?_getD, List.getElem?_eq_getElem hi] at this
  exact this

set_option maxHeartbeats 4000000 in
theorem backOf_ok (w : World) (fo : Option Addr) (fn fc : Nat) (to_ : Option Addr) (tn tc : Nat) (z : Zn) (a o : Int) (h : ZnAt w fo fn to_ tn z) (hM : ZMay z) (ho : blkIn z.f z.t a o) (hv : ¬ ovlP z.free a o) :
    Calls Try.prog 13 #[.agg #[.int .i64 z.f, .int .i64 z.t, .slice fo fn fc, .slice to_ tn tc], .int .i64 a, .int .i64 o] w fun e w' => RetZone w.heap.size w' (backZ z a o) e ∧ Below w.heap.size w w' := by
  have I0 := baInv_first w fo fn fc to_ tn tc z h
  have c0 := I0.box.c0
  have c1 := I0.box.c1
  have c2 := I0.box.c2
  have c3 := I0.box.c3
  clear h
  go_enter Try.func13, Try.ntmps13
  go_wp2_with fail
  go_at_call 18
  refine (zoneMay_any _ fo fn fc to_ tn tc z I0.zn).mono ?_
  rintro e w1 ⟨⟨r, rfl, hr⟩, hb1⟩
  have I1 := I0.step hb1
  obtain rfl : r = true := hr.2 hM
  replace c0 := I1.box.c0
  replace c1 := I1.box.c1
  replace c2 := I1.box.c2
  replace c3 := I1.box.c3
  clear hr I0 hb1
  go_wp2_with fail
  go_at_call 28
  refine (blockMay_any _ z.f z.t fo to_ fn fc tn tc a o hM.new).mono ?_
  rintro e w2 ⟨rfl, hb2⟩
  have I2 := I1.step hb2
  clear I1 hb2
  rw [(blkB_iff z.f z.t a o).2 ho]
  replace c2 := I2.box.c2
  obtain ⟨n1, n2, n3, n4, n5⟩ := hM.new
  have HO := overlaps_any w2 fo fn fc z.free a o I2.zn.free (may_nums hM) ho.1 (by have := ho.2.1; omega) (by have := ho.2.2.1; omega)
  clear c0 c1 c3
  go_wp2_with fail
  go_at_call 29
  refine HO.mono ?_
  rintro e w3 ⟨⟨r, rfl, hr⟩, d, rfl⟩
  obtain rfl : r = false := by
    cases r with
    | false => rfl
    | true => exact absurd (hr.1 rfl) hv
  have I3 := I2.step (below_drawn d)
  obtain ⟨W3, hW3⟩ : ∃ W3, w2.drewN d = W3 := ⟨_, rfl⟩
  rw [hW3] at I3 ⊢
  clear hr HO hW3 I2 c2 hv
  have c0 := I3.box.c0
  have c1 := I3.box.c1
  have c2 := I3.box.c2
  have c3 := I3.box.c3
  go_wp2_with fail
  go_at_call 11
  refine (zoneCopy_any W3 fo fn fc to_ tn tc z I3.zn).mono ?_
  rintro e w4 ⟨⟨lo, ln, lc, uo, un, uc, rfl, hz4, f1, f2⟩, hb4⟩
  have hbx := below_box w4 (.cells #[.int .i64 z.f, .int .i64 z.t, .slice lo ln lc, .slice uo un uc] 25)
  have I4 := I3.step hb4
  have hs3 := I3.size
  have O4 : OutInv (w.heap.size + 2) w4 z uo un uc z.free (w4.alloc (.cells #[.int .i64 z.f, .int .i64 z.t, .slice lo ln lc, .slice uo un uc] 25)) :=
    ⟨hbx, lo, ln, lc, zbox_new _ _ _ _ _ _, (hz4.below hbx).free, f1.mono hs3⟩
  have hcnt : z.free.length ≤ 256 := by have := freeOk_count hM.free n5 n2; omega
  have hin := may_in hM
  have hT4 := hz4.types
  have hFu : Fresh (w.heap.size + 2) uo := f2.mono hs3
  have hlen := hM.len
  have hs4 := I4.size
  obtain ⟨R, hR⟩ : ∃ R, backGo (4 - o).toNat z.free a o = R := ⟨_, rfl⟩
  have HR : Hid (backZ z a o = ⟨z.f, z.t, addB R.1 ⟨R.2.1, R.2.2, z.types.getD ((R.2.1 - z.f) / 8).toNat 0⟩, z.types⟩) := by show _ = _; unfold backZ; rw [hR]
  have HR0 : Hid (backGo (4 - o).toNat z.free a o = R) := hR
  clear c0 c1 c2 c3 I3 hb4 hbx f1 f2 hz4 hM hR
  go_upto_block 0 with fail
  go_cut [1, 2] (fun av ov W => ∃ (AN : Nat) (O : Int) (l : List Bk), av = .int .i64 AN ∧ ov = .int .i64 O ∧ blkIn z.f z.t AN O ∧ Hid (R = (l, ((AN : Int)), O)) ∧ l.length ≤ 256 ∧ OutInv (w.heap.size + 2) w4 z uo un uc l W)
  case rest =>
    obtain ⟨AN, O, l, rfl, rfl, hA, hRR, hlen2, OI⟩ := hcut
    obtain ⟨⟨o0, o4⟩, a1, a2, a3⟩ := id hA
    clear O4 HR0 hin hcnt ho hA
    go_wp2_with fail
    obtain ⟨l5, m5, k5, Z5, hB5, hF5⟩ := OI.ex
    have IX := I4.step OI.b
    have y2 := Z5.c2
    have y3 := Z5.c3
    have yz := Z5.z2
    have y0 := IX.box.c0
    obtain ⟨K, hK⟩ : ∃ K : Nat, ((AN : Int) - z.f) / 8 = (K : Int) := ⟨(((AN : Int) - z.f) / 8).toNat, by omega⟩
    have htl := hT4.len
    have hKn : K < un := by omega
    obtain ⟨g, of, x, rfl, cx, hX⟩ := (hT4.below OI.b).at_.at K (by omega)
    have hgo : g ≠ w4.heap.size := by
      obtain ⟨g', of', x', hu', cx', _⟩ := hT4.at_.at K (by omega)
      cases hu'
      have := World.block_lt_of_cell? w4 _ cx'
      dsimp only at this
      omega
    have hS0 : wc.drew.cell? ⟨w4.heap.size, 3, none⟩ = some (.slice (some ⟨g, of, none⟩) un uc) ∧ wc.drew.cell? ⟨w.heap.size, 0, none⟩ = some (.int .i64 z.f) ∧ wc.drew.cell? ⟨g, of + K, none⟩ = some (.int .i64 x) := ⟨by simpa using y3, by simpa using y0, by simpa using cx⟩
    obtain ⟨D, hD⟩ : ∃ D : Nat, (AN : Int) - z.f = (D : Int) := ⟨((AN : Int) - z.f).toNat, by omega⟩
    have hDK : D / 8 = K := by omega
    have hq8 : (D : Int) / 8 = (K : Int) := by omega
    have hKi : (K : Int) < (un : Int) := by omega
    have hTr := hT4.reach
    have hw1 : IntKind.i64.wrap (D : Int) = (D : Int) := IntWalk.i64_in _ (by omega)
    have hw2 : IntKind.i64.wrap (K : Int) = (K : Int) := IntWalk.i64_in _ (by omega)
    have htd : ((D : Int)).tdiv 8 = (K : Int) := by rw [Int.tdiv_eq_ediv_of_nonneg (by omega)]; omega
    have htd2 : ((AN : Int) - z.f).tdiv 8 = (K : Int) := by rw [Int.tdiv_eq_ediv_of_nonneg (by omega)]; omega
    have hty : Hid (z.types.getD (((AN : Int) - z.f) / 8).toNat 0 = x) := by show _ = _; rw [hK]; simpa using hX.out
    have HZ : Hid (backZ z a o = ⟨z.f, z.t, addB l ⟨AN, O, x⟩, z.types⟩) := by
      show _ = _
      rw [HR.out, hRR.out]
      dsimp only
      rw [hty.out]
    have HWB0 := withBlock_any wc.drew l5 m5 k5 l ⟨AN, O, x⟩ (hB5.below (Below.refl _ _).drew) (by have := hB5.len; omega)
    dsimp only at HWB0
    have HWB := HWB0.mono (fun e w' (hh : ∃ bo c, e = .returned (.slice bo (m5 + 1) c) ∧ w'.ownsRow wc.drew.heap.size 39 3 (.slice bo (m5 + 1) c) (m5 + 1) (bvals (addB l ⟨AN, O, x⟩)) ∧ Below wc.drew.heap.size wc.drew w') => (show ∃ bo c, e = .returned (.slice bo (m5 + 1) c) ∧ w'.ownsRow wc.drew.heap.size 39 3 (.slice bo (m5 + 1) c) (m5 + 1) (bvals (addB l ⟨AN, O, x⟩)) ∧ Below wc.drew.heap.size wc.drew w' ∧ w'.cell? ⟨w4.heap.size, 2, none⟩ = some (.slice l5 m5 k5) ∧ w'.frozen? ⟨w4.heap.size, 2, none⟩ = false ∧ (w'.cell? ⟨w4.heap.size, 3, none⟩ = some (.slice (some ⟨g, of, none⟩) un uc) ∧ w'.cell? ⟨w.heap.size, 0, none⟩ = some (.int .i64 z.f) ∧ w'.cell? ⟨g, of + K, none⟩ = some (.int .i64 x)) by
      obtain ⟨bo, c, he, ho, hb⟩ := hh
      have Zd := (Z5.belowB (B := wc.heap.size) (Below.refl _ _).drew Z5.lt).below hb
      exact ⟨bo, c, he, ho, hb, Zd.c2, Zd.z2, Zd.c3, keep hS0.2.1 hb, keep hS0.2.2 hb⟩))
    clear HWB0
    have hm5 : m5 ≤ 256 := by have := hB5.len; omega
    have hobx := Z5.lt
    clear hRR hty HR hX
    go_region_with (go_at_call 32; refine HWB.mono ?_; rintro e w6 ⟨bo6, c6, rfl, own6, hb6, q62, q6z, q6S⟩)
    all_goals
      have Wd : Below wc.heap.size wc wc.drew := (Below.refl _ _).drew
      have hb6' : Below wc.heap.size wc w6 := Wd.trans hb6
      have Z7 := ((Z5.belowB Wd Z5.lt).below hb6).set2 (.slice bo6 (m5 + 1) c6)
      have I6 := IX.step hb6'
      have hbt : But w4.heap.size w6 (w6.setCell ⟨w4.heap.size, 2, none⟩ (.slice bo6 (m5 + 1) c6)) := (But.refl _ _).setCell _
      have R7 := I6.res.but hbt (by omega)
      have hfr6 : Fresh wc.heap.size bo6 := owns_fresh own6
      have B7 := hbt.blks (blks_own own6 (by omega)) (fun a ha => by have := hfr6 a ha; omega)
      have N7 := hbt.nums (hT4.below (OI.b.trans (hb6'.mono OI.b.size))) (fun a ha => by cases ha; exact hgo)
      have hs6 := I6.size
      have hB7 := I6.b.trans (hbt.below (B := w.heap.size) (by omega) (by omega))
      have e0 := Z7.c0
      have e1 := Z7.c1
      have e2 := Z7.c2
      have e3 := Z7.c3
      have hs7 := hbt.size
      obtain ⟨W7, hW7⟩ : ∃ W7, w6.setCell ⟨w4.heap.size, 2, none⟩ (.slice bo6 (m5 + 1) c6) = W7 := ⟨_, rfl⟩
      rw [hW7] at R7 B7 N7 hB7 e0 e1 e2 e3 hs7 ⊢
      obtain ⟨⟨r0, s0⟩, ⟨r1, s1⟩, ⟨r2, s2⟩, ⟨r3, s3⟩, v0, v1, v2, v3⟩ := id R7
      clear hW7 Wd hb6' Z7 I6 hbt own6 hb6 q62 q6z q6S hw1 hw2 htd htd2 hq8 hD hDK hK HWB Z5 IX OI
      go_wp2
      obtain ⟨k0, k1, k2, k3⟩ := res4 R7 (.int .i64 z.f) (.int .i64 z.t) (.slice bo6 (m5 + 1) c6) (.slice (some ⟨g, of, none⟩) un uc)
      have hbu := but4 W7 (w.heap.size + 1) (.int .i64 z.f) (.int .i64 z.t) (.slice bo6 (m5 + 1) c6) (.slice (some ⟨g, of, none⟩) un uc)
      refine bodyPost_ret (v := .tuple #[.agg #[.int .i64 z.f, .int .i64 z.t, .slice bo6 (m5 + 1) c6, .slice (some ⟨g, of, none⟩) un uc], .int .i64 0]) (by simp [results, Try.results13, go_sem, k0, k1, k2, k3]) rfl ⟨?_, hB7.trans (hbu.below (by omega) (by omega))⟩
      rw [HZ.out]
      exact ⟨bo6, m5 + 1, c6, some ⟨g, of, none⟩, un, uc, rfl, hbu.zn ⟨B7, N7⟩ (fun a ha => by have := hfr6 a ha; omega) (fun a ha => by have := hFu a ha; omega), hfr6.mono (by omega), hFu.mono (by omega)⟩
  case first =>
    go_wp2_with fail
    go_loopw [1, 2] (fun av ov wr => ∃ (A O : Int) (l : List Bk), av = .int .i64 A ∧ ov = .int .i64 O ∧ blkIn z.f z.t A O ∧ Hid (backGo (4 - O).toNat l A O = R) ∧ (∀ b ∈ l, blkIn z.f z.t b.a b.o) ∧ l.length ≤ 256 ∧ OutInv (w.heap.size + 2) w4 z uo un uc l wr) (fun _ ov _ => (4 - intOf ov).toNat)
    case atStart => exact ⟨a, o, z.free, rfl, rfl, ho, HR0, hin, hcnt, O4⟩
    case round =>
      obtain ⟨A, O, l, rfl, rfl, hA, hG, hL, hlen2, OI⟩ := hrel
      clear O4 HR0 hin hcnt ho
      obtain ⟨⟨o0, o4⟩, a1, a2, a3⟩ := id hA
      obtain ⟨lo', ln', lc', Z, hB, hFr⟩ := OI.ex
      have x2 := Z.c2
      have z2 := Z.z2
      obtain ⟨AN, rfl⟩ : ∃ AN : Nat, A = AN := ⟨A.toNat, by omega⟩
      by_cases hO : O < 4
      · obtain ⟨P, hP⟩ : ∃ P, pw O = P := ⟨_, rfl⟩
        have HP : Hid (pw O = P) := hP
        have p1 := pw_pos O
        have p2 := pw_le hA.1
        obtain ⟨P2, hP2, hP2p, hP2q⟩ : ∃ P2 : Nat, pw (O + 1) = P2 ∧ 0 < P2 ∧ P2 ≤ 16 := ⟨(pw (O + 1)).toNat, by have := pw_pos (O + 1); omega, by have := pw_pos (O + 1); omega, by have := pw_le (o := O + 1) ⟨by omega, by omega⟩; omega⟩
        have HP2 : Hid (pw (O + 1) = P2) := hP2
        have hP20 : ((P2 : Int) == 0) = false := by simp; omega
        rw [hP] at p1 p2
        obtain ⟨n, hn⟩ : ∃ n : Nat, (4 - O).toNat = n + 1 := ⟨(4 - O).toNat - 1, by omega⟩
        have hn2 : (4 - (O + 1)).toNat = n := by omega
        have HN2 : Hid _ := hn2
        have hG1 := hG.out
        rw [hn] at hG1
        clear hG hn2 hP hP2
        by_cases hm : (AN : Int) % (P2 : Int) = 0
        · have hbs : besideA (AN : Int) O = AN + P := by unfold besideA; rw [HP2.out, if_pos hm, HP.out]
          have HW := without_any wr lo' ln' lc' l ((AN : Int) + P) O hB
          go_wp2_with fail
          go_at_call 30
          refine (power_v O P o0 (by omega) HP.out _).mono ?_
          rintro e w' ⟨rfl, rfl⟩
          go_wp2_with fail
          go_at_call 30
          refine (power_v (O + 1) P2 (by omega) (by omega) HP2.out _).mono ?_
          rintro e w' ⟨rfl, rfl⟩
          go_wp2_with fail
          go_at_call 31
          refine HW.mono ?_
          rintro e w5 ⟨bo, m, c, rfl, own, hb5⟩
          have OI5 := OI.step hb5
          have hob := Z.lt
          have x2' := (Z.below hb5).c2
          have z2' := (Z.below hb5).z2
          have hm256 : m ≤ 256 := by have h1 := bowns_len own; have h2 := dropB_len l ((AN : Int) + P) O; omega
          have hb6 : Blks w5 bo m (dropB l ((AN : Int) + P) O) := blks_own own (by omega)
          have hfb : Fresh (w4.heap.size + 1) bo := (owns_fresh own).mono (by omega)
          clear HW own OI Z x2 z2 hB hFr
          cases hh : hasB l ((AN : Int) + P) O with
          | true =>
            have hG2 : Hid (backGo (4 - (O + 1)).toNat (dropB l ((AN : Int) + P) O) ((AN : Int)) (O + 1) = R) := by
              show _ = _
              rw [HN2.out, ← hG1, backGo, hbs, if_pos hh]
              rw [if_neg (by omega)]
            have hA2 : blkIn z.f z.t ((AN : Int)) (O + 1) := by
              have h1 := join_in hA (by rw [hbs]; exact hasB_in hh hL) hO
              rw [hbs] at h1
              rw [if_neg (by omega)] at h1; exact h1
            have hL2 : ∀ b ∈ dropB l ((AN : Int) + P) O, blkIn z.f z.t b.a b.o := fun b hb => hL b (dropB_mem hb)
            have hlen3 : (dropB l ((AN : Int) + P) O).length ≤ 256 := by have := dropB_len l ((AN : Int) + P) O; omega
            have OI6 := OI5.take (lc := c) hb6 hfb (by omega)
            obtain ⟨D, hD⟩ : ∃ D, dropB l ((AN : Int) + P) O = D := ⟨_, rfl⟩
            rw [hD] at hG2 hL2 hlen3 OI6
            clear hG1 hL hb6 hfb OI5 hh hD hbs hb5
            go_wp2
            go_roundw
            case rel => exact ⟨(AN : Int), O + 1, D, by go_num, by go_num, hA2, hG2, hL2, hlen3, OI6⟩
            case measure => simp [intOf]; omega
          | false =>
            have hRR : Hid (R = (l, ((AN : Int)), O)) := by
              show _ = _
              rw [← hG1, backGo, hbs, hh, if_neg (by simp)]
            clear hG1 hL hb6 hfb hh hbs hb5 hm x2' z2'
            go_wp2
            go_meet
            exact ⟨AN, O, l, rfl, rfl, hA, hRR, hlen2, OI5⟩
        · have hbs : besideA (AN : Int) O = AN - P := by unfold besideA; rw [HP2.out, if_neg hm, HP.out]
          have HW := without_any wr lo' ln' lc' l ((AN : Int) - P) O hB
          go_wp2_with fail
          go_at_call 30
          refine (power_v O P o0 (by omega) HP.out _).mono ?_
          rintro e w' ⟨rfl, rfl⟩
          go_wp2_with fail
          go_at_call 30
          refine (power_v (O + 1) P2 (by omega) (by omega) HP2.out _).mono ?_
          rintro e w' ⟨rfl, rfl⟩
          go_wp2_with fail
          go_at_call 30
          refine (power_v O P o0 (by omega) HP.out _).mono ?_
          rintro e w' ⟨rfl, rfl⟩
          go_wp2_with fail
          go_at_call 31
          refine HW.mono ?_
          rintro e w5 ⟨bo, m, c, rfl, own, hb5⟩
          have OI5 := OI.step hb5
          have hob := Z.lt
          have x2' := (Z.below hb5).c2
          have z2' := (Z.below hb5).z2
          have hm256 : m ≤ 256 := by have h1 := bowns_len own; have h2 := dropB_len l ((AN : Int) - P) O; omega
          have hb6 : Blks w5 bo m (dropB l ((AN : Int) - P) O) := blks_own own (by omega)
          have hfb : Fresh (w4.heap.size + 1) bo := (owns_fresh own).mono (by omega)
          clear HW own OI Z x2 z2 hB hFr
          cases hh : hasB l ((AN : Int) - P) O with
          | true =>
            have hG2 : Hid (backGo (4 - (O + 1)).toNat (dropB l ((AN : Int) - P) O) ((AN : Int) - P) (O + 1) = R) := by
              show _ = _
              rw [HN2.out, ← hG1, backGo, hbs, if_pos hh]
              rw [if_pos (by omega)]
            have hA2 : blkIn z.f z.t ((AN : Int) - P) (O + 1) := by
              have h1 := join_in hA (by rw [hbs]; exact hasB_in hh hL) hO
              rw [hbs] at h1
              rw [if_pos (by omega)] at h1; exact h1
            have hL2 : ∀ b ∈ dropB l ((AN : Int) - P) O, blkIn z.f z.t b.a b.o := fun b hb => hL b (dropB_mem hb)
            have hlen3 : (dropB l ((AN : Int) - P) O).length ≤ 256 := by have := dropB_len l ((AN : Int) - P) O; omega
            have OI6 := OI5.take (lc := c) hb6 hfb (by omega)
            obtain ⟨D, hD⟩ : ∃ D, dropB l ((AN : Int) - P) O = D := ⟨_, rfl⟩
            rw [hD] at hG2 hL2 hlen3 OI6
            clear hG1 hL hb6 hfb OI5 hh hD hbs hb5
            go_wp2
            go_roundw
            case rel => exact ⟨(AN : Int) - P, O + 1, D, by go_num, by go_num, hA2, hG2, hL2, hlen3, OI6⟩
            case measure => simp [intOf]; omega
          | false =>
            have hRR : Hid (R = (l, ((AN : Int)), O)) := by
              show _ = _
              rw [← hG1, backGo, hbs, hh, if_neg (by simp)]
            clear hG1 hL hb6 hfb hh hbs hb5 hm x2' z2'
            go_wp2
            go_meet
            exact ⟨AN, O, l, rfl, rfl, hA, hRR, hlen2, OI5⟩
      · have hRR : Hid (R = (l, ((AN : Int)), O)) := by
          show _ = _
          have h1 := hG.out
          have h2 : (4 - O).toNat = 0 := by omega
          rw [h2] at h1
          rw [← h1]; rfl
        clear hG hL
        go_wp2
        go_meet
        exact ⟨AN, O, l, rfl, rfl, hA, hRR, hlen2, OI⟩


end Go.Proofs.Ytffhpjjioefaeae

/-
  OWN TEXT. Contracts of the document's answer: GivenOf.
-/
namespace Go.Proofs.Ytffhpjjioefaeae
open Go Go.RowKit Go.Proofs.Ytffhpjjioefaeae.Kit

set_option maxHeartbeats 1000000 in
theorem givenOf_no (w : World) (fo : Option Addr) (fn fc : Nat) (to_ : Option Addr) (tn tc : Nat) (z : Zn) (a s : Int) (h : ZnAt w fo fn to_ tn z) (hM : ¬ ZMay z) :
    Calls Try.prog 16 #[.agg #[.int .i64 z.f, .int .i64 z.t, .slice fo fn fc, .slice to_ tn tc], .int .i64 a, .int .i64 s] w fun e w' => RetNone 8 e ∧ Below w.heap.size w w' := by
  have I0 := baInv_first w fo fn fc to_ tn tc z h
  have c0 := I0.box.c0
  have c1 := I0.box.c1
  have c2 := I0.box.c2
  have c3 := I0.box.c3
  clear h
  go_enter Try.func16, Try.ntmps16
  go_wp2_with fail
  go_at_call 18
  refine (zoneMay_any _ fo fn fc to_ tn tc z I0.zn).mono ?_
  rintro e w1 ⟨⟨r, rfl, hr⟩, hb⟩
  obtain rfl : r = false := by
    cases r with
    | false => rfl
    | true => exact absurd (hr.1 rfl) hM
  have I1 := I0.step hb
  have R1 := I1.res
  obtain ⟨⟨x0, d0⟩, ⟨x1, d1⟩, ⟨x2, d2⟩, ⟨x3, d3⟩, z0, z1, z2, z3⟩ := id R1
  have hB := I1.b
  have hs := I1.size
  clear I0 I1 hb hM hr c0 c1 c2 c3
  go_wp2
  obtain ⟨k0, k1, k2, k3⟩ := res4 R1 (.int .i64 0) (.int .i64 0) (.slice none 0 0) (.slice none 0 0)
  have hbt := but4 w1 (w.heap.size + 1) (.int .i64 0) (.int .i64 0) (.slice none 0 0) (.slice none 0 0)
  exact bodyPost_ret (v := .tuple #[.agg #[.int .i64 0, .int .i64 0, .slice none 0 0, .slice none 0 0], .int .i64 8]) (by simp [results, Try.results16, go_sem, k0, k1, k2, k3]) rfl ⟨rfl, hB.trans (hbt.below (by omega) (by omega))⟩

set_option maxHeartbeats 2000000 in
theorem givenOf_range (w : World) (fo : Option Addr) (fn fc : Nat) (to_ : Option Addr) (tn tc : Nat) (z : Zn) (a s : Int) (h : ZnAt w fo fn to_ tn z) (hM : ZMay z) (hr : ¬ giveOk z a s) :
    Calls Try.prog 16 #[.agg #[.int .i64 z.f, .int .i64 z.t, .slice fo fn fc, .slice to_ tn tc], .int .i64 a, .int .i64 s] w fun e w' => RetNone 1 e ∧ Below w.heap.size w w' := by
  have I0 := baInv_first w fo fn fc to_ tn tc z h
  have c0 := I0.box.c0
  have c1 := I0.box.c1
  have c2 := I0.box.c2
  have c3 := I0.box.c3
  obtain ⟨n1, n2, n3, n4, n5⟩ := hM.new
  clear h
  go_enter Try.func16, Try.ntmps16
  go_wp2_with fail
  go_at_call 18
  refine (zoneMay_any _ fo fn fc to_ tn tc z I0.zn).mono ?_
  rintro e w1 ⟨⟨r, rfl, hr1⟩, hb⟩
  obtain rfl : r = true := hr1.2 hM
  have I1 := I0.step hb
  have R1 := I1.res
  obtain ⟨⟨x0, d0⟩, ⟨x1, d1⟩, ⟨x2, d2⟩, ⟨x3, d3⟩, z0, z1, z2, z3⟩ := id R1
  have hB := I1.b
  have hs := I1.size
  obtain ⟨k0, k1, k2, k3⟩ := res4 R1 (.int .i64 0) (.int .i64 0) (.slice none 0 0) (.slice none 0 0)
  have hbt := but4 w1 (w.heap.size + 1) (.int .i64 0) (.int .i64 0) (.slice none 0 0) (.slice none 0 0)
  clear I0 hb hM hr1 c0 c1 c2 c3
  have c0 := I1.box.c0
  have c1 := I1.box.c1
  clear I1
  by_cases g1 : z.f ≤ a ∧ a ≤ z.t
  · have e1 : inB a z.f z.t = true := inB_t g1
    have e2 : inB s 0 (z.t - a) = false := inB_f (fun g => hr ⟨g1.1, g1.2, g.1, g.2⟩)
    have g2 := g1.1
    have g3 := g1.2
    clear g1 hr
    go_wp2_with (go_at_call 22; refine (in_any _ _ _ _).mono ?_; rintro e w' ⟨rfl, rfl⟩)
    exact bodyPost_ret (v := .tuple #[.agg #[.int .i64 0, .int .i64 0, .slice none 0 0, .slice none 0 0], .int .i64 1]) (by simp [results, Try.results16, go_sem, k0, k1, k2, k3]) rfl ⟨rfl, hB.trans (hbt.below (by omega) (by omega))⟩
  · have e1 : inB a z.f z.t = false := inB_f g1
    clear g1 hr
    go_wp2_with (go_at_call 22; refine (in_any _ _ _ _).mono ?_; rintro e w' ⟨rfl, rfl⟩)
    exact bodyPost_ret (v := .tuple #[.agg #[.int .i64 0, .int .i64 0, .slice none 0 0, .slice none 0 0], .int .i64 1]) (by simp [results, Try.results16, go_sem, k0, k1, k2, k3]) rfl ⟨rfl, hB.trans (hbt.below (by omega) (by omega))⟩

set_option maxHeartbeats 4000000 in
theorem givenOf_do (w : World) (fo : Option Addr) (fn fc : Nat) (to_ : Option Addr) (tn tc : Nat) (z : Zn) (a s : Int) (h : ZnAt w fo fn to_ tn z) (hM : ZMay z) (hr : giveOk z a s) (G : Option Zn) (hG : giveK s.toNat z a = G) :
    Calls Try.prog 16 #[.agg #[.int .i64 z.f, .int .i64 z.t, .slice fo fn fc, .slice to_ tn tc], .int .i64 a, .int .i64 s] w fun e w' => ((∃ Z, G = some Z ∧ RetZone w.heap.size w' Z e) ∨ (G = none ∧ RetNone 5 e)) ∧ Below w.heap.size w w' := by
  have I0 := baInv_first w fo fn fc to_ tn tc z h
  have c0 := I0.box.c0
  have c1 := I0.box.c1
  have c2 := I0.box.c2
  have c3 := I0.box.c3
  obtain ⟨n1, n2, n3, n4, n5⟩ := hM.new
  obtain ⟨r1, r2, r3, r4⟩ := hr
  obtain ⟨S, rfl⟩ : ∃ S : Nat, s = S := ⟨s.toNat, by omega⟩
  have HG : Hid (giveK S z a = G) := by show _ = _; rw [← hG]; rfl
  have e1 : inB a z.f z.t = true := inB_t ⟨r1, r2⟩
  have e2 : inB (S : Int) 0 (z.t - a) = true := inB_t ⟨r3, r4⟩
  clear h hG
  go_enter Try.func16, Try.ntmps16
  go_wp2_with fail
  go_at_call 18
  refine (zoneMay_any _ fo fn fc to_ tn tc z I0.zn).mono ?_
  rintro e w1 ⟨⟨r, rfl, hr1⟩, hb⟩
  obtain rfl : r = true := hr1.2 hM
  have I1 := I0.step hb
  clear I0 hb c0 c1 c2 c3 hr1
  have c0 := I1.box.c0
  have c1 := I1.box.c1
  have c2 := I1.box.c2
  have c3 := I1.box.c3
  go_wp2_with (go_at_call 22; refine (in_any _ _ _ _).mono ?_; rintro e w' ⟨rfl, rfl⟩)
  go_at_call 11
  refine (zoneCopy_any _ fo fn fc to_ tn tc z I1.zn).mono ?_
  rintro e w3 ⟨⟨lo, ln, lc, uo, un, uc, rfl, hz3, f1, f2⟩, hb3⟩
  have I3 := I1.step hb3
  have hs1 := I1.size
  have hbx := below_box w3 (.cells #[.int .i64 z.f, .int .i64 z.t, .slice lo ln lc, .slice uo un uc] 25)
  have X4 := zbox_new w3 (.int .i64 z.f) (.int .i64 z.t) (.slice lo ln lc) (.slice uo un uc) 25
  have hz4 := hz3.below hbx
  have I4 := I3.step hbx
  have hs3 := I3.size
  obtain ⟨W4, hW4⟩ : ∃ W4, w3.alloc (.cells #[.int .i64 z.f, .int .i64 z.t, .slice lo ln lc, .slice uo un uc] 25) = W4 := ⟨_, rfl⟩
  have hs4 : w3.heap.size + 1 ≤ W4.heap.size := by rw [← hW4]; simp
  rw [hW4] at I4 X4 hz4
  have HW4 : Hid _ := hW4
  clear I1 I3 hb3 c0 c1 c2 c3 hbx hW4 e1 e2 hz3
  go_wp2_with (rw [HW4.out])
  clear HW4
  go_loopw [9] (fun iv wr => ∃ (i : Nat) (zi : Zn) (lo : Option Addr) (ln lc : Nat) (uo : Option Addr) (un uc : Nat), i ≤ S ∧ iv = .int .i64 i ∧ Hid (giveK (S - i) zi (a + i) = G) ∧ ZMay zi ∧ zi.f = z.f ∧ zi.t = z.t ∧ ZBox wr w3.heap.size (.int .i64 zi.f) (.int .i64 zi.t) (.slice lo ln lc) (.slice uo un uc) ∧ ZnAt wr lo ln uo un zi ∧ Fresh (w.heap.size + 2) lo ∧ Fresh (w.heap.size + 2) uo ∧ Res4 wr (w.heap.size + 1) ∧ Below w.heap.size w wr ∧ w.heap.size + 2 ≤ wr.heap.size) (fun iv _ => S - (intOf iv).toNat)
  case atStart => exact ⟨0, z, lo, ln, lc, uo, un, uc, Nat.zero_le _, rfl, by simpa using HG, hM, rfl, rfl, X4, hz4, f1.mono hs1, f2.mono hs1, I4.res, I4.b, I4.size⟩
  case round =>
    obtain ⟨i, zi, lo, ln, lc, uo, un, uc, hi, rfl, hGi, hMi, hf, ht, X, hz, f1, f2, R, hB, hs⟩ := hrel
    clear X4 I4 HG hM hz4
    have y0 := X.c0
    have y1 := X.c1
    have y2 := X.c2
    have y3 := X.c3
    have hxl := X.lt
    by_cases hlt : i < S
    · have hA : blkIn zi.f zi.t (a + i) 0 := page_in (by omega) (by omega)
      obtain ⟨m, hm⟩ : ∃ m, S - i = m + 1 := ⟨S - i - 1, by omega⟩
      have HF : Hid (zi.f = z.f) := hf
      have HT : Hid (zi.t = z.t) := ht
      have ha2 : -9223372036854775808 ≤ a + i ∧ a + i ≤ 9223372036854775807 := by omega
      by_cases hv : ovlP zi.free (a + i) 0
      · have HP := backOf_twice wr lo ln lc uo un uc zi (a + i) 0 hz hMi hA hv
        have HN : Hid (G = none) := by show _ = _; rw [← hGi.out, hm]; exact give_none hv
        clear hGi hMi hv hA hf ht
        go_wp2_with fail
        go_at_call 13
        refine HP.mono ?_
        rintro e w5 ⟨rfl, hb5⟩
        have hby := below_box w5 (.cells #[.int .i64 0, .int .i64 0, .slice none 0 0, .slice none 0 0] 25)
        have R1 := (R.below hb5).below hby
        have hB5 := (hB.trans (hb5.mono hB.size)).trans (hby.mono (Nat.le_trans hB.size hb5.size))
        have hs5 := Nat.le_trans hs (Nat.le_trans hb5.size hby.size)
        obtain ⟨⟨x0, d0⟩, ⟨x1, d1⟩, ⟨x2, d2⟩, ⟨x3, d3⟩, z0, z1, z2, z3⟩ := id R1
        clear HP hz R hb5 hB X hby y0 y1 y2 y3
        go_wp2
        obtain ⟨k0, k1, k2, k3⟩ := res4 R1 (.int .i64 0) (.int .i64 0) (.slice none 0 0) (.slice none 0 0)
        have hbt := but4 (w5.alloc (.cells #[.int .i64 0, .int .i64 0, .slice none 0 0, .slice none 0 0] 25)) (w.heap.size + 1) (.int .i64 0) (.int .i64 0) (.slice none 0 0) (.slice none 0 0)
        exact bodyPost_ret (v := .tuple #[.agg #[.int .i64 0, .int .i64 0, .slice none 0 0, .slice none 0 0], .int .i64 5]) (by simp [results, Try.results16, go_sem, k0, k1, k2, k3]) rfl ⟨.inr ⟨HN.out, rfl⟩, hB5.trans (hbt.below (by omega) hB5.size)⟩
      · have HP := backOf_ok wr lo ln lc uo un uc zi (a + i) 0 hz hMi hA hv
        have HN : Hid (giveK (S - (i + 1)) (backZ zi (a + i) 0) (a + ((i + 1 : Nat) : Int)) = G) := by
          show _ = _
          rw [← hGi.out, hm, give_some hv, show S - (i + 1) = m by omega, show a + ((i + 1 : Nat) : Int) = a + i + 1 by omega]
        have hM2 := backZ_may hMi hA hv
        have hf2 : Hid ((backZ zi (a + i) 0).f = z.f) := hf
        have ht2 : Hid ((backZ zi (a + i) 0).t = z.t) := ht
        obtain ⟨Y, hY⟩ : ∃ Y, backZ zi (a + i) 0 = Y := ⟨_, rfl⟩
        rw [hY] at HP HN hM2 hf2 ht2
        clear hGi hMi hv hA hY hf ht
        go_wp2_with fail
        go_at_call 13
        refine HP.mono ?_
        rintro e w5 ⟨⟨lo', ln', lc', uo', un', uc', rfl, hz5, f1', f2'⟩, hb5⟩
        have hby := below_box w5 (.cells #[.int .i64 Y.f, .int .i64 Y.t, .slice lo' ln' lc', .slice uo' un' uc'] 25)
        have V5 := zbox_new w5 (.int .i64 Y.f) (.int .i64 Y.t) (.slice lo' ln' lc') (.slice uo' un' uc') 25
        have X5 := (X.below hb5).below hby
        have R5 := (R.below hb5).below hby
        have hz6 := hz5.below hby
        have hB5 := (hB.trans (hb5.mono hB.size)).trans (hby.mono (Nat.le_trans hB.size hb5.size))
        have hs5 := Nat.le_trans hs (Nat.le_trans hb5.size hby.size)
        have hs6 := hb5.size
        obtain ⟨W5, hW5⟩ : ∃ W5, w5.alloc (.cells #[.int .i64 Y.f, .int .i64 Y.t, .slice lo' ln' lc', .slice uo' un' uc'] 25) = W5 := ⟨_, rfl⟩
        rw [hW5] at V5 X5 R5 hz6 hB5 hs5
        have HW5 : Hid _ := hW5
        have v0 := V5.c0
        have v1 := V5.c1
        have v2 := V5.c2
        have v3 := V5.c3
        have q0 := X5.c0
        have q1 := X5.c1
        have q2 := X5.c2
        have q3 := X5.c3
        have p0 := X5.z0
        have p1 := X5.z1
        have p2 := X5.z2
        have p3 := X5.z3
        have X6 := X5.set4 (.int .i64 Y.f) (.int .i64 Y.t) (.slice lo' ln' lc') (.slice uo' un' uc')
        have hbt := but4 W5 w3.heap.size (.int .i64 Y.f) (.int .i64 Y.t) (.slice lo' ln' lc') (.slice uo' un' uc')
        have R6 := R5.but hbt (by omega)
        have hz7 := hbt.zn hz6 (fun a ha => by have := f1' a ha; omega) (fun a ha => by have := f2' a ha; omega)
        have hB6 := hB5.trans (hbt.below (B := w.heap.size) (by omega) (by omega))
        have hs7 := Nat.le_trans hs5 hbt.size
        clear HP hz R hb5 hB X hW5 hby y0 y1 y2 y3 V5 X5 R5 hz6 hz5 hB5 hbt
        go_wp2_with (rw [HW5.out])
        go_roundw
        case rel => exact ⟨i + 1, Y, lo', ln', lc', uo', un', uc', by omega, by go_num, HN, hM2, hf2.out, ht2.out, X6, hz7, f1'.mono (by omega), f2'.mono (by omega), R6, hB6, hs7⟩
        case measure => simp [intOf]; omega
    · have HN : Hid (G = some zi) := by
        show _ = _
        have h0 : S - i = 0 := by omega
        rw [← hGi.out, h0]
        rfl
      obtain ⟨⟨x0, d0⟩, ⟨x1, d1⟩, ⟨x2, d2⟩, ⟨x3, d3⟩, z0, z1, z2, z3⟩ := id R
      clear hGi hMi X hf ht
      go_wp2
      obtain ⟨k0, k1, k2, k3⟩ := res4 R (.int .i64 zi.f) (.int .i64 zi.t) (.slice lo ln lc) (.slice uo un uc)
      have hbt := but4 wr (w.heap.size + 1) (.int .i64 zi.f) (.int .i64 zi.t) (.slice lo ln lc) (.slice uo un uc)
      exact bodyPost_ret (v := .tuple #[.agg #[.int .i64 zi.f, .int .i64 zi.t, .slice lo ln lc, .slice uo un uc], .int .i64 0]) (by simp [results, Try.results16, go_sem, k0, k1, k2, k3]) rfl ⟨.inl ⟨zi, HN.out, _, _, _, _, _, _, rfl, hbt.zn hz (fun a ha => by have := f1 a ha; omega) (fun a ha => by have := f2 a ha; omega), f1.mono (by omega), f2.mono (by omega)⟩, hB.trans (hbt.below (by omega) (by omega))⟩

end Go.Proofs.Ytffhpjjioefaeae

/-
  OWN TEXT. Contract of the laws' own sameInts at two that hold the same.
-/
namespace Go.Proofs.Ytffhpjjioefaeae
open Go Go.RowKit Go.Proofs.Ytffhpjjioefaeae.Kit

set_option maxHeartbeats 400000 in
theorem same_eq (w : World) (ao bo : Option Addr) (n ca cb : Nat) (xs : List Int) (hn : xs.length = n) (hr : n * 8 ≤ 140737488351232) (ha : IntsAt w ao xs) (hb : IntsAt w bo xs) :
    Calls Try.prog 34 #[.slice ao n ca, .slice bo n cb] w fun e w' => e = .returned (.bool true) ∧ ∃ d, w' = w.drewN d := by
  go_enter Try.func34, Try.ntmps34
  go_wp2
  go_loopw [5] (fun i wr => ∃ k d : Nat, k ≤ n ∧ i = .int .i64 k ∧ wr = w.drewN d) (fun i _ => n - (intOf i).toNat)
  case atStart => exact ⟨0, 0, Nat.zero_le _, rfl, rfl⟩
  case round =>
    obtain ⟨k, d, hk, rfl, rfl⟩ := hrel
    by_cases hlt : k < n
    · obtain ⟨b1, o1, rfl, c1⟩ := ha k (by omega)
      obtain ⟨b2, o2, rfl, c2⟩ := hb k (by omega)
      clear ha hb
      go_wp2
      go_quiet (fail)
      go_wp2
      go_roundw
      case rel => exact ⟨k + 1, _, by omega, by go_num, rfl⟩
      case measure => simp [intOf]; omega
    · go_wp2
      go_ret
      exact ⟨rfl, d, rfl⟩

end Go.Proofs.Ytffhpjjioefaeae

/-
  OWN TEXT. Contracts of the laws' own: sameBlocks, sameZone at two that hold the same.
-/
namespace Go.Proofs.Ytffhpjjioefaeae
open Go Go.RowKit Go.Proofs.Ytffhpjjioefaeae.Kit

set_option maxHeartbeats 1000000 in
theorem sameBlocks_eq (w : World) (ao bo : Option Addr) (n ca cb : Nat) (l : List Bk) (ha : Blks w ao n l) (hb : Blks w bo n l) :
    Calls Try.prog 33 #[.slice ao n ca, .slice bo n cb] w fun e w' => e = .returned (.bool true) ∧ ∃ d, w' = w.drewN d := by
  have hn := ha.len
  have hr := ha.reach
  have xa := ha.at_
  have xb := hb.at_
  clear ha hb
  go_enter Try.func33, Try.ntmps33
  go_wp2
  go_loopw [5] (fun i wr => ∃ k d : Nat, k ≤ n ∧ i = .int .i64 k ∧ wr = w.drewN d) (fun i _ => n - (intOf i).toNat)
  case atStart => exact ⟨0, 0, Nat.zero_le _, rfl, rfl⟩
  case round =>
    obtain ⟨k, d, hk, rfl, rfl⟩ := hrel
    by_cases hlt : k < n
    · obtain ⟨b1, o1, x, y, u, rfl, c1, c2, c3, hX⟩ := xa.at k (by omega)
      obtain ⟨b2, o2, x', y', u', rfl, d1, d2, d3, hX'⟩ := xb.at k (by omega)
      have hxy : (⟨x, y, u⟩ : Bk) = ⟨x', y', u'⟩ := hX.out.symm.trans hX'.out
      cases hxy
      clear xa xb hX hX'
      go_wp2
      go_quiet (fail)
      go_wp2
      go_roundw
      case rel => exact ⟨k + 1, _, by omega, by go_num, rfl⟩
      case measure => simp [intOf]; omega
    · go_wp2
      go_ret
      exact ⟨rfl, d, rfl⟩

set_option maxHeartbeats 1000000 in
theorem sameZone_eq (w : World) (f t : Int) (f1 f2 t1 t2 : Option Addr) (fn fc1 fc2 tn tc1 tc2 : Nat) (z : Zn) (h1 : ZnAt w f1 fn t1 tn z) (h2 : ZnAt w f2 fn t2 tn z) :
    Calls Try.prog 14 #[.agg #[.int .i64 f, .int .i64 t, .slice f1 fn fc1, .slice t1 tn tc1], .agg #[.int .i64 f, .int .i64 t, .slice f2 fn fc2, .slice t2 tn tc2]] w fun e w' => e = .returned (.bool true) ∧ Below w.heap.size w w' := by
  have hb1 : Below w.heap.size w ((w.alloc (.cells #[.int .i64 f, .int .i64 t, .slice f1 fn fc1, .slice t1 tn tc1] 25)).alloc (.cells #[.int .i64 f, .int .i64 t, .slice f2 fn fc2, .slice t2 tn tc2] 25)) := ((Below.refl _ _).alloc (Nat.le_refl _) _).alloc (by simp) _
  have g1 := h1.below hb1
  have g2 := h2.below hb1
  clear h1 h2
  go_enter Try.func14, Try.ntmps14
  go_wp2_with fail
  go_at_call 33
  refine (sameBlocks_eq _ f1 f2 fn fc1 fc2 z.free g1.free g2.free).mono ?_
  rintro e w1 ⟨rfl, d, rfl⟩
  go_wp2_with fail
  go_at_call 34
  refine (same_eq _ t1 t2 tn tc1 tc2 z.types g1.types.len g1.types.reach (g1.types.at_.below (below_drawn d)) (g2.types.at_.below (below_drawn d))).mono ?_
  rintro e w2 ⟨rfl, d2, rfl⟩
  go_wp2
  go_ret
  exact ⟨rfl, hb1.trans (below_drewN (Below.refl _ _) _)⟩

end Go.Proofs.Ytffhpjjioefaeae

/-
  OWN TEXT. The walk of the law BuddyGives: it returns true and writes nothing that was there.
-/
namespace Go.Proofs.Ytffhpjjioefaeae
open Go Go.RowKit Go.Proofs.Ytffhpjjioefaeae.Kit

set_option maxHeartbeats 4000000 in
theorem buddyGives_both (z : Zn) (fo : Option Addr) (fn fc : Nat) (to_ : Option Addr) (tn tc : Nat) (a o : Int) (w : World) (h : ZnAt w fo fn to_ tn z) (Z : Zn) (c : Int)
    (HC : ∀ W ko kn kc lo ln lc, ZnAt W ko kn lo ln z → Calls Try.prog 15 #[.agg #[.int .i64 z.f, .int .i64 z.t, .slice ko kn kc, .slice lo ln lc], .int .i64 a, .int .i64 o] W fun e w' => RetAny w' Z c e ∧ Below W.heap.size W w')
    (HR : ∀ W ko kn kc lo ln lc, ZnAt W ko kn lo ln z → Calls Try.prog 16 #[.agg #[.int .i64 z.f, .int .i64 z.t, .slice ko kn kc, .slice lo ln lc], .int .i64 a, .int .i64 o] W fun e w' => RetAny w' Z c e ∧ Below W.heap.size W w') :
    Calls Try.prog 6 #[.agg #[.int .i64 z.f, .int .i64 z.t, .slice fo fn fc, .slice to_ tn tc], .int .i64 a, .int .i64 o] w fun e w' => e = .returned (.bool true) ∧ Below w.heap.size w w' := by
  have hb0 := below_box w (.cells #[.int .i64 z.f, .int .i64 z.t, .slice fo fn fc, .slice to_ tn tc] 25)
  have P := zbox_new w (.int .i64 z.f) (.int .i64 z.t) (.slice fo fn fc) (.slice to_ tn tc) 25
  replace h := h.below hb0
  have HC' : Hid _ := HC
  have HR' : Hid _ := HR
  have HK := zoneCopy_any _ fo fn fc to_ tn tc z h
  have p0 := P.c0
  have p1 := P.c1
  have p2 := P.c2
  have p3 := P.c3
  clear HC HR
  go_enter Try.func6, Try.ntmps6
  go_wp2_with fail
  go_at_call 11
  refine HK.mono ?_
  rintro e w1 ⟨⟨ko, kn, kc, lo, ln, lc, rfl, hk, _, _⟩, hb1⟩
  obtain rfl : kn = fn := hk.free.len.symm.trans (h.below hb1).free.len
  obtain rfl : ln = tn := hk.types.len.symm.trans (h.below hb1).types.len
  have hbk := below_box w1 (.cells #[.int .i64 z.f, .int .i64 z.t, .slice ko kn kc, .slice lo ln lc] 25)
  have K := zbox_new w1 (.int .i64 z.f) (.int .i64 z.t) (.slice ko kn kc) (.slice lo ln lc) 25
  have hB1 := hb0.trans ((hb1.mono hb0.size).trans (hbk.mono (Nat.le_trans hb0.size hb1.size)))
  replace h := (h.below hb1).below hbk
  replace hk := hk.below hbk
  replace P := (P.below hb1).below hbk
  have HC2 := HC'.out _ ko kn kc lo ln lc hk
  replace p0 := P.c0
  replace p1 := P.c1
  replace p2 := P.c2
  replace p3 := P.c3
  have k0 := K.c0
  have k1 := K.c1
  have k2 := K.c2
  have k3 := K.c3
  clear HK HC' hb0 hb1 hbk
  go_wp2_with fail
  go_at_call 15
  refine HC2.mono ?_
  rintro e w2 ⟨⟨xo, xn, xc, yo, yn, yc, rfl, hx⟩, hb2⟩
  have hbx := below_box w2 (.cells #[.int .i64 Z.f, .int .i64 Z.t, .slice xo xn xc, .slice yo yn yc] 25)
  have X := zbox_new w2 (.int .i64 Z.f) (.int .i64 Z.t) (.slice xo xn xc) (.slice yo yn yc) 25
  have hB2 := hB1.trans ((hb2.mono hB1.size).trans (hbx.mono (Nat.le_trans hB1.size hb2.size)))
  replace h := (h.below hb2).below hbx
  replace hk := (hk.below hb2).below hbx
  replace hx := hx.below hbx
  replace P := (P.below hb2).below hbx
  replace K := (K.below hb2).below hbx
  have HR2 := HR'.out _ fo kn fc to_ ln tc h
  replace p0 := P.c0
  replace p1 := P.c1
  replace p2 := P.c2
  replace p3 := P.c3
  clear HC2 HR' hB1 hb2 hbx k0 k1 k2 k3
  go_wp2_with fail
  go_at_call 16
  refine HR2.mono ?_
  rintro e w3 ⟨⟨go, gn, gc, uo, un, uc, rfl, hy⟩, hb3⟩
  obtain rfl : gn = xn := hy.free.len.symm.trans (hx.below hb3).free.len
  obtain rfl : un = yn := hy.types.len.symm.trans (hx.below hb3).types.len
  have hby := below_box w3 (.cells #[.int .i64 Z.f, .int .i64 Z.t, .slice go gn gc, .slice uo un uc] 25)
  have Y := zbox_new w3 (.int .i64 Z.f) (.int .i64 Z.t) (.slice go gn gc) (.slice uo un uc) 25
  have hB3 := hB2.trans ((hb3.mono hB2.size).trans (hby.mono (Nat.le_trans hB2.size hb3.size)))
  replace h := (h.below hb3).below hby
  replace hk := (hk.below hb3).below hby
  replace hx := (hx.below hb3).below hby
  replace hy := hy.below hby
  replace P := (P.below hb3).below hby
  replace K := (K.below hb3).below hby
  replace X := (X.below hb3).below hby
  have x0 := X.c0
  have x1 := X.c1
  have x2 := X.c2
  have x3 := X.c3
  have y0 := Y.c0
  have y1 := Y.c1
  have y2 := Y.c2
  have y3 := Y.c3
  clear HR2 hB2 hb3 hby p0 p1 p2 p3
  go_wp2_with fail
  go_at_call 14
  refine (sameZone_eq _ Z.f Z.t xo go yo uo gn xc gc un yc uc Z hx hy).mono ?_
  rintro e w4 ⟨rfl, hb4⟩
  have hB4 := hB3.trans (hb4.mono hB3.size)
  replace h := h.below hb4
  replace hk := hk.below hb4
  replace P := P.below hb4
  replace K := K.below hb4
  have p0 := P.c0
  have p1 := P.c1
  have p2 := P.c2
  have p3 := P.c3
  have k0 := K.c0
  have k1 := K.c1
  have k2 := K.c2
  have k3 := K.c3
  clear hb4 hB3 x0 x1 x2 x3 y0 y1 y2 y3 X Y
  go_wp2_with fail
  go_at_call 14
  refine (sameZone_eq _ z.f z.t ko fo lo to_ kn kc fc ln lc tc z hk h).mono ?_
  rintro e w5 ⟨rfl, hb5⟩
  go_wp2
  go_ret
  exact ⟨rfl, hB4.trans (hb5.mono hB4.size)⟩

theorem buddyGives_walk (f t : Int) (fo : Option Addr) (fn fc : Nat) (to_ : Option Addr) (tn tc : Nat) (fr : List Bk) (ty : List Int) (a o : Int) (w : World) (h : IsZone w fo fn fc to_ tn tc ⟨f, t, fr, ty⟩) (_wa : (Lit.int .i64 a).wf = true) (_wo : (Lit.int .i64 o).wf = true) :
    Calls Try.prog 6 #[.agg #[.int .i64 f, .int .i64 t, .slice fo fn fc, .slice to_ tn tc], .int .i64 a, .int .i64 o] w fun e w' => e = .returned (.bool true) ∧ Below w.heap.size w w' := by
  by_cases hM : ZMay ⟨f, t, fr, ty⟩
  · by_cases hb : giveOk ⟨f, t, fr, ty⟩ a o
    · obtain ⟨G, hG⟩ : ∃ G, giveK o.toNat ⟨f, t, fr, ty⟩ a = G := ⟨_, rfl⟩
      cases G with
      | none => exact buddyGives_both ⟨f, t, fr, ty⟩ fo fn fc to_ tn tc a o w h.zn ⟨0, 0, [], []⟩ 5 (fun W ko kn kc lo ln lc hz => (zGive_do W ko kn kc lo ln lc ⟨f, t, fr, ty⟩ a o hz hM hb none hG).mono fun e w' (g : _ ∧ _) => ⟨(by rcases g.1 with ⟨Z, e1, _⟩ | ⟨_, e2⟩; cases e1; exact e2.any), g.2⟩) (fun W ko kn kc lo ln lc hz => (givenOf_do W ko kn kc lo ln lc ⟨f, t, fr, ty⟩ a o hz hM hb none hG).mono fun e w' (g : _ ∧ _) => ⟨(by rcases g.1 with ⟨Z, e1, _⟩ | ⟨_, e2⟩; cases e1; exact e2.any), g.2⟩)
      | some Y => exact buddyGives_both ⟨f, t, fr, ty⟩ fo fn fc to_ tn tc a o w h.zn Y 0 (fun W ko kn kc lo ln lc hz => (zGive_do W ko kn kc lo ln lc ⟨f, t, fr, ty⟩ a o hz hM hb (some Y) hG).mono fun e w' (g : _ ∧ _) => ⟨(by rcases g.1 with ⟨Z, e1, e2⟩ | ⟨e1, _⟩; cases e1; exact e2.any; cases e1), g.2⟩) (fun W ko kn kc lo ln lc hz => (givenOf_do W ko kn kc lo ln lc ⟨f, t, fr, ty⟩ a o hz hM hb (some Y) hG).mono fun e w' (g : _ ∧ _) => ⟨(by rcases g.1 with ⟨Z, e1, e2⟩ | ⟨e1, _⟩; cases e1; exact e2.any; cases e1), g.2⟩)
    · exact buddyGives_both ⟨f, t, fr, ty⟩ fo fn fc to_ tn tc a o w h.zn ⟨0, 0, [], []⟩ 1 (fun W ko kn kc lo ln lc hz => (zGive_range W ko kn kc lo ln lc ⟨f, t, fr, ty⟩ a o hz hM hb).mono fun e w' g => ⟨g.1.any, g.2⟩) (fun W ko kn kc lo ln lc hz => (givenOf_range W ko kn kc lo ln lc ⟨f, t, fr, ty⟩ a o hz hM hb).mono fun e w' g => ⟨g.1.any, g.2⟩)
  · exact buddyGives_both ⟨f, t, fr, ty⟩ fo fn fc to_ tn tc a o w h.zn ⟨0, 0, [], []⟩ 8 (fun W ko kn kc lo ln lc hz => (zGive_no W ko kn kc lo ln lc ⟨f, t, fr, ty⟩ a o hz h.fits hM).mono fun e w' g => ⟨g.1.any, g.2⟩) (fun W ko kn kc lo ln lc hz => (givenOf_no W ko kn kc lo ln lc ⟨f, t, fr, ty⟩ a o hz hM).mono fun e w' g => ⟨g.1.any, g.2⟩)

end Go.Proofs.Ytffhpjjioefaeae
