/-
  OWN TEXT. Contracts of the code: buddy.Back.
-/
import Derived.Test.YtamkgakhgfhmjaeZcPut2
import Derived.Test.YtamkgakhgfhmjaeZcCopy
namespace Go.Proofs.Ytamkgakhgfhmjae
open Go Go.RowKit Go.Proofs.Ytamkgakhgfhmjae.Kit

/-- What a function knows that was handed a zone and answers one: both boxes, the lists. -/
structure CbI (w : World) (fo : Option Addr) (fn fc : Nat) (to_ : Option Addr) (tn tc : Nat) (z : Zn) (W : World) : Prop where
  b : Below w.heap.size w W
  box : ZBox W w.heap.size (.int .i64 z.f) (.int .i64 z.t) (.slice fo fn fc) (.slice to_ tn tc)
  zn : ZnAt W fo fn to_ tn z
  res : Res4 W (w.heap.size + 1)
  size : w.heap.size + 2 ≤ W.heap.size
theorem CbI.step {w : World} {fo : Option Addr} {fn fc : Nat} {to_ : Option Addr} {tn tc : Nat} {z : Zn} {W W' : World} (h : CbI w fo fn fc to_ tn tc z W) (hb : Below W.heap.size W W') : CbI w fo fn fc to_ tn tc z W' :=
  ⟨h.b.trans (hb.mono h.b.size), h.box.below hb, h.zn.below hb, h.res.below hb, Nat.le_trans h.size hb.size⟩
theorem cbI_first (w : World) (fo : Option Addr) (fn fc : Nat) (to_ : Option Addr) (tn tc : Nat) (z : Zn) (h : ZnAt w fo fn to_ tn z) : CbI w fo fn fc to_ tn tc z ((w.alloc (.cells #[.int .i64 z.f, .int .i64 z.t, .slice fo fn fc, .slice to_ tn tc] 25)).alloc (.cells #[.int .i64 0, .int .i64 0, .slice none 0 0, .slice none 0 0] 25)) := by
  have hb2 : Below w.heap.size w ((w.alloc (.cells #[.int .i64 z.f, .int .i64 z.t, .slice fo fn fc, .slice to_ tn tc] 25)).alloc (.cells #[.int .i64 0, .int .i64 0, .slice none 0 0, .slice none 0 0] 25)) := ((Below.refl _ _).alloc (Nat.le_refl _) _).alloc (by simp) _
  refine ⟨hb2, (zbox_new w _ _ _ _ _).below (below_box _ _), h.below hb2, ?_, by simp⟩
  have := zbox_new (w.alloc (.cells #[.int .i64 z.f, .int .i64 z.t, .slice fo fn fc, .slice to_ tn tc] 25)) (.int .i64 0) (.int .i64 0) (.slice none 0 0) (.slice none 0 0) 25
  have h2 := this.res
  simpa using h2

set_option maxHeartbeats 1000000 in
theorem zBack_no (w : World) (fo : Option Addr) (fn fc : Nat) (to_ : Option Addr) (tn tc : Nat) (z : Zn) (a o : Int) (h : ZnAt w fo fn to_ tn z) (hf : ZFits z) (hM : ¬ ZMay z) :
    Calls Try.prog 12 #[.agg #[.int .i64 z.f, .int .i64 z.t, .slice fo fn fc, .slice to_ tn tc], .int .i64 a, .int .i64 o] w fun e w' => RetNone 8 e ∧ Below w.heap.size w w' := by
  have I0 := cbI_first w fo fn fc to_ tn tc z h
  have c0 := I0.box.c0
  have c1 := I0.box.c1
  have c2 := I0.box.c2
  have c3 := I0.box.c3
  clear h
  go_enter Try.func12, Try.ntmps12
  go_wp2_with fail
  go_at_call 17
  refine (zCheck_no _ fo fn fc to_ tn tc z I0.zn hf hM).mono ?_
  rintro e w1 ⟨rfl, hb⟩
  have I1 := I0.step hb
  have R1 := I1.res
  obtain ⟨⟨x0, d0⟩, ⟨x1, d1⟩, ⟨x2, d2⟩, ⟨x3, d3⟩, z0, z1, z2, z3⟩ := id R1
  have hB := I1.b
  have hs := I1.size
  clear I0 I1 hb hM hf c0 c1 c2 c3
  go_wp2
  obtain ⟨k0, k1, k2, k3⟩ := res4 R1 (.int .i64 0) (.int .i64 0) (.slice none 0 0) (.slice none 0 0)
  have hbt := but4 w1 (w.heap.size + 1) (.int .i64 0) (.int .i64 0) (.slice none 0 0) (.slice none 0 0)
  exact bodyPost_ret (v := .tuple #[.agg #[.int .i64 0, .int .i64 0, .slice none 0 0, .slice none 0 0], .int .i64 8]) (by simp [results, Try.results12, go_sem, k0, k1, k2, k3]) rfl ⟨rfl, hB.trans (hbt.below (by omega) (by omega))⟩

set_option maxHeartbeats 1000000 in
theorem zBack_range (w : World) (fo : Option Addr) (fn fc : Nat) (to_ : Option Addr) (tn tc : Nat) (z : Zn) (a o : Int) (h : ZnAt w fo fn to_ tn z) (_wa : (Lit.int .i64 a).wf = true) (_wo : (Lit.int .i64 o).wf = true) (hM : ZMay z) (hbk : ¬ blkIn z.f z.t a o) :
    Calls Try.prog 12 #[.agg #[.int .i64 z.f, .int .i64 z.t, .slice fo fn fc, .slice to_ tn tc], .int .i64 a, .int .i64 o] w fun e w' => RetNone 1 e ∧ Below w.heap.size w w' := by
  have I0 := cbI_first w fo fn fc to_ tn tc z h
  have c0 := I0.box.c0
  have c1 := I0.box.c1
  have c2 := I0.box.c2
  have c3 := I0.box.c3
  have hB2 : Hid (blkB z.f z.t a o = false) := by
    show _ = _
    cases hb : blkB z.f z.t a o with
    | false => rfl
    | true => exact absurd ((blkB_iff z.f z.t a o).1 hb) hbk
  clear h hbk
  go_enter Try.func12, Try.ntmps12
  go_wp2_with fail
  go_at_call 17
  refine (zCheck_ok _ fo fn fc to_ tn tc z I0.zn hM).mono ?_
  rintro e w1 ⟨rfl, hb⟩
  have I1 := I0.step hb
  clear I0 hb c0 c1 c2 c3
  have c0 := I1.box.c0
  have c1 := I1.box.c1
  have c2 := I1.box.c2
  have c3 := I1.box.c3
  go_wp2_with fail
  go_at_call 25
  refine (blkMay_any _ z.f z.t fo to_ fn fc tn tc a o hM.new).mono ?_
  rintro e w2 ⟨rfl, hb2⟩
  rw [hB2.out]
  have I2 := I1.step hb2
  have R1 := I2.res
  obtain ⟨⟨x0, d0⟩, ⟨x1, d1⟩, ⟨x2, d2⟩, ⟨x3, d3⟩, z0, z1, z2, z3⟩ := id R1
  have hB := I2.b
  have hs := I2.size
  clear I1 I2 hb2 hM c0 c1 c2 c3
  go_wp2
  obtain ⟨k0, k1, k2, k3⟩ := res4 R1 (.int .i64 0) (.int .i64 0) (.slice none 0 0) (.slice none 0 0)
  have hbt := but4 w2 (w.heap.size + 1) (.int .i64 0) (.int .i64 0) (.slice none 0 0) (.slice none 0 0)
  exact bodyPost_ret (v := .tuple #[.agg #[.int .i64 0, .int .i64 0, .slice none 0 0, .slice none 0 0], .int .i64 1]) (by simp [results, Try.results12, go_sem, k0, k1, k2, k3]) rfl ⟨rfl, hB.trans (hbt.below (by omega) (by omega))⟩

/-- The copy in a variable of its own. -/
theorem zo_new {w3 : World} {B g k fn tn : Nat} {z : Zn} (o1 : w3.ownsRow B 39 3 (.slice (some ⟨g, 0, none⟩) fn fn) fn (bvals z.free)) (o2 : w3.ownsRow B 3 1 (.slice (some ⟨k, 0, none⟩) tn tn) tn (vals z.types)) (hgk : g ≠ k) :
    Zo (w3.alloc (.cells #[.int .i64 z.f, .int .i64 z.t, .slice (some ⟨g, 0, none⟩) fn fn, .slice (some ⟨k, 0, none⟩) tn tn] 25)) B w3.heap.size g fn fn k tn tn z := by
  have hbx := below_box w3 (.cells #[.int .i64 z.f, .int .i64 z.t, .slice (some ⟨g, 0, none⟩) fn fn, .slice (some ⟨k, 0, none⟩) tn tn] 25)
  have h1 : g < w3.heap.size := (o1.lt _ rfl).2
  have h2 : k < w3.heap.size := (o2.lt _ rfl).2
  exact ⟨zbox_new _ _ _ _ _ _, owns_below o1 hbx (Nat.le_refl _), owns_below o2 hbx (Nat.le_refl _), by omega, by omega, hgk⟩

set_option maxHeartbeats 2000000 in
theorem zBack_twice (w : World) (fo : Option Addr) (fn fc : Nat) (to_ : Option Addr) (tn tc : Nat) (z : Zn) (a o : Int) (h : ZnAt w fo fn to_ tn z) (hM : ZMay z) (hA : blkIn z.f z.t a o) (hv : ovlP z.free a o) :
    Calls Try.prog 12 #[.agg #[.int .i64 z.f, .int .i64 z.t, .slice fo fn fc, .slice to_ tn tc], .int .i64 a, .int .i64 o] w fun e w' => RetNone 5 e ∧ Below w.heap.size w w' := by
  have I0 := cbI_first w fo fn fc to_ tn tc z h
  have c0 := I0.box.c0
  have c1 := I0.box.c1
  have c2 := I0.box.c2
  have c3 := I0.box.c3
  have hB2 : Hid (blkB z.f z.t a o = true) := (blkB_iff z.f z.t a o).2 hA
  clear h
  go_enter Try.func12, Try.ntmps12
  go_wp2_with fail
  go_at_call 17
  refine (zCheck_ok _ fo fn fc to_ tn tc z I0.zn hM).mono ?_
  rintro e w1 ⟨rfl, hb⟩
  have I1 := I0.step hb
  clear I0 hb c0 c1 c2 c3
  have c0 := I1.box.c0
  have c1 := I1.box.c1
  have c2 := I1.box.c2
  have c3 := I1.box.c3
  go_wp2_with fail
  go_at_call 25
  refine (blkMay_any _ z.f z.t fo to_ fn fc tn tc a o hM.new).mono ?_
  rintro e w2 ⟨rfl, hb2⟩
  rw [hB2.out]
  have I2 := I1.step hb2
  clear I1 hb2 c0 c1 c2 c3
  have c0 := I2.box.c0
  have c1 := I2.box.c1
  have c2 := I2.box.c2
  have c3 := I2.box.c3
  go_wp2_with fail
  go_at_call 26
  refine (zCopy_own _ fo fn fc to_ tn tc z I2.zn).mono ?_
  rintro e w3 ⟨g, k, rfl, o1, o2, hgk, hb3⟩
  have I3 := I2.step hb3
  have Z4 := zo_new o1 o2 hgk
  have hbx := below_box w3 (.cells #[.int .i64 z.f, .int .i64 z.t, .slice (some ⟨g, 0, none⟩) fn fn, .slice (some ⟨k, 0, none⟩) tn tn] 25)
  have I4 := I3.step hbx
  have HP := put_twice _ _ w3.heap.size g fn fn k tn tn z a o Z4 hM hA hv
  clear I2 I3 hb3 c0 c1 c2 c3 o1 o2 hbx
  go_wp2_with fail
  go_at_call 27
  refine HP.mono ?_
  rintro e w5 ⟨rfl, hb5⟩
  have I5 := I4.step hb5
  have R1 := I5.res
  obtain ⟨⟨x0, d0⟩, ⟨x1, d1⟩, ⟨x2, d2⟩, ⟨x3, d3⟩, z0, z1, z2, z3⟩ := id R1
  have hB := I5.b
  have hs := I5.size
  clear I4 I5 hb5 hM HP Z4
  go_wp2
  obtain ⟨k0, k1, k2, k3⟩ := res4 R1 (.int .i64 0) (.int .i64 0) (.slice none 0 0) (.slice none 0 0)
  have hbt := but4 w5 (w.heap.size + 1) (.int .i64 0) (.int .i64 0) (.slice none 0 0) (.slice none 0 0)
  exact bodyPost_ret (v := .tuple #[.agg #[.int .i64 0, .int .i64 0, .slice none 0 0, .slice none 0 0], .int .i64 5]) (by simp [results, Try.results12, go_sem, k0, k1, k2, k3]) rfl ⟨rfl, hB.trans (hbt.below (by omega) (by omega))⟩

theorem backGo_len (n : Nat) (l : List Bk) (a o : Int) : (backGo n l a o).1.length ≤ l.length := by
  induction n generalizing l a o with
  | zero => exact Nat.le_refl _
  | succ n ih =>
    unfold backGo
    split
    · exact Nat.le_trans (ih _ _ _) (dropB_len _ _ _)
    · exact Nat.le_refl _
theorem backZ_len (z : Zn) (a o : Int) : (backZ z a o).free.length ≤ z.free.length + 1 := by
  show (addB _ _).length ≤ _
  rw [addB_len]
  have := backGo_len (4 - o).toNat z.free a o
  omega

set_option maxHeartbeats 2000000 in
theorem zBack_ok (w : World) (fo : Option Addr) (fn fc : Nat) (to_ : Option Addr) (tn tc : Nat) (z : Zn) (a o : Int) (h : ZnAt w fo fn to_ tn z) (hM : ZMay z) (hA : blkIn z.f z.t a o) (hv : ¬ ovlP z.free a o) :
    Calls Try.prog 12 #[.agg #[.int .i64 z.f, .int .i64 z.t, .slice fo fn fc, .slice to_ tn tc], .int .i64 a, .int .i64 o] w fun e w' => RetZone w.heap.size w' (backZ z a o) e ∧ Below w.heap.size w w' := by
  have I0 := cbI_first w fo fn fc to_ tn tc z h
  have c0 := I0.box.c0
  have c1 := I0.box.c1
  have c2 := I0.box.c2
  have c3 := I0.box.c3
  have hB2 : Hid (blkB z.f z.t a o = true) := (blkB_iff z.f z.t a o).2 hA
  have htr := h.types.reach
  have hbl := may_len hM
  obtain ⟨Y, hY⟩ : ∃ Y, backZ z a o = Y := ⟨_, rfl⟩
  have hlenB : Y.free.length ≤ 257 := by rw [← hY]; have := backZ_len z a o; omega
  rw [hY]
  have HY : Hid _ := hY
  clear h hY
  go_enter Try.func12, Try.ntmps12
  go_wp2_with fail
  go_at_call 17
  refine (zCheck_ok _ fo fn fc to_ tn tc z I0.zn hM).mono ?_
  rintro e w1 ⟨rfl, hb⟩
  have I1 := I0.step hb
  clear I0 hb c0 c1 c2 c3
  have c0 := I1.box.c0
  have c1 := I1.box.c1
  have c2 := I1.box.c2
  have c3 := I1.box.c3
  go_wp2_with fail
  go_at_call 25
  refine (blkMay_any _ z.f z.t fo to_ fn fc tn tc a o hM.new).mono ?_
  rintro e w2 ⟨rfl, hb2⟩
  rw [hB2.out]
  have I2 := I1.step hb2
  clear I1 hb2 c0 c1 c2 c3
  have c0 := I2.box.c0
  have c1 := I2.box.c1
  have c2 := I2.box.c2
  have c3 := I2.box.c3
  go_wp2_with fail
  go_at_call 26
  refine (zCopy_own _ fo fn fc to_ tn tc z I2.zn).mono ?_
  rintro e w3 ⟨g, k, rfl, o1, o2, hgk, hb3⟩
  have I3 := I2.step hb3
  have hf1 := owns_fresh o1 _ rfl
  have hf2 := owns_fresh o2 _ rfl
  have Z4 := zo_new o1 o2 hgk
  have hbx := below_box w3 (.cells #[.int .i64 z.f, .int .i64 z.t, .slice (some ⟨g, 0, none⟩) fn fn, .slice (some ⟨k, 0, none⟩) tn tn] 25)
  have I4 := I3.step hbx
  have hs2 := I2.size
  have hs3 := I3.size
  have HP := put_ok _ _ w3.heap.size g fn fn k tn tn z a o Z4 hM hA hv
  have hgl := Z4.glt
  obtain ⟨W4, hW4⟩ : ∃ W4, w3.alloc (.cells #[.int .i64 z.f, .int .i64 z.t, .slice (some ⟨g, 0, none⟩) fn fn, .slice (some ⟨k, 0, none⟩) tn tn] 25) = W4 := ⟨_, rfl⟩
  rw [hW4] at I4 HP hgl
  have HW4 : Hid _ := hW4
  rw [HY.out] at HP
  dsimp only at hf1 hf2
  clear I2 I3 hb3 c0 c1 c2 c3 o1 o2 hbx Z4 hW4
  go_wp2_with (rw [HW4.out])
  go_at_call 27
  refine HP.mono ?_
  rintro e w5 ⟨rfl, g', n', cap', Z5, hg', hU⟩
  have hs4 := I4.size
  have R1 := hU.res I4.res (by omega) (by omega)
  have hB : Below w.heap.size w w5 := I4.b.trans (hU.below (by omega) (by omega) (by omega))
  obtain ⟨⟨x0, d0⟩, ⟨x1, d1⟩, ⟨x2, d2⟩, ⟨x3, d3⟩, z0, z1, z2, z3⟩ := id R1
  have y0 := Z5.box.c0
  have y1 := Z5.box.c1
  have y2 := Z5.box.c2
  have y3 := Z5.box.c3
  have hs5 := hU.size
  have hgB : w.heap.size + 2 ≤ g' := by rcases hg' with e | e <;> omega
  have B7 := blks_own Z5.own (by have := bowns_len Z5.own; omega)
  have N7 := nums_of_owns Z5.typ htr
  clear I4 HP HW4
  go_wp2
  obtain ⟨k0, k1, k2, k3⟩ := res4 R1 (.int .i64 Y.f) (.int .i64 Y.t) (.slice (some ⟨g', 0, none⟩) n' cap') (.slice (some ⟨k, 0, none⟩) tn tn)
  have hbt := but4 w5 (w.heap.size + 1) (.int .i64 Y.f) (.int .i64 Y.t) (.slice (some ⟨g', 0, none⟩) n' cap') (.slice (some ⟨k, 0, none⟩) tn tn)
  exact bodyPost_ret (v := .tuple #[.agg #[.int .i64 Y.f, .int .i64 Y.t, .slice (some ⟨g', 0, none⟩) n' cap', .slice (some ⟨k, 0, none⟩) tn tn], .int .i64 0]) (by simp [results, Try.results12, go_sem, k0, k1, k2, k3]) rfl ⟨⟨_, _, _, _, _, _, rfl, hbt.zn ⟨B7, N7⟩ (fun a ha => by cases ha; dsimp only; omega) (fun a ha => by cases ha; dsimp only; omega), fun a ha => by cases ha; dsimp only; omega, fun a ha => by cases ha; dsimp only; omega⟩, hB.trans (hbt.below (by omega) (by omega))⟩

end Go.Proofs.Ytamkgakhgfhmjae
