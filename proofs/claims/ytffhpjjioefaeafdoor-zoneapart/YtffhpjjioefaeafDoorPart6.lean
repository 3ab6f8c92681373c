/-
  OWN TEXTS, bundled: ZcTake0, KzT, Peel, Peel2, AppK2, AppK4, RawKit, Picked, ZcGroup.
-/
import Derived.Test.YtffhpjjioefaeafDoorPart4
import Derived.Test.YtffhpjjioefaeafDoorPart5
import Derived.Test.YtffhpjjioefaeafDoorPart2
import Derived.Test.YtffhpjjioefaeafDoorPart3
import Derived.Test.YtffhpjjioefaeafDoorPart1
import Derived.OrdersHeld

/-
  OWN TEXT. Contracts of the code: buddy.Take, what it refuses.
-/
namespace Go.Proofs.YtffhpjjioefaeafDoor
open Go Go.RowKit Go.Proofs.YtffhpjjioefaeafDoor.Kit

/-- No zone is returned, no place, and a code. -/
def RetNone3 (c : Int) (e : Ending) : Prop := e = .returned (.tuple #[.agg #[.int .i64 0, .int .i64 0, .slice none 0 0, .slice none 0 0], .int .i64 0, .int .i64 c])
/-- A zone in new memory is returned, a place, and a code. -/
def RetZone3 (B : Nat) (w' : World) (z : Zn) (a : Int) (e : Ending) : Prop :=
  ∃ fo fn fc to_ tn tc, e = .returned (.tuple #[.agg #[.int .i64 z.f, .int .i64 z.t, .slice fo fn fc, .slice to_ tn tc], .int .i64 a, .int .i64 0]) ∧ ZnAt w' fo fn to_ tn z ∧ Fresh B fo ∧ Fresh B to_

set_option maxHeartbeats 1000000 in
theorem zTake_no (w : World) (fo : Option Addr) (fn fc : Nat) (to_ : Option Addr) (tn tc : Nat) (z : Zn) (o t : Int) (h : ZnAt w fo fn to_ tn z) (hf : ZFits z) (hM : ¬ ZMay z) :
    Calls Tryd.prog 15 #[.agg #[.int .i64 z.f, .int .i64 z.t, .slice fo fn fc, .slice to_ tn tc], .int .i64 o, .int .i64 t] w fun e w' => RetNone3 8 e ∧ Below w.heap.size w w' := by
  have I0 := cbI_first w fo fn fc to_ tn tc z h
  have c0 := I0.box.c0
  have c1 := I0.box.c1
  have c2 := I0.box.c2
  have c3 := I0.box.c3
  clear h
  go_enter Tryd.func15, Tryd.ntmps15
  go_wp2_with fail
  go_at_call 25
  refine (zCheck_no _ fo fn fc to_ tn tc z I0.zn hf hM).mono ?_
  rintro e w1 ⟨rfl, hb⟩
  have I1 := I0.step hb
  clear I0 hb hM hf c0 c1 c2 c3
  have c0 := I1.box.c0
  have c1 := I1.box.c1
  have c2 := I1.box.c2
  have c3 := I1.box.c3
  have R1 := I1.res
  obtain ⟨⟨x0, d0⟩, ⟨x1, d1⟩, ⟨x2, d2⟩, ⟨x3, d3⟩, z0, z1, z2, z3⟩ := id R1
  have hB := I1.b
  have hs := I1.size
  clear I1 c0 c1 c2 c3
  go_wp2
  obtain ⟨k0, k1, k2, k3⟩ := res4 R1 (.int .i64 0) (.int .i64 0) (.slice none 0 0) (.slice none 0 0)
  have hbt := but4 w1 (w.heap.size + 1) (.int .i64 0) (.int .i64 0) (.slice none 0 0) (.slice none 0 0)
  exact bodyPost_ret (v := .tuple #[.agg #[.int .i64 0, .int .i64 0, .slice none 0 0, .slice none 0 0], .int .i64 0, .int .i64 8]) (by simp [results, Tryd.results15, go_sem, k0, k1, k2, k3]) rfl ⟨rfl, hB.trans (hbt.below (by omega) (by omega))⟩

set_option maxHeartbeats 1000000 in
theorem zTake_range (w : World) (fo : Option Addr) (fn fc : Nat) (to_ : Option Addr) (tn tc : Nat) (z : Zn) (o t : Int) (h : ZnAt w fo fn to_ tn z) (hM : ZMay z) (ho : ¬ ordOk o) :
    Calls Tryd.prog 15 #[.agg #[.int .i64 z.f, .int .i64 z.t, .slice fo fn fc, .slice to_ tn tc], .int .i64 o, .int .i64 t] w fun e w' => RetNone3 1 e ∧ Below w.heap.size w w' := by
  have I0 := cbI_first w fo fn fc to_ tn tc z h
  have c0 := I0.box.c0
  have c1 := I0.box.c1
  have c2 := I0.box.c2
  have c3 := I0.box.c3
  clear h
  go_enter Tryd.func15, Tryd.ntmps15
  have HO : Hid (inB o 0 4 = false) := inB_f (fun g => ho g)
  go_wp2_with fail
  go_at_call 25
  refine (zCheck_ok _ fo fn fc to_ tn tc z I0.zn hM).mono ?_
  rintro e w1 ⟨rfl, hb⟩
  have I1 := I0.step hb
  clear I0 hb hM c0 c1 c2 c3
  have c0 := I1.box.c0
  have c1 := I1.box.c1
  have c2 := I1.box.c2
  have c3 := I1.box.c3
  go_wp2_with fail
  go_at_call 29
  refine (isOrder_any _ o).mono ?_
  rintro e wq ⟨rfl, rfl⟩
  rw [HO.out]
  have R1 := I1.res
  obtain ⟨⟨x0, d0⟩, ⟨x1, d1⟩, ⟨x2, d2⟩, ⟨x3, d3⟩, z0, z1, z2, z3⟩ := id R1
  have hB := I1.b
  have hs := I1.size
  clear I1 c0 c1 c2 c3
  go_wp2
  obtain ⟨k0, k1, k2, k3⟩ := res4 R1 (.int .i64 0) (.int .i64 0) (.slice none 0 0) (.slice none 0 0)
  have hbt := but4 w1 (w.heap.size + 1) (.int .i64 0) (.int .i64 0) (.slice none 0 0) (.slice none 0 0)
  exact bodyPost_ret (v := .tuple #[.agg #[.int .i64 0, .int .i64 0, .slice none 0 0, .slice none 0 0], .int .i64 0, .int .i64 1]) (by simp [results, Tryd.results15, go_sem, k0, k1, k2, k3]) rfl ⟨rfl, hB.trans (hbt.below (by omega) (by omega))⟩

set_option maxHeartbeats 1000000 in
theorem zTake_kind (w : World) (fo : Option Addr) (fn fc : Nat) (to_ : Option Addr) (tn tc : Nat) (z : Zn) (o t : Int) (h : ZnAt w fo fn to_ tn z) (hM : ZMay z) (ho : ordOk o) (ht : ¬ typeOk t) :
    Calls Tryd.prog 15 #[.agg #[.int .i64 z.f, .int .i64 z.t, .slice fo fn fc, .slice to_ tn tc], .int .i64 o, .int .i64 t] w fun e w' => RetNone3 2 e ∧ Below w.heap.size w w' := by
  have I0 := cbI_first w fo fn fc to_ tn tc z h
  have c0 := I0.box.c0
  have c1 := I0.box.c1
  have c2 := I0.box.c2
  have c3 := I0.box.c3
  clear h
  go_enter Tryd.func15, Tryd.ntmps15
  have HO : Hid (inB o 0 4 = true) := inB_t ho
  have HT : Hid (inB t 0 2 = false) := inB_f (fun g => ht g)
  go_wp2_with fail
  go_at_call 25
  refine (zCheck_ok _ fo fn fc to_ tn tc z I0.zn hM).mono ?_
  rintro e w1 ⟨rfl, hb⟩
  have I1 := I0.step hb
  clear I0 hb hM c0 c1 c2 c3
  have c0 := I1.box.c0
  have c1 := I1.box.c1
  have c2 := I1.box.c2
  have c3 := I1.box.c3
  go_wp2_with fail
  go_at_call 29
  refine (isOrder_any _ o).mono ?_
  rintro e wq ⟨rfl, rfl⟩
  rw [HO.out]
  go_wp2_with fail
  go_at_call 30
  refine (isType_any _ t).mono ?_
  rintro e wq ⟨rfl, rfl⟩
  rw [HT.out]
  have R1 := I1.res
  obtain ⟨⟨x0, d0⟩, ⟨x1, d1⟩, ⟨x2, d2⟩, ⟨x3, d3⟩, z0, z1, z2, z3⟩ := id R1
  have hB := I1.b
  have hs := I1.size
  clear I1 c0 c1 c2 c3
  go_wp2
  obtain ⟨k0, k1, k2, k3⟩ := res4 R1 (.int .i64 0) (.int .i64 0) (.slice none 0 0) (.slice none 0 0)
  have hbt := but4 w1 (w.heap.size + 1) (.int .i64 0) (.int .i64 0) (.slice none 0 0) (.slice none 0 0)
  exact bodyPost_ret (v := .tuple #[.agg #[.int .i64 0, .int .i64 0, .slice none 0 0, .slice none 0 0], .int .i64 0, .int .i64 2]) (by simp [results, Tryd.results15, go_sem, k0, k1, k2, k3]) rfl ⟨rfl, hB.trans (hbt.below (by omega) (by omega))⟩

set_option maxHeartbeats 1000000 in
theorem zTake_room (w : World) (fo : Option Addr) (fn fc : Nat) (to_ : Option Addr) (tn tc : Nat) (z : Zn) (o t : Int) (h : ZnAt w fo fn to_ tn z) (hM : ZMay z) (hT : TabAt w) (ho : ordOk o) (ht : typeOk t) (hN : chooseI z.free o t < 0) :
    Calls Tryd.prog 15 #[.agg #[.int .i64 z.f, .int .i64 z.t, .slice fo fn fc, .slice to_ tn tc], .int .i64 o, .int .i64 t] w fun e w' => RetNone3 6 e ∧ Below w.heap.size w w' := by
  have I0 := cbI_first w fo fn fc to_ tn tc z h
  have c0 := I0.box.c0
  have c1 := I0.box.c1
  have c2 := I0.box.c2
  have c3 := I0.box.c3
  clear h
  go_enter Tryd.func15, Tryd.ntmps15
  have HO : Hid (inB o 0 4 = true) := inB_t ho
  have HT : Hid (inB t 0 2 = true) := inB_t ht
  go_wp2_with fail
  go_at_call 25
  refine (zCheck_ok _ fo fn fc to_ tn tc z I0.zn hM).mono ?_
  rintro e w1 ⟨rfl, hb⟩
  have I1 := I0.step hb
  clear I0 hb hM c0 c1 c2 c3
  have c0 := I1.box.c0
  have c1 := I1.box.c1
  have c2 := I1.box.c2
  have c3 := I1.box.c3
  go_wp2_with fail
  go_at_call 29
  refine (isOrder_any _ o).mono ?_
  rintro e wq ⟨rfl, rfl⟩
  rw [HO.out]
  go_wp2_with fail
  go_at_call 30
  refine (isType_any _ t).mono ?_
  rintro e wq ⟨rfl, rfl⟩
  rw [HT.out]
  go_wp2_with fail
  go_at_call 31
  refine (choose_any _ fo fn fc z.free o t I1.zn.free (hT.below I1.b) ho ht).mono ?_
  rintro e w2 ⟨rfl, hb2⟩
  have I2 := I1.step hb2
  clear I1 hb2 c0 c1 c2 c3
  have c0 := I2.box.c0
  have c1 := I2.box.c1
  have c2 := I2.box.c2
  have c3 := I2.box.c3
  obtain ⟨C, hC⟩ : ∃ C, chooseI z.free o t = C := ⟨_, rfl⟩
  rw [hC] at hN ⊢
  clear hC
  have R1 := I2.res
  obtain ⟨⟨x0, d0⟩, ⟨x1, d1⟩, ⟨x2, d2⟩, ⟨x3, d3⟩, z0, z1, z2, z3⟩ := id R1
  have hB := I2.b
  have hs := I2.size
  clear I2 c0 c1 c2 c3
  go_wp2
  obtain ⟨k0, k1, k2, k3⟩ := res4 R1 (.int .i64 0) (.int .i64 0) (.slice none 0 0) (.slice none 0 0)
  have hbt := but4 w2 (w.heap.size + 1) (.int .i64 0) (.int .i64 0) (.slice none 0 0) (.slice none 0 0)
  exact bodyPost_ret (v := .tuple #[.agg #[.int .i64 0, .int .i64 0, .slice none 0 0, .slice none 0 0], .int .i64 0, .int .i64 6]) (by simp [results, Tryd.results15, go_sem, k0, k1, k2, k3]) rfl ⟨rfl, hB.trans (hbt.below (by omega) (by omega))⟩

end Go.Proofs.YtffhpjjioefaeafDoor

/-
  OWN TEXT. What paddockkeep.zoned holds in its variables.
-/
namespace Go.Proofs.YtffhpjjioefaeafDoor
open Go Go.RowKit Go.Proofs.YtffhpjjioefaeafDoor.Kit

/-- No element lies in the block. -/
def Apt (ao : Option Addr) (n g : Nat) : Prop := n = 0 ∨ ∀ a, ao = some a → a.block ≠ g
theorem Apt.fresh {ao : Option Addr} {n g B : Nat} (h : Fresh B ao) (hg : g < B) : Apt ao n g := .inr fun a ha => by have := h a ha; omega
theorem Blks.apt {w w' : World} {ao : Option Addr} {n g : Nat} {l : List Bk} (h : Blks w ao n l) (hb : But g w w') (ha : Apt ao n g) : Blks w' ao n l := by
  refine ⟨h.len, h.reach, fun i hi => ?_⟩
  obtain ⟨b, o, e, c1, c2, c3⟩ := h.at_ i hi
  have hne : b ≠ g := by
    rcases ha with q | q
    · have := h.len; omega
    · exact q _ e
  exact ⟨b, o, e, hb.cell c1 hne, hb.cell c2 hne, hb.cell c3 hne⟩
theorem Nums.apt {w w' : World} {ao : Option Addr} {n g : Nat} {l : List Int} (h : Nums w ao n l) (hb : But g w w') (ha : Apt ao n g) : Nums w' ao n l := by
  refine ⟨h.len, h.reach, fun i hi => ?_⟩
  obtain ⟨b, o, e, c1⟩ := h.at_ i hi
  have hne : b ≠ g := by
    rcases ha with q | q
    · have := h.len; omega
    · exact q _ e
  exact ⟨b, o, e, hb.cell c1 hne⟩
theorem ZnAt.apt {w w' : World} {fo to_ : Option Addr} {fn tn g : Nat} {z : Zn} (h : ZnAt w fo fn to_ tn z) (hb : But g w w') (h1 : Apt fo fn g) (h2 : Apt to_ tn g) : ZnAt w' fo fn to_ tn z := ⟨Blks.apt h.free hb h1, Nums.apt h.types hb h2⟩
theorem apt_blks {w : World} {ao : Option Addr} {n g : Nat} {l : List Bk} (h : Blks w ao n l) (hg : w.heap.size ≤ g) : Apt ao n g := by
  by_cases h0 : n = 0
  · exact .inl h0
  · refine .inr fun a ha => ?_
    obtain ⟨b, o, e, c1, _⟩ := h.at_ 0 (by have := h.len; omega)
    have := World.block_lt_of_cell? w _ c1
    rw [e] at ha
    cases ha
    dsimp only at this ⊢
    omega
theorem apt_nums {w : World} {ao : Option Addr} {n g : Nat} {l : List Int} (h : Nums w ao n l) (hg : w.heap.size ≤ g) : Apt ao n g := by
  by_cases h0 : n = 0
  · exact .inl h0
  · refine .inr fun a ha => ?_
    obtain ⟨b, o, e, c1⟩ := h.at_ 0 (by have := h.len; omega)
    have := World.block_lt_of_cell? w _ c1
    rw [e] at ha
    cases ha
    dsimp only at this ⊢
    omega

/-- The variables of zoned: the result's, the zone's, the row of what is away. -/
structure KzI (w : World) (zb : Nat) (z : Zn) (aw : List Bk) (fo : Option Addr) (fn fc : Nat) (to_ : Option Addr) (tn tc : Nat) (ao : Option Addr) (m cap : Nat) (W : World) : Prop where
  b : Below w.heap.size w W
  res : Res4 W w.heap.size
  zb1 : w.heap.size < zb
  box : ZBox W zb (.int .i64 z.f) (.int .i64 z.t) (.slice fo fn fc) (.slice to_ tn tc)
  zn : ZnAt W fo fn to_ tn z
  own : W.ownsRow (zb + 1) 32 3 (.slice ao m cap) m (bvals aw)
  a1 : ∀ g, ao = some g → Apt fo fn g.block ∧ Apt to_ tn g.block
  a2 : Fresh (w.heap.size + 1) fo
  a3 : Fresh (w.heap.size + 1) to_

theorem KzI.below {w : World} {zb : Nat} {z : Zn} {aw : List Bk} {fo : Option Addr} {fn fc : Nat} {to_ : Option Addr} {tn tc : Nat} {ao : Option Addr} {m cap : Nat} {W W' : World} (h : KzI w zb z aw fo fn fc to_ tn tc ao m cap W) (hb : Below W.heap.size W W') : KzI w zb z aw fo fn fc to_ tn tc ao m cap W' :=
  ⟨h.b.trans (hb.mono h.b.size), h.res.below hb, h.zb1, h.box.below hb, h.zn.below hb, owns_below h.own hb (Nat.le_refl _), h.a1, h.a2, h.a3⟩

/-- A row that the call owns, in a world in which another block was written. -/
theorem row_but {w w' : World} {base : Nat} {ao : Option Addr} {m cap c : Nat} {xs : List Value} {e : TypeId} {k : Nat} (h : w.ownsRow base e k (.slice ao m cap) m xs) (hb : But c w w') (hc : c < base) : w'.ownsRow base e k (.slice ao m cap) m xs := by
  refine ⟨h.1, ?_⟩
  rcases h.2 with hn | ⟨g, cap', cur, e1, hbg, hg, rest⟩
  · exact .inl hn
  · exact .inr ⟨g, cap', cur, e1, hbg, (hb.block g (Array.getElem?_eq_some_iff.1 hg).1 (by omega)).trans hg, rest⟩

/-- The zone's variable gets another zone. -/
theorem KzI.newZone {w : World} {zb : Nat} {z y : Zn} {aw : List Bk} {fo fo' : Option Addr} {fn fc fn' fc' : Nat} {to_ to' : Option Addr} {tn tc tn' tc' : Nat} {ao : Option Addr} {m cap : Nat} {W V : World} (h : KzI w zb z aw fo fn fc to_ tn tc ao m cap W) (hb : Below W.heap.size W V) (hz : ZnAt V fo' fn' to' tn' y) (f1 : Fresh W.heap.size fo') (f2 : Fresh W.heap.size to') :
    KzI w zb y aw fo' fn' fc' to' tn' tc' ao m cap ((((V.setCell ⟨zb, 0, none⟩ (.int .i64 y.f)).setCell ⟨zb, 1, none⟩ (.int .i64 y.t)).setCell ⟨zb, 2, none⟩ (.slice fo' fn' fc')).setCell ⟨zb, 3, none⟩ (.slice to' tn' tc')) := by
  have h' := h.below hb
  have hzl := h.box.lt
  have hbt := but4 V zb (.int .i64 y.f) (.int .i64 y.t) (.slice fo' fn' fc') (.slice to' tn' tc')
  have hs := h.b.size
  have hs' := h'.b.size
  have z1 := h.zb1
  refine ⟨h'.b.trans (hbt.below (by omega) hs'), h'.res.but hbt (by omega), h.zb1, h'.box.set4 _ _ _ _, ZnAt.apt hz hbt (.fresh f1 hzl) (.fresh f2 hzl), row_but h'.own hbt (by omega), fun g hg => ?_, f1.mono (by omega), f2.mono (by omega)⟩
  have hg' : g.block < W.heap.size := by
    rcases h.own.2 with ⟨e, _⟩ | ⟨g', cap', cur, e, hbg, hgg, _⟩
    · simp only [Value.slice.injEq] at e
      rw [e.1] at hg
      cases hg
    · simp only [Value.slice.injEq] at e
      rw [e.1] at hg
      cases hg
      exact (Array.getElem?_eq_some_iff.1 hgg).1
  exact ⟨.fresh f1 hg', .fresh f2 hg'⟩

/-- The row of what is away is written. -/
theorem KzI.newRow {w : World} {zb : Nat} {z : Zn} {aw aw' : List Bk} {fo : Option Addr} {fn fc : Nat} {to_ : Option Addr} {tn tc : Nat} {g m cap m' cap' : Nat} {W V : World} (h : KzI w zb z aw fo fn fc to_ tn tc (some ⟨g, 0, none⟩) m cap W) (hb : But g W V) (hg : zb < g) (ho : V.ownsRow (zb + 1) 32 3 (.slice (some ⟨g, 0, none⟩) m' cap') m' (bvals aw')) :
    KzI w zb z aw' fo fn fc to_ tn tc (some ⟨g, 0, none⟩) m' cap' V := by
  obtain ⟨p1, p2⟩ := h.a1 _ rfl
  have z1 := h.zb1
  exact ⟨h.b.trans (hb.below (by omega) h.b.size), h.res.but hb (by omega), h.zb1, h.box.but hb (by omega), ZnAt.apt h.zn hb p1 p2, ho, fun g' hg' => by cases hg'; exact ⟨p1, p2⟩, h.a2, h.a3⟩

/-- The row of what is away grows, in its place or in a new one. -/
theorem KzI.grown {w : World} {zb : Nat} {z : Zn} {aw aw' : List Bk} {fo : Option Addr} {fn fc : Nat} {to_ : Option Addr} {tn tc : Nat} {ao : Option Addr} {g' m cap m' cap' : Nat} {W V : World} (h : KzI w zb z aw fo fn fc to_ tn tc ao m cap W) (ho : V.ownsRow (zb + 1) 32 3 (.slice (some ⟨g', 0, none⟩) m' cap') m' (bvals aw')) (hc : (ao = some ⟨g', 0, none⟩ ∧ But g' W V) ∨ (g' = W.heap.size ∧ Below W.heap.size W V)) :
    KzI w zb z aw' fo fn fc to_ tn tc (some ⟨g', 0, none⟩) m' cap' V := by
  rcases hc with ⟨rfl, hb⟩ | ⟨rfl, hb⟩
  · exact h.newRow hb (owns_fresh ho _ rfl) ho
  · have h' := h.below hb
    exact ⟨h'.b, h'.res, h'.zb1, h'.box, h'.zn, ho, fun g hg => by cases hg; exact ⟨apt_blks h.zn.free (Nat.le_refl _), apt_nums h.zn.types (Nat.le_refl _)⟩, h'.a2, h'.a3⟩

end Go.Proofs.YtffhpjjioefaeafDoor

/-
  OWN TEXT. A region that draws its order and whose last operation waits for all others: the others in whatever order, then the last one; over whatever program.
-/
namespace Go.Proofs.YtffhpjjioefaeafDoor.Kit
open Go Go.RowKit

/-- What is to hold ahead of the last operation. -/
def lastQ (P : Program) (o : Oper) (Q : Exit → Act → World → Prop) : Exit → Act → World → Prop
  | .normal, a, w => o.wp P a w (fun a' w' => Q .normal a' w') Q
  | .exit id, a, w => Q (.exit id) a w
  | .goto l, a, w => Q (.goto l) a w
  | .ret, a, w => Q .ret a w
  | .panic c, a, w => Q (.panic c) a w
  | .outgrown, a, w => Q .outgrown a w

theorem upon_last {P : Program} {o' o : Oper} {a : Act} {K : Act → World → Prop} {Q : Exit → Act → World → Prop} {r : Result Next} (h : o'.upon P a K (lastQ P o Q) r) : o'.upon P a K Q r := by
  cases r with
  | ok n w' =>
    cases n with
    | value v => exact h
    | skip => exact h
    | defer d => exact h
    | enter f args =>
      refine Calls.mono h ?_
      intro e w'' he
      cases e with
      | returned v => exact he
      | panicked c => exact he
      | outgrown => exact he
    | row r args => exact h
    | _ => exact h
  | halt k w' =>
    cases k with
    | panic v => exact h
    | _ => exact h

theorem mem_ready {md : Region.Mode} {ops : Array Oper} {l : Array Bool} {i : Nat} : i ∈ Region.ready md ops l ↔ ∃ oi, ops[i]? = some oi ∧ l.getD i true = false ∧ ∀ e ∈ oi.after, Region.binds md e = true → l.getD e.on false = true := by
  unfold Region.ready
  rw [List.mem_filter, List.mem_range]
  constructor
  · rintro ⟨hi, h⟩
    rw [Array.getElem?_eq_getElem hi] at h ⊢
    simp only [Bool.and_eq_true, Bool.not_eq_true', Option.map_some, Option.getD_some] at h
    refine ⟨_, rfl, h.1, fun e he hb => ?_⟩
    have := (Array.all_eq_true'.1 h.2) e he
    simpa [hb] using this
  · rintro ⟨oi, h1, h2, h3⟩
    have hi := (Array.getElem?_eq_some_iff.1 h1).1
    refine ⟨hi, ?_⟩
    rw [h1, h2]
    simp only [Bool.not_false, Bool.true_and, Option.map_some, Option.getD_some]
    refine Array.all_eq_true'.2 fun e he => ?_
    cases hb : Region.binds md e with
    | false => rfl
    | true => simpa [hb] using h3 e he hb

/-- Every operation but the last one waits for earlier ones alone, the last one for all; no guards. -/
def peelB (md : Region.Mode) (L : List Oper) (n : Nat) : Bool :=
  (L.length == n + 1) && ((List.range n).all fun i => ((L[i]?).map fun o => o.guard.isNone && o.after.all fun e => !Region.binds md e || decide (e.on < i)).getD false) &&
    (((L[n]?).map fun o => o.guard.isNone && (o.after.all fun e => !Region.binds md e || decide (e.on < n)) && (List.range n).all fun i => (o.after.any fun e => Region.binds md e && e.on == i) || ((List.range n).any fun j => decide (i < j) && ((L[j]?).map fun oj => oj.after.any fun e => Region.binds md e && e.on == i).getD false)).getD false)

section
variable {P : Program} {md : Region.Mode} {L : List Oper} {n : Nat} {o : Oper} {Q : Exit → Act → World → Prop}
theorem peel_spec (h : peelB md L n = true) : L.length = n + 1 ∧ (∀ i oi, i < n → L[i]? = some oi → oi.guard = none ∧ ∀ e ∈ oi.after, Region.binds md e = true → e.on < i) ∧ (∀ o, L[n]? = some o → o.guard = none ∧ (∀ e ∈ o.after, Region.binds md e = true → e.on < n) ∧ ∀ i, i < n → (∃ e ∈ o.after, Region.binds md e = true ∧ e.on = i) ∨ ∃ j oj, i < j ∧ j < n ∧ L[j]? = some oj ∧ ∃ e ∈ oj.after, Region.binds md e = true ∧ e.on = i) := by
  unfold peelB at h
  simp only [Bool.and_eq_true, beq_iff_eq] at h
  obtain ⟨⟨h1, h2⟩, h3⟩ := h
  refine ⟨h1, fun i oi hi ho => ?_, fun o ho => ?_⟩
  · have := List.all_eq_true.1 h2 i (List.mem_range.2 hi)
    rw [ho] at this
    simp only [Option.map_some, Option.getD_some, Bool.and_eq_true, Option.isNone_iff_eq_none] at this
    exact ⟨this.1, fun e he hb => by have h := Array.all_eq_true'.1 this.2 e he; simpa [hb] using h⟩
  · rw [ho] at h3
    simp only [Option.map_some, Option.getD_some, Bool.and_eq_true, Option.isNone_iff_eq_none] at h3
    refine ⟨h3.1.1, fun e he hb => by have h := Array.all_eq_true'.1 h3.1.2 e he; simpa [hb] using h, fun i hi => ?_⟩
    have := List.all_eq_true.1 h3.2 i (List.mem_range.2 hi)
    rcases Bool.or_eq_true _ _ ▸ this with this | this
    · obtain ⟨e, he, hb⟩ := Array.any_eq_true'.1 this
      simp only [Bool.and_eq_true, beq_iff_eq] at hb
      exact .inl ⟨e, he, hb.1, hb.2⟩
    · obtain ⟨j, hj, hb⟩ := List.any_eq_true.1 this
      simp only [Bool.and_eq_true, decide_eq_true_eq] at hb
      cases hq : L[j]? with
      | none => rw [hq] at hb; exact absurd hb.2 (by simp)
      | some oj =>
        rw [hq] at hb
        obtain ⟨e, he, hc⟩ := Array.any_eq_true'.1 hb.2
        simp only [Bool.and_eq_true, beq_iff_eq] at hc
        exact .inr ⟨j, oj, hb.1, List.mem_range.1 hj, hq, e, he, hc.1, hc.2⟩

theorem getD_push_lt {l : Array Bool} {b : Bool} {i : Nat} (h : i < l.size) (d : Bool) : (l.push b).getD i d = l.getD i d := by
  simp [Array.getD_eq_getD_getElem?, Array.getElem?_push, Nat.ne_of_lt h]
theorem getD_push_eq {l : Array Bool} {b : Bool} (d : Bool) : (l.push b).getD l.size d = b := by
  simp [Array.getD_eq_getD_getElem?]

theorem ready_lt (hp : peelB md L n = true) {l : Array Bool} (hl : l.size = n) {b : Bool} {i : Nat} (hi : i < n) : i ∈ Region.ready md L.toArray (l.push b) ↔ i ∈ Region.ready md (L.take n).toArray l := by
  obtain ⟨h1, h2, _⟩ := peel_spec hp
  rw [mem_ready, mem_ready]
  have e1 : (L.take n).toArray[i]? = L.toArray[i]? := by simp [hi]
  rw [e1, getD_push_lt (by omega)]
  constructor
  · rintro ⟨oi, g1, g2, g3⟩
    refine ⟨oi, g1, g2, fun e he hb => ?_⟩
    have := g3 e he hb
    rwa [getD_push_lt (by have := (h2 i oi hi (by simpa using g1)).2 e he hb; omega)] at this
  · rintro ⟨oi, g1, g2, g3⟩
    refine ⟨oi, g1, g2, fun e he hb => ?_⟩
    rw [getD_push_lt (by have := (h2 i oi hi (by simpa using g1)).2 e he hb; omega)]
    exact g3 e he hb

theorem all_of_empty (hp : peelB md L n = true) {l : Array Bool} (hl : l.size = n) (hr : Region.ready md (L.take n).toArray l = []) : ∀ i, i < n → l.getD i false = true := by
  obtain ⟨h1, h2, _⟩ := peel_spec hp
  intro i
  induction i using Nat.strongRecOn with
  | _ i ih =>
    intro hi
    cases hg : l.getD i false with
    | true => rfl
    | false =>
      exfalso
      have hlt : i < L.length := by omega
      have hm : i ∈ Region.ready md (L.take n).toArray l := by
        rw [mem_ready]
        refine ⟨L[i], by simp [hi], ?_, fun e he hb => ?_⟩
        · simp only [Array.getD_eq_getD_getElem?, Array.getElem?_eq_getElem (show i < l.size by omega), Option.getD_some] at hg ⊢
          exact hg
        · have := (h2 i L[i] hi (by simp)).2 e he hb
          exact ih e.on this (by omega)
      rw [hr] at hm
      cases hm

theorem n_ready (hp : peelB md L n = true) {l : Array Bool} (hl : l.size = n) (ho : L[n]? = some o) (hr : Region.ready md (L.take n).toArray l = []) : n ∈ Region.ready md L.toArray (l.push false) := by
  have hall := all_of_empty hp hl hr
  obtain ⟨h1, h2, h3⟩ := peel_spec hp
  rw [mem_ready]
  refine ⟨o, by simpa using ho, by rw [← hl]; exact getD_push_eq _, fun e he hb => ?_⟩
  have := (h3 o ho).2.1 e he hb
  rw [getD_push_lt (by omega)]
  exact hall e.on this

/-- What is listed has what it waits for listed. -/
def Closed (md : Region.Mode) (L : List Oper) (n : Nat) (l : Array Bool) : Prop :=
  ∀ j oj, j < n → L[j]? = some oj → l.getD j false = true → ∀ e ∈ oj.after, Region.binds md e = true → l.getD e.on false = true

theorem getD_set {l : Array Bool} {i j : Nat} (h : l.getD j false = true) : (l.setIfInBounds i true).getD j false = true := by
  simp only [Array.getD_eq_getD_getElem?, Array.getElem?_setIfInBounds] at h ⊢
  by_cases e : i = j
  · subst e
    by_cases g : i < l.size
    · simp [g]
    · rw [Array.getElem?_eq_none (by omega)] at h; cases h
  · simpa [e] using h
theorem Closed.set {l : Array Bool} (h : Closed md L n l) {i : Nat} (hi : i ∈ Region.ready md (L.take n).toArray l) : Closed md L n (l.setIfInBounds i true) := by
  intro j oj hj ho hg e he hb
  by_cases q : i = j
  · subst q
    obtain ⟨oi, k1, _, k3⟩ := mem_ready.1 hi
    have e1 : L[i]? = some oi := by simpa [hj] using k1
    rw [e1] at ho
    cases ho
    exact getD_set (k3 e he hb)
  · have hg' : l.getD j false = true := by
      simp only [Array.getD_eq_getD_getElem?, Array.getElem?_setIfInBounds] at hg ⊢
      simpa [q] using hg
    exact getD_set (h j oj hj ho hg' e he hb)

theorem n_only (hp : peelB md L n = true) {l : Array Bool} (hl : l.size = n) (hc : Closed md L n l) (h : n ∈ Region.ready md L.toArray (l.push false)) : Region.ready md (L.take n).toArray l = [] := by
  obtain ⟨h1, h2, h3⟩ := peel_spec hp
  obtain ⟨o, ho, _, g⟩ := mem_ready.1 h
  have hall : ∀ d i, i < n → n - i = d → l.getD i false = true := by
    intro d
    induction d using Nat.strongRecOn with
    | _ d ih =>
      intro i hi hd
      rcases (h3 o (by simpa using ho)).2.2 i hi with ⟨e, he, hb, rfl⟩ | ⟨j, oj, hij, hj, hoj, e, he, hb, rfl⟩
      · have := g e he hb
        rwa [getD_push_lt (by omega)] at this
      · exact hc j oj hj hoj (ih (n - j) (by omega) j hj rfl) e he hb
  rw [List.eq_nil_iff_forall_not_mem]
  intro i hi
  obtain ⟨oi, k1, k2, _⟩ := mem_ready.1 hi
  have hin : i < n := by have := (Array.getElem?_eq_some_iff.1 k1).1; simp at this; omega
  have := hall _ i hin rfl
  simp only [Array.getD_eq_getD_getElem?, Array.getElem?_eq_getElem (show i < l.size by omega), Option.getD_some] at this k2
  rw [k2] at this
  cases this

theorem done_ready (hp : peelB md L n = true) {l : Array Bool} (hl : l.size = n) (hr : Region.ready md (L.take n).toArray l = []) : Region.ready md L.toArray (l.push true) = [] := by
  obtain ⟨h1, h2, h3⟩ := peel_spec hp
  rw [List.eq_nil_iff_forall_not_mem]
  intro i hi
  obtain ⟨oi, k1, k2, _⟩ := mem_ready.1 hi
  have hin : i < n + 1 := by have := (Array.getElem?_eq_some_iff.1 k1).1; simp at this; omega
  by_cases e : i = n
  · rw [e, ← hl, getD_push_eq] at k2
    cases k2
  · have := (ready_lt hp hl (show i < n by omega)).1 hi
    rw [hr] at this
    cases this

theorem wpOp_last (hp : peelB md L n = true) {i : Nat} (hi : i < n) {K : Act → World → Prop} {a : Act} {w : World} (h : wpOp P (L.take n).toArray (lastQ P o Q) i K a w) : wpOp P L.toArray Q i K a w := by
  obtain ⟨h1, h2, _⟩ := peel_spec hp
  have e1 : (L.take n).toArray[i]? = L.toArray[i]? := by simp [hi]
  have hlt : i < L.length := by omega
  have ho : L.toArray[i]? = some L[i] := by simp
  unfold wpOp at h ⊢
  rw [e1, ho] at h
  rw [ho]
  have hg := (h2 i L[i] hi (by simp)).1
  have hw : ∀ y, Region.wanted L[i] y = true := fun y => by simp [Region.wanted, hg]
  simp only [hw, if_true] at h ⊢
  rcases h with h | ⟨h, g⟩
  · exact .inl (upon_last h)
  · exact .inr ⟨h, g⟩

theorem wpAny_peel (hp : peelB md L n = true) (ho : L[n]? = some o) : ∀ (fuel : Nat) (l : Array Bool) (a : Act) (w : World), l.size = n → Closed md L n l → wpAny P md (L.take n).toArray (lastQ P o Q) fuel l a w → wpAny P md L.toArray Q (fuel + 1) (l.push false) a w := by
  have hg := (((peel_spec hp).2.2) o ho).1
  have hw : ∀ y, Region.wanted o y = true := fun y => by simp [Region.wanted, hg]
  have hnm : ∀ (l : Array Bool), l.size = n → Region.ready md L.toArray (l.push false) ≠ [] := by
    intro l hl he
    cases hr : Region.ready md (L.take n).toArray l with
    | nil => have := n_ready hp hl ho hr; rw [he] at this; cases this
    | cons i r =>
      have hm : i ∈ Region.ready md (L.take n).toArray l := by rw [hr]; exact List.mem_cons_self
      have hin : i < n := by
        obtain ⟨_, k1, _⟩ := mem_ready.1 hm
        have := (Array.getElem?_eq_some_iff.1 k1).1
        simp at this
        omega
      have := (ready_lt hp hl (b := false) hin).2 hm
      rw [he] at this
      cases this
  have hlast : ∀ (f : Nat) (l : Array Bool) (a : Act) (w : World), l.size = n → Region.ready md (L.take n).toArray l = [] → lastQ P o Q .normal a w → wpOp P L.toArray Q n (wpAny P md L.toArray Q f ((l.push false).setIfInBounds n true)) a w := by
    intro f l a w hl hr hq
    have hs : (l.push false).setIfInBounds n true = l.push true := by
      subst hl
      apply Array.ext_getElem?
      intro j
      simp only [Array.getElem?_setIfInBounds, Array.getElem?_push]
      by_cases e : l.size = j
      · subst e; simp
      · simp [e, Ne.symm e]
    rw [hs]
    unfold wpOp
    have ho' : L.toArray[n]? = some o := by simpa using ho
    rw [ho']
    simp only [hw, if_true]
    refine .inl (Oper.wp_mono (fun a' w' h => ?_) hq)
    have hd := done_ready hp hl hr
    cases f with
    | zero => exact ⟨hd, h⟩
    | succ f => exact ⟨fun _ => h, by rw [hd]; simp⟩
  intro fuel
  induction fuel with
  | zero =>
    rintro l a w hl _ ⟨hr, hq⟩
    refine ⟨fun h => absurd h (hnm l hl), fun i hi => ?_⟩
    have hin : i = n := by
      obtain ⟨_, k1, _⟩ := mem_ready.1 hi
      have h1 := (peel_spec hp).1
      have := (Array.getElem?_eq_some_iff.1 k1).1
      simp at this
      by_cases e : i = n
      · exact e
      · have := (ready_lt hp hl (b := false) (show i < n by omega)).1 hi
        rw [hr] at this
        cases this
    subst hin
    exact hlast 0 l a w hl hr hq
  | succ f ih =>
    rintro l a w hl hc ⟨hq, hs⟩
    refine ⟨fun h => absurd h (hnm l hl), fun i hi => ?_⟩
    by_cases e : i = n
    · subst e
      have hr := n_only hp hl hc hi
      exact hlast (f + 1) l a w hl hr (hq hr)
    · have hin : i < n := by
        obtain ⟨_, k1, _⟩ := mem_ready.1 hi
        have h1 := (peel_spec hp).1
        have := (Array.getElem?_eq_some_iff.1 k1).1
        simp at this
        omega
      have hm := (ready_lt hp hl (b := false) hin).1 hi
      refine wpOp_last hp hin (wpOp_mono (fun a' w' h => ?_) (hs i hm))
      have := ih (l.setIfInBounds i true) a' w' (by simpa using hl) (hc.set hm) h
      have e2 : (l.setIfInBounds i true).push false = (l.push false).setIfInBounds i true := by
        apply Array.ext_getElem?
        intro j
        simp only [Array.getElem?_setIfInBounds, Array.getElem?_push, Array.size_setIfInBounds]
        by_cases e1 : i = j
        · subst e1
          have g1 : ¬ (i = n) := by omega
          have g2 : i < n + 1 := by omega
          simp [hl, hin, g1, g2]
        · simp [e1]
      rw [e2] at this
      exact this

/-- The others by one condition on the world, then the last. -/
theorem wp_region_peel {id : Nat} {a : Act} {w : World} {S : World → Prop} (n : Nat) (o : Oper) (hm : P.follows .mixedOrders = true) (hp : peelB .any L n = true) (ho : L[n]? = some o)
    (h : wpAnyH P .any (L.take n).toArray (lastQ P o Q) S n (Array.replicate n false) a { w with drawn := w.drawn + 1 }) : (Code.region id L.toArray true).wp P Q a w := by
  refine wp_region_any hm ?_
  have h1 := (peel_spec hp).1
  have := wpAny_peel hp ho n (Array.replicate n false) a { w with drawn := w.drawn + 1 } (by simp) (fun j oj hj _ hg => by simp [Array.getD_eq_getD_getElem?, hj] at hg) (wpAny_of_held _ _ _ _ h)
  have e : (Array.replicate n false).push false = Array.replicate L.toArray.size false := by
    rw [List.size_toArray, h1, Array.replicate_succ]
  rw [e] at this
  rw [List.size_toArray, h1]
  rw [List.size_toArray, h1] at this
  exact this

theorem takeH {S : World → Prop} {l : List Oper} (i : Nat) {oi : Oper} {v : Value} {fuel : Nat} {listed : Array Bool} {a : Act} {w : World} (hi : l[i]? = some oi)
    (hs : Region.noSelect l.toArray = true) (hf : Region.free md l.toArray listed i = true) (hr : (Region.ready md l.toArray listed).contains i = true)
    (hQ : ∀ c a w, Q (.panic c) (a.put oi.dst v) w → Q (.panic c) a w) (hg : oi.guard = none) (hy : ∀ w, S w → (execOp a.eval oi).run P w = .ok (.value v) w) (hS : S w)
    (h : wpAnyH P md l.toArray Q S fuel (listed.setIfInBounds i true) (a.put oi.dst v) w) : wpAnyH P md l.toArray Q S (fuel + 1) listed a w :=
  wpAnyH_take (by simpa using hi) hs hf hr hQ (Or.inl ⟨by simp [Region.wanted, hg], hy⟩) hS h

theorem oneH {S : World → Prop} {l : List Oper} (i : Nat) {oi : Oper} {fuel : Nat} {listed : Array Bool} {a : Act} {w : World} (hr : Region.ready md l.toArray listed = [i]) (hi : l[i]? = some oi) (hg : oi.guard = none)
    (h : ∀ K : Act → World → Prop, (∀ a' w', S w' → wpAnyH P md l.toArray Q S fuel (listed.setIfInBounds i true) a' w' → K a' w') → oi.wp P a w K Q) : wpAnyH P md l.toArray Q S (fuel + 1) listed a w := by
  refine wpAnyH_all hr (by simp) ?_
  intro j hj
  obtain rfl : j = i := by simpa using hj
  unfold wpOp
  have hi' : l.toArray[j]? = some oi := by simpa using hi
  rw [hi']
  have hw : ∀ y, Region.wanted oi y = true := fun y => by simp [Region.wanted, hg]
  simp only [hw, if_true]
  exact .inl (h _ fun a' w' h1 h2 => ⟨h1, h2⟩)

end
end Go.Proofs.YtffhpjjioefaeafDoor.Kit

/-
  OWN TEXT. Two operations of a region that draws its order are ready: one or the other comes first; over whatever program.
-/
namespace Go.Proofs.YtffhpjjioefaeafDoor.Kit
open Go Go.RowKit

theorem twoH {P : Program} {md : Region.Mode} {Q : Exit → Act → World → Prop} {S : World → Prop} {l : List Oper} (i j : Nat) {oi oj : Oper} {fuel : Nat} {listed : Array Bool} {a : Act} {w : World} (hr : Region.ready md l.toArray listed = [i, j]) (hi : l[i]? = some oi) (hj : l[j]? = some oj) (hg : oi.guard = none) (hgj : oj.guard = none)
    (h : ∀ K : Act → World → Prop, (∀ a' w', S w' → wpAnyH P md l.toArray Q S fuel (listed.setIfInBounds i true) a' w' → K a' w') → oi.wp P a w K Q)
    (h' : ∀ K : Act → World → Prop, (∀ a' w', S w' → wpAnyH P md l.toArray Q S fuel (listed.setIfInBounds j true) a' w' → K a' w') → oj.wp P a w K Q) : wpAnyH P md l.toArray Q S (fuel + 1) listed a w := by
  refine wpAnyH_all hr (by simp) ?_
  intro k hk
  have hi' : l.toArray[i]? = some oi := by simpa using hi
  have hj' : l.toArray[j]? = some oj := by simpa using hj
  have hw : ∀ y, Region.wanted oi y = true := fun y => by simp [Region.wanted, hg]
  have hw' : ∀ y, Region.wanted oj y = true := fun y => by simp [Region.wanted, hgj]
  rcases (show k = i ∨ k = j by simpa using hk) with rfl | rfl
  · unfold wpOp
    rw [hi']
    simp only [hw, if_true]
    exact .inl (h _ fun a' w' h1 h2 => ⟨h1, h2⟩)
  · unfold wpOp
    rw [hj']
    simp only [hw', if_true]
    exact .inl (h' _ fun a' w' h1 h2 => ⟨h1, h2⟩)

end Go.Proofs.YtffhpjjioefaeafDoor.Kit

/-
  OWN TEXT. Rows that grow, and what two copies leave; over whatever program.
-/
namespace Go.Proofs.YtffhpjjioefaeafDoor.Kit
open Go Go.RowKit

theorem row_new {w : World} {e : TypeId} {size cap : Nat} {A : Array Value} (hs : A.size = cap * size) (hm : cap ≤ maxLen) : Row (w.drew.alloc (.cells A e)) e size w.heap.size cap A.toList := by
  refine ⟨?_, by simpa using hs, hm⟩
  have := heap_alloc_new w.drew (.cells A e)
  simpa using this
theorem below_new (w : World) (o : Obj) : Below w.heap.size w (w.drew.alloc o) := ((Below.refl _ _).drew).alloc (Nat.le_refl _) o

theorem grow_some {P : Program} (w : World) (t ty e : TypeId) (i : TypeInfo) (z : Value) (size : Nat) (ht : P.underlying t = some (.slice e)) (hi : P.info? e = some i) (hz : i.zero = some z) (hsz : i.size = size) (hzs : z.cells.size = size)
    (b : Addr) (sLen sCap : Nat) (olds : List Value) (hlo : olds.length = sLen * size) (holds : ∀ j v, olds[j]? = some v → w.cell? (b.add j) = some v)
    (a : Addr) (n c : Nat) (news : List Value) (hl : news.length = n * size) (hnews : ∀ j v, news[j]? = some v → w.cell? (a.add j) = some v)
    (hg : sCap < sLen + n) (hm : sLen + n ≤ maxLen) (hby : (sLen + n) * i.bytes ≤ 140737488355328) :
    ∃ cap' W cur, (Builtin.append_ #[t, t] ty #[.slice (some b) sLen sCap, .slice (some a) n c]).run P w = .ok (.slice (some ⟨w.heap.size, 0, none⟩) (sLen + n) cap') W ∧
      Row W e size w.heap.size cap' cur ∧ cur.take ((sLen + n) * size) = olds ++ news ∧ sLen + n ≤ cap' ∧ Below w.heap.size w W := by
  subst hsz
  have h63 : ((sLen + n : Nat) : Int) ≤ 9223372036854775807 := by simp only [maxLen] at hm; omega
  have hr := run_append_grow (P := P) w t ty e i z ht hi hz b sLen sCap olds hlo holds a n c news hl hnews hg h63 (growslice_fits hg hby)
  have hc1 := grownCap_ge w (sLen + n) sCap e
  have hc2 := grownCap_le_maxLen w (sLen + n) sCap e hm
  refine ⟨_, _, _, hr, row_new ?_ hc2, ?_, hc1, below_new _ _⟩
  · simp only [Array.size_append, List.size_toArray, size_zeroCells, hlo, hl, hzs]
    rw [← Nat.add_mul, ← Nat.add_mul]
    congr 1
    omega
  · simp only [Array.toList_append]
    rw [List.take_append_of_le_length (by simp [hlo, hl, Nat.add_mul]), List.take_of_length_le (by simp [hlo, hl, Nat.add_mul])]

theorem grow_zeros {P : Program} (w : World) (t tn ty e : TypeId) (i : TypeInfo) (z : Value) (size : Nat) (kq kn : IntKind) (ht : P.underlying t = some (.slice e)) (htn : P.underlying tn = some (.int kn)) (hi : P.info? e = some i) (hz : i.zero = some z) (hsz : i.size = size) (hs0 : 0 < size) (hzs : z.cells.size = size)
    (b : Addr) (sLen sCap : Nat) (olds : List Value) (hlo : olds.length = sLen * size) (holds : ∀ j v, olds[j]? = some v → w.cell? (b.add j) = some v)
    (k : Nat) (h0 : 0 < k) (hg : sCap < sLen + k) (hm : sLen + k ≤ maxLen) (hby : (sLen + k) * i.bytes ≤ 140737488355328) :
    ∃ cap' W cur, (Builtin.append_ #[t, tn] ty #[.slice (some b) sLen sCap, .int kq k]).run P w = .ok (.slice (some ⟨w.heap.size, 0, none⟩) (sLen + k) cap') W ∧
      Row W e size w.heap.size cap' cur ∧ cur.take (sLen * size) = olds ∧ sLen + k ≤ cap' ∧ Below w.heap.size w W := by
  subst hsz
  have h63 : ((sLen + k : Nat) : Int) ≤ 9223372036854775807 := by simp only [maxLen] at hm; omega
  have hold : (Builtin.firstCells i.size sLen (.slice (some b) sLen sCap)).run P w.drew = .ok olds.toArray w.drew :=
    run_firstCells_some w.drew i.size sLen b sLen sCap olds hlo (fun j v hj => by simpa using holds j v hj)
  have h48 : k * i.bytes ≤ 281474976710656 := by have := Nat.mul_le_mul_right i.bytes (show k ≤ sLen + k by omega); omega
  have hr := Go.Lib.run_append_grow_zeros (P := P) w t tn ty e i z kq kn ht htn hi hz (some b) sLen sCap olds hold k h0 hs0 hg h63 h48 (growslice_fits hg hby)
  have hc1 := grownCap_ge w (sLen + k) sCap e
  have hc2 := grownCap_le_maxLen w (sLen + k) sCap e hm
  refine ⟨_, _, _, hr, row_new ?_ hc2, ?_, hc1, below_new _ _⟩
  · simp only [Array.size_append, List.size_toArray, size_zeroCells, hlo, hzs]
    rw [← Nat.add_mul, ← Nat.add_mul]
    congr 1
    omega
  · simp only [Array.toList_append, List.append_assoc]
    rw [List.take_append_of_le_length (by simp [hlo]), List.take_of_length_le (by simp [hlo])]

theorem splice_two_a {α : Type} {L X Y : List α} {p : Nat} (h : p + X.length + Y.length ≤ L.length) : (splice (splice L p X) (p + X.length) Y).take (p + X.length + Y.length) = L.take p ++ (X ++ Y) := by
  have e : (splice L p X).take (p + X.length) = L.take p ++ X := by
    unfold splice
    rw [← List.append_assoc, List.take_append_of_le_length (by simp; omega), List.take_of_length_le (by simp; omega)]
  show (List.take (p + X.length) (splice L p X) ++ (Y ++ _)).take _ = _
  rw [e, ← List.append_assoc, List.take_append_of_le_length (by simp; omega), List.take_of_length_le (by simp; omega), List.append_assoc]

theorem splice_two_b {α : Type} {L X Y : List α} {p : Nat} (h : p + X.length + Y.length ≤ L.length) : (splice (splice L (p + X.length) Y) p X).take (p + X.length + Y.length) = L.take p ++ (X ++ Y) := by
  have e1 : (splice L (p + X.length) Y).take p = L.take p := splice_take (by omega) (by omega)
  have e2 : (splice L (p + X.length) Y).drop (p + X.length) = Y ++ L.drop (p + X.length + Y.length) := by
    unfold splice
    rw [List.drop_append_of_le_length (by simp; omega), List.drop_of_length_le (by simp; omega), List.nil_append]
  show (List.take p (splice L (p + X.length) Y) ++ (X ++ List.drop (p + X.length) (splice L (p + X.length) Y))).take _ = _
  rw [e1, e2, ← List.append_assoc, ← List.append_assoc, List.take_append_of_le_length (by simp; omega), List.take_of_length_le (by simp; omega), List.append_assoc]

end Go.Proofs.YtffhpjjioefaeafDoor.Kit

/-
  OWN TEXT. append to a row that the call owns, or to none: where the row is then; over whatever program.
-/
namespace Go.Proofs.YtffhpjjioefaeafDoor.Kit
open Go Go.RowKit

theorem append_row {P : Program} (w : World) (base : Nat) (t ty e : TypeId) (i : TypeInfo) (z : Value) (size : Nat) (ht : P.underlying t = some (.slice e)) (hi : P.info? e = some i) (hz : i.zero = some z) (hsz : i.size = size) (hzs : z.cells.size = size)
    (ao : Option Addr) (n cap : Nat) (xs : List Value) (hown : w.ownsRow base e size (.slice ao n cap) n xs) (a : Addr) (m c : Nat) (news : List Value) (hl : news.length = m * size) (hnews : ∀ j v, news[j]? = some v → w.cell? (a.add j) = some v) (h1 : ∀ u ∈ news, u.oneCell' = true)
    (h0 : 0 < m) (hm : n + m ≤ maxLen) (hby : (n + m) * i.bytes ≤ 140737488355328) (hb : base ≤ w.heap.size) :
    ∃ g' cap' W, (Builtin.append_ #[t, t] ty #[.slice ao n cap, .slice (some a) m c]).run P w = .ok (.slice (some ⟨g', 0, none⟩) (n + m) cap') W ∧ W.ownsRow base e size (.slice (some ⟨g', 0, none⟩) (n + m) cap') (n + m) (xs ++ news) ∧
      ((ao = some ⟨g', 0, none⟩ ∧ But g' w W) ∨ (g' = w.heap.size ∧ Below w.heap.size w W)) := by
  have hown' := hown
  rcases hown.2 with ⟨e1, e2⟩ | ⟨g, cap', cur, e1, hbg, hg, hn, hmx, hsc, htk⟩
  · simp only [Value.slice.injEq] at e1
    obtain ⟨rfl, rfl, rfl⟩ := e1
    have hx : xs = [] := List.eq_nil_of_length_eq_zero (by have := hown.1; simpa using this)
    subst hx
    subst hsz
    have hby' : m * i.bytes ≤ 281474976710656 := by simp only [Nat.zero_add] at hby; omega
    have h63 : (m : Int) ≤ 9223372036854775807 := by simp only [maxLen] at hm; omega
    have hr := run_append_nil (P := P) (w := w) t ty e i z ht hi hz a m c news hl hnews h0 h63 hby'
    have hc1 := grownCap_ge w m 0 e
    have hc2 := grownCap_le_maxLen w m 0 e (by omega)
    have R : Row (w.drew.alloc (.cells (news.toArray ++ Builtin.zeroCells z.cells (grownCap w m 0 e - m)) e)) e i.size w.heap.size (grownCap w m 0 e) (news.toArray ++ Builtin.zeroCells z.cells (grownCap w m 0 e - m)).toList := row_new (by
      simp only [Array.size_append, List.size_toArray, size_zeroCells, hl, hzs]
      rw [← Nat.add_mul]
      congr 1
      omega) hc2
    refine ⟨w.heap.size, grownCap w m 0 e, _, by rw [Nat.zero_add]; exact hr, ?_, .inr ⟨rfl, below_new _ _⟩⟩
    rw [Nat.zero_add, List.nil_append]
    refine R.owns hb hc1 ?_
    simp only [Array.toList_append]
    rw [List.take_append_of_le_length (by simp [hl]), List.take_of_length_le (by simp [hl])]
  · simp only [Value.slice.injEq] at e1
    obtain ⟨rfl, _, rfl⟩ := e1
    by_cases hr : n + m ≤ cap
    · obtain ⟨w', hrun, r1, r2⟩ := run_append_fits (P := P) w base t ty e i size ht hi hsz g n cap xs hown' a m c news hl hnews h1 hr
      exact ⟨g, cap, w', hrun, r1, .inl ⟨rfl, r2.os, r2.tape, r2.output, r2.size, fun k hk hne => r2.block k hk (by intro q; exact hne (by simpa using q))⟩⟩
    · obtain ⟨cap', W, cur', hrun, R', ht', hc', hb'⟩ := grow_some (P := P) w t ty e i z size ht hi hz hsz hzs ⟨g, 0, none⟩ n cap xs hown'.1 (hown'.cells rfl) a m c news hl hnews (by omega) hm hby
      exact ⟨w.heap.size, cap', W, hrun, R'.owns hb hc' ht', .inr ⟨rfl, hb'⟩⟩

end Go.Proofs.YtffhpjjioefaeafDoor.Kit

/-
  OWN TEXT. Slices of four numbers each (paddockkeep.Raw) over whatever program.
-/
namespace Go.Proofs.YtffhpjjioefaeafDoor.Kit
open Go Go.RowKit Go.ChangeShapes Go.WideShapes Go.ChangeAt Go.Joins Go.Deep

/-- Four numbers. -/
structure Raw4 where
  k : Int
  a : Int
  b : Int
  c : Int

def Raw4.zero : Raw4 := ⟨0, 0, 0, 0⟩

/-- Each of them fits. -/
structure Raw4.Fits (r : Raw4) : Prop where
  k : (Lit.int .i64 r.k).wf = true
  a : (Lit.int .i64 r.a).wf = true
  b : (Lit.int .i64 r.b).wf = true
  c : (Lit.int .i64 r.c).wf = true

/-- The cells from 'ao' on hold the numbers 'l'. -/
def RawsAt (w : World) (ao : Option Addr) (l : List Raw4) : Prop :=
  ∀ i, i < l.length → ∃ b off, ao = some ⟨b, off, none⟩ ∧ w.cell? ⟨b, off + i * 4, none⟩ = some (.int .i64 (l.getD i .zero).k) ∧ w.cell? ⟨b, off + i * 4 + 1, none⟩ = some (.int .i64 (l.getD i .zero).a) ∧
    w.cell? ⟨b, off + i * 4 + 2, none⟩ = some (.int .i64 (l.getD i .zero).b) ∧ w.cell? ⟨b, off + i * 4 + 3, none⟩ = some (.int .i64 (l.getD i .zero).c)

theorem RawsAt.below {w w' : World} {ao : Option Addr} {l : List Raw4} (h : RawsAt w ao l) (hb : Below w.heap.size w w') : RawsAt w' ao l := by
  intro i hi
  obtain ⟨b, off, ha, h1, h2, h3, h4⟩ := h i hi
  exact ⟨b, off, ha, keep h1 hb, keep h2 hb, keep h3 hb, keep h4 hb⟩

theorem RawsAt.nil (w : World) (ao : Option Addr) : RawsAt w ao [] := fun i hi => absurd hi (by simp)

/-- What the walk is told of such a slice that came in. -/
structure IsRaws (w : World) (ao : Option Addr) (n cap : Nat) (l : List Raw4) : Prop where
  len : l.length = n
  le : n ≤ cap
  reach : cap * 32 ≤ 140737488351232
  at_ : RawsAt w ao l
  wf : ∀ i, i < n → (l.getD i .zero).Fits

theorem open_raws_arg {H : Type} {enc : TypeId × Value → H} {P : Program} {W : World} {base : Nat} {t e : TypeId} {f0 f1 f2 f3 : Field} {v : Value} {d : DataW H} {p : List MemPlace}
    (ht : P.underlying t = some (.slice e)) (he : P.underlying e = some (.struct #[f0, f1, f2, f3])) (ce : P.cellsOf e = 4) (be : P.bytesOf e = 32)
    (hone : oneCellFields P #[f0, f1, f2, f3] = true) (u0 : P.underlying f0.type = some (.int .i64)) (u1 : P.underlying f1.type = some (.int .i64)) (u2 : P.underlying f2.type = some (.int .i64)) (u3 : P.underlying f3.type = some (.int .i64))
    (hv : Value.okWide P W .any base t v) (h : DataW.Trod enc P W 0 (fun _ => true) true t v d p) (hs : Sized P t d) :
    ∃ ao n cap l, v = .slice ao n cap ∧ IsRaws W ao n cap l := by
  obtain ⟨ao, n, cap, rfl⟩ := okWide_slice ht hv
  obtain ⟨fuel, hf⟩ := h
  rcases open_slice ht hf with ⟨hcs, _⟩ | ⟨a, len, cap', m, fu, D, Pl, hcs, _, hl, hm, hmm, hx, hc⟩
  · simp [Value.cells] at hcs
    obtain ⟨rfl, rfl, rfl⟩ := hcs
    exact ⟨none, 0, 0, [], rfl, ⟨rfl, by omega, by omega, RawsAt.nil _ _, fun i hi => by omega⟩⟩
  · simp [Value.cells] at hcs
    obtain ⟨rfl, rfl, rfl⟩ := hcs
    simp only [if_true] at hmm
    subst hmm
    simp only [Prod.mk.injEq] at hx
    have hr := hx.1 ▸ hs
    have hr2 := sized_sl hr ht
    rw [be] at hr2
    simp only [List.length_map, List.length_range, reachBytes] at hr2
    rw [ce] at hc
    obtain ⟨o0, k0⟩ := hone_of hone 0 f0 rfl
    obtain ⟨o1, k1⟩ := hone_of hone 1 f1 rfl
    obtain ⟨o2, k2⟩ := hone_of hone 2 f2 rfl
    obtain ⟨o3, k3⟩ := hone_of hone 3 f3 rfl
    have each : ∀ i, i < m → ∃ r : Raw4, r.Fits ∧ W.cell? (a.add (i * 4)) = some (.int .i64 r.k) ∧ W.cell? (a.add (i * 4 + 1)) = some (.int .i64 r.a) ∧ W.cell? (a.add (i * 4 + 2)) = some (.int .i64 r.b) ∧ W.cell? (a.add (i * 4 + 3)) = some (.int .i64 r.c) := by
      intro i hi
      obtain ⟨cs', h1, h2⟩ := hc i hi
      obtain ⟨_, hlen, hcell⟩ := World.cells?_some h1
      obtain ⟨y0, y1, y2, y3, q, _, _, g0, g1, g2, g3⟩ := trod_struct4 he h2
      match cs', hlen with
      | [v0, v1, v2, v3], _ =>
        simp [o0, k0] at g0
        simp [o1, k1] at g1
        simp [o2, k2] at g2
        simp [o3, k3] at g3
        obtain ⟨x0, e0, _, w0⟩ := DataW.trod_int u0 g0
        obtain ⟨x1, e1, _, w1⟩ := DataW.trod_int u1 g1
        obtain ⟨x2, e2, _, w2⟩ := DataW.trod_int u2 g2
        obtain ⟨x3, e3, _, w3⟩ := DataW.trod_int u3 g3
        simp only [List.cons.injEq, and_true] at e0 e1 e2 e3
        subst e0 e1 e2 e3
        have c0 := hcell 0 (by omega)
        have c1 := hcell 1 (by omega)
        have c2 := hcell 2 (by omega)
        have c3 := hcell 3 (by omega)
        rw [add_add] at c0 c1 c2 c3
        exact ⟨⟨x0, x1, x2, x3⟩, ⟨w0, w1, w2, w3⟩, by simpa using c0, by simpa using c1, by simpa using c2, by simpa using c3⟩
    have inh : Inhabited Raw4 := ⟨Raw4.zero⟩
    obtain ⟨g, hg⟩ := choose_lt each
    have hget : ∀ i, i < n → ((List.range n).map g).getD i .zero = g i := by
      intro i hi
      simp [List.getD_eq_getElem?_getD, hi]
    refine ⟨some a, n, m, (List.range n).map g, rfl, ⟨by simp, hl, by omega, ?_, fun i hi => by rw [hget i hi]; exact (hg i (by omega)).1⟩⟩
    intro i hi
    have hi' : i < n := by simpa using hi
    obtain ⟨_, d0, d1, d2, d3⟩ := hg i (by omega)
    obtain ⟨b, off, spot⟩ := a
    have hspot : spot = none := by
      have := World.cell?_spot (hg 0 (by omega)).2.1
      simpa [Addr.add] using this
    subst hspot
    have hadd : ∀ j, (⟨b, off, none⟩ : Addr).add j = ⟨b, off + j, none⟩ := fun j => by unfold Addr.add; split <;> simp_all
    rw [hadd] at d0 d1 d2 d3
    rw [hget i hi']
    exact ⟨b, off, rfl, d0, by rw [Nat.add_assoc]; exact d1, by rw [Nat.add_assoc]; exact d2, by rw [Nat.add_assoc]; exact d3⟩

end Go.Proofs.YtffhpjjioefaeafDoor.Kit

/-
  OWN TEXT. Contract of paddockkeep.picked: a number from 0 to below 'many'.
-/
namespace Go.Proofs.YtffhpjjioefaeafDoor
open Go Go.RowKit Go.Proofs.YtffhpjjioefaeafDoor.Kit

theorem ret_int {k : IntKind} {a b : Int} (h : a = b) : Ending.returned (.int k a) = .returned (.int k b) := by rw [h]

theorem picked_any (n : Int) (many : Nat) (wf : (Lit.int .i64 n).wf = true) (h1 : 1 ≤ many) (h2 : many ≤ 1152921504606846976) (w : World) :
    Calls Tryd.prog 14 #[.int .i64 n, .int .i64 many] w fun e w' => (∃ r : Nat, r < many ∧ e = .returned (.int .i64 r)) ∧ w = w' := by
  have hb := bounds_i64 wf
  obtain ⟨b1, b2⟩ := hb
  have hm : ((many : Int) == 0) = false := by simp; omega
  clear wf
  by_cases h : n < 0
  · go_enter Tryd.func14, Tryd.ntmps14
    go_wp2
    go_ret
    have e1 := Int.emod_lt_of_pos (-(n + 1)) (show (0 : Int) < many by omega)
    have e2 := Int.emod_nonneg (-(n + 1)) (show (many : Int) ≠ 0 by omega)
    have e3 : (n + 1).tmod many = -((-(n + 1)) % many) := by
      have := Int.neg_tmod (-(n + 1)) many
      rw [Int.neg_neg] at this
      rw [this, Int.tmod_eq_emod_of_nonneg (by omega)]
    refine ⟨⟨((-(n + 1)) % many).toNat, by omega, ret_int ?_⟩, rfl⟩
    rw [e3]; omega
  · go_enter Tryd.func14, Tryd.ntmps14
    go_wp2
    go_ret
    refine ⟨⟨(n % many).toNat, ?_, ret_int ?_⟩, rfl⟩
    · have := Int.emod_lt_of_pos n (show (0 : Int) < many by omega); have := Int.emod_nonneg n (show (many : Int) ≠ 0 by omega); omega
    · have := Int.emod_nonneg n (show (many : Int) ≠ 0 by omega); omega

theorem picked_int (n mi : Int) (many : Nat) (hmi : mi = many) (wf : (Lit.int .i64 n).wf = true) (h1 : 1 ≤ many) (h2 : many ≤ 1152921504606846976) (w : World) :
    Calls Tryd.prog 14 #[.int .i64 n, .int .i64 mi] w fun e w' => (∃ r : Nat, r < many ∧ e = .returned (.int .i64 r)) ∧ w = w' := by
  subst hmi; exact picked_any n many wf h1 h2 w

/-- The number that picked answers. -/
def pickN (n : Int) (many : Nat) : Nat := ((if n < 0 then -(n + 1) else n) % many).toNat

theorem pickN_lt (n : Int) (many : Nat) (h : 1 ≤ many) : pickN n many < many := by
  unfold pickN
  have h1 := Int.emod_lt_of_pos (if n < 0 then -(n + 1) else n) (show (0 : Int) < many by omega)
  have h2 := Int.emod_nonneg (if n < 0 then -(n + 1) else n) (show (many : Int) ≠ 0 by omega)
  omega

theorem picked_fn (n mi : Int) (many : Nat) (hmi : mi = many) (wf : (Lit.int .i64 n).wf = true) (h1 : 1 ≤ many) (h2 : many ≤ 1152921504606846976) (w : World) :
    Calls Tryd.prog 14 #[.int .i64 n, .int .i64 mi] w fun e w' => e = .returned (.int .i64 (pickN n many)) ∧ w = w' := by
  subst hmi
  have hb := bounds_i64 wf
  obtain ⟨b1, b2⟩ := hb
  have hm : ((many : Int) == 0) = false := by simp; omega
  clear wf
  by_cases h : n < 0
  · have e1 := Int.emod_lt_of_pos (-(n + 1)) (show (0 : Int) < many by omega)
    have e2 := Int.emod_nonneg (-(n + 1)) (show (many : Int) ≠ 0 by omega)
    have e3 : (n + 1).tmod many = -((-(n + 1)) % many) := by
      have := Int.neg_tmod (-(n + 1)) many
      rw [Int.neg_neg] at this
      rw [this, Int.tmod_eq_emod_of_nonneg (by omega)]
    have HP : Hid ((pickN n many : Int) = -((n + 1).tmod many)) := by
      show _ = _
      unfold pickN
      rw [if_pos h, e3]; omega
    clear e1 e2 e3
    go_enter Tryd.func14, Tryd.ntmps14
    go_wp2
    go_ret
    exact ⟨ret_int HP.out.symm, rfl⟩
  · have e2 := Int.emod_nonneg n (show (many : Int) ≠ 0 by omega)
    have HP : Hid ((pickN n many : Int) = n % many) := by
      show _ = _
      unfold pickN
      rw [if_neg h]; omega
    clear e2
    go_enter Tryd.func14, Tryd.ntmps14
    go_wp2
    go_ret
    exact ⟨ret_int HP.out.symm, rfl⟩

end Go.Proofs.YtffhpjjioefaeafDoor

/-
  OWN TEXT. Contract of the code: buddy.group.
-/
namespace Go.Proofs.YtffhpjjioefaeafDoor
open Go Go.RowKit Go.Proofs.YtffhpjjioefaeafDoor.Kit

set_option maxHeartbeats 1000000 in
theorem group_any (w : World) (f t : Int) (fo to_ : Option Addr) (fn fc tn tc : Nat) (a : Int) (h0 : 0 ≤ f) (h1 : f ≤ a) (h2 : a ≤ 256) :
    Calls Tryd.prog 37 #[.agg #[.int .i64 f, .int .i64 t, .slice fo fn fc, .slice to_ tn tc], .int .i64 a] w fun e w' => e = .returned (.int .i64 ((a - f) / 8)) ∧ Below w.heap.size w w' := by
  have hb1 := below_box w (.cells #[.int .i64 f, .int .i64 t, .slice fo fn fc, .slice to_ tn tc] 26)
  obtain ⟨D, hD⟩ : ∃ D : Nat, a - f = (D : Int) := ⟨(a - f).toNat, by omega⟩
  obtain ⟨N, hq⟩ : ∃ N : Nat, (D : Int) / 8 = (N : Int) := ⟨D / 8, by omega⟩
  rw [hD, hq]
  go_enter Tryd.func37, Tryd.ntmps37
  go_wp2
  go_ret
  exact ⟨rfl, hb1⟩

end Go.Proofs.YtffhpjjioefaeafDoor
