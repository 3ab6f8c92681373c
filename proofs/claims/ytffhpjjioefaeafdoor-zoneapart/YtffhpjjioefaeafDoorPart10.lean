/-
  OWN TEXTS, bundled: ZcBack, ZcGive, ZcNew.
-/
import Derived.Test.YtffhpjjioefaeafDoorPart8
import Derived.Test.YtffhpjjioefaeafDoorPart4
import Derived.Test.YtffhpjjioefaeafDoorPart5
import Derived.Test.YtffhpjjioefaeafDoorPart2
import Derived.Test.YtffhpjjioefaeafDoorPart3

/-
  OWN TEXT. Contracts of the code: buddy.Back.
-/
namespace Go.Proofs.YtffhpjjioefaeafDoor
open Go Go.RowKit Go.Proofs.YtffhpjjioefaeafDoor.Kit

set_option maxHeartbeats 1000000 in
theorem zBack_no (w : World) (fo : Option Addr) (fn fc : Nat) (to_ : Option Addr) (tn tc : Nat) (z : Zn) (a o : Int) (h : ZnAt w fo fn to_ tn z) (hf : ZFits z) (hM : ¬ ZMay z) :
    Calls Tryd.prog 11 #[.agg #[.int .i64 z.f, .int .i64 z.t, .slice fo fn fc, .slice to_ tn tc], .int .i64 a, .int .i64 o] w fun e w' => RetNone 8 e ∧ Below w.heap.size w w' := by
  have I0 := cbI_first w fo fn fc to_ tn tc z h
  have c0 := I0.box.c0
  have c1 := I0.box.c1
  have c2 := I0.box.c2
  have c3 := I0.box.c3
  clear h
  go_enter Tryd.func11, Tryd.ntmps11
  go_wp2_with fail
  go_at_call 25
  refine (zCheck_no _ fo fn fc to_ tn tc z I0.zn hf hM).mono ?_
  rintro e w1 ⟨rfl, hb⟩
  have I1 := I0.step hb
  have R1 := I1.res
  obtain ⟨⟨x0, d0⟩, ⟨x1, d1⟩, ⟨x2, d2⟩, ⟨x3, d3⟩, z0, z1, z2, z3⟩ := id R1
  have hB := I1.b
  have hs := I1.size
  clear I0 I1 hb hM hf c0 c1 c2 c3
  go_wp2
  obtain ⟨k0, k1, k2, k3⟩ := res4 R1 (.int .i64 0) (.int .i64 0) (.slice none 0 0) (.slice none 0 0)
  have hbt := but4 w1 (w.heap.size + 1) (.int .i64 0) (.int .i64 0) (.slice none 0 0) (.slice none 0 0)
  exact bodyPost_ret (v := .tuple #[.agg #[.int .i64 0, .int .i64 0, .slice none 0 0, .slice none 0 0], .int .i64 8]) (by simp [results, Tryd.results11, go_sem, k0, k1, k2, k3]) rfl ⟨rfl, hB.trans (hbt.below (by omega) (by omega))⟩

set_option maxHeartbeats 1000000 in
theorem zBack_range (w : World) (fo : Option Addr) (fn fc : Nat) (to_ : Option Addr) (tn tc : Nat) (z : Zn) (a o : Int) (h : ZnAt w fo fn to_ tn z) (_wa : (Lit.int .i64 a).wf = true) (_wo : (Lit.int .i64 o).wf = true) (hM : ZMay z) (hbk : ¬ blkIn z.f z.t a o) :
    Calls Tryd.prog 11 #[.agg #[.int .i64 z.f, .int .i64 z.t, .slice fo fn fc, .slice to_ tn tc], .int .i64 a, .int .i64 o] w fun e w' => RetNone 1 e ∧ Below w.heap.size w w' := by
  have I0 := cbI_first w fo fn fc to_ tn tc z h
  have c0 := I0.box.c0
  have c1 := I0.box.c1
  have c2 := I0.box.c2
  have c3 := I0.box.c3
  have hB2 : Hid (blkB z.f z.t a o = false) := by
    show _ = _
    cases hb : blkB z.f z.t a o with
    | false => rfl
    | true => exact absurd ((blkB_iff z.f z.t a o).1 hb) hbk
  clear h hbk
  go_enter Tryd.func11, Tryd.ntmps11
  go_wp2_with fail
  go_at_call 25
  refine (zCheck_ok _ fo fn fc to_ tn tc z I0.zn hM).mono ?_
  rintro e w1 ⟨rfl, hb⟩
  have I1 := I0.step hb
  clear I0 hb c0 c1 c2 c3
  have c0 := I1.box.c0
  have c1 := I1.box.c1
  have c2 := I1.box.c2
  have c3 := I1.box.c3
  go_wp2_with fail
  go_at_call 26
  refine (blkMay_any _ z.f z.t fo to_ fn fc tn tc a o hM.new).mono ?_
  rintro e w2 ⟨rfl, hb2⟩
  rw [hB2.out]
  have I2 := I1.step hb2
  have R1 := I2.res
  obtain ⟨⟨x0, d0⟩, ⟨x1, d1⟩, ⟨x2, d2⟩, ⟨x3, d3⟩, z0, z1, z2, z3⟩ := id R1
  have hB := I2.b
  have hs := I2.size
  clear I1 I2 hb2 hM c0 c1 c2 c3
  go_wp2
  obtain ⟨k0, k1, k2, k3⟩ := res4 R1 (.int .i64 0) (.int .i64 0) (.slice none 0 0) (.slice none 0 0)
  have hbt := but4 w2 (w.heap.size + 1) (.int .i64 0) (.int .i64 0) (.slice none 0 0) (.slice none 0 0)
  exact bodyPost_ret (v := .tuple #[.agg #[.int .i64 0, .int .i64 0, .slice none 0 0, .slice none 0 0], .int .i64 1]) (by simp [results, Tryd.results11, go_sem, k0, k1, k2, k3]) rfl ⟨rfl, hB.trans (hbt.below (by omega) (by omega))⟩

set_option maxHeartbeats 2000000 in
theorem zBack_twice (w : World) (fo : Option Addr) (fn fc : Nat) (to_ : Option Addr) (tn tc : Nat) (z : Zn) (a o : Int) (h : ZnAt w fo fn to_ tn z) (hM : ZMay z) (hA : blkIn z.f z.t a o) (hv : ovlP z.free a o) :
    Calls Tryd.prog 11 #[.agg #[.int .i64 z.f, .int .i64 z.t, .slice fo fn fc, .slice to_ tn tc], .int .i64 a, .int .i64 o] w fun e w' => RetNone 5 e ∧ Below w.heap.size w w' := by
  have I0 := cbI_first w fo fn fc to_ tn tc z h
  have c0 := I0.box.c0
  have c1 := I0.box.c1
  have c2 := I0.box.c2
  have c3 := I0.box.c3
  have hB2 : Hid (blkB z.f z.t a o = true) := (blkB_iff z.f z.t a o).2 hA
  clear h
  go_enter Tryd.func11, Tryd.ntmps11
  go_wp2_with fail
  go_at_call 25
  refine (zCheck_ok _ fo fn fc to_ tn tc z I0.zn hM).mono ?_
  rintro e w1 ⟨rfl, hb⟩
  have I1 := I0.step hb
  clear I0 hb c0 c1 c2 c3
  have c0 := I1.box.c0
  have c1 := I1.box.c1
  have c2 := I1.box.c2
  have c3 := I1.box.c3
  go_wp2_with fail
  go_at_call 26
  refine (blkMay_any _ z.f z.t fo to_ fn fc tn tc a o hM.new).mono ?_
  rintro e w2 ⟨rfl, hb2⟩
  rw [hB2.out]
  have I2 := I1.step hb2
  clear I1 hb2 c0 c1 c2 c3
  have c0 := I2.box.c0
  have c1 := I2.box.c1
  have c2 := I2.box.c2
  have c3 := I2.box.c3
  go_wp2_with fail
  go_at_call 27
  refine (zCopy_own _ fo fn fc to_ tn tc z I2.zn).mono ?_
  rintro e w3 ⟨g, k, rfl, o1, o2, hgk, hb3⟩
  have I3 := I2.step hb3
  have Z4 := zo_new o1 o2 hgk
  have hbx := below_box w3 (.cells #[.int .i64 z.f, .int .i64 z.t, .slice (some ⟨g, 0, none⟩) fn fn, .slice (some ⟨k, 0, none⟩) tn tn] 26)
  have I4 := I3.step hbx
  have HP := put_twice _ _ w3.heap.size g fn fn k tn tn z a o Z4 hM hA hv
  clear I2 I3 hb3 c0 c1 c2 c3 o1 o2 hbx
  go_wp2_with fail
  go_at_call 28
  refine HP.mono ?_
  rintro e w5 ⟨rfl, hb5⟩
  have I5 := I4.step hb5
  have R1 := I5.res
  obtain ⟨⟨x0, d0⟩, ⟨x1, d1⟩, ⟨x2, d2⟩, ⟨x3, d3⟩, z0, z1, z2, z3⟩ := id R1
  have hB := I5.b
  have hs := I5.size
  clear I4 I5 hb5 hM HP Z4
  go_wp2
  obtain ⟨k0, k1, k2, k3⟩ := res4 R1 (.int .i64 0) (.int .i64 0) (.slice none 0 0) (.slice none 0 0)
  have hbt := but4 w5 (w.heap.size + 1) (.int .i64 0) (.int .i64 0) (.slice none 0 0) (.slice none 0 0)
  exact bodyPost_ret (v := .tuple #[.agg #[.int .i64 0, .int .i64 0, .slice none 0 0, .slice none 0 0], .int .i64 5]) (by simp [results, Tryd.results11, go_sem, k0, k1, k2, k3]) rfl ⟨rfl, hB.trans (hbt.below (by omega) (by omega))⟩

theorem backGo_len (n : Nat) (l : List Bk) (a o : Int) : (backGo n l a o).1.length ≤ l.length := by
  induction n generalizing l a o with
  | zero => exact Nat.le_refl _
  | succ n ih =>
    unfold backGo
    split
    · exact Nat.le_trans (ih _ _ _) (dropB_len _ _ _)
    · exact Nat.le_refl _
theorem backZ_len (z : Zn) (a o : Int) : (backZ z a o).free.length ≤ z.free.length + 1 := by
  show (addB _ _).length ≤ _
  rw [addB_len]
  have := backGo_len (4 - o).toNat z.free a o
  omega

set_option maxHeartbeats 2000000 in
theorem zBack_ok (w : World) (fo : Option Addr) (fn fc : Nat) (to_ : Option Addr) (tn tc : Nat) (z : Zn) (a o : Int) (h : ZnAt w fo fn to_ tn z) (hM : ZMay z) (hA : blkIn z.f z.t a o) (hv : ¬ ovlP z.free a o) :
    Calls Tryd.prog 11 #[.agg #[.int .i64 z.f, .int .i64 z.t, .slice fo fn fc, .slice to_ tn tc], .int .i64 a, .int .i64 o] w fun e w' => RetZone w.heap.size w' (backZ z a o) e ∧ Below w.heap.size w w' := by
  have I0 := cbI_first w fo fn fc to_ tn tc z h
  have c0 := I0.box.c0
  have c1 := I0.box.c1
  have c2 := I0.box.c2
  have c3 := I0.box.c3
  have hB2 : Hid (blkB z.f z.t a o = true) := (blkB_iff z.f z.t a o).2 hA
  have htr := h.types.reach
  have hbl := may_len hM
  obtain ⟨Y, hY⟩ : ∃ Y, backZ z a o = Y := ⟨_, rfl⟩
  have hlenB : Y.free.length ≤ 257 := by rw [← hY]; have := backZ_len z a o; omega
  rw [hY]
  have HY : Hid _ := hY
  clear h hY
  go_enter Tryd.func11, Tryd.ntmps11
  go_wp2_with fail
  go_at_call 25
  refine (zCheck_ok _ fo fn fc to_ tn tc z I0.zn hM).mono ?_
  rintro e w1 ⟨rfl, hb⟩
  have I1 := I0.step hb
  clear I0 hb c0 c1 c2 c3
  have c0 := I1.box.c0
  have c1 := I1.box.c1
  have c2 := I1.box.c2
  have c3 := I1.box.c3
  go_wp2_with fail
  go_at_call 26
  refine (blkMay_any _ z.f z.t fo to_ fn fc tn tc a o hM.new).mono ?_
  rintro e w2 ⟨rfl, hb2⟩
  rw [hB2.out]
  have I2 := I1.step hb2
  clear I1 hb2 c0 c1 c2 c3
  have c0 := I2.box.c0
  have c1 := I2.box.c1
  have c2 := I2.box.c2
  have c3 := I2.box.c3
  go_wp2_with fail
  go_at_call 27
  refine (zCopy_own _ fo fn fc to_ tn tc z I2.zn).mono ?_
  rintro e w3 ⟨g, k, rfl, o1, o2, hgk, hb3⟩
  have I3 := I2.step hb3
  have hf1 := owns_fresh o1 _ rfl
  have hf2 := owns_fresh o2 _ rfl
  have Z4 := zo_new o1 o2 hgk
  have hbx := below_box w3 (.cells #[.int .i64 z.f, .int .i64 z.t, .slice (some ⟨g, 0, none⟩) fn fn, .slice (some ⟨k, 0, none⟩) tn tn] 26)
  have I4 := I3.step hbx
  have hs2 := I2.size
  have hs3 := I3.size
  have HP := put_ok _ _ w3.heap.size g fn fn k tn tn z a o Z4 hM hA hv
  have hgl := Z4.glt
  obtain ⟨W4, hW4⟩ : ∃ W4, w3.alloc (.cells #[.int .i64 z.f, .int .i64 z.t, .slice (some ⟨g, 0, none⟩) fn fn, .slice (some ⟨k, 0, none⟩) tn tn] 26) = W4 := ⟨_, rfl⟩
  rw [hW4] at I4 HP hgl
  have HW4 : Hid _ := hW4
  rw [HY.out] at HP
  dsimp only at hf1 hf2
  clear I2 I3 hb3 c0 c1 c2 c3 o1 o2 hbx Z4 hW4
  go_wp2_with (rw [HW4.out])
  go_at_call 28
  refine HP.mono ?_
  rintro e w5 ⟨rfl, g', n', cap', Z5, hg', hU⟩
  have hs4 := I4.size
  have R1 := hU.res I4.res (by omega) (by omega)
  have hB : Below w.heap.size w w5 := I4.b.trans (hU.below (by omega) (by omega) (by omega))
  obtain ⟨⟨x0, d0⟩, ⟨x1, d1⟩, ⟨x2, d2⟩, ⟨x3, d3⟩, z0, z1, z2, z3⟩ := id R1
  have y0 := Z5.box.c0
  have y1 := Z5.box.c1
  have y2 := Z5.box.c2
  have y3 := Z5.box.c3
  have hs5 := hU.size
  have hgB : w.heap.size + 2 ≤ g' := by rcases hg' with e | e <;> omega
  have B7 := blks_own Z5.own (by have := bowns_len Z5.own; omega)
  have N7 := nums_of_owns Z5.typ htr
  clear I4 HP HW4
  go_wp2
  obtain ⟨k0, k1, k2, k3⟩ := res4 R1 (.int .i64 Y.f) (.int .i64 Y.t) (.slice (some ⟨g', 0, none⟩) n' cap') (.slice (some ⟨k, 0, none⟩) tn tn)
  have hbt := but4 w5 (w.heap.size + 1) (.int .i64 Y.f) (.int .i64 Y.t) (.slice (some ⟨g', 0, none⟩) n' cap') (.slice (some ⟨k, 0, none⟩) tn tn)
  exact bodyPost_ret (v := .tuple #[.agg #[.int .i64 Y.f, .int .i64 Y.t, .slice (some ⟨g', 0, none⟩) n' cap', .slice (some ⟨k, 0, none⟩) tn tn], .int .i64 0]) (by simp [results, Tryd.results11, go_sem, k0, k1, k2, k3]) rfl ⟨⟨_, _, _, _, _, _, rfl, hbt.zn ⟨B7, N7⟩ (fun a ha => by cases ha; dsimp only; omega) (fun a ha => by cases ha; dsimp only; omega), fun a ha => by cases ha; dsimp only; omega, fun a ha => by cases ha; dsimp only; omega⟩, hB.trans (hbt.below (by omega) (by omega))⟩

end Go.Proofs.YtffhpjjioefaeafDoor

/-
  OWN TEXT. Contracts of the code: buddy.Give.
-/
namespace Go.Proofs.YtffhpjjioefaeafDoor
open Go Go.RowKit Go.Proofs.YtffhpjjioefaeafDoor.Kit

set_option maxHeartbeats 1000000 in
theorem zGive_no (w : World) (fo : Option Addr) (fn fc : Nat) (to_ : Option Addr) (tn tc : Nat) (z : Zn) (a s : Int) (h : ZnAt w fo fn to_ tn z) (hf : ZFits z) (hM : ¬ ZMay z) :
    Calls Tryd.prog 23 #[.agg #[.int .i64 z.f, .int .i64 z.t, .slice fo fn fc, .slice to_ tn tc], .int .i64 a, .int .i64 s] w fun e w' => RetNone 8 e ∧ Below w.heap.size w w' := by
  have I0 := cbI_first w fo fn fc to_ tn tc z h
  have c0 := I0.box.c0
  have c1 := I0.box.c1
  have c2 := I0.box.c2
  have c3 := I0.box.c3
  clear h
  go_enter Tryd.func23, Tryd.ntmps23
  go_wp2_with fail
  go_at_call 25
  refine (zCheck_no _ fo fn fc to_ tn tc z I0.zn hf hM).mono ?_
  rintro e w1 ⟨rfl, hb⟩
  have I1 := I0.step hb
  have R1 := I1.res
  obtain ⟨⟨x0, d0⟩, ⟨x1, d1⟩, ⟨x2, d2⟩, ⟨x3, d3⟩, z0, z1, z2, z3⟩ := id R1
  have hB := I1.b
  have hs := I1.size
  clear I0 I1 hb hM hf c0 c1 c2 c3
  go_wp2
  obtain ⟨k0, k1, k2, k3⟩ := res4 R1 (.int .i64 0) (.int .i64 0) (.slice none 0 0) (.slice none 0 0)
  have hbt := but4 w1 (w.heap.size + 1) (.int .i64 0) (.int .i64 0) (.slice none 0 0) (.slice none 0 0)
  exact bodyPost_ret (v := .tuple #[.agg #[.int .i64 0, .int .i64 0, .slice none 0 0, .slice none 0 0], .int .i64 8]) (by simp [results, Tryd.results23, go_sem, k0, k1, k2, k3]) rfl ⟨rfl, hB.trans (hbt.below (by omega) (by omega))⟩

set_option maxHeartbeats 2000000 in
theorem zGive_range (w : World) (fo : Option Addr) (fn fc : Nat) (to_ : Option Addr) (tn tc : Nat) (z : Zn) (a s : Int) (h : ZnAt w fo fn to_ tn z) (hM : ZMay z) (hr : ¬ giveOk z a s) :
    Calls Tryd.prog 23 #[.agg #[.int .i64 z.f, .int .i64 z.t, .slice fo fn fc, .slice to_ tn tc], .int .i64 a, .int .i64 s] w fun e w' => RetNone 1 e ∧ Below w.heap.size w w' := by
  have I0 := cbI_first w fo fn fc to_ tn tc z h
  have c0 := I0.box.c0
  have c1 := I0.box.c1
  have c2 := I0.box.c2
  have c3 := I0.box.c3
  obtain ⟨n1, n2, n3, n4, n5⟩ := hM.new
  clear h
  go_enter Tryd.func23, Tryd.ntmps23
  go_wp2_with fail
  go_at_call 25
  refine (zCheck_ok _ fo fn fc to_ tn tc z I0.zn hM).mono ?_
  rintro e w1 ⟨rfl, hb⟩
  have I1 := I0.step hb
  have R1 := I1.res
  obtain ⟨⟨x0, d0⟩, ⟨x1, d1⟩, ⟨x2, d2⟩, ⟨x3, d3⟩, z0, z1, z2, z3⟩ := id R1
  have hB := I1.b
  have hs := I1.size
  obtain ⟨k0, k1, k2, k3⟩ := res4 R1 (.int .i64 0) (.int .i64 0) (.slice none 0 0) (.slice none 0 0)
  have hbt := but4 w1 (w.heap.size + 1) (.int .i64 0) (.int .i64 0) (.slice none 0 0) (.slice none 0 0)
  clear I0 hb c0 c1 c2 c3 hM
  have c0 := I1.box.c0
  have c1 := I1.box.c1
  clear I1
  by_cases g1 : s < 0
  · go_wp2
    exact bodyPost_ret (v := .tuple #[.agg #[.int .i64 0, .int .i64 0, .slice none 0 0, .slice none 0 0], .int .i64 1]) (by simp [results, Tryd.results23, go_sem, k0, k1, k2, k3]) rfl ⟨rfl, hB.trans (hbt.below (by omega) (by omega))⟩
  · by_cases g2 : a < z.f
    · go_wp2
      exact bodyPost_ret (v := .tuple #[.agg #[.int .i64 0, .int .i64 0, .slice none 0 0, .slice none 0 0], .int .i64 1]) (by simp [results, Tryd.results23, go_sem, k0, k1, k2, k3]) rfl ⟨rfl, hB.trans (hbt.below (by omega) (by omega))⟩
    · by_cases g3 : z.t < a
      · go_wp2
        exact bodyPost_ret (v := .tuple #[.agg #[.int .i64 0, .int .i64 0, .slice none 0 0, .slice none 0 0], .int .i64 1]) (by simp [results, Tryd.results23, go_sem, k0, k1, k2, k3]) rfl ⟨rfl, hB.trans (hbt.below (by omega) (by omega))⟩
      · have g4 : z.t - a < s := by
          by_cases g : z.t - a < s
          · exact g
          · exact absurd ⟨by omega, by omega, by omega, by omega⟩ hr
        go_wp2
        exact bodyPost_ret (v := .tuple #[.agg #[.int .i64 0, .int .i64 0, .slice none 0 0, .slice none 0 0], .int .i64 1]) (by simp [results, Tryd.results23, go_sem, k0, k1, k2, k3]) rfl ⟨rfl, hB.trans (hbt.below (by omega) (by omega))⟩

set_option maxHeartbeats 4000000 in
theorem zGive_do (w : World) (fo : Option Addr) (fn fc : Nat) (to_ : Option Addr) (tn tc : Nat) (z : Zn) (a s : Int) (h : ZnAt w fo fn to_ tn z) (hM : ZMay z) (hr : giveOk z a s) (G : Option Zn) (hG : giveK s.toNat z a = G) :
    Calls Tryd.prog 23 #[.agg #[.int .i64 z.f, .int .i64 z.t, .slice fo fn fc, .slice to_ tn tc], .int .i64 a, .int .i64 s] w fun e w' => ((∃ Z, G = some Z ∧ RetZone w.heap.size w' Z e) ∨ (G = none ∧ RetNone 5 e)) ∧ Below w.heap.size w w' := by
  have I0 := cbI_first w fo fn fc to_ tn tc z h
  have c0 := I0.box.c0
  have c1 := I0.box.c1
  have c2 := I0.box.c2
  have c3 := I0.box.c3
  obtain ⟨n1, n2, n3, n4, n5⟩ := hM.new
  obtain ⟨r1, r2, r3, r4⟩ := hr
  obtain ⟨S, rfl⟩ : ∃ S : Nat, s = S := ⟨s.toNat, by omega⟩
  have htr := h.types.reach
  have HG : Hid (giveK S z a = G) := by show _ = _; rw [← hG]; rfl
  have g1 : ¬ ((S : Int) < 0) := by omega
  have g2 : ¬ a < z.f := by omega
  have g3 : ¬ z.t < a := by omega
  have g4 : ¬ z.t - a < (S : Int) := by omega
  clear h hG
  go_enter Tryd.func23, Tryd.ntmps23
  go_wp2_with fail
  go_at_call 25
  refine (zCheck_ok _ fo fn fc to_ tn tc z I0.zn hM).mono ?_
  rintro e w1 ⟨rfl, hb⟩
  have I1 := I0.step hb
  clear I0 hb c0 c1 c2 c3
  have c0 := I1.box.c0
  have c1 := I1.box.c1
  have c2 := I1.box.c2
  have c3 := I1.box.c3
  go_wp2_with fail
  go_at_call 27
  refine (zCopy_own _ fo fn fc to_ tn tc z I1.zn).mono ?_
  rintro e w3 ⟨g, k, rfl, o1, o2, hgk, hb3⟩
  have I3 := I1.step hb3
  have Z4 := zo_new o1 o2 hgk
  have hbx := below_box w3 (.cells #[.int .i64 z.f, .int .i64 z.t, .slice (some ⟨g, 0, none⟩) fn fn, .slice (some ⟨k, 0, none⟩) tn tn] 26)
  have I4 := I3.step hbx
  have hs1 := I1.size
  have hs3 := I3.size
  obtain ⟨W4, hW4⟩ : ∃ W4, w3.alloc (.cells #[.int .i64 z.f, .int .i64 z.t, .slice (some ⟨g, 0, none⟩) fn fn, .slice (some ⟨k, 0, none⟩) tn tn] 26) = W4 := ⟨_, rfl⟩
  rw [hW4] at I4 Z4
  have HW4 : Hid _ := hW4
  clear I1 I3 hb3 c0 c1 c2 c3 o1 o2 hbx hW4 g1 g2 g3 g4
  go_wp2_with (rw [HW4.out])
  clear HW4
  go_loopw [44] (fun iv wr => ∃ (i : Nat) (zi : Zn) (g n cap : Nat), i ≤ S ∧ iv = .int .i64 i ∧ Hid (giveK (S - i) zi (a + i) = G) ∧ ZMay zi ∧ zi.f = z.f ∧ zi.t = z.t ∧ Zo wr w1.heap.size w3.heap.size g n cap k tn tn zi ∧ Res4 wr (w.heap.size + 1) ∧ Below w.heap.size w wr ∧ w.heap.size + 2 ≤ wr.heap.size) (fun iv _ => S - (intOf iv).toNat)
  case atStart => exact ⟨0, z, g, fn, fn, Nat.zero_le _, rfl, by simpa using HG, hM, rfl, rfl, Z4, I4.res, I4.b, I4.size⟩
  case round =>
    obtain ⟨i, zi, g, n, cap, hi, rfl, hGi, hMi, hf, ht, Z, R, hB, hs⟩ := hrel
    clear Z4 I4 HG hM hgk
    have hgb := (Row.of Z.own).1
    by_cases hlt : i < S
    · have hA : blkIn zi.f zi.t (a + i) 0 := page_in (by omega) (by omega)
      obtain ⟨m, hm⟩ : ∃ m, S - i = m + 1 := ⟨S - i - 1, by omega⟩
      by_cases hv : ovlP zi.free (a + i) 0
      · have HP := put_twice wr w1.heap.size w3.heap.size g n cap k tn tn zi (a + i) 0 Z hMi hA hv
        have HN : Hid (G = none) := by show _ = _; rw [← hGi.out, hm]; exact give_none hv
        clear hGi hMi hv hA
        go_wp2_with fail
        go_at_call 28
        refine HP.mono ?_
        rintro e w5 ⟨rfl, hb5⟩
        have R1 := R.below hb5
        have hB5 := hB.trans (hb5.mono hB.size)
        have hs5 := hb5.size
        obtain ⟨⟨x0, d0⟩, ⟨x1, d1⟩, ⟨x2, d2⟩, ⟨x3, d3⟩, z0, z1, z2, z3⟩ := id R1
        clear HP Z R hb5 hB
        go_wp2
        obtain ⟨k0, k1, k2, k3⟩ := res4 R1 (.int .i64 0) (.int .i64 0) (.slice none 0 0) (.slice none 0 0)
        have hbt := but4 w5 (w.heap.size + 1) (.int .i64 0) (.int .i64 0) (.slice none 0 0) (.slice none 0 0)
        exact bodyPost_ret (v := .tuple #[.agg #[.int .i64 0, .int .i64 0, .slice none 0 0, .slice none 0 0], .int .i64 5]) (by simp [results, Tryd.results23, go_sem, k0, k1, k2, k3]) rfl ⟨.inr ⟨HN.out, rfl⟩, hB5.trans (hbt.below (by omega) (by omega))⟩
      · have HP := put_ok wr w1.heap.size w3.heap.size g n cap k tn tn zi (a + i) 0 Z hMi hA hv
        have HN : Hid (giveK (S - (i + 1)) (backZ zi (a + i) 0) (a + ((i + 1 : Nat) : Int)) = G) := by
          show _ = _
          rw [← hGi.out, hm, give_some hv, show S - (i + 1) = m by omega, show a + ((i + 1 : Nat) : Int) = a + i + 1 by omega]
        have hM2 := backZ_may hMi hA hv
        have hf2 : (backZ zi (a + i) 0).f = z.f := hf
        have ht2 : (backZ zi (a + i) 0).t = z.t := ht
        obtain ⟨Y, hY⟩ : ∃ Y, backZ zi (a + i) 0 = Y := ⟨_, rfl⟩
        rw [hY] at HP HN hM2 hf2 ht2
        have hzl := Z.box.lt
        clear hGi hMi hv hA hY Z
        go_wp2_with fail
        go_at_call 28
        refine HP.mono ?_
        rintro e w5 ⟨rfl, g', n', cap', Z5, hg', hU⟩
        have R5 := hU.res R (by omega) (by omega)
        have hB5 : Below w.heap.size w w5 := hB.trans (hU.below (by omega) (by omega) (by omega))
        have hs5 := Nat.le_trans hs hU.size
        clear HP R hB hU
        go_wp2
        go_roundw
        case rel => exact ⟨i + 1, Y, g', n', cap', by omega, by go_num, HN, hM2, hf2, ht2, Z5, R5, hB5, hs5⟩
        case measure => simp [intOf]; omega
    · have HN : Hid (G = some zi) := by
        show _ = _
        have h0 : S - i = 0 := by omega
        rw [← hGi.out, h0]
        rfl
      have hbl := may_len hMi
      obtain ⟨⟨x0, d0⟩, ⟨x1, d1⟩, ⟨x2, d2⟩, ⟨x3, d3⟩, z0, z1, z2, z3⟩ := id R
      have y0 := Z.box.c0
      have y1 := Z.box.c1
      have y2 := Z.box.c2
      have y3 := Z.box.c3
      have hkb := (Row.of Z.typ).1
      have B7 := blks_own Z.own (by have := bowns_len Z.own; omega)
      have N7 := nums_of_owns Z.typ htr
      clear hGi hMi Z hf ht
      go_wp2
      obtain ⟨k0, k1, k2, k3⟩ := res4 R (.int .i64 zi.f) (.int .i64 zi.t) (.slice (some ⟨g, 0, none⟩) n cap) (.slice (some ⟨k, 0, none⟩) tn tn)
      have hbt := but4 wr (w.heap.size + 1) (.int .i64 zi.f) (.int .i64 zi.t) (.slice (some ⟨g, 0, none⟩) n cap) (.slice (some ⟨k, 0, none⟩) tn tn)
      exact bodyPost_ret (v := .tuple #[.agg #[.int .i64 zi.f, .int .i64 zi.t, .slice (some ⟨g, 0, none⟩) n cap, .slice (some ⟨k, 0, none⟩) tn tn], .int .i64 0]) (by simp [results, Tryd.results23, go_sem, k0, k1, k2, k3]) rfl ⟨.inl ⟨zi, HN.out, _, _, _, _, _, _, rfl, hbt.zn ⟨B7, N7⟩ (fun a ha => by cases ha; dsimp only; omega) (fun a ha => by cases ha; dsimp only; omega), fun a ha => by cases ha; dsimp only; omega, fun a ha => by cases ha; dsimp only; omega⟩, hB.trans (hbt.below (by omega) (by omega))⟩

end Go.Proofs.YtffhpjjioefaeafDoor

/-
  OWN TEXT. Contracts of the code: buddy.New.
-/
namespace Go.Proofs.YtffhpjjioefaeafDoor
open Go Go.RowKit Go.Proofs.YtffhpjjioefaeafDoor.Kit

theorem rep_set (k N : Nat) (h : k < N) : (List.replicate k (1 : Int) ++ List.replicate (N - k) 0).set k 1 = List.replicate (k + 1) 1 ++ List.replicate (N - (k + 1)) 0 := by
  obtain ⟨m, hm⟩ : ∃ m, N - k = m + 1 := ⟨N - k - 1, by omega⟩
  have e : N - (k + 1) = m := by omega
  rw [hm, e, List.set_append_right _ _ (by simp), List.length_replicate, Nat.sub_self, List.replicate_succ, List.set_cons_zero, List.replicate_succ', List.append_assoc]
  rfl

set_option maxHeartbeats 2000000 in
theorem zNew_nat (w : World) (f t : Nat) (h1 : f ≤ t) (h2 : t ≤ 256) (h3 : f % 16 = 0) (h4 : t % 16 = 0) :
    Calls Tryd.prog 22 #[.int .i64 f, .int .i64 t] w fun e w' => RetZone w.heap.size w' ⟨f, t, [], List.replicate ((t - f) / 8) 1⟩ e ∧ Below w.heap.size w w' := by
  have HB : Hid (newB f t = true) := newB_t ⟨by omega, by omega, by omega, by omega, by omega⟩
  obtain ⟨i0, hi, hz0, hz1, hz2⟩ := info_parts info_int
  have hb1 := below_box w (.cells #[.int .i64 0, .int .i64 0, .slice none 0 0, .slice none 0 0] 26)
  have R0 : Res4 (w.alloc (.cells #[.int .i64 0, .int .i64 0, .slice none 0 0, .slice none 0 0] 26)) w.heap.size := (zbox_new w _ _ _ _ _).res
  have hs1 : (w.alloc (.cells #[.int .i64 0, .int .i64 0, .slice none 0 0, .slice none 0 0] 26)).heap.size = w.heap.size + 1 := by simp
  obtain ⟨W0, hW0⟩ : ∃ W0, w.alloc (.cells #[.int .i64 0, .int .i64 0, .slice none 0 0, .slice none 0 0] 26) = W0 := ⟨_, rfl⟩
  rw [hW0] at hb1 R0 hs1
  obtain ⟨N, hN⟩ : ∃ N, N = (t - f) / 8 := ⟨_, rfl⟩
  have hN3 : N ≤ 32 := by omega
  obtain ⟨D, hD⟩ : ∃ D : Nat, (t : Int) - f = (D : Int) := ⟨t - f, by omega⟩
  have hq : (D : Int) / 8 = (N : Int) := by omega
  rw [← hN]
  have HW0 : Hid _ := hW0
  clear hW0 hN h3 h4
  go_enter Tryd.func22, Tryd.ntmps22
  go_wp2_with fail
  go_at_call 38
  refine (bounds_any _ f t).mono ?_
  rintro e w' ⟨rfl, rfl⟩
  rw [HB.out, HW0.out]
  have hml : N ≤ maxLen := by unfold maxLen; omega
  have hby : i0.bytes * N ≤ 281474976710656 := by rw [hz2]; omega
  go_wp2_with (at_make; refine wpList_make_full _ rfl (.tmp 16) (.tmp 16) 24 rfl W0.heap.size 3 i0 (.int .i64 0) 1 Tryd.underlying24 hi hz0 hz1 .i64 .i64 _ _ N rfl rfl (by go_num) (by go_num) hby hml (Nat.le_refl _) ?_; rw [made_vals]; intro w1 hown hg1; have hbw : Below W0.heap.size W0 w1 := (Below.refl _ _).grown hg1 (Nat.le_refl _) (by simp); clear hg1)
  have R1 := R0.below hbw
  have hB1 := hb1.trans (hbw.mono hb1.size)
  have hs2 : w.heap.size + 1 ≤ w1.heap.size := by have := hbw.size; omega
  have hown1 : w1.ownsRow (w.heap.size + 1) 3 1 (.slice (some ⟨w.heap.size + 1, 0, none⟩) N N) N (vals (List.replicate N 0)) := by rw [hs1] at hown; exact hown
  clear hown hbw R0 hb1 HW0 HB hD hq
  go_loopw [20] (fun iv wr => ∃ k : Nat, k ≤ N ∧ iv = .int .i64 k ∧ wr.ownsRow (w.heap.size + 1) 3 1 (.slice (some ⟨w.heap.size + 1, 0, none⟩) N N) N (vals (List.replicate k 1 ++ List.replicate (N - k) 0)) ∧ Res4 wr w.heap.size ∧ Below w.heap.size w wr) (fun iv _ => N - (intOf iv).toNat)
  case atStart => exact ⟨0, Nat.zero_le _, rfl, by simpa using hown1, R1, hB1⟩
  case round =>
    obtain ⟨k, hk, rfl, hown, R, hb⟩ := hrel
    clear R1 hB1 hown1
    by_cases hlt : k < N
    · obtain ⟨c1, c2, hown'⟩ := owns_store hown k hlt 1
      have e1 : (List.replicate k (1 : Int) ++ List.replicate (N - k) 0).set k 1 = List.replicate (k + 1) 1 ++ List.replicate (N - (k + 1)) 0 := rep_set k N hlt
      rw [e1] at hown'
      have hbt : But (w.heap.size + 1) wr (wr.setCell ⟨w.heap.size + 1, k, none⟩ (.int .i64 1)) := (But.refl _ _).setCell _
      have R' := R.but hbt (by omega)
      have hs : w.heap.size + 1 < wr.heap.size := (hown.lt _ rfl).2
      have hb' := hb.trans (hbt.below (B := w.heap.size) (by omega) (by omega))
      clear hown R hb hbt e1
      go_wp2
      go_roundw
      case rel => exact ⟨k + 1, by omega, by go_num, hown', R', hb'⟩
      case measure => simp [intOf]; omega
    · obtain rfl : k = N := by omega
      have hown' : wr.ownsRow (w.heap.size + 1) 3 1 (.slice (some ⟨w.heap.size + 1, 0, none⟩) k k) k (vals (List.replicate k 1)) := by simpa using hown
      obtain ⟨⟨x0, d0⟩, ⟨x1, d1⟩, ⟨x2, d2⟩, ⟨x3, d3⟩, z0, z1, z2, z3⟩ := id R
      clear hown
      go_wp2
      obtain ⟨k0, k1, k2, k3⟩ := res4 R (.int .i64 f) (.int .i64 t) (.slice none 0 0) (.slice (some ⟨w.heap.size + 1, 0, none⟩) k k)
      have hbt := but4 wr w.heap.size (.int .i64 f) (.int .i64 t) (.slice none 0 0) (.slice (some ⟨w.heap.size + 1, 0, none⟩) k k)
      refine bodyPost_ret (v := .tuple #[.agg #[.int .i64 f, .int .i64 t, .slice none 0 0, .slice (some ⟨w.heap.size + 1, 0, none⟩) k k], .int .i64 0]) (by simp [results, Tryd.results22, go_sem, k0, k1, k2, k3]) rfl ⟨⟨none, 0, 0, some ⟨w.heap.size + 1, 0, none⟩, k, k, rfl, ⟨Blks.nil _, hbt.nums (nums_of_owns hown' (by omega)) (fun a ha => by cases ha; simp)⟩, fresh_none _, fun a ha => by cases ha; simp⟩, hb.trans (hbt.below (Nat.le_refl _) hb.size)⟩

theorem zNew_ok (w : World) (f t : Int) (h : newOk f t) :
    Calls Tryd.prog 22 #[.int .i64 f, .int .i64 t] w fun e w' => RetZone w.heap.size w' (newZ f t) e ∧ Below w.heap.size w w' := by
  obtain ⟨h1, h2, h3, h4, h5⟩ := h
  obtain ⟨F, rfl⟩ : ∃ F : Nat, f = F := ⟨f.toNat, by omega⟩
  obtain ⟨T, rfl⟩ : ∃ T : Nat, t = T := ⟨t.toNat, by omega⟩
  have e : newZ (F : Int) T = ⟨F, T, [], List.replicate ((T - F) / 8) 1⟩ := by
    unfold newZ newTypes
    have : (((T : Int) - F) / 8).toNat = (T - F) / 8 := by omega
    rw [this]
  rw [e]
  exact zNew_nat w F T (by omega) (by omega) (by omega) (by omega)

set_option maxHeartbeats 1000000 in
theorem zNew_no (w : World) (f t : Int) (_wf : (Lit.int .i64 f).wf = true) (_wt : (Lit.int .i64 t).wf = true) (h : ¬ newOk f t) :
    Calls Tryd.prog 22 #[.int .i64 f, .int .i64 t] w fun e w' => RetNone 1 e ∧ Below w.heap.size w w' := by
  have hb1 := below_box w (.cells #[.int .i64 0, .int .i64 0, .slice none 0 0, .slice none 0 0] 26)
  have HB : Hid (newB f t = false) := newB_f h
  clear h _wf _wt
  go_enter Tryd.func22, Tryd.ntmps22
  go_wp2_with fail
  go_at_call 38
  refine (bounds_any _ f t).mono ?_
  rintro e w' ⟨rfl, rfl⟩
  rw [HB.out]
  go_wp2
  exact bodyPost_ret (v := .tuple #[.agg #[.int .i64 0, .int .i64 0, .slice none 0 0, .slice none 0 0], .int .i64 1]) (by simp [results, Tryd.results22, go_sem]) rfl ⟨rfl, hb1⟩

end Go.Proofs.YtffhpjjioefaeafDoor
