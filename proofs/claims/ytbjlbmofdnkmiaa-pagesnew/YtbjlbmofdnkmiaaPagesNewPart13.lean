/-
  OWN TEXTS, bundled: ZcBack, ZcGive, ZcNew, APure, BPure, BcRegion, BcCheck.
-/
import Derived.Test.YtbjlbmofdnkmiaaPagesNewPart12
import Derived.Test.YtbjlbmofdnkmiaaPagesNewPart9
import Derived.Test.YtbjlbmofdnkmiaaPagesNewPart6
import Derived.Test.YtbjlbmofdnkmiaaPagesNewPart10
import Derived.Test.YtbjlbmofdnkmiaaPagesNewPart8
import Derived.Test.YtbjlbmofdnkmiaaPagesNewPart3
import Derived.Test.YtbjlbmofdnkmiaaPagesNewPart4

/-
  OWN TEXT. Contracts of the code: buddy.Back.
-/
namespace Go.Proofs.Ytbjlbmofdnkmiaa
open Go Go.RowKit Go.Proofs.Ytbjlbmofdnkmiaa.Kit

set_option maxHeartbeats 1000000 in
theorem zBack_no (w : World) (fo : Option Addr) (fn fc : Nat) (to_ : Option Addr) (tn tc : Nat) (z : Zn) (a o : Int) (h : ZnAt w fo fn to_ tn z) (hf : ZFits z) (hM : ¬ ZMay z) :
    Calls Try.prog 84 #[.agg #[.int .i64 z.f, .int .i64 z.t, .slice fo fn fc, .slice to_ tn tc], .int .i64 a, .int .i64 o] w fun e w' => RetNone 8 e ∧ Below w.heap.size w w' := by
  have I0 := cbI_first w fo fn fc to_ tn tc z h
  have c0 := I0.box.c0
  have c1 := I0.box.c1
  have c2 := I0.box.c2
  have c3 := I0.box.c3
  clear h
  go_enter Try.func84, Try.ntmps84
  go_wp2_with fail
  go_at_call 63
  refine (zCheck_no _ fo fn fc to_ tn tc z I0.zn hf hM).mono ?_
  rintro e w1 ⟨rfl, hb⟩
  have I1 := I0.step hb
  have R1 := I1.res
  obtain ⟨⟨x0, d0⟩, ⟨x1, d1⟩, ⟨x2, d2⟩, ⟨x3, d3⟩, z0, z1, z2, z3⟩ := id R1
  have hB := I1.b
  have hs := I1.size
  clear I0 I1 hb hM hf c0 c1 c2 c3
  go_wp2
  obtain ⟨k0, k1, k2, k3⟩ := res4 R1 (.int .i64 0) (.int .i64 0) (.slice none 0 0) (.slice none 0 0)
  have hbt := but4 w1 (w.heap.size + 1) (.int .i64 0) (.int .i64 0) (.slice none 0 0) (.slice none 0 0)
  exact bodyPost_ret (v := .tuple #[.agg #[.int .i64 0, .int .i64 0, .slice none 0 0, .slice none 0 0], .int .i64 8]) (by simp [results, Try.results84, go_sem, k0, k1, k2, k3]) rfl ⟨rfl, hB.trans (hbt.below (by omega) (by omega))⟩

set_option maxHeartbeats 1000000 in
theorem zBack_range (w : World) (fo : Option Addr) (fn fc : Nat) (to_ : Option Addr) (tn tc : Nat) (z : Zn) (a o : Int) (h : ZnAt w fo fn to_ tn z) (_wa : (Lit.int .i64 a).wf = true) (_wo : (Lit.int .i64 o).wf = true) (hM : ZMay z) (hbk : ¬ blkIn z.f z.t a o) :
    Calls Try.prog 84 #[.agg #[.int .i64 z.f, .int .i64 z.t, .slice fo fn fc, .slice to_ tn tc], .int .i64 a, .int .i64 o] w fun e w' => RetNone 1 e ∧ Below w.heap.size w w' := by
  have I0 := cbI_first w fo fn fc to_ tn tc z h
  have c0 := I0.box.c0
  have c1 := I0.box.c1
  have c2 := I0.box.c2
  have c3 := I0.box.c3
  have hB2 : Hid (blkB z.f z.t a o = false) := by
    show _ = _
    cases hb : blkB z.f z.t a o with
    | false => rfl
    | true => exact absurd ((blkB_iff z.f z.t a o).1 hb) hbk
  clear h hbk
  go_enter Try.func84, Try.ntmps84
  go_wp2_with fail
  go_at_call 63
  refine (zCheck_ok _ fo fn fc to_ tn tc z I0.zn hM).mono ?_
  rintro e w1 ⟨rfl, hb⟩
  have I1 := I0.step hb
  clear I0 hb c0 c1 c2 c3
  have c0 := I1.box.c0
  have c1 := I1.box.c1
  have c2 := I1.box.c2
  have c3 := I1.box.c3
  go_wp2_with fail
  go_at_call 97
  refine (blkMay_any _ z.f z.t fo to_ fn fc tn tc a o hM.new).mono ?_
  rintro e w2 ⟨rfl, hb2⟩
  rw [hB2.out]
  have I2 := I1.step hb2
  have R1 := I2.res
  obtain ⟨⟨x0, d0⟩, ⟨x1, d1⟩, ⟨x2, d2⟩, ⟨x3, d3⟩, z0, z1, z2, z3⟩ := id R1
  have hB := I2.b
  have hs := I2.size
  clear I1 I2 hb2 hM c0 c1 c2 c3
  go_wp2
  obtain ⟨k0, k1, k2, k3⟩ := res4 R1 (.int .i64 0) (.int .i64 0) (.slice none 0 0) (.slice none 0 0)
  have hbt := but4 w2 (w.heap.size + 1) (.int .i64 0) (.int .i64 0) (.slice none 0 0) (.slice none 0 0)
  exact bodyPost_ret (v := .tuple #[.agg #[.int .i64 0, .int .i64 0, .slice none 0 0, .slice none 0 0], .int .i64 1]) (by simp [results, Try.results84, go_sem, k0, k1, k2, k3]) rfl ⟨rfl, hB.trans (hbt.below (by omega) (by omega))⟩

set_option maxHeartbeats 2000000 in
theorem zBack_twice (w : World) (fo : Option Addr) (fn fc : Nat) (to_ : Option Addr) (tn tc : Nat) (z : Zn) (a o : Int) (h : ZnAt w fo fn to_ tn z) (hM : ZMay z) (hA : blkIn z.f z.t a o) (hv : ovlP z.free a o) :
    Calls Try.prog 84 #[.agg #[.int .i64 z.f, .int .i64 z.t, .slice fo fn fc, .slice to_ tn tc], .int .i64 a, .int .i64 o] w fun e w' => RetNone 5 e ∧ Below w.heap.size w w' := by
  have I0 := cbI_first w fo fn fc to_ tn tc z h
  have c0 := I0.box.c0
  have c1 := I0.box.c1
  have c2 := I0.box.c2
  have c3 := I0.box.c3
  have hB2 : Hid (blkB z.f z.t a o = true) := (blkB_iff z.f z.t a o).2 hA
  clear h
  go_enter Try.func84, Try.ntmps84
  go_wp2_with fail
  go_at_call 63
  refine (zCheck_ok _ fo fn fc to_ tn tc z I0.zn hM).mono ?_
  rintro e w1 ⟨rfl, hb⟩
  have I1 := I0.step hb
  clear I0 hb c0 c1 c2 c3
  have c0 := I1.box.c0
  have c1 := I1.box.c1
  have c2 := I1.box.c2
  have c3 := I1.box.c3
  go_wp2_with fail
  go_at_call 97
  refine (blkMay_any _ z.f z.t fo to_ fn fc tn tc a o hM.new).mono ?_
  rintro e w2 ⟨rfl, hb2⟩
  rw [hB2.out]
  have I2 := I1.step hb2
  clear I1 hb2 c0 c1 c2 c3
  have c0 := I2.box.c0
  have c1 := I2.box.c1
  have c2 := I2.box.c2
  have c3 := I2.box.c3
  go_wp2_with fail
  go_at_call 41
  refine (zCopy_own _ fo fn fc to_ tn tc z I2.zn).mono ?_
  rintro e w3 ⟨g, k, rfl, o1, o2, hgk, hb3⟩
  have I3 := I2.step hb3
  have Z4 := zo_new o1 o2 hgk
  have hbx := below_box w3 (.cells #[.int .i64 z.f, .int .i64 z.t, .slice (some ⟨g, 0, none⟩) fn fn, .slice (some ⟨k, 0, none⟩) tn tn] 44)
  have I4 := I3.step hbx
  have HP := put_twice _ _ w3.heap.size g fn fn k tn tn z a o Z4 hM hA hv
  clear I2 I3 hb3 c0 c1 c2 c3 o1 o2 hbx
  go_wp2_with fail
  go_at_call 75
  refine HP.mono ?_
  rintro e w5 ⟨rfl, hb5⟩
  have I5 := I4.step hb5
  have R1 := I5.res
  obtain ⟨⟨x0, d0⟩, ⟨x1, d1⟩, ⟨x2, d2⟩, ⟨x3, d3⟩, z0, z1, z2, z3⟩ := id R1
  have hB := I5.b
  have hs := I5.size
  clear I4 I5 hb5 hM HP Z4
  go_wp2
  obtain ⟨k0, k1, k2, k3⟩ := res4 R1 (.int .i64 0) (.int .i64 0) (.slice none 0 0) (.slice none 0 0)
  have hbt := but4 w5 (w.heap.size + 1) (.int .i64 0) (.int .i64 0) (.slice none 0 0) (.slice none 0 0)
  exact bodyPost_ret (v := .tuple #[.agg #[.int .i64 0, .int .i64 0, .slice none 0 0, .slice none 0 0], .int .i64 5]) (by simp [results, Try.results84, go_sem, k0, k1, k2, k3]) rfl ⟨rfl, hB.trans (hbt.below (by omega) (by omega))⟩

theorem backGo_len (n : Nat) (l : List Bk) (a o : Int) : (backGo n l a o).1.length ≤ l.length := by
  induction n generalizing l a o with
  | zero => exact Nat.le_refl _
  | succ n ih =>
    unfold backGo
    split
    · exact Nat.le_trans (ih _ _ _) (dropB_len _ _ _)
    · exact Nat.le_refl _
theorem backZ_len (z : Zn) (a o : Int) : (backZ z a o).free.length ≤ z.free.length + 1 := by
  show (addB _ _).length ≤ _
  rw [addB_len]
  have := backGo_len (4 - o).toNat z.free a o
  omega

set_option maxHeartbeats 2000000 in
theorem zBack_ok (w : World) (fo : Option Addr) (fn fc : Nat) (to_ : Option Addr) (tn tc : Nat) (z : Zn) (a o : Int) (h : ZnAt w fo fn to_ tn z) (hM : ZMay z) (hA : blkIn z.f z.t a o) (hv : ¬ ovlP z.free a o) :
    Calls Try.prog 84 #[.agg #[.int .i64 z.f, .int .i64 z.t, .slice fo fn fc, .slice to_ tn tc], .int .i64 a, .int .i64 o] w fun e w' => RetZone w.heap.size w' (backZ z a o) e ∧ Below w.heap.size w w' := by
  have I0 := cbI_first w fo fn fc to_ tn tc z h
  have c0 := I0.box.c0
  have c1 := I0.box.c1
  have c2 := I0.box.c2
  have c3 := I0.box.c3
  have hB2 : Hid (blkB z.f z.t a o = true) := (blkB_iff z.f z.t a o).2 hA
  have htr := h.types.reach
  have hbl := may_len hM
  obtain ⟨Y, hY⟩ : ∃ Y, backZ z a o = Y := ⟨_, rfl⟩
  have hlenB : Y.free.length ≤ 257 := by rw [← hY]; have := backZ_len z a o; omega
  rw [hY]
  have HY : Hid _ := hY
  clear h hY
  go_enter Try.func84, Try.ntmps84
  go_wp2_with fail
  go_at_call 63
  refine (zCheck_ok _ fo fn fc to_ tn tc z I0.zn hM).mono ?_
  rintro e w1 ⟨rfl, hb⟩
  have I1 := I0.step hb
  clear I0 hb c0 c1 c2 c3
  have c0 := I1.box.c0
  have c1 := I1.box.c1
  have c2 := I1.box.c2
  have c3 := I1.box.c3
  go_wp2_with fail
  go_at_call 97
  refine (blkMay_any _ z.f z.t fo to_ fn fc tn tc a o hM.new).mono ?_
  rintro e w2 ⟨rfl, hb2⟩
  rw [hB2.out]
  have I2 := I1.step hb2
  clear I1 hb2 c0 c1 c2 c3
  have c0 := I2.box.c0
  have c1 := I2.box.c1
  have c2 := I2.box.c2
  have c3 := I2.box.c3
  go_wp2_with fail
  go_at_call 41
  refine (zCopy_own _ fo fn fc to_ tn tc z I2.zn).mono ?_
  rintro e w3 ⟨g, k, rfl, o1, o2, hgk, hb3⟩
  have I3 := I2.step hb3
  have hf1 := owns_fresh o1 _ rfl
  have hf2 := owns_fresh o2 _ rfl
  have Z4 := zo_new o1 o2 hgk
  have hbx := below_box w3 (.cells #[.int .i64 z.f, .int .i64 z.t, .slice (some ⟨g, 0, none⟩) fn fn, .slice (some ⟨k, 0, none⟩) tn tn] 44)
  have I4 := I3.step hbx
  have hs2 := I2.size
  have hs3 := I3.size
  have HP := put_ok _ _ w3.heap.size g fn fn k tn tn z a o Z4 hM hA hv
  have hgl := Z4.glt
  obtain ⟨W4, hW4⟩ : ∃ W4, w3.alloc (.cells #[.int .i64 z.f, .int .i64 z.t, .slice (some ⟨g, 0, none⟩) fn fn, .slice (some ⟨k, 0, none⟩) tn tn] 44) = W4 := ⟨_, rfl⟩
  rw [hW4] at I4 HP hgl
  have HW4 : Hid _ := hW4
  rw [HY.out] at HP
  dsimp only at hf1 hf2
  clear I2 I3 hb3 c0 c1 c2 c3 o1 o2 hbx Z4 hW4
  go_wp2_with (rw [HW4.out])
  go_at_call 75
  refine HP.mono ?_
  rintro e w5 ⟨rfl, g', n', cap', Z5, hg', hU⟩
  have hs4 := I4.size
  have R1 := hU.res I4.res (by omega) (by omega)
  have hB : Below w.heap.size w w5 := I4.b.trans (hU.below (by omega) (by omega) (by omega))
  obtain ⟨⟨x0, d0⟩, ⟨x1, d1⟩, ⟨x2, d2⟩, ⟨x3, d3⟩, z0, z1, z2, z3⟩ := id R1
  have y0 := Z5.box.c0
  have y1 := Z5.box.c1
  have y2 := Z5.box.c2
  have y3 := Z5.box.c3
  have hs5 := hU.size
  have hgB : w.heap.size + 2 ≤ g' := by rcases hg' with e | e <;> omega
  have B7 := blks_own Z5.own (by have := bowns_len Z5.own; omega)
  have N7 := nums_of_owns Z5.typ htr
  clear I4 HP HW4
  go_wp2
  obtain ⟨k0, k1, k2, k3⟩ := res4 R1 (.int .i64 Y.f) (.int .i64 Y.t) (.slice (some ⟨g', 0, none⟩) n' cap') (.slice (some ⟨k, 0, none⟩) tn tn)
  have hbt := but4 w5 (w.heap.size + 1) (.int .i64 Y.f) (.int .i64 Y.t) (.slice (some ⟨g', 0, none⟩) n' cap') (.slice (some ⟨k, 0, none⟩) tn tn)
  exact bodyPost_ret (v := .tuple #[.agg #[.int .i64 Y.f, .int .i64 Y.t, .slice (some ⟨g', 0, none⟩) n' cap', .slice (some ⟨k, 0, none⟩) tn tn], .int .i64 0]) (by simp [results, Try.results84, go_sem, k0, k1, k2, k3]) rfl ⟨⟨_, _, _, _, _, _, rfl, hbt.zn ⟨B7, N7⟩ (fun a ha => by cases ha; dsimp only; omega) (fun a ha => by cases ha; dsimp only; omega), fun a ha => by cases ha; dsimp only; omega, fun a ha => by cases ha; dsimp only; omega⟩, hB.trans (hbt.below (by omega) (by omega))⟩

end Go.Proofs.Ytbjlbmofdnkmiaa

/-
  OWN TEXT. Contracts of the code: buddy.Give.
-/
namespace Go.Proofs.Ytbjlbmofdnkmiaa
open Go Go.RowKit Go.Proofs.Ytbjlbmofdnkmiaa.Kit

set_option maxHeartbeats 1000000 in
theorem zGive_no (w : World) (fo : Option Addr) (fn fc : Nat) (to_ : Option Addr) (tn tc : Nat) (z : Zn) (a s : Int) (h : ZnAt w fo fn to_ tn z) (hf : ZFits z) (hM : ¬ ZMay z) :
    Calls Try.prog 59 #[.agg #[.int .i64 z.f, .int .i64 z.t, .slice fo fn fc, .slice to_ tn tc], .int .i64 a, .int .i64 s] w fun e w' => RetNone 8 e ∧ Below w.heap.size w w' := by
  have I0 := cbI_first w fo fn fc to_ tn tc z h
  have c0 := I0.box.c0
  have c1 := I0.box.c1
  have c2 := I0.box.c2
  have c3 := I0.box.c3
  clear h
  go_enter Try.func59, Try.ntmps59
  go_wp2_with fail
  go_at_call 63
  refine (zCheck_no _ fo fn fc to_ tn tc z I0.zn hf hM).mono ?_
  rintro e w1 ⟨rfl, hb⟩
  have I1 := I0.step hb
  have R1 := I1.res
  obtain ⟨⟨x0, d0⟩, ⟨x1, d1⟩, ⟨x2, d2⟩, ⟨x3, d3⟩, z0, z1, z2, z3⟩ := id R1
  have hB := I1.b
  have hs := I1.size
  clear I0 I1 hb hM hf c0 c1 c2 c3
  go_wp2
  obtain ⟨k0, k1, k2, k3⟩ := res4 R1 (.int .i64 0) (.int .i64 0) (.slice none 0 0) (.slice none 0 0)
  have hbt := but4 w1 (w.heap.size + 1) (.int .i64 0) (.int .i64 0) (.slice none 0 0) (.slice none 0 0)
  exact bodyPost_ret (v := .tuple #[.agg #[.int .i64 0, .int .i64 0, .slice none 0 0, .slice none 0 0], .int .i64 8]) (by simp [results, Try.results59, go_sem, k0, k1, k2, k3]) rfl ⟨rfl, hB.trans (hbt.below (by omega) (by omega))⟩

set_option maxHeartbeats 2000000 in
theorem zGive_range (w : World) (fo : Option Addr) (fn fc : Nat) (to_ : Option Addr) (tn tc : Nat) (z : Zn) (a s : Int) (h : ZnAt w fo fn to_ tn z) (hM : ZMay z) (hr : ¬ giveOk z a s) :
    Calls Try.prog 59 #[.agg #[.int .i64 z.f, .int .i64 z.t, .slice fo fn fc, .slice to_ tn tc], .int .i64 a, .int .i64 s] w fun e w' => RetNone 1 e ∧ Below w.heap.size w w' := by
  have I0 := cbI_first w fo fn fc to_ tn tc z h
  have c0 := I0.box.c0
  have c1 := I0.box.c1
  have c2 := I0.box.c2
  have c3 := I0.box.c3
  obtain ⟨n1, n2, n3, n4, n5⟩ := hM.new
  clear h
  go_enter Try.func59, Try.ntmps59
  go_wp2_with fail
  go_at_call 63
  refine (zCheck_ok _ fo fn fc to_ tn tc z I0.zn hM).mono ?_
  rintro e w1 ⟨rfl, hb⟩
  have I1 := I0.step hb
  have R1 := I1.res
  obtain ⟨⟨x0, d0⟩, ⟨x1, d1⟩, ⟨x2, d2⟩, ⟨x3, d3⟩, z0, z1, z2, z3⟩ := id R1
  have hB := I1.b
  have hs := I1.size
  obtain ⟨k0, k1, k2, k3⟩ := res4 R1 (.int .i64 0) (.int .i64 0) (.slice none 0 0) (.slice none 0 0)
  have hbt := but4 w1 (w.heap.size + 1) (.int .i64 0) (.int .i64 0) (.slice none 0 0) (.slice none 0 0)
  clear I0 hb c0 c1 c2 c3 hM
  have c0 := I1.box.c0
  have c1 := I1.box.c1
  clear I1
  by_cases g1 : s < 0
  · go_wp2
    exact bodyPost_ret (v := .tuple #[.agg #[.int .i64 0, .int .i64 0, .slice none 0 0, .slice none 0 0], .int .i64 1]) (by simp [results, Try.results59, go_sem, k0, k1, k2, k3]) rfl ⟨rfl, hB.trans (hbt.below (by omega) (by omega))⟩
  · by_cases g2 : a < z.f
    · go_wp2
      exact bodyPost_ret (v := .tuple #[.agg #[.int .i64 0, .int .i64 0, .slice none 0 0, .slice none 0 0], .int .i64 1]) (by simp [results, Try.results59, go_sem, k0, k1, k2, k3]) rfl ⟨rfl, hB.trans (hbt.below (by omega) (by omega))⟩
    · by_cases g3 : z.t < a
      · go_wp2
        exact bodyPost_ret (v := .tuple #[.agg #[.int .i64 0, .int .i64 0, .slice none 0 0, .slice none 0 0], .int .i64 1]) (by simp [results, Try.results59, go_sem, k0, k1, k2, k3]) rfl ⟨rfl, hB.trans (hbt.below (by omega) (by omega))⟩
      · have g4 : z.t - a < s := by
          by_cases g : z.t - a < s
          · exact g
          · exact absurd ⟨by omega, by omega, by omega, by omega⟩ hr
        go_wp2
        exact bodyPost_ret (v := .tuple #[.agg #[.int .i64 0, .int .i64 0, .slice none 0 0, .slice none 0 0], .int .i64 1]) (by simp [results, Try.results59, go_sem, k0, k1, k2, k3]) rfl ⟨rfl, hB.trans (hbt.below (by omega) (by omega))⟩

set_option maxHeartbeats 4000000 in
theorem zGive_do (w : World) (fo : Option Addr) (fn fc : Nat) (to_ : Option Addr) (tn tc : Nat) (z : Zn) (a s : Int) (h : ZnAt w fo fn to_ tn z) (hM : ZMay z) (hr : giveOk z a s) (G : Option Zn) (hG : giveK s.toNat z a = G) :
    Calls Try.prog 59 #[.agg #[.int .i64 z.f, .int .i64 z.t, .slice fo fn fc, .slice to_ tn tc], .int .i64 a, .int .i64 s] w fun e w' => ((∃ Z, G = some Z ∧ RetZone w.heap.size w' Z e) ∨ (G = none ∧ RetNone 5 e)) ∧ Below w.heap.size w w' := by
  have I0 := cbI_first w fo fn fc to_ tn tc z h
  have c0 := I0.box.c0
  have c1 := I0.box.c1
  have c2 := I0.box.c2
  have c3 := I0.box.c3
  obtain ⟨n1, n2, n3, n4, n5⟩ := hM.new
  obtain ⟨r1, r2, r3, r4⟩ := hr
  obtain ⟨S, rfl⟩ : ∃ S : Nat, s = S := ⟨s.toNat, by omega⟩
  have htr := h.types.reach
  have HG : Hid (giveK S z a = G) := by show _ = _; rw [← hG]; rfl
  have g1 : ¬ ((S : Int) < 0) := by omega
  have g2 : ¬ a < z.f := by omega
  have g3 : ¬ z.t < a := by omega
  have g4 : ¬ z.t - a < (S : Int) := by omega
  clear h hG
  go_enter Try.func59, Try.ntmps59
  go_wp2_with fail
  go_at_call 63
  refine (zCheck_ok _ fo fn fc to_ tn tc z I0.zn hM).mono ?_
  rintro e w1 ⟨rfl, hb⟩
  have I1 := I0.step hb
  clear I0 hb c0 c1 c2 c3
  have c0 := I1.box.c0
  have c1 := I1.box.c1
  have c2 := I1.box.c2
  have c3 := I1.box.c3
  go_wp2_with fail
  go_at_call 41
  refine (zCopy_own _ fo fn fc to_ tn tc z I1.zn).mono ?_
  rintro e w3 ⟨g, k, rfl, o1, o2, hgk, hb3⟩
  have I3 := I1.step hb3
  have Z4 := zo_new o1 o2 hgk
  have hbx := below_box w3 (.cells #[.int .i64 z.f, .int .i64 z.t, .slice (some ⟨g, 0, none⟩) fn fn, .slice (some ⟨k, 0, none⟩) tn tn] 44)
  have I4 := I3.step hbx
  have hs1 := I1.size
  have hs3 := I3.size
  obtain ⟨W4, hW4⟩ : ∃ W4, w3.alloc (.cells #[.int .i64 z.f, .int .i64 z.t, .slice (some ⟨g, 0, none⟩) fn fn, .slice (some ⟨k, 0, none⟩) tn tn] 44) = W4 := ⟨_, rfl⟩
  rw [hW4] at I4 Z4
  have HW4 : Hid _ := hW4
  clear I1 I3 hb3 c0 c1 c2 c3 o1 o2 hbx hW4 g1 g2 g3 g4
  go_wp2_with (rw [HW4.out])
  clear HW4
  go_loopw [44] (fun iv wr => ∃ (i : Nat) (zi : Zn) (g n cap : Nat), i ≤ S ∧ iv = .int .i64 i ∧ Hid (giveK (S - i) zi (a + i) = G) ∧ ZMay zi ∧ zi.f = z.f ∧ zi.t = z.t ∧ Zo wr w1.heap.size w3.heap.size g n cap k tn tn zi ∧ Res4 wr (w.heap.size + 1) ∧ Below w.heap.size w wr ∧ w.heap.size + 2 ≤ wr.heap.size) (fun iv _ => S - (intOf iv).toNat)
  case atStart => exact ⟨0, z, g, fn, fn, Nat.zero_le _, rfl, by simpa using HG, hM, rfl, rfl, Z4, I4.res, I4.b, I4.size⟩
  case round =>
    obtain ⟨i, zi, g, n, cap, hi, rfl, hGi, hMi, hf, ht, Z, R, hB, hs⟩ := hrel
    clear Z4 I4 HG hM hgk
    have hgb := (Row.of Z.own).1
    by_cases hlt : i < S
    · have hA : blkIn zi.f zi.t (a + i) 0 := page_in (by omega) (by omega)
      obtain ⟨m, hm⟩ : ∃ m, S - i = m + 1 := ⟨S - i - 1, by omega⟩
      by_cases hv : ovlP zi.free (a + i) 0
      · have HP := put_twice wr w1.heap.size w3.heap.size g n cap k tn tn zi (a + i) 0 Z hMi hA hv
        have HN : Hid (G = none) := by show _ = _; rw [← hGi.out, hm]; exact give_none hv
        clear hGi hMi hv hA
        go_wp2_with fail
        go_at_call 75
        refine HP.mono ?_
        rintro e w5 ⟨rfl, hb5⟩
        have R1 := R.below hb5
        have hB5 := hB.trans (hb5.mono hB.size)
        have hs5 := hb5.size
        obtain ⟨⟨x0, d0⟩, ⟨x1, d1⟩, ⟨x2, d2⟩, ⟨x3, d3⟩, z0, z1, z2, z3⟩ := id R1
        clear HP Z R hb5 hB
        go_wp2
        obtain ⟨k0, k1, k2, k3⟩ := res4 R1 (.int .i64 0) (.int .i64 0) (.slice none 0 0) (.slice none 0 0)
        have hbt := but4 w5 (w.heap.size + 1) (.int .i64 0) (.int .i64 0) (.slice none 0 0) (.slice none 0 0)
        exact bodyPost_ret (v := .tuple #[.agg #[.int .i64 0, .int .i64 0, .slice none 0 0, .slice none 0 0], .int .i64 5]) (by simp [results, Try.results59, go_sem, k0, k1, k2, k3]) rfl ⟨.inr ⟨HN.out, rfl⟩, hB5.trans (hbt.below (by omega) (by omega))⟩
      · have HP := put_ok wr w1.heap.size w3.heap.size g n cap k tn tn zi (a + i) 0 Z hMi hA hv
        have HN : Hid (giveK (S - (i + 1)) (backZ zi (a + i) 0) (a + ((i + 1 : Nat) : Int)) = G) := by
          show _ = _
          rw [← hGi.out, hm, give_some hv, show S - (i + 1) = m by omega, show a + ((i + 1 : Nat) : Int) = a + i + 1 by omega]
        have hM2 := backZ_may hMi hA hv
        have hf2 : (backZ zi (a + i) 0).f = z.f := hf
        have ht2 : (backZ zi (a + i) 0).t = z.t := ht
        obtain ⟨Y, hY⟩ : ∃ Y, backZ zi (a + i) 0 = Y := ⟨_, rfl⟩
        rw [hY] at HP HN hM2 hf2 ht2
        have hzl := Z.box.lt
        clear hGi hMi hv hA hY Z
        go_wp2_with fail
        go_at_call 75
        refine HP.mono ?_
        rintro e w5 ⟨rfl, g', n', cap', Z5, hg', hU⟩
        have R5 := hU.res R (by omega) (by omega)
        have hB5 : Below w.heap.size w w5 := hB.trans (hU.below (by omega) (by omega) (by omega))
        have hs5 := Nat.le_trans hs hU.size
        clear HP R hB hU
        go_wp2
        go_roundw
        case rel => exact ⟨i + 1, Y, g', n', cap', by omega, by go_num, HN, hM2, hf2, ht2, Z5, R5, hB5, hs5⟩
        case measure => simp [intOf]; omega
    · have HN : Hid (G = some zi) := by
        show _ = _
        have h0 : S - i = 0 := by omega
        rw [← hGi.out, h0]
        rfl
      have hbl := may_len hMi
      obtain ⟨⟨x0, d0⟩, ⟨x1, d1⟩, ⟨x2, d2⟩, ⟨x3, d3⟩, z0, z1, z2, z3⟩ := id R
      have y0 := Z.box.c0
      have y1 := Z.box.c1
      have y2 := Z.box.c2
      have y3 := Z.box.c3
      have hkb := (Row.of Z.typ).1
      have B7 := blks_own Z.own (by have := bowns_len Z.own; omega)
      have N7 := nums_of_owns Z.typ htr
      clear hGi hMi Z hf ht
      go_wp2
      obtain ⟨k0, k1, k2, k3⟩ := res4 R (.int .i64 zi.f) (.int .i64 zi.t) (.slice (some ⟨g, 0, none⟩) n cap) (.slice (some ⟨k, 0, none⟩) tn tn)
      have hbt := but4 wr (w.heap.size + 1) (.int .i64 zi.f) (.int .i64 zi.t) (.slice (some ⟨g, 0, none⟩) n cap) (.slice (some ⟨k, 0, none⟩) tn tn)
      exact bodyPost_ret (v := .tuple #[.agg #[.int .i64 zi.f, .int .i64 zi.t, .slice (some ⟨g, 0, none⟩) n cap, .slice (some ⟨k, 0, none⟩) tn tn], .int .i64 0]) (by simp [results, Try.results59, go_sem, k0, k1, k2, k3]) rfl ⟨.inl ⟨zi, HN.out, _, _, _, _, _, _, rfl, hbt.zn ⟨B7, N7⟩ (fun a ha => by cases ha; dsimp only; omega) (fun a ha => by cases ha; dsimp only; omega), fun a ha => by cases ha; dsimp only; omega, fun a ha => by cases ha; dsimp only; omega⟩, hB.trans (hbt.below (by omega) (by omega))⟩

end Go.Proofs.Ytbjlbmofdnkmiaa

/-
  OWN TEXT. Contracts of the code: buddy.New.
-/
namespace Go.Proofs.Ytbjlbmofdnkmiaa
open Go Go.RowKit Go.Proofs.Ytbjlbmofdnkmiaa.Kit

theorem rep_set (k N : Nat) (h : k < N) : (List.replicate k (1 : Int) ++ List.replicate (N - k) 0).set k 1 = List.replicate (k + 1) 1 ++ List.replicate (N - (k + 1)) 0 := by
  obtain ⟨m, hm⟩ : ∃ m, N - k = m + 1 := ⟨N - k - 1, by omega⟩
  have e : N - (k + 1) = m := by omega
  rw [hm, e, List.set_append_right _ _ (by simp), List.length_replicate, Nat.sub_self, List.replicate_succ, List.set_cons_zero, List.replicate_succ', List.append_assoc]
  rfl

set_option maxHeartbeats 2000000 in
theorem zNew_nat (w : World) (f t : Nat) (h1 : f ≤ t) (h2 : t ≤ 256) (h3 : f % 16 = 0) (h4 : t % 16 = 0) :
    Calls Try.prog 58 #[.int .i64 f, .int .i64 t] w fun e w' => RetZone w.heap.size w' ⟨f, t, [], List.replicate ((t - f) / 8) 1⟩ e ∧ Below w.heap.size w w' := by
  have HB : Hid (newB f t = true) := newB_t ⟨by omega, by omega, by omega, by omega, by omega⟩
  obtain ⟨i0, hi, hz0, hz1, hz2⟩ := info_parts info_int
  have hb1 := below_box w (.cells #[.int .i64 0, .int .i64 0, .slice none 0 0, .slice none 0 0] 44)
  have R0 : Res4 (w.alloc (.cells #[.int .i64 0, .int .i64 0, .slice none 0 0, .slice none 0 0] 44)) w.heap.size := (zbox_new w _ _ _ _ _).res
  have hs1 : (w.alloc (.cells #[.int .i64 0, .int .i64 0, .slice none 0 0, .slice none 0 0] 44)).heap.size = w.heap.size + 1 := by simp
  obtain ⟨W0, hW0⟩ : ∃ W0, w.alloc (.cells #[.int .i64 0, .int .i64 0, .slice none 0 0, .slice none 0 0] 44) = W0 := ⟨_, rfl⟩
  rw [hW0] at hb1 R0 hs1
  obtain ⟨N, hN⟩ : ∃ N, N = (t - f) / 8 := ⟨_, rfl⟩
  have hN3 : N ≤ 32 := by omega
  obtain ⟨D, hD⟩ : ∃ D : Nat, (t : Int) - f = (D : Int) := ⟨t - f, by omega⟩
  have hq : (D : Int) / 8 = (N : Int) := by omega
  rw [← hN]
  have HW0 : Hid _ := hW0
  clear hW0 hN h3 h4
  go_enter Try.func58, Try.ntmps58
  go_wp2_with fail
  go_at_call 74
  refine (bounds_any _ f t).mono ?_
  rintro e w' ⟨rfl, rfl⟩
  rw [HB.out, HW0.out]
  have hml : N ≤ maxLen := by unfold maxLen; omega
  have hby : i0.bytes * N ≤ 281474976710656 := by rw [hz2]; omega
  go_wp2_with (at_make; refine wpList_make_full _ rfl (.tmp 16) (.tmp 16) 24 rfl W0.heap.size 3 i0 (.int .i64 0) 1 Try.underlying24 hi hz0 hz1 .i64 .i64 _ _ N rfl rfl (by go_num) (by go_num) hby hml (Nat.le_refl _) ?_; rw [made_vals]; intro w1 hown hg1; have hbw : Below W0.heap.size W0 w1 := (Below.refl _ _).grown hg1 (Nat.le_refl _) (by simp); clear hg1)
  have R1 := R0.below hbw
  have hB1 := hb1.trans (hbw.mono hb1.size)
  have hs2 : w.heap.size + 1 ≤ w1.heap.size := by have := hbw.size; omega
  have hown1 : w1.ownsRow (w.heap.size + 1) 3 1 (.slice (some ⟨w.heap.size + 1, 0, none⟩) N N) N (vals (List.replicate N 0)) := by rw [hs1] at hown; exact hown
  clear hown hbw R0 hb1 HW0 HB hD hq
  go_loopw [20] (fun iv wr => ∃ k : Nat, k ≤ N ∧ iv = .int .i64 k ∧ wr.ownsRow (w.heap.size + 1) 3 1 (.slice (some ⟨w.heap.size + 1, 0, none⟩) N N) N (vals (List.replicate k 1 ++ List.replicate (N - k) 0)) ∧ Res4 wr w.heap.size ∧ Below w.heap.size w wr) (fun iv _ => N - (intOf iv).toNat)
  case atStart => exact ⟨0, Nat.zero_le _, rfl, by simpa using hown1, R1, hB1⟩
  case round =>
    obtain ⟨k, hk, rfl, hown, R, hb⟩ := hrel
    clear R1 hB1 hown1
    by_cases hlt : k < N
    · obtain ⟨c1, c2, hown'⟩ := owns_store hown k hlt 1
      have e1 : (List.replicate k (1 : Int) ++ List.replicate (N - k) 0).set k 1 = List.replicate (k + 1) 1 ++ List.replicate (N - (k + 1)) 0 := rep_set k N hlt
      rw [e1] at hown'
      have hbt : But (w.heap.size + 1) wr (wr.setCell ⟨w.heap.size + 1, k, none⟩ (.int .i64 1)) := (But.refl _ _).setCell _
      have R' := R.but hbt (by omega)
      have hs : w.heap.size + 1 < wr.heap.size := (hown.lt _ rfl).2
      have hb' := hb.trans (hbt.below (B := w.heap.size) (by omega) (by omega))
      clear hown R hb hbt e1
      go_wp2
      go_roundw
      case rel => exact ⟨k + 1, by omega, by go_num, hown', R', hb'⟩
      case measure => simp [intOf]; omega
    · obtain rfl : k = N := by omega
      have hown' : wr.ownsRow (w.heap.size + 1) 3 1 (.slice (some ⟨w.heap.size + 1, 0, none⟩) k k) k (vals (List.replicate k 1)) := by simpa using hown
      obtain ⟨⟨x0, d0⟩, ⟨x1, d1⟩, ⟨x2, d2⟩, ⟨x3, d3⟩, z0, z1, z2, z3⟩ := id R
      clear hown
      go_wp2
      obtain ⟨k0, k1, k2, k3⟩ := res4 R (.int .i64 f) (.int .i64 t) (.slice none 0 0) (.slice (some ⟨w.heap.size + 1, 0, none⟩) k k)
      have hbt := but4 wr w.heap.size (.int .i64 f) (.int .i64 t) (.slice none 0 0) (.slice (some ⟨w.heap.size + 1, 0, none⟩) k k)
      refine bodyPost_ret (v := .tuple #[.agg #[.int .i64 f, .int .i64 t, .slice none 0 0, .slice (some ⟨w.heap.size + 1, 0, none⟩) k k], .int .i64 0]) (by simp [results, Try.results58, go_sem, k0, k1, k2, k3]) rfl ⟨⟨none, 0, 0, some ⟨w.heap.size + 1, 0, none⟩, k, k, rfl, ⟨Blks.nil _, hbt.nums (nums_of_owns hown' (by omega)) (fun a ha => by cases ha; simp)⟩, fresh_none _, fun a ha => by cases ha; simp⟩, hb.trans (hbt.below (Nat.le_refl _) hb.size)⟩

theorem zNew_ok (w : World) (f t : Int) (h : newOk f t) :
    Calls Try.prog 58 #[.int .i64 f, .int .i64 t] w fun e w' => RetZone w.heap.size w' (newZ f t) e ∧ Below w.heap.size w w' := by
  obtain ⟨h1, h2, h3, h4, h5⟩ := h
  obtain ⟨F, rfl⟩ : ∃ F : Nat, f = F := ⟨f.toNat, by omega⟩
  obtain ⟨T, rfl⟩ : ∃ T : Nat, t = T := ⟨t.toNat, by omega⟩
  have e : newZ (F : Int) T = ⟨F, T, [], List.replicate ((T - F) / 8) 1⟩ := by
    unfold newZ newTypes
    have : (((T : Int) - F) / 8).toNat = (T - F) / 8 := by omega
    rw [this]
  rw [e]
  exact zNew_nat w F T (by omega) (by omega) (by omega) (by omega)

set_option maxHeartbeats 1000000 in
theorem zNew_no (w : World) (f t : Int) (_wf : (Lit.int .i64 f).wf = true) (_wt : (Lit.int .i64 t).wf = true) (h : ¬ newOk f t) :
    Calls Try.prog 58 #[.int .i64 f, .int .i64 t] w fun e w' => RetNone 1 e ∧ Below w.heap.size w w' := by
  have hb1 := below_box w (.cells #[.int .i64 0, .int .i64 0, .slice none 0 0, .slice none 0 0] 44)
  have HB : Hid (newB f t = false) := newB_f h
  clear h _wf _wt
  go_enter Try.func58, Try.ntmps58
  go_wp2_with fail
  go_at_call 74
  refine (bounds_any _ f t).mono ?_
  rintro e w' ⟨rfl, rfl⟩
  rw [HB.out]
  go_wp2
  exact bodyPost_ret (v := .tuple #[.agg #[.int .i64 0, .int .i64 0, .slice none 0 0, .slice none 0 0], .int .i64 1]) (by simp [results, Try.results58, go_sem]) rfl ⟨rfl, hb1⟩

end Go.Proofs.Ytbjlbmofdnkmiaa

/-
  OWN TEXT. Which pages an allocation finds, as plain mathematics.
-/
namespace Go.Proofs.Ytbjlbmofdnkmiaa.Kit

/-- The first c pages from p on are free. -/
def allF (h : Int → Bool) (p : Int) : Nat → Bool
  | 0 => true
  | c + 1 => allF h p c && h (p + c)

/-- Pages may be given from p on. -/
def okAt (h : Int → Bool) (sz al p : Nat) : Bool := decide (p % al = 0) && allF h p sz

/-- The best place among the first j from lo on. -/
def bestK (h : Int → Bool) (sz al lo : Nat) (down : Bool) : Nat → Int
  | 0 => -1
  | j + 1 => if okAt h sz al (lo + j) = true ∧ (bestK h sz al lo down j < 0 ∨ down = true) then ((lo + j : Nat) : Int) else bestK h sz al lo down j

theorem allF_iff (h : Int → Bool) (p : Int) (c : Nat) : allF h p c = true ↔ ∀ i : Nat, i < c → h (p + i) = true := by
  induction c with
  | zero => simp [allF]
  | succ c ih =>
    simp only [allF, Bool.and_eq_true, ih]
    constructor
    · rintro ⟨h1, h2⟩ i hi
      by_cases e : i = c
      · rw [e]; exact h2
      · exact h1 i (by omega)
    · intro g; exact ⟨fun i hi => g i (by omega), g c (by omega)⟩

theorem allF_false {h : Int → Bool} {p : Int} {c d : Nat} (hc : allF h p c = false) (hd : c ≤ d) : allF h p d = false := by
  rw [Bool.eq_false_iff] at hc ⊢
  intro g
  exact hc ((allF_iff h p c).2 fun i hi => (allF_iff h p d).1 g i (by omega))

/-- What bestK finds. -/
theorem bestK_spec (h : Int → Bool) (sz al lo : Nat) (down : Bool) (j : Nat) :
    (bestK h sz al lo down j = -1 ∧ ∀ i, i < j → okAt h sz al (lo + i) = false) ∨
    ∃ i, i < j ∧ bestK h sz al lo down j = ((lo + i : Nat) : Int) ∧ okAt h sz al (lo + i) = true ∧ (down = true → ∀ k, i < k → k < j → okAt h sz al (lo + k) = false) ∧ (down = false → ∀ k, k < i → okAt h sz al (lo + k) = false) := by
  induction j with
  | zero => left; exact ⟨rfl, fun i hi => by omega⟩
  | succ j ih =>
    by_cases hok : okAt h sz al (lo + j) = true
    · rcases ih with ⟨e, hn⟩ | ⟨i, hi, e, h1, h2, h3⟩
      · right
        refine ⟨j, by omega, ?_, hok, fun _ k h1 h2 => by omega, fun _ k hk => hn k hk⟩
        simp only [bestK]
        rw [if_pos ⟨hok, Or.inl (by rw [e]; omega)⟩]
      · by_cases hd : down = true
        · right
          refine ⟨j, by omega, ?_, hok, fun _ k h1 h2 => by omega, fun g => absurd hd (by simp [g])⟩
          rw [bestK, if_pos ⟨hok, Or.inr hd⟩]
        · right
          refine ⟨i, by omega, ?_, h1, fun g => absurd g hd, h3⟩
          rw [bestK, if_neg ?_, e]
          rintro ⟨_, g⟩
          rcases g with g | g
          · rw [e] at g; omega
          · exact hd g
    · have hof : okAt h sz al (lo + j) = false := by simpa using hok
      have eq : bestK h sz al lo down (j + 1) = bestK h sz al lo down j := by
        simp only [bestK]; rw [if_neg (fun g => hok g.1)]
      rw [eq]
      rcases ih with ⟨e, hn⟩ | ⟨i, hi, e, h1, h2, h3⟩
      · left
        refine ⟨e, fun i hi => ?_⟩
        by_cases e2 : i = j
        · rw [e2]; exact hof
        · exact hn i (by omega)
      · right
        refine ⟨i, by omega, e, h1, fun g k hk1 hk2 => ?_, h3⟩
        by_cases e2 : k = j
        · rw [e2]; exact hof
        · exact h2 g k hk1 (by omega)

end Go.Proofs.Ytbjlbmofdnkmiaa.Kit

/-
  OWN TEXT. What both sides, the code and the document's answer, stand on: no contract of either.
-/
namespace Go.Proofs.Ytbjlbmofdnkmiaa
open Go Go.RowKit Go.Proofs.Ytbjlbmofdnkmiaa.Kit


theorem info_region : (Try.prog.info? 84).map (fun i => (i.zero, i.size, i.bytes)) = some (some (.agg #[.int .i64 0, .int .i64 0]), 2, 16) := by kernel_rfl

theorem drawn_len (h : Int → Bool) (k : Nat) : (drawnK h k).length ≤ k := by
  induction k with
  | zero => simp [drawnK]
  | succ k ih =>
    simp only [drawnK]
    split
    · split
      · simp [bump]; omega
      · simp; omega
    · omega

/-- The first k regions may be. -/
def GoodTo (l : List (Int × Int)) (k : Nat) : Prop :=
  (∀ i, i < k → regOk (l.getD i (0, 0))) ∧ ∀ i, i + 1 < k → (l.getD i (0, 0)).1 + (l.getD i (0, 0)).2 < (l.getD (i + 1) (0, 0)).1

theorem goodTo_zero (l : List (Int × Int)) : GoodTo l 0 := ⟨fun i hi => by omega, fun i hi => by omega⟩
theorem goodTo_one {l : List (Int × Int)} (h : regOk (l.getD 0 (0, 0))) : GoodTo l 1 := by
  refine ⟨fun i hi => ?_, fun i hi => by omega⟩
  obtain rfl : i = 0 := by omega
  exact h
theorem goodTo_succ {l : List (Int × Int)} {k : Nat} (h : GoodTo l (k + 1)) (h1 : regOk (l.getD (k + 1) (0, 0))) (h2 : (l.getD k (0, 0)).1 + (l.getD k (0, 0)).2 < (l.getD (k + 1) (0, 0)).1) : GoodTo l (k + 2) := by
  refine ⟨fun i hi => ?_, fun i hi => ?_⟩
  · by_cases e : i = k + 1
    · rw [e]; exact h1
    · exact h.1 i (by omega)
  · by_cases e : i = k
    · rw [e]; exact h2
    · exact h.2 i (by omega)

/-- Which pages are in the list behind a change. -/
def chH (f s : Int) (wth : Bool) (L : List (Int × Int)) (p : Int) : Bool := if inB p f (f + s - 1) = true then wth else inL L p

/-- A page is free. -/
def freeH (M R : List (Int × Int)) (p : Int) : Bool := inL M p && !inL R p

/-- The world in the midst of BootAlloc: its boxed argument, the result's block, and what can be read. -/
structure AlInv (w : World) (mo : Option Addr) (mn mc : Nat) (M : List (Int × Int)) (ro : Option Addr) (rn rc : Nat) (R : List (Int × Int)) (W : World) : Prop where
  size : w.heap.size + 2 ≤ W.heap.size
  b : Below w.heap.size w W
  c0 : W.cell? ⟨w.heap.size, 0, none⟩ = some (.slice mo mn mc)
  c1 : W.cell? ⟨w.heap.size, 1, none⟩ = some (.slice ro rn rc)
  res : Res2 W (w.heap.size + 1)
  m : Regs W mo mn M
  r : Regs W ro rn R

theorem AlInv.step {w : World} {mo : Option Addr} {mn mc : Nat} {M : List (Int × Int)} {ro : Option Addr} {rn rc : Nat} {R : List (Int × Int)} {W W' : World} (h : AlInv w mo mn mc M ro rn rc R W) (hb : Below W.heap.size W W') : AlInv w mo mn mc M ro rn rc R W' :=
  ⟨Nat.le_trans h.size hb.size, h.b.trans (hb.mono (by have := h.size; omega)), keep h.c0 hb, keep h.c1 hb, h.res.below hb, h.m.below hb, h.r.below hb⟩

theorem alInv_first (w : World) (mo : Option Addr) (mn mc : Nat) (M : List (Int × Int)) (ro : Option Addr) (rn rc : Nat) (R : List (Int × Int)) (hm : Regs w mo mn M) (hr : Regs w ro rn R) :
    AlInv w mo mn mc M ro rn rc R ((w.alloc (.cells #[.slice mo mn mc, .slice ro rn rc] 42)).alloc (.cells #[.slice none 0 0, .slice none 0 0] 42)) := by
  have hbb : Below w.heap.size w ((w.alloc (.cells #[.slice mo mn mc, .slice ro rn rc] 42)).alloc (.cells #[.slice none 0 0, .slice none 0 0] 42)) := ((Below.refl _ _).alloc (Nat.le_refl _) _).alloc (by simp) _
  exact ⟨by simp, hbb, by go_simp, by go_simp, ⟨⟨_, by go_simp; rfl⟩, ⟨_, by go_simp; rfl⟩, by go_simp, by go_simp⟩, hm.below hbb, hr.below hbb⟩

/-- How many places there are to look at. -/
def places (sz lo hi : Nat) : Nat := hi + 1 - (lo + sz)

/-- What BootAlloc answers where its numbers may be. -/
def AllocEnd (w w' : World) (M R : List (Int × Int)) (sz : Nat) (B : Int) (e : Ending) : Prop :=
  (B < 0 ∧ e = .returned (.tuple #[.agg #[.slice none 0 0, .slice none 0 0], .int .i64 0, .int .i64 6])) ∨
  (0 ≤ B ∧ 40 < (drawnAll (chH B sz true R)).length ∧ e = .returned (.tuple #[.agg #[.slice none 0 0, .slice none 0 0], .int .i64 0, .int .i64 9])) ∨
  (0 ≤ B ∧ (drawnAll (chH B sz true R)).length ≤ 40 ∧ ∃ m1 n1 c1 r1 n2 c2, e = .returned (.tuple #[.agg #[.slice m1 n1 c1, .slice r1 n2 c2], .int .i64 B, .int .i64 0]) ∧ Regs w' m1 n1 M ∧ Regs w' r1 n2 (drawnAll (chH B sz true R)) ∧ Fresh w.heap.size m1 ∧ Fresh w.heap.size r1)

end Go.Proofs.Ytbjlbmofdnkmiaa

/-
  OWN TEXT. Contracts of the code: boot.CheckRegion.
-/
namespace Go.Proofs.Ytbjlbmofdnkmiaa
open Go Go.RowKit Go.Proofs.Ytbjlbmofdnkmiaa.Kit

theorem checkRegion_ok (w : World) (f s : Int) (h : regOk (f, s)) :
    Calls Try.prog 73 #[.agg #[.int .i64 f, .int .i64 s]] w fun e w' => e = .returned (.int .i64 0) ∧ Below w.heap.size w w' := by
  obtain ⟨h1, h2, h3, h4, h5⟩ := h
  dsimp only at h1 h2 h3 h4 h5
  have e1 : ¬ s < 1 := by omega
  have e2 : ¬ f < 0 := by omega
  have e3 : ¬ 256 - s < f := by omega
  go_enter Try.func73, Try.ntmps73
  go_wp2
  go_ret
  exact ⟨rfl, below_box _ _⟩

theorem checkRegion_no (w : World) (f s : Int) (hs : s ≤ 9223372036854775807) (h : ¬ regOk (f, s)) :
    Calls Try.prog 73 #[.agg #[.int .i64 f, .int .i64 s]] w fun e w' => e = .returned (.int .i64 1) ∧ Below w.heap.size w w' := by
  unfold regOk at h
  dsimp only at h
  by_cases h1 : s < 1
  · clear h
    go_enter Try.func73, Try.ntmps73
    go_wp2
    go_ret
    exact ⟨rfl, below_box _ _⟩
  · by_cases h2 : f < 0
    · clear h
      go_enter Try.func73, Try.ntmps73
      go_wp2
      go_ret
      exact ⟨rfl, below_box _ _⟩
    · have h3 : 256 - s < f := by omega
      clear h
      go_enter Try.func73, Try.ntmps73
      go_wp2
      go_ret
      exact ⟨rfl, below_box _ _⟩

end Go.Proofs.Ytbjlbmofdnkmiaa

/-
  OWN TEXT. Contracts of the code: boot.mayBe, boot.Check.
-/
namespace Go.Proofs.Ytbjlbmofdnkmiaa
open Go Go.RowKit Go.Proofs.Ytbjlbmofdnkmiaa.Kit

/-- What the loop knows behind k regions: they may be, and the next one may begin at q. -/
structure BeTo (l : List (Int × Int)) (k : Nat) (q : Int) : Prop where
  good : GoodTo l k
  lo : 0 ≤ q
  hi : q ≤ 257
  zero : k = 0 → q = 0
  succ : ∀ j, k = j + 1 → q = (l.getD j (0, 0)).1 + (l.getD j (0, 0)).2 + 1

theorem beTo_zero (l : List (Int × Int)) : BeTo l 0 0 := ⟨goodTo_zero l, by omega, by omega, fun _ => rfl, fun j h => by omega⟩

theorem beTo_succ {l : List (Int × Int)} {k : Nat} {q x y : Int} (h : BeTo l k q) (e : l.getD k (0, 0) = (x, y)) (h1 : regOk (x, y)) (h2 : q ≤ x) : BeTo l (k + 1) (x + y + 1) := by
  have h1' := h1
  obtain ⟨p1, p2, p3, p4, p5⟩ := h1'
  dsimp only at p1 p2 p3 p4 p5
  refine ⟨?_, by omega, by omega, fun g => by omega, fun j hj => ?_⟩
  · cases k with
    | zero => exact goodTo_one (by rw [e]; exact h1)
    | succ j =>
      have hq := h.succ j rfl
      exact goodTo_succ h.good (by rw [e]; exact h1) (by rw [e]; dsimp only; omega)
  · obtain rfl : j = k := by omega
    rw [e]

theorem beTo_gap {l : List (Int × Int)} {k : Nat} {q x y : Int} (h : BeTo l k q) (hk : k < l.length) (e : l.getD k (0, 0) = (x, y)) (h1 : 0 ≤ x) (h2 : x < q) : ¬ MayP l := by
  intro g
  cases k with
  | zero => have := h.zero rfl; omega
  | succ j =>
    have hq := h.succ j rfl
    have := g.gap j (by omega)
    rw [e] at this
    dsimp only at this
    omega

theorem top_of_may {l : List (Int × Int)} (h : MayP l) : TopL l := by
  intro r hr
  obtain ⟨i, hi, rfl⟩ := List.getElem_of_mem hr
  have := h.ok i hi
  rw [List.getD_eq_getElem?_getD, List.getElem?_eq_getElem hi] at this
  have := this.2.2.2.1
  simp only [Option.getD_some] at this
  omega

set_option maxHeartbeats 2000000 in
theorem mayBe_any (w : World) (ao : Option Addr) (n cap : Nat) (l : List (Int × Int)) (h : Regs w ao n l) (ht : TopL l) :
    Calls Try.prog 57 #[.slice ao n cap] w fun e w' => RetIff e (MayP l) ∧ Below w.heap.size w w' := by
  obtain ⟨hn, hr, hx⟩ := h
  by_cases h40 : (40 : Int) < n
  · have HF : Hid (¬ MayP l) := fun h => by have := h.len; omega
    clear hx ht
    go_enter Try.func57, Try.ntmps57
    go_wp2
    go_ret
    exact ⟨⟨false, rfl, fun h => (by cases h), fun h => absurd h HF.out⟩, Below.refl _ _⟩
  · go_enter Try.func57, Try.ntmps57
    go_wp2
    go_loopw [3, 11] (fun q i wr => ∃ (k : Nat) (z : Int), k ≤ n ∧ i = .int .i64 k ∧ q = .int .i64 z ∧ BeTo l k z ∧ Below w.heap.size w wr) (fun _ i _ => n - (intOf i).toNat)
    case atStart => exact ⟨0, 0, Nat.zero_le _, rfl, rfl, beTo_zero l, Below.refl _ _⟩
    case round =>
      obtain ⟨k, z, hk, rfl, rfl, hG, hb⟩ := hrel
      by_cases hlt : k < n
      · have hxr := hx.below hb
        obtain ⟨b, o, x, y, rfl, c1, c2, hX⟩ := hxr.at k (by omega)
        have hty := ht.at k (by omega) hX.out
        have hz1 := hG.lo
        have hz2 := hG.hi
        clear hxr
        go_wp2_with fail
        go_at_call 73
        have hbx := below_box wr (.cells #[.int .i64 x, .int .i64 y] 84)
        have x0 : (wr.alloc (.cells #[.int .i64 x, .int .i64 y] 84)).cell? ⟨wr.heap.size, 0, none⟩ = some (.int .i64 x) := by go_simp
        have x1 : (wr.alloc (.cells #[.int .i64 x, .int .i64 y] 84)).cell? ⟨wr.heap.size, 1, none⟩ = some (.int .i64 y) := by go_simp
        by_cases hok : regOk (x, y)
        · refine (checkRegion_ok _ x y hok).mono ?_
          rintro e w1 ⟨rfl, hb1⟩
          have hB1 := hb.trans ((hbx.mono hb.size).trans (hb1.mono (Nat.le_trans hb.size hbx.size)))
          replace x0 := keep x0 hb1
          replace x1 := keep x1 hb1
          by_cases hg : x < z
          · have HF : Hid (¬ MayP l) := beTo_gap hG (by omega) hX.out hok.1 hg
            clear hx ht hG hok c1 c2 hb hbx hb1
            go_wp2
            go_ret
            exact ⟨⟨false, rfl, fun h => (by cases h), fun h => absurd h HF.out⟩, hB1⟩
          · have HG' : BeTo l (k + 1) (x + y + 1) := beTo_succ hG hX.out hok (by omega)
            obtain ⟨p1, p2, p3, p4, p5⟩ := hok
            dsimp only at p1 p2 p3 p4 p5
            clear hx ht hG c1 c2 hb hbx hb1
            go_wp2
            go_roundw
            case rel => exact ⟨k + 1, x + y + 1, by omega, by go_num, by go_num, HG', hB1⟩
            case measure => simp [intOf]; omega
        · refine (checkRegion_no _ x y hty hok).mono ?_
          rintro e w1 ⟨rfl, hb1⟩
          have hB1 := hb.trans ((hbx.mono hb.size).trans (hb1.mono (Nat.le_trans hb.size hbx.size)))
          have HF : Hid (¬ MayP l) := fun h => absurd (by have := h.ok k (by omega); rw [hX.out] at this; exact this) hok
          clear hx ht hG hok c1 c2 hb hbx hb1 x0 x1
          go_wp2
          go_ret
          exact ⟨⟨false, rfl, fun h => (by cases h), fun h => absurd h HF.out⟩, hB1⟩
      · have HM : Hid (MayP l) := ⟨by omega, fun i hi => hG.good.1 i (by omega), fun i hi => hG.good.2 i (by omega)⟩
        clear hx ht
        go_wp2
        go_ret
        exact ⟨⟨true, rfl, fun _ => HM.out, fun _ => rfl⟩, hb⟩

set_option maxHeartbeats 1000000 in
theorem cCheck_ok (w : World) (mo : Option Addr) (mn mc : Nat) (M : List (Int × Int)) (ro : Option Addr) (rn rc : Nat) (R : List (Int × Int)) (hm : Regs w mo mn M) (hr : Regs w ro rn R) (h : MayP M ∧ MayP R) :
    Calls Try.prog 19 #[.agg #[.slice mo mn mc, .slice ro rn rc]] w fun e w' => e = .returned (.int .i64 0) ∧ Below w.heap.size w w' := by
  have hb0 := below_box w (.cells #[.slice mo mn mc, .slice ro rn rc] 42)
  have p1 : (w.alloc (.cells #[.slice mo mn mc, .slice ro rn rc] 42)).cell? ⟨w.heap.size, 1, none⟩ = some (.slice ro rn rc) := by go_simp
  obtain ⟨hM, hR⟩ := h
  have HM : Hid _ := hM
  have HR : Hid _ := hR
  clear hM hR
  go_enter Try.func19, Try.ntmps19
  go_wp2_with fail
  go_at_call 57
  refine (mayBe_any _ mo mn mc M (hm.below hb0) (top_of_may HM.out)).mono ?_
  rintro e w1 ⟨⟨r, rfl, h1⟩, hb1⟩
  obtain rfl : r = true := h1.2 HM.out
  clear h1
  have hB1 := hb0.trans (hb1.mono hb0.size)
  replace p1 := keep p1 hb1
  have r1 := hr.below hB1
  clear hm hr hb0 hb1
  go_wp2_with fail
  go_at_call 57
  refine (mayBe_any _ ro rn rc R r1 (top_of_may HR.out)).mono ?_
  rintro e w2 ⟨⟨r, rfl, h2⟩, hb2⟩
  obtain rfl : r = true := h2.2 HR.out
  clear h2
  go_wp2
  go_ret
  exact ⟨rfl, hB1.trans (hb2.mono hB1.size)⟩

set_option maxHeartbeats 1000000 in
theorem cCheck_no (w : World) (mo : Option Addr) (mn mc : Nat) (M : List (Int × Int)) (ro : Option Addr) (rn rc : Nat) (R : List (Int × Int)) (hm : Regs w mo mn M) (hr : Regs w ro rn R) (tm : TopL M) (tr : TopL R) (h : ¬ (MayP M ∧ MayP R)) :
    Calls Try.prog 19 #[.agg #[.slice mo mn mc, .slice ro rn rc]] w fun e w' => e = .returned (.int .i64 8) ∧ Below w.heap.size w w' := by
  have hb0 := below_box w (.cells #[.slice mo mn mc, .slice ro rn rc] 42)
  have p1 : (w.alloc (.cells #[.slice mo mn mc, .slice ro rn rc] 42)).cell? ⟨w.heap.size, 1, none⟩ = some (.slice ro rn rc) := by go_simp
  by_cases hM : MayP M
  · have HM : Hid _ := hM
    have HR : Hid (¬ MayP R) := fun g => h ⟨hM, g⟩
    clear hM h
    go_enter Try.func19, Try.ntmps19
    go_wp2_with fail
    go_at_call 57
    refine (mayBe_any _ mo mn mc M (hm.below hb0) tm).mono ?_
    rintro e w1 ⟨⟨r, rfl, h1⟩, hb1⟩
    obtain rfl : r = true := h1.2 HM.out
    clear h1
    have hB1 := hb0.trans (hb1.mono hb0.size)
    replace p1 := keep p1 hb1
    have r1 := hr.below hB1
    clear hm hr hb0 hb1 tm
    go_wp2_with fail
    go_at_call 57
    refine (mayBe_any _ ro rn rc R r1 tr).mono ?_
    rintro e w2 ⟨⟨r, rfl, h2⟩, hb2⟩
    obtain rfl : r = false := by
      cases r with
      | false => rfl
      | true => exact absurd (h2.1 rfl) HR.out
    clear h2 tr
    go_wp2
    go_ret
    exact ⟨rfl, hB1.trans (hb2.mono hB1.size)⟩
  · have HM : Hid _ := hM
    clear hM h
    go_enter Try.func19, Try.ntmps19
    go_wp2_with fail
    go_at_call 57
    refine (mayBe_any _ mo mn mc M (hm.below hb0) tm).mono ?_
    rintro e w1 ⟨⟨r, rfl, h1⟩, hb1⟩
    obtain rfl : r = false := by
      cases r with
      | false => rfl
      | true => exact absurd (h1.1 rfl) HM.out
    clear h1 tm tr hm hr
    go_wp2
    go_ret
    exact ⟨rfl, hb0.trans (hb1.mono hb0.size)⟩

end Go.Proofs.Ytbjlbmofdnkmiaa
