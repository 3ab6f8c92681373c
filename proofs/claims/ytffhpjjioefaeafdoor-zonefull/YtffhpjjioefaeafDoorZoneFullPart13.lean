/-
  OWN TEXTS, bundled: WZoneFull.
-/
import Derived.Test.YtffhpjjioefaeafDoorPart11
import Derived.Test.YtffhpjjioefaeafDoorZoneFullPart12
import Derived.Test.YtffhpjjioefaeafDoorPart7

/-
  OWN TEXT. The walk of the law ZoneFull: it returns true and writes nothing that was there.
-/
namespace Go.Proofs.YtffhpjjioefaeafDoor
open Go Go.RowKit Go.Proofs.YtffhpjjioefaeafDoor.Kit

theorem _root_.Go.Proofs.YtffhpjjioefaeafDoor.Kit.Res1.but {W W' : World} {b c : Nat} (h : Res1 W b) (hb : But c W W') (hne : b ≠ c) : Res1 W' b := by
  obtain ⟨v, hv⟩ := h.d
  have hk := hb.block b h.lt hne
  exact ⟨⟨v, hb.cell hv hne⟩, (World.frozen?_of_block (a := ⟨b, 0, none⟩) hk).trans h.z⟩

/-- Is the block great enough? -/
def ordGe (o : Int) (b : Bk) : Bool := decide (o ≤ b.o)
/-- Does a block of the order at the place lie in it? -/
def inAt (a o : Int) (b : Bk) : Bool := decide (b.a ≤ a ∧ a + pw o ≤ b.a + pw b.o)

set_option maxHeartbeats 1000000 in
theorem fullF1_any (W : World) (b1 : Nat) (o : Int) (ba bo bt : Int) (c1 : W.cell? ⟨b1, 0, none⟩ = some (.int .i64 o)) :
    Calls Tryd.prog 17 (#[.agg #[.int .i64 ba, .int .i64 bo, .int .i64 bt]] ++ #[.pointer (some ⟨b1, 0, none⟩)]) W fun e W' => e = .returned (.bool (ordGe o ⟨ba, bo, bt⟩)) ∧ Below W.heap.size W W' := by
  have hb0 := below_box W (.cells #[.int .i64 ba, .int .i64 bo, .int .i64 bt] 32)
  have d1 := keep c1 hb0
  have l1 : (W.alloc (.cells #[.int .i64 ba, .int .i64 bo, .int .i64 bt] 32)).cell? ⟨W.heap.size, 1, none⟩ = some (.int .i64 bo) := by go_simp
  obtain ⟨W0, hW0⟩ : ∃ W0, W.alloc (.cells #[.int .i64 ba, .int .i64 bo, .int .i64 bt] 32) = W0 := ⟨_, rfl⟩
  rw [hW0] at hb0 d1 l1
  have HW0 : Hid _ := hW0
  have HF : Hid (decide (o ≤ bo) = ordGe o ⟨ba, bo, bt⟩) := rfl
  clear hW0 c1
  go_enter Tryd.func17, Tryd.ntmps17
  go_wp2_with (rw [HW0.out])
  go_ret
  exact ⟨ret_bool HF.out, hb0⟩
theorem fullF1_call (args : Array Value) (W : World) : (callFunc 17 args).run Tryd.prog W = .ok (.enter 17 args) W := by kernel_rfl

set_option maxHeartbeats 2000000 in
theorem fullF2_any (W : World) (b1 b2 : Nat) (a o : Int) (ba bo bt : Int) (c1 : W.cell? ⟨b1, 0, none⟩ = some (.int .i64 a)) (c2 : W.cell? ⟨b2, 0, none⟩ = some (.int .i64 o)) (hO : ordOk o) (ho : ordOk bo) (h0 : 0 ≤ ba) (h1 : ba ≤ 256) (a0 : 0 ≤ a) (a1 : a ≤ 256) :
    Calls Tryd.prog 18 (#[.agg #[.int .i64 ba, .int .i64 bo, .int .i64 bt]] ++ #[.pointer (some ⟨b1, 0, none⟩), .pointer (some ⟨b2, 0, none⟩)]) W fun e W' => e = .returned (.bool (inAt a o ⟨ba, bo, bt⟩)) ∧ Below W.heap.size W W' := by
  have hb0 := below_box W (.cells #[.int .i64 ba, .int .i64 bo, .int .i64 bt] 32)
  have d1 := keep c1 hb0
  have d2 := keep c2 hb0
  have l0 : (W.alloc (.cells #[.int .i64 ba, .int .i64 bo, .int .i64 bt] 32)).cell? ⟨W.heap.size, 0, none⟩ = some (.int .i64 ba) := by go_simp
  have l1 : (W.alloc (.cells #[.int .i64 ba, .int .i64 bo, .int .i64 bt] 32)).cell? ⟨W.heap.size, 1, none⟩ = some (.int .i64 bo) := by go_simp
  obtain ⟨W0, hW0⟩ : ∃ W0, W.alloc (.cells #[.int .i64 ba, .int .i64 bo, .int .i64 bt] 32) = W0 := ⟨_, rfl⟩
  rw [hW0] at hb0 d1 d2 l0 l1
  have HW0 : Hid _ := hW0
  have hw1 := wrap_pw bo ho
  have hp1 := pw_pos bo
  have hp2 := pw_le (o := bo) ho
  have hw3 := wrap_pw o hO
  have hp3 := pw_pos o
  have hp4 := pw_le (o := o) hO
  obtain ⟨o0, o4⟩ := ho
  obtain ⟨u0, u4⟩ := hO
  have HP : Hid (inAt a o ⟨ba, bo, bt⟩ = decide (ba ≤ a ∧ a + pw o ≤ ba + pw bo)) := rfl
  obtain ⟨P, hP⟩ : ∃ P, pw bo = P := ⟨_, rfl⟩
  obtain ⟨Q, hQ⟩ : ∃ Q, pw o = Q := ⟨_, rfl⟩
  rw [hP] at hw1 hp1 hp2 HP
  rw [hQ] at hw3 hp3 hp4 HP
  have hw2 : IntKind.i64.wrap (ba + P) = ba + P := IntWalk.i64_in _ (by omega)
  have hw4 : IntKind.i64.wrap (a + Q) = a + Q := IntWalk.i64_in _ (by omega)
  clear c1 c2 hW0 hP hQ
  by_cases g1 : ba ≤ a
  · have g1' : decide (ba ≤ a) = true := decide_eq_true g1
    have HF : Hid (decide (a + Q ≤ ba + P) = inAt a o ⟨ba, bo, bt⟩) := by show _ = _; rw [HP.out]; simp [g1]
    clear HP
    go_enter Tryd.func18, Tryd.ntmps18
    go_wp2_with (rw [HW0.out])
    go_quiet (fail)
    go_wp2
    go_ret
    exact ⟨ret_bool HF.out, hb0.trans ((below_drawn (w := W0) nq).mono hb0.size)⟩
  · have g1' : decide (ba ≤ a) = false := decide_eq_false g1
    have HF : Hid (false = inAt a o ⟨ba, bo, bt⟩) := by show _ = _; rw [HP.out]; simp [g1]
    clear HP
    go_enter Tryd.func18, Tryd.ntmps18
    go_wp2_with (rw [HW0.out])
    go_quiet (fail)
    go_wp2
    go_ret
    exact ⟨ret_bool HF.out, hb0.trans ((below_drawn (w := W0) nq).mono hb0.size)⟩
theorem fullF2_call (args : Array Value) (W : World) : (callFunc 18 args).run Tryd.prog W = .ok (.enter 18 args) W := by kernel_rfl

set_option maxRecDepth 4000 in
set_option maxHeartbeats 16000000 in
theorem zoneFull_walk (ao : Option Addr) (n cap : Nat) (l : List Raw4) (order t : Int) (w : World) (h : IsRaws w ao n cap l) (wo : (Lit.int .i64 order).wf = true) (wt : (Lit.int .i64 t).wf = true) (hT : TabAt w) :
    Calls Tryd.prog 5 #[.slice ao n cap, .int .i64 order, .int .i64 t] w fun e w' => e = .returned (.bool true) ∧ Below w.heap.size w w' := by
  go_enter Tryd.func5, Tryd.ntmps5
  go_wp2_with fail
  go_at_call 8
  refine (zoned_any w ao n cap l h 60 (by omega) hT).mono ?_
  rintro e w1 ⟨z, aw, fo, fn, fc, to_, tn, tc, ro, m, rcap, rfl, hz, _, hZ, _, _, hb1⟩
  have hbx := below_box w1 (.cells #[.int .i64 z.f, .int .i64 z.t, .slice fo fn fc, .slice to_ tn tc] 26)
  have B1 := zbox_new w1 (.int .i64 z.f) (.int .i64 z.t) (.slice fo fn fc) (.slice to_ tn tc) 26
  have z1 := hz.below hbx
  have hB1 := hb1.trans (hbx.mono hb1.size)
  obtain ⟨W1, hW1⟩ : ∃ W1, w1.alloc (.cells #[.int .i64 z.f, .int .i64 z.t, .slice fo fn fc, .slice to_ tn tc] 26) = W1 := ⟨_, rfl⟩
  rw [hW1] at B1 z1 hB1
  have HW1 : Hid _ := hW1
  clear hW1 hbx hz hb1 h
  go_wp2_with (rw [HW1.out])
  go_at_call 14
  refine (picked_fn order 5 5 rfl wo (by omega) (by omega) _).mono ?_
  rintro e wq ⟨rfl, rfl⟩
  have hO5 := pickN_lt order 5 (by omega)
  have hT3 := pickN_lt t 3 (by omega)
  generalize pickN order 5 = O at hO5
  obtain ⟨T, hTt⟩ : ∃ T, pickN t 3 = T := ⟨_, rfl⟩
  rw [hTt] at hT3
  have HT2 : Hid _ := hTt
  have oO : ordOk (O : Int) := ⟨by omega, by omega⟩
  have oT : typeOk (T : Int) := ⟨by omega, by omega⟩
  have hbp := below_box W1 (.cells #[.int .i64 (O : Int)] 3)
  have B2 := B1.below hbp
  have z2 := z1.below hbp
  have hB2 := hB1.trans (hbp.mono hB1.size)
  have c10 : (W1.alloc (.cells #[.int .i64 (O : Int)] 3)).cell? ⟨W1.heap.size, 0, none⟩ = some (.int .i64 (O : Int)) := by go_simp
  obtain ⟨W2, hW2⟩ : ∃ W2, W1.alloc (.cells #[.int .i64 (O : Int)] 3) = W2 := ⟨_, rfl⟩
  rw [hW2] at B2 z2 hB2 c10
  have HW2 : Hid _ := hW2
  have hT2 := hT.below hB2
  have c0 := B2.c0
  have c1 := B2.c1
  have c2 := B2.c2
  have c3 := B2.c3
  have m0 : ∀ wx, Below W2.heap.size W2 wx → wx.cell? ⟨w1.heap.size, 0, none⟩ = some (.int .i64 z.f) := fun wx h => keep c0 h
  have m1 : ∀ wx, Below W2.heap.size W2 wx → wx.cell? ⟨w1.heap.size, 1, none⟩ = some (.int .i64 z.t) := fun wx h => keep c1 h
  have m2 : ∀ wx, Below W2.heap.size W2 wx → wx.cell? ⟨w1.heap.size, 2, none⟩ = some (.slice fo fn fc) := fun wx h => keep c2 h
  have m3 : ∀ wx, Below W2.heap.size W2 wx → wx.cell? ⟨w1.heap.size, 3, none⟩ = some (.slice to_ tn tc) := fun wx h => keep c3 h
  have m4 : ∀ wx, Below W2.heap.size W2 wx → wx.cell? ⟨W1.heap.size, 0, none⟩ = some (.int .i64 (O : Int)) := fun wx h => keep c10 h
  have S1 : Below W2.heap.size W2 { W2 with drawn := W2.drawn + 1 } := (Below.refl W2.heap.size W2).drew
  have hiff := choose_iff (may_ok hZ.may) oO oT
  clear hW2 hbp HW1 B1 z1 hTt
  by_cases hC : 0 ≤ chooseI z.free (O : Int) (T : Int)
  · obtain ⟨i, hi, hil, hob⟩ := choose_in hC
    have HF1 : Hid (z.free.any (ordGe (O : Int)) = true) := by
      show _ = _
      obtain ⟨b, hb, hbo⟩ := hiff.1 hC
      exact List.any_eq_true.2 ⟨b, hb, decide_eq_true hbo⟩
    have hbk := (freeOk_at hZ.may.free hil rfl).1
    obtain ⟨Y, hY⟩ : ∃ Y, takeZ z (O : Int) (T : Int) i = Y := ⟨_, rfl⟩
    obtain ⟨a, ha⟩ : ∃ a, (z.free.getD i .zero).a = a := ⟨_, rfl⟩
    have HF2 : Hid (z.free.any (inAt a (O : Int)) = true) := by
      show _ = _
      have := pw_mono hob
      exact List.any_eq_true.2 ⟨_, getD_mem hil, decide_eq_true ⟨by omega, by omega⟩⟩
    have ha0 : 0 ≤ a ∧ a ≤ 256 := by
      obtain ⟨_, r2, r3, _⟩ := hbk
      have := hZ.f
      have := hZ.t
      omega
    obtain ⟨ha1, ha2⟩ := ha0
    have HTk : Hid (∀ V, Below W2.heap.size W2 V → Calls Tryd.prog 15 #[.agg #[.int .i64 z.f, .int .i64 z.t, .slice fo fn fc, .slice to_ tn tc], .int .i64 (O : Int), .int .i64 (T : Int)] V fun e w' => RetZone3 V.heap.size w' Y a e ∧ Below V.heap.size V w') := fun V hV => by
      have := zTake_ok V fo fn fc to_ tn tc z (O : Int) (T : Int) i (z2.below hV) hZ.may (hT2.below hV) oO oT hi
      rw [hY, ha] at this
      exact this
    clear hY ha hi hC hob hiff hbk hil
    go_wp2_with (rw [HW2.out])
    refine wp_region_peel (S := fun wx => Below W2.heap.size W2 wx) 13 _ (by kernel_rfl) (by kernel_rfl) rfl ?_
    simp only [List.take_succ_cons, List.take_zero]
    generalize ({ W2 with drawn := W2.drawn + 1 } : World) = Wd at S1 ⊢
    refine takeH 0 (v := .agg #[.int .i64 z.f, .int .i64 z.t, .slice fo fn fc, .slice to_ tn tc]) rfl (by kernel_rfl) (by kernel_rfl) (by kernel_rfl) (fun _ _ _ h => h) rfl (fun wx hSx => ?_) S1 ?_
    · go_simp
    try simp only [Act.put, List.setIfInBounds_toArray, List.set_cons_zero, List.set_cons_succ]
    refine takeH 1 (v := .int .i64 (O : Int)) rfl (by kernel_rfl) (by kernel_rfl) (by kernel_rfl) (fun _ _ _ h => h) rfl (fun wx hSx => ?_) S1 ?_
    · go_simp
    try simp only [Act.put, List.setIfInBounds_toArray, List.set_cons_zero, List.set_cons_succ]
    refine takeH 2 (v := .int .i64 t) rfl (by kernel_rfl) (by kernel_rfl) (by kernel_rfl) (fun _ _ _ h => h) rfl (fun wx hSx => ?_) S1 ?_
    · go_simp
    try simp only [Act.put, List.setIfInBounds_toArray, List.set_cons_zero, List.set_cons_succ]
    refine threeH 3 9 10 (by kernel_rfl) rfl rfl rfl rfl rfl rfl (fun K1 hK1 => ?_) (fun K1 hK1 => ?_) (fun K1 hK1 => ?_)
    · go_simp
      refine (picked_fn t 3 3 rfl wt (by omega) (by omega) _).mono ?_
      rintro e wq ⟨rfl, rfl⟩
      rw [HT2.out]
      refine hK1 _ _ S1 ?_
      try simp only [Act.put, List.setIfInBounds_toArray, List.set_cons_zero, List.set_cons_succ]
      refine threeH 4 9 10 (by kernel_rfl) rfl rfl rfl rfl rfl rfl (fun K2 hK2 => ?_) (fun K2 hK2 => ?_) (fun K2 hK2 => ?_)
      · go_simp
        refine (HTk.out _ S1).mono ?_
        rintro e wA ⟨⟨fo', fn', fc', to', tn', tc', rfl, _, _, _⟩, hbA⟩
        have SA := S1.trans (hbA.mono S1.size)
        refine hK2 _ _ SA ?_
        try simp only [Act.put, List.setIfInBounds_toArray, List.set_cons_zero, List.set_cons_succ]
        refine takeH 5 (v := .tuple #[.agg #[.int .i64 Y.f, .int .i64 Y.t, .slice fo' fn' fc', .slice to' tn' tc'], .int .i64 a, .int .i64 0]) rfl (by kernel_rfl) (by kernel_rfl) (by kernel_rfl) (fun _ _ _ h => h) rfl (fun wx hSx => ?_) SA ?_
        · go_simp
        try simp only [Act.put, List.setIfInBounds_toArray, List.set_cons_zero, List.set_cons_succ]
        refine takeH 6 (v := .agg #[.int .i64 Y.f, .int .i64 Y.t, .slice fo' fn' fc', .slice to' tn' tc']) rfl (by kernel_rfl) (by kernel_rfl) (by kernel_rfl) (fun _ _ _ h => h) rfl (fun wx hSx => ?_) SA ?_
        · go_simp
        try simp only [Act.put, List.setIfInBounds_toArray, List.set_cons_zero, List.set_cons_succ]
        refine takeH 7 (v := .int .i64 a) rfl (by kernel_rfl) (by kernel_rfl) (by kernel_rfl) (fun _ _ _ h => h) rfl (fun wx hSx => ?_) SA ?_
        · go_simp
        try simp only [Act.put, List.setIfInBounds_toArray, List.set_cons_zero, List.set_cons_succ]
        refine takeH 8 (v := .int .i64 0) rfl (by kernel_rfl) (by kernel_rfl) (by kernel_rfl) (fun _ _ _ h => h) rfl (fun wx hSx => ?_) SA ?_
        · go_simp
        try simp only [Act.put, List.setIfInBounds_toArray, List.set_cons_zero, List.set_cons_succ]
        refine twoH 9 10 (by kernel_rfl) rfl rfl rfl rfl (fun K3 hK3 => ?_) (fun K3 hK3 => ?_)
        · go_simp
          have hb3 := below_box wA (.cells #[.int .i64 0, .int .i64 0, .slice none 0 0, .slice none 0 0] 26)
          have S13 := SA.trans (hb3.mono SA.size)
          have rA := (zbox_new wA (.int .i64 0) (.int .i64 0) (.slice none 0 0) (.slice none 0 0) 26).res
          have lA := SA.size
          have lA2 : wA.heap.size < (wA.alloc (.cells #[.int .i64 0, .int .i64 0, .slice none 0 0, .slice none 0 0] 26)).heap.size := by simp
          obtain ⟨X3, hX3⟩ : ∃ X, wA.alloc (.cells #[.int .i64 0, .int .i64 0, .slice none 0 0, .slice none 0 0] 26) = X := ⟨_, rfl⟩
          rw [hX3] at S13 rA hb3 lA2 ⊢
          clear hX3 hb3
          generalize wA.heap.size = bA at rA lA lA2 ⊢
          refine hK3 _ _ S13 ?_
          try simp only [Act.put, List.setIfInBounds_toArray, List.set_cons_zero, List.set_cons_succ]
          refine oneH 10 (by kernel_rfl) rfl rfl (fun K4 hK4 => ?_)
          go_simp
          have hb4 := below_box X3 (.cells #[.int .i64 0] 3)
          have S14 := S13.trans (hb4.mono S13.size)
          have rB : Res1 (X3.alloc (.cells #[.int .i64 0] 3)) X3.heap.size := ⟨⟨.int .i64 0, by simp⟩, by simp⟩
          have lB := S13.size
          replace rA := rA.below hb4
          have hAB : X3.heap.size ≠ bA := by have := lA2; omega
          obtain ⟨X4, hX4⟩ : ∃ X, X3.alloc (.cells #[.int .i64 0] 3) = X := ⟨_, rfl⟩
          rw [hX4] at S14 rB hb4 rA ⊢
          clear hX4 hb4
          generalize X3.heap.size = bB at rB lB hAB ⊢
          refine hK4 _ _ S14 ?_
          try simp only [Act.put, List.setIfInBounds_toArray, List.set_cons_zero, List.set_cons_succ]
          refine oneH 11 (by kernel_rfl) rfl rfl (fun L1 hL1 => ?_)
          obtain ⟨⟨_, d0⟩, ⟨_, d1⟩, ⟨_, d2⟩, ⟨_, d3⟩, g0, g1, g2, g3⟩ := id rA
          go_simp
          have bt1 := but4 X4 bA (.int .i64 Y.f) (.int .i64 Y.t) (.slice fo' fn' fc') (.slice to' tn' tc')
          have SV1 := S14.trans (bt1.below lA S14.size)
          have rB1 : Res1 _ bB := rB.but bt1 hAB
          obtain ⟨V1, hV1⟩ : ∃ V1, (((X4.setCell ⟨bA, 0, none⟩ (.int .i64 Y.f)).setCell ⟨bA, 1, none⟩ (.int .i64 Y.t)).setCell ⟨bA, 2, none⟩ (.slice fo' fn' fc')).setCell ⟨bA, 3, none⟩ (.slice to' tn' tc') = V1 := ⟨_, rfl⟩
          rw [hV1] at SV1 rB1 ⊢
          clear hV1 bt1 d0 d1 d2 d3 g0 g1 g2 g3 rA rB
          refine hL1 _ _ SV1 ?_
          try simp only [Act.put, List.setIfInBounds_toArray, List.set_cons_zero, List.set_cons_succ]
          refine oneH 12 (by kernel_rfl) rfl rfl (fun L2 hL2 => ?_)
          obtain ⟨⟨_, d0⟩, g0⟩ := id rB1
          go_simp
          have bt2 : But bB V1 (V1.setCell ⟨bB, 0, none⟩ (.int .i64 a)) := (But.refl _ _).setCell _
          have SV := SV1.trans (bt2.below lB SV1.size)
          have cA : (V1.setCell ⟨bB, 0, none⟩ (.int .i64 a)).cell? ⟨bB, 0, none⟩ = some (.int .i64 a) := World.cell?_setCell_same _ _ _ d0
          obtain ⟨V, hV⟩ : ∃ V, V1.setCell ⟨bB, 0, none⟩ (.int .i64 a) = V := ⟨_, rfl⟩
          rw [hV] at SV cA ⊢
          clear hV bt2 d0 g0 rB1 SV1
          refine hL2 _ _ SV ?_
          try simp only [Act.put, List.setIfInBounds_toArray, List.set_cons_zero, List.set_cons_succ]
          refine wpAnyH_done (by kernel_rfl) ?_ _
          show Oper.wp _ _ _ _ _ _
          have hz := z2.below SV
          have q2 := keep c2 SV
          have q10 := keep c10 SV
          have hH1 : HoldsB 17 #[.pointer (some ⟨W1.heap.size, 0, none⟩)] z.free (ordGe (O : Int)) V := fun i hi W hb => fullF1_any W _ (O : Int) _ _ _ (keep q10 hb)
          have HC1 := bContains_any V 17 #[.pointer (some ⟨W1.heap.size, 0, none⟩)] fo fn fc z.free (ordGe (O : Int)) hz.free fullF1_call hH1
          clear hH1
          go_wp2_with fail
          go_at_call 16
          refine HC1.mono ?_
          rintro e v1 ⟨rfl, hv1⟩
          have hz1 := hz.below hv1
          have cA1 := keep cA hv1
          have q10' := keep q10 hv1
          have q2' := keep q2 hv1
          have SV2 := SV.trans (hv1.mono SV.size)
          have hH2 : HoldsB 18 #[.pointer (some ⟨bB, 0, none⟩), .pointer (some ⟨W1.heap.size, 0, none⟩)] z.free (inAt a (O : Int)) v1 := fun i hi W hb => by
            obtain ⟨r1, r2, r3, _⟩ := (freeOk_at hZ.may.free hi rfl).1
            have := hZ.f
            have := hZ.t
            exact fullF2_any W _ _ a (O : Int) _ _ _ (keep cA1 hb) (keep q10' hb) oO r1 (by omega) (by omega) (by omega) (by omega)
          have HC2 := bContains_any v1 18 #[.pointer (some ⟨bB, 0, none⟩), .pointer (some ⟨W1.heap.size, 0, none⟩)] fo fn fc z.free (inAt a (O : Int)) hz1.free fullF2_call hH2
          rw [HF1.out]
          clear hH2 HC1
          go_wp2_with fail
          go_at_call 16
          refine HC2.mono ?_
          rintro e v2 ⟨rfl, hv2⟩
          have BF := hB2.trans ((SV2.trans (hv2.mono SV2.size)).mono hB2.size)
          rw [HF2.out]
          clear HC2
          go_wp2
          go_ret
          exact ⟨rfl, BF⟩
        · go_simp
          have hb3 := below_box wA (.cells #[.int .i64 0] 3)
          have S13 := SA.trans (hb3.mono SA.size)
          have rB : Res1 (wA.alloc (.cells #[.int .i64 0] 3)) wA.heap.size := ⟨⟨.int .i64 0, by simp⟩, by simp⟩
          have lB := SA.size
          have lB2 : wA.heap.size < (wA.alloc (.cells #[.int .i64 0] 3)).heap.size := by simp
          obtain ⟨X3, hX3⟩ : ∃ X, wA.alloc (.cells #[.int .i64 0] 3) = X := ⟨_, rfl⟩
          rw [hX3] at S13 rB hb3 lB2 ⊢
          clear hX3 hb3
          generalize wA.heap.size = bB at rB lB lB2 ⊢
          refine hK3 _ _ S13 ?_
          try simp only [Act.put, List.setIfInBounds_toArray, List.set_cons_zero, List.set_cons_succ]
          refine oneH 9 (by kernel_rfl) rfl rfl (fun K4 hK4 => ?_)
          go_simp
          have hb4 := below_box X3 (.cells #[.int .i64 0, .int .i64 0, .slice none 0 0, .slice none 0 0] 26)
          have S14 := S13.trans (hb4.mono S13.size)
          have rA := (zbox_new X3 (.int .i64 0) (.int .i64 0) (.slice none 0 0) (.slice none 0 0) 26).res
          have lA := S13.size
          replace rB := rB.below hb4
          have hAB : bB ≠ X3.heap.size := by have := lB2; omega
          obtain ⟨X4, hX4⟩ : ∃ X, X3.alloc (.cells #[.int .i64 0, .int .i64 0, .slice none 0 0, .slice none 0 0] 26) = X := ⟨_, rfl⟩
          rw [hX4] at S14 rA hb4 rB ⊢
          clear hX4 hb4
          generalize X3.heap.size = bA at rA lA hAB ⊢
          refine hK4 _ _ S14 ?_
          try simp only [Act.put, List.setIfInBounds_toArray, List.set_cons_zero, List.set_cons_succ]
          refine oneH 11 (by kernel_rfl) rfl rfl (fun L1 hL1 => ?_)
          obtain ⟨⟨_, d0⟩, ⟨_, d1⟩, ⟨_, d2⟩, ⟨_, d3⟩, g0, g1, g2, g3⟩ := id rA
          go_simp
          have bt1 := but4 X4 bA (.int .i64 Y.f) (.int .i64 Y.t) (.slice fo' fn' fc') (.slice to' tn' tc')
          have SV1 := S14.trans (bt1.below lA S14.size)
          have rB1 : Res1 _ bB := rB.but bt1 hAB
          obtain ⟨V1, hV1⟩ : ∃ V1, (((X4.setCell ⟨bA, 0, none⟩ (.int .i64 Y.f)).setCell ⟨bA, 1, none⟩ (.int .i64 Y.t)).setCell ⟨bA, 2, none⟩ (.slice fo' fn' fc')).setCell ⟨bA, 3, none⟩ (.slice to' tn' tc') = V1 := ⟨_, rfl⟩
          rw [hV1] at SV1 rB1 ⊢
          clear hV1 bt1 d0 d1 d2 d3 g0 g1 g2 g3 rA rB
          refine hL1 _ _ SV1 ?_
          try simp only [Act.put, List.setIfInBounds_toArray, List.set_cons_zero, List.set_cons_succ]
          refine oneH 12 (by kernel_rfl) rfl rfl (fun L2 hL2 => ?_)
          obtain ⟨⟨_, d0⟩, g0⟩ := id rB1
          go_simp
          have bt2 : But bB V1 (V1.setCell ⟨bB, 0, none⟩ (.int .i64 a)) := (But.refl _ _).setCell _
          have SV := SV1.trans (bt2.below lB SV1.size)
          have cA : (V1.setCell ⟨bB, 0, none⟩ (.int .i64 a)).cell? ⟨bB, 0, none⟩ = some (.int .i64 a) := World.cell?_setCell_same _ _ _ d0
          obtain ⟨V, hV⟩ : ∃ V, V1.setCell ⟨bB, 0, none⟩ (.int .i64 a) = V := ⟨_, rfl⟩
          rw [hV] at SV cA ⊢
          clear hV bt2 d0 g0 rB1 SV1
          refine hL2 _ _ SV ?_
          try simp only [Act.put, List.setIfInBounds_toArray, List.set_cons_zero, List.set_cons_succ]
          refine wpAnyH_done (by kernel_rfl) ?_ _
          show Oper.wp _ _ _ _ _ _
          have hz := z2.below SV
          have q2 := keep c2 SV
          have q10 := keep c10 SV
          have hH1 : HoldsB 17 #[.pointer (some ⟨W1.heap.size, 0, none⟩)] z.free (ordGe (O : Int)) V := fun i hi W hb => fullF1_any W _ (O : Int) _ _ _ (keep q10 hb)
          have HC1 := bContains_any V 17 #[.pointer (some ⟨W1.heap.size, 0, none⟩)] fo fn fc z.free (ordGe (O : Int)) hz.free fullF1_call hH1
          clear hH1
          go_wp2_with fail
          go_at_call 16
          refine HC1.mono ?_
          rintro e v1 ⟨rfl, hv1⟩
          have hz1 := hz.below hv1
          have cA1 := keep cA hv1
          have q10' := keep q10 hv1
          have q2' := keep q2 hv1
          have SV2 := SV.trans (hv1.mono SV.size)
          have hH2 : HoldsB 18 #[.pointer (some ⟨bB, 0, none⟩), .pointer (some ⟨W1.heap.size, 0, none⟩)] z.free (inAt a (O : Int)) v1 := fun i hi W hb => by
            obtain ⟨r1, r2, r3, _⟩ := (freeOk_at hZ.may.free hi rfl).1
            have := hZ.f
            have := hZ.t
            exact fullF2_any W _ _ a (O : Int) _ _ _ (keep cA1 hb) (keep q10' hb) oO r1 (by omega) (by omega) (by omega) (by omega)
          have HC2 := bContains_any v1 18 #[.pointer (some ⟨bB, 0, none⟩), .pointer (some ⟨W1.heap.size, 0, none⟩)] fo fn fc z.free (inAt a (O : Int)) hz1.free fullF2_call hH2
          rw [HF1.out]
          clear hH2 HC1
          go_wp2_with fail
          go_at_call 16
          refine HC2.mono ?_
          rintro e v2 ⟨rfl, hv2⟩
          have BF := hB2.trans ((SV2.trans (hv2.mono SV2.size)).mono hB2.size)
          rw [HF2.out]
          clear HC2
          go_wp2
          go_ret
          exact ⟨rfl, BF⟩
      · go_simp
        have hb2 := below_box Wd (.cells #[.int .i64 0, .int .i64 0, .slice none 0 0, .slice none 0 0] 26)
        have S12 := S1.trans (hb2.mono S1.size)
        have rA := (zbox_new Wd (.int .i64 0) (.int .i64 0) (.slice none 0 0) (.slice none 0 0) 26).res
        have lA := S1.size
        have lA2 : Wd.heap.size < (Wd.alloc (.cells #[.int .i64 0, .int .i64 0, .slice none 0 0, .slice none 0 0] 26)).heap.size := by simp
        obtain ⟨X2, hX2⟩ : ∃ X, Wd.alloc (.cells #[.int .i64 0, .int .i64 0, .slice none 0 0, .slice none 0 0] 26) = X := ⟨_, rfl⟩
        rw [hX2] at S12 rA hb2 lA2 ⊢
        clear hX2 hb2
        generalize Wd.heap.size = bA at rA lA lA2 ⊢
        refine hK2 _ _ S12 ?_
        try simp only [Act.put, List.setIfInBounds_toArray, List.set_cons_zero, List.set_cons_succ]
        refine twoH 4 10 (by kernel_rfl) rfl rfl rfl rfl (fun K3 hK3 => ?_) (fun K3 hK3 => ?_)
        · go_simp
          refine (HTk.out _ S12).mono ?_
          rintro e wA ⟨⟨fo', fn', fc', to', tn', tc', rfl, _, _, _⟩, hbA⟩
          have lA3 := hbA.size
          have SA := S12.trans (hbA.mono S12.size)
          replace rA := rA.below hbA
          replace lA2 : bA < wA.heap.size := Nat.lt_of_lt_of_le lA2 lA3
          refine hK3 _ _ SA ?_
          try simp only [Act.put, List.setIfInBounds_toArray, List.set_cons_zero, List.set_cons_succ]
          refine takeH 5 (v := .tuple #[.agg #[.int .i64 Y.f, .int .i64 Y.t, .slice fo' fn' fc', .slice to' tn' tc'], .int .i64 a, .int .i64 0]) rfl (by kernel_rfl) (by kernel_rfl) (by kernel_rfl) (fun _ _ _ h => h) rfl (fun wx hSx => ?_) SA ?_
          · go_simp
          try simp only [Act.put, List.setIfInBounds_toArray, List.set_cons_zero, List.set_cons_succ]
          refine takeH 6 (v := .agg #[.int .i64 Y.f, .int .i64 Y.t, .slice fo' fn' fc', .slice to' tn' tc']) rfl (by kernel_rfl) (by kernel_rfl) (by kernel_rfl) (fun _ _ _ h => h) rfl (fun wx hSx => ?_) SA ?_
          · go_simp
          try simp only [Act.put, List.setIfInBounds_toArray, List.set_cons_zero, List.set_cons_succ]
          refine takeH 7 (v := .int .i64 a) rfl (by kernel_rfl) (by kernel_rfl) (by kernel_rfl) (fun _ _ _ h => h) rfl (fun wx hSx => ?_) SA ?_
          · go_simp
          try simp only [Act.put, List.setIfInBounds_toArray, List.set_cons_zero, List.set_cons_succ]
          refine takeH 8 (v := .int .i64 0) rfl (by kernel_rfl) (by kernel_rfl) (by kernel_rfl) (fun _ _ _ h => h) rfl (fun wx hSx => ?_) SA ?_
          · go_simp
          try simp only [Act.put, List.setIfInBounds_toArray, List.set_cons_zero, List.set_cons_succ]
          refine oneH 10 (by kernel_rfl) rfl rfl (fun K4 hK4 => ?_)
          go_simp
          have hb4 := below_box wA (.cells #[.int .i64 0] 3)
          have S14 := SA.trans (hb4.mono SA.size)
          have rB : Res1 (wA.alloc (.cells #[.int .i64 0] 3)) wA.heap.size := ⟨⟨.int .i64 0, by simp⟩, by simp⟩
          have lB := SA.size
          replace rA := rA.below hb4
          have hAB : wA.heap.size ≠ bA := by have := lA2; omega
          obtain ⟨X4, hX4⟩ : ∃ X, wA.alloc (.cells #[.int .i64 0] 3) = X := ⟨_, rfl⟩
          rw [hX4] at S14 rB hb4 rA ⊢
          clear hX4 hb4
          generalize wA.heap.size = bB at rB lB hAB ⊢
          refine hK4 _ _ S14 ?_
          try simp only [Act.put, List.setIfInBounds_toArray, List.set_cons_zero, List.set_cons_succ]
          refine oneH 11 (by kernel_rfl) rfl rfl (fun L1 hL1 => ?_)
          obtain ⟨⟨_, d0⟩, ⟨_, d1⟩, ⟨_, d2⟩, ⟨_, d3⟩, g0, g1, g2, g3⟩ := id rA
          go_simp
          have bt1 := but4 X4 bA (.int .i64 Y.f) (.int .i64 Y.t) (.slice fo' fn' fc') (.slice to' tn' tc')
          have SV1 := S14.trans (bt1.below lA S14.size)
          have rB1 : Res1 _ bB := rB.but bt1 hAB
          obtain ⟨V1, hV1⟩ : ∃ V1, (((X4.setCell ⟨bA, 0, none⟩ (.int .i64 Y.f)).setCell ⟨bA, 1, none⟩ (.int .i64 Y.t)).setCell ⟨bA, 2, none⟩ (.slice fo' fn' fc')).setCell ⟨bA, 3, none⟩ (.slice to' tn' tc') = V1 := ⟨_, rfl⟩
          rw [hV1] at SV1 rB1 ⊢
          clear hV1 bt1 d0 d1 d2 d3 g0 g1 g2 g3 rA rB
          refine hL1 _ _ SV1 ?_
          try simp only [Act.put, List.setIfInBounds_toArray, List.set_cons_zero, List.set_cons_succ]
          refine oneH 12 (by kernel_rfl) rfl rfl (fun L2 hL2 => ?_)
          obtain ⟨⟨_, d0⟩, g0⟩ := id rB1
          go_simp
          have bt2 : But bB V1 (V1.setCell ⟨bB, 0, none⟩ (.int .i64 a)) := (But.refl _ _).setCell _
          have SV := SV1.trans (bt2.below lB SV1.size)
          have cA : (V1.setCell ⟨bB, 0, none⟩ (.int .i64 a)).cell? ⟨bB, 0, none⟩ = some (.int .i64 a) := World.cell?_setCell_same _ _ _ d0
          obtain ⟨V, hV⟩ : ∃ V, V1.setCell ⟨bB, 0, none⟩ (.int .i64 a) = V := ⟨_, rfl⟩
          rw [hV] at SV cA ⊢
          clear hV bt2 d0 g0 rB1 SV1
          refine hL2 _ _ SV ?_
          try simp only [Act.put, List.setIfInBounds_toArray, List.set_cons_zero, List.set_cons_succ]
          refine wpAnyH_done (by kernel_rfl) ?_ _
          show Oper.wp _ _ _ _ _ _
          have hz := z2.below SV
          have q2 := keep c2 SV
          have q10 := keep c10 SV
          have hH1 : HoldsB 17 #[.pointer (some ⟨W1.heap.size, 0, none⟩)] z.free (ordGe (O : Int)) V := fun i hi W hb => fullF1_any W _ (O : Int) _ _ _ (keep q10 hb)
          have HC1 := bContains_any V 17 #[.pointer (some ⟨W1.heap.size, 0, none⟩)] fo fn fc z.free (ordGe (O : Int)) hz.free fullF1_call hH1
          clear hH1
          go_wp2_with fail
          go_at_call 16
          refine HC1.mono ?_
          rintro e v1 ⟨rfl, hv1⟩
          have hz1 := hz.below hv1
          have cA1 := keep cA hv1
          have q10' := keep q10 hv1
          have q2' := keep q2 hv1
          have SV2 := SV.trans (hv1.mono SV.size)
          have hH2 : HoldsB 18 #[.pointer (some ⟨bB, 0, none⟩), .pointer (some ⟨W1.heap.size, 0, none⟩)] z.free (inAt a (O : Int)) v1 := fun i hi W hb => by
            obtain ⟨r1, r2, r3, _⟩ := (freeOk_at hZ.may.free hi rfl).1
            have := hZ.f
            have := hZ.t
            exact fullF2_any W _ _ a (O : Int) _ _ _ (keep cA1 hb) (keep q10' hb) oO r1 (by omega) (by omega) (by omega) (by omega)
          have HC2 := bContains_any v1 18 #[.pointer (some ⟨bB, 0, none⟩), .pointer (some ⟨W1.heap.size, 0, none⟩)] fo fn fc z.free (inAt a (O : Int)) hz1.free fullF2_call hH2
          rw [HF1.out]
          clear hH2 HC1
          go_wp2_with fail
          go_at_call 16
          refine HC2.mono ?_
          rintro e v2 ⟨rfl, hv2⟩
          have BF := hB2.trans ((SV2.trans (hv2.mono SV2.size)).mono hB2.size)
          rw [HF2.out]
          clear HC2
          go_wp2
          go_ret
          exact ⟨rfl, BF⟩
        · go_simp
          have hb3 := below_box X2 (.cells #[.int .i64 0] 3)
          have S13 := S12.trans (hb3.mono S12.size)
          have rB : Res1 (X2.alloc (.cells #[.int .i64 0] 3)) X2.heap.size := ⟨⟨.int .i64 0, by simp⟩, by simp⟩
          have lB := S12.size
          replace rA := rA.below hb3
          have hAB : X2.heap.size ≠ bA := by have := lA2; omega
          obtain ⟨X3, hX3⟩ : ∃ X, X2.alloc (.cells #[.int .i64 0] 3) = X := ⟨_, rfl⟩
          rw [hX3] at S13 rB hb3 rA ⊢
          clear hX3 hb3
          generalize X2.heap.size = bB at rB lB hAB ⊢
          refine hK3 _ _ S13 ?_
          try simp only [Act.put, List.setIfInBounds_toArray, List.set_cons_zero, List.set_cons_succ]
          refine oneH 4 (by kernel_rfl) rfl rfl (fun K4 hK4 => ?_)
          go_simp
          refine (HTk.out _ S13).mono ?_
          rintro e wA ⟨⟨fo', fn', fc', to', tn', tc', rfl, _, _, _⟩, hbA⟩
          have SA := S13.trans (hbA.mono S13.size)
          replace rA := rA.below hbA
          replace rB := rB.below hbA
          refine hK4 _ _ SA ?_
          try simp only [Act.put, List.setIfInBounds_toArray, List.set_cons_zero, List.set_cons_succ]
          refine takeH 5 (v := .tuple #[.agg #[.int .i64 Y.f, .int .i64 Y.t, .slice fo' fn' fc', .slice to' tn' tc'], .int .i64 a, .int .i64 0]) rfl (by kernel_rfl) (by kernel_rfl) (by kernel_rfl) (fun _ _ _ h => h) rfl (fun wx hSx => ?_) SA ?_
          · go_simp
          try simp only [Act.put, List.setIfInBounds_toArray, List.set_cons_zero, List.set_cons_succ]
          refine takeH 6 (v := .agg #[.int .i64 Y.f, .int .i64 Y.t, .slice fo' fn' fc', .slice to' tn' tc']) rfl (by kernel_rfl) (by kernel_rfl) (by kernel_rfl) (fun _ _ _ h => h) rfl (fun wx hSx => ?_) SA ?_
          · go_simp
          try simp only [Act.put, List.setIfInBounds_toArray, List.set_cons_zero, List.set_cons_succ]
          refine takeH 7 (v := .int .i64 a) rfl (by kernel_rfl) (by kernel_rfl) (by kernel_rfl) (fun _ _ _ h => h) rfl (fun wx hSx => ?_) SA ?_
          · go_simp
          try simp only [Act.put, List.setIfInBounds_toArray, List.set_cons_zero, List.set_cons_succ]
          refine takeH 8 (v := .int .i64 0) rfl (by kernel_rfl) (by kernel_rfl) (by kernel_rfl) (fun _ _ _ h => h) rfl (fun wx hSx => ?_) SA ?_
          · go_simp
          try simp only [Act.put, List.setIfInBounds_toArray, List.set_cons_zero, List.set_cons_succ]
          refine oneH 11 (by kernel_rfl) rfl rfl (fun L1 hL1 => ?_)
          obtain ⟨⟨_, d0⟩, ⟨_, d1⟩, ⟨_, d2⟩, ⟨_, d3⟩, g0, g1, g2, g3⟩ := id rA
          go_simp
          have bt1 := but4 wA bA (.int .i64 Y.f) (.int .i64 Y.t) (.slice fo' fn' fc') (.slice to' tn' tc')
          have SV1 := SA.trans (bt1.below lA SA.size)
          have rB1 : Res1 _ bB := rB.but bt1 hAB
          obtain ⟨V1, hV1⟩ : ∃ V1, (((wA.setCell ⟨bA, 0, none⟩ (.int .i64 Y.f)).setCell ⟨bA, 1, none⟩ (.int .i64 Y.t)).setCell ⟨bA, 2, none⟩ (.slice fo' fn' fc')).setCell ⟨bA, 3, none⟩ (.slice to' tn' tc') = V1 := ⟨_, rfl⟩
          rw [hV1] at SV1 rB1 ⊢
          clear hV1 bt1 d0 d1 d2 d3 g0 g1 g2 g3 rA rB
          refine hL1 _ _ SV1 ?_
          try simp only [Act.put, List.setIfInBounds_toArray, List.set_cons_zero, List.set_cons_succ]
          refine oneH 12 (by kernel_rfl) rfl rfl (fun L2 hL2 => ?_)
          obtain ⟨⟨_, d0⟩, g0⟩ := id rB1
          go_simp
          have bt2 : But bB V1 (V1.setCell ⟨bB, 0, none⟩ (.int .i64 a)) := (But.refl _ _).setCell _
          have SV := SV1.trans (bt2.below lB SV1.size)
          have cA : (V1.setCell ⟨bB, 0, none⟩ (.int .i64 a)).cell? ⟨bB, 0, none⟩ = some (.int .i64 a) := World.cell?_setCell_same _ _ _ d0
          obtain ⟨V, hV⟩ : ∃ V, V1.setCell ⟨bB, 0, none⟩ (.int .i64 a) = V := ⟨_, rfl⟩
          rw [hV] at SV cA ⊢
          clear hV bt2 d0 g0 rB1 SV1
          refine hL2 _ _ SV ?_
          try simp only [Act.put, List.setIfInBounds_toArray, List.set_cons_zero, List.set_cons_succ]
          refine wpAnyH_done (by kernel_rfl) ?_ _
          show Oper.wp _ _ _ _ _ _
          have hz := z2.below SV
          have q2 := keep c2 SV
          have q10 := keep c10 SV
          have hH1 : HoldsB 17 #[.pointer (some ⟨W1.heap.size, 0, none⟩)] z.free (ordGe (O : Int)) V := fun i hi W hb => fullF1_any W _ (O : Int) _ _ _ (keep q10 hb)
          have HC1 := bContains_any V 17 #[.pointer (some ⟨W1.heap.size, 0, none⟩)] fo fn fc z.free (ordGe (O : Int)) hz.free fullF1_call hH1
          clear hH1
          go_wp2_with fail
          go_at_call 16
          refine HC1.mono ?_
          rintro e v1 ⟨rfl, hv1⟩
          have hz1 := hz.below hv1
          have cA1 := keep cA hv1
          have q10' := keep q10 hv1
          have q2' := keep q2 hv1
          have SV2 := SV.trans (hv1.mono SV.size)
          have hH2 : HoldsB 18 #[.pointer (some ⟨bB, 0, none⟩), .pointer (some ⟨W1.heap.size, 0, none⟩)] z.free (inAt a (O : Int)) v1 := fun i hi W hb => by
            obtain ⟨r1, r2, r3, _⟩ := (freeOk_at hZ.may.free hi rfl).1
            have := hZ.f
            have := hZ.t
            exact fullF2_any W _ _ a (O : Int) _ _ _ (keep cA1 hb) (keep q10' hb) oO r1 (by omega) (by omega) (by omega) (by omega)
          have HC2 := bContains_any v1 18 #[.pointer (some ⟨bB, 0, none⟩), .pointer (some ⟨W1.heap.size, 0, none⟩)] fo fn fc z.free (inAt a (O : Int)) hz1.free fullF2_call hH2
          rw [HF1.out]
          clear hH2 HC1
          go_wp2_with fail
          go_at_call 16
          refine HC2.mono ?_
          rintro e v2 ⟨rfl, hv2⟩
          have BF := hB2.trans ((SV2.trans (hv2.mono SV2.size)).mono hB2.size)
          rw [HF2.out]
          clear HC2
          go_wp2
          go_ret
          exact ⟨rfl, BF⟩
      · go_simp
        have hb2 := below_box Wd (.cells #[.int .i64 0] 3)
        have S12 := S1.trans (hb2.mono S1.size)
        have rB : Res1 (Wd.alloc (.cells #[.int .i64 0] 3)) Wd.heap.size := ⟨⟨.int .i64 0, by simp⟩, by simp⟩
        have lB := S1.size
        have lB2 : Wd.heap.size < (Wd.alloc (.cells #[.int .i64 0] 3)).heap.size := by simp
        obtain ⟨X2, hX2⟩ : ∃ X, Wd.alloc (.cells #[.int .i64 0] 3) = X := ⟨_, rfl⟩
        rw [hX2] at S12 rB hb2 lB2 ⊢
        clear hX2 hb2
        generalize Wd.heap.size = bB at rB lB lB2 ⊢
        refine hK2 _ _ S12 ?_
        try simp only [Act.put, List.setIfInBounds_toArray, List.set_cons_zero, List.set_cons_succ]
        refine twoH 4 9 (by kernel_rfl) rfl rfl rfl rfl (fun K3 hK3 => ?_) (fun K3 hK3 => ?_)
        · go_simp
          refine (HTk.out _ S12).mono ?_
          rintro e wA ⟨⟨fo', fn', fc', to', tn', tc', rfl, _, _, _⟩, hbA⟩
          have lB3 := hbA.size
          have SA := S12.trans (hbA.mono S12.size)
          replace rB := rB.below hbA
          replace lB2 : bB < wA.heap.size := Nat.lt_of_lt_of_le lB2 lB3
          refine hK3 _ _ SA ?_
          try simp only [Act.put, List.setIfInBounds_toArray, List.set_cons_zero, List.set_cons_succ]
          refine takeH 5 (v := .tuple #[.agg #[.int .i64 Y.f, .int .i64 Y.t, .slice fo' fn' fc', .slice to' tn' tc'], .int .i64 a, .int .i64 0]) rfl (by kernel_rfl) (by kernel_rfl) (by kernel_rfl) (fun _ _ _ h => h) rfl (fun wx hSx => ?_) SA ?_
          · go_simp
          try simp only [Act.put, List.setIfInBounds_toArray, List.set_cons_zero, List.set_cons_succ]
          refine takeH 6 (v := .agg #[.int .i64 Y.f, .int .i64 Y.t, .slice fo' fn' fc', .slice to' tn' tc']) rfl (by kernel_rfl) (by kernel_rfl) (by kernel_rfl) (fun _ _ _ h => h) rfl (fun wx hSx => ?_) SA ?_
          · go_simp
          try simp only [Act.put, List.setIfInBounds_toArray, List.set_cons_zero, List.set_cons_succ]
          refine takeH 7 (v := .int .i64 a) rfl (by kernel_rfl) (by kernel_rfl) (by kernel_rfl) (fun _ _ _ h => h) rfl (fun wx hSx => ?_) SA ?_
          · go_simp
          try simp only [Act.put, List.setIfInBounds_toArray, List.set_cons_zero, List.set_cons_succ]
          refine takeH 8 (v := .int .i64 0) rfl (by kernel_rfl) (by kernel_rfl) (by kernel_rfl) (fun _ _ _ h => h) rfl (fun wx hSx => ?_) SA ?_
          · go_simp
          try simp only [Act.put, List.setIfInBounds_toArray, List.set_cons_zero, List.set_cons_succ]
          refine oneH 9 (by kernel_rfl) rfl rfl (fun K4 hK4 => ?_)
          go_simp
          have hb4 := below_box wA (.cells #[.int .i64 0, .int .i64 0, .slice none 0 0, .slice none 0 0] 26)
          have S14 := SA.trans (hb4.mono SA.size)
          have rA := (zbox_new wA (.int .i64 0) (.int .i64 0) (.slice none 0 0) (.slice none 0 0) 26).res
          have lA := SA.size
          replace rB := rB.below hb4
          have hAB : bB ≠ wA.heap.size := by have := lB2; omega
          obtain ⟨X4, hX4⟩ : ∃ X, wA.alloc (.cells #[.int .i64 0, .int .i64 0, .slice none 0 0, .slice none 0 0] 26) = X := ⟨_, rfl⟩
          rw [hX4] at S14 rA hb4 rB ⊢
          clear hX4 hb4
          generalize wA.heap.size = bA at rA lA hAB ⊢
          refine hK4 _ _ S14 ?_
          try simp only [Act.put, List.setIfInBounds_toArray, List.set_cons_zero, List.set_cons_succ]
          refine oneH 11 (by kernel_rfl) rfl rfl (fun L1 hL1 => ?_)
          obtain ⟨⟨_, d0⟩, ⟨_, d1⟩, ⟨_, d2⟩, ⟨_, d3⟩, g0, g1, g2, g3⟩ := id rA
          go_simp
          have bt1 := but4 X4 bA (.int .i64 Y.f) (.int .i64 Y.t) (.slice fo' fn' fc') (.slice to' tn' tc')
          have SV1 := S14.trans (bt1.below lA S14.size)
          have rB1 : Res1 _ bB := rB.but bt1 hAB
          obtain ⟨V1, hV1⟩ : ∃ V1, (((X4.setCell ⟨bA, 0, none⟩ (.int .i64 Y.f)).setCell ⟨bA, 1, none⟩ (.int .i64 Y.t)).setCell ⟨bA, 2, none⟩ (.slice fo' fn' fc')).setCell ⟨bA, 3, none⟩ (.slice to' tn' tc') = V1 := ⟨_, rfl⟩
          rw [hV1] at SV1 rB1 ⊢
          clear hV1 bt1 d0 d1 d2 d3 g0 g1 g2 g3 rA rB
          refine hL1 _ _ SV1 ?_
          try simp only [Act.put, List.setIfInBounds_toArray, List.set_cons_zero, List.set_cons_succ]
          refine oneH 12 (by kernel_rfl) rfl rfl (fun L2 hL2 => ?_)
          obtain ⟨⟨_, d0⟩, g0⟩ := id rB1
          go_simp
          have bt2 : But bB V1 (V1.setCell ⟨bB, 0, none⟩ (.int .i64 a)) := (But.refl _ _).setCell _
          have SV := SV1.trans (bt2.below lB SV1.size)
          have cA : (V1.setCell ⟨bB, 0, none⟩ (.int .i64 a)).cell? ⟨bB, 0, none⟩ = some (.int .i64 a) := World.cell?_setCell_same _ _ _ d0
          obtain ⟨V, hV⟩ : ∃ V, V1.setCell ⟨bB, 0, none⟩ (.int .i64 a) = V := ⟨_, rfl⟩
          rw [hV] at SV cA ⊢
          clear hV bt2 d0 g0 rB1 SV1
          refine hL2 _ _ SV ?_
          try simp only [Act.put, List.setIfInBounds_toArray, List.set_cons_zero, List.set_cons_succ]
          refine wpAnyH_done (by kernel_rfl) ?_ _
          show Oper.wp _ _ _ _ _ _
          have hz := z2.below SV
          have q2 := keep c2 SV
          have q10 := keep c10 SV
          have hH1 : HoldsB 17 #[.pointer (some ⟨W1.heap.size, 0, none⟩)] z.free (ordGe (O : Int)) V := fun i hi W hb => fullF1_any W _ (O : Int) _ _ _ (keep q10 hb)
          have HC1 := bContains_any V 17 #[.pointer (some ⟨W1.heap.size, 0, none⟩)] fo fn fc z.free (ordGe (O : Int)) hz.free fullF1_call hH1
          clear hH1
          go_wp2_with fail
          go_at_call 16
          refine HC1.mono ?_
          rintro e v1 ⟨rfl, hv1⟩
          have hz1 := hz.below hv1
          have cA1 := keep cA hv1
          have q10' := keep q10 hv1
          have q2' := keep q2 hv1
          have SV2 := SV.trans (hv1.mono SV.size)
          have hH2 : HoldsB 18 #[.pointer (some ⟨bB, 0, none⟩), .pointer (some ⟨W1.heap.size, 0, none⟩)] z.free (inAt a (O : Int)) v1 := fun i hi W hb => by
            obtain ⟨r1, r2, r3, _⟩ := (freeOk_at hZ.may.free hi rfl).1
            have := hZ.f
            have := hZ.t
            exact fullF2_any W _ _ a (O : Int) _ _ _ (keep cA1 hb) (keep q10' hb) oO r1 (by omega) (by omega) (by omega) (by omega)
          have HC2 := bContains_any v1 18 #[.pointer (some ⟨bB, 0, none⟩), .pointer (some ⟨W1.heap.size, 0, none⟩)] fo fn fc z.free (inAt a (O : Int)) hz1.free fullF2_call hH2
          rw [HF1.out]
          clear hH2 HC1
          go_wp2_with fail
          go_at_call 16
          refine HC2.mono ?_
          rintro e v2 ⟨rfl, hv2⟩
          have BF := hB2.trans ((SV2.trans (hv2.mono SV2.size)).mono hB2.size)
          rw [HF2.out]
          clear HC2
          go_wp2
          go_ret
          exact ⟨rfl, BF⟩
        · go_simp
          have hb3 := below_box X2 (.cells #[.int .i64 0, .int .i64 0, .slice none 0 0, .slice none 0 0] 26)
          have S13 := S12.trans (hb3.mono S12.size)
          have rA := (zbox_new X2 (.int .i64 0) (.int .i64 0) (.slice none 0 0) (.slice none 0 0) 26).res
          have lA := S12.size
          replace rB := rB.below hb3
          have hAB : bB ≠ X2.heap.size := by have := lB2; omega
          obtain ⟨X3, hX3⟩ : ∃ X, X2.alloc (.cells #[.int .i64 0, .int .i64 0, .slice none 0 0, .slice none 0 0] 26) = X := ⟨_, rfl⟩
          rw [hX3] at S13 rA hb3 rB ⊢
          clear hX3 hb3
          generalize X2.heap.size = bA at rA lA hAB ⊢
          refine hK3 _ _ S13 ?_
          try simp only [Act.put, List.setIfInBounds_toArray, List.set_cons_zero, List.set_cons_succ]
          refine oneH 4 (by kernel_rfl) rfl rfl (fun K4 hK4 => ?_)
          go_simp
          refine (HTk.out _ S13).mono ?_
          rintro e wA ⟨⟨fo', fn', fc', to', tn', tc', rfl, _, _, _⟩, hbA⟩
          have SA := S13.trans (hbA.mono S13.size)
          replace rA := rA.below hbA
          replace rB := rB.below hbA
          refine hK4 _ _ SA ?_
          try simp only [Act.put, List.setIfInBounds_toArray, List.set_cons_zero, List.set_cons_succ]
          refine takeH 5 (v := .tuple #[.agg #[.int .i64 Y.f, .int .i64 Y.t, .slice fo' fn' fc', .slice to' tn' tc'], .int .i64 a, .int .i64 0]) rfl (by kernel_rfl) (by kernel_rfl) (by kernel_rfl) (fun _ _ _ h => h) rfl (fun wx hSx => ?_) SA ?_
          · go_simp
          try simp only [Act.put, List.setIfInBounds_toArray, List.set_cons_zero, List.set_cons_succ]
          refine takeH 6 (v := .agg #[.int .i64 Y.f, .int .i64 Y.t, .slice fo' fn' fc', .slice to' tn' tc']) rfl (by kernel_rfl) (by kernel_rfl) (by kernel_rfl) (fun _ _ _ h => h) rfl (fun wx hSx => ?_) SA ?_
          · go_simp
          try simp only [Act.put, List.setIfInBounds_toArray, List.set_cons_zero, List.set_cons_succ]
          refine takeH 7 (v := .int .i64 a) rfl (by kernel_rfl) (by kernel_rfl) (by kernel_rfl) (fun _ _ _ h => h) rfl (fun wx hSx => ?_) SA ?_
          · go_simp
          try simp only [Act.put, List.setIfInBounds_toArray, List.set_cons_zero, List.set_cons_succ]
          refine takeH 8 (v := .int .i64 0) rfl (by kernel_rfl) (by kernel_rfl) (by kernel_rfl) (fun _ _ _ h => h) rfl (fun wx hSx => ?_) SA ?_
          · go_simp
          try simp only [Act.put, List.setIfInBounds_toArray, List.set_cons_zero, List.set_cons_succ]
          refine oneH 11 (by kernel_rfl) rfl rfl (fun L1 hL1 => ?_)
          obtain ⟨⟨_, d0⟩, ⟨_, d1⟩, ⟨_, d2⟩, ⟨_, d3⟩, g0, g1, g2, g3⟩ := id rA
          go_simp
          have bt1 := but4 wA bA (.int .i64 Y.f) (.int .i64 Y.t) (.slice fo' fn' fc') (.slice to' tn' tc')
          have SV1 := SA.trans (bt1.below lA SA.size)
          have rB1 : Res1 _ bB := rB.but bt1 hAB
          obtain ⟨V1, hV1⟩ : ∃ V1, (((wA.setCell ⟨bA, 0, none⟩ (.int .i64 Y.f)).setCell ⟨bA, 1, none⟩ (.int .i64 Y.t)).setCell ⟨bA, 2, none⟩ (.slice fo' fn' fc')).setCell ⟨bA, 3, none⟩ (.slice to' tn' tc') = V1 := ⟨_, rfl⟩
          rw [hV1] at SV1 rB1 ⊢
          clear hV1 bt1 d0 d1 d2 d3 g0 g1 g2 g3 rA rB
          refine hL1 _ _ SV1 ?_
          try simp only [Act.put, List.setIfInBounds_toArray, List.set_cons_zero, List.set_cons_succ]
          refine oneH 12 (by kernel_rfl) rfl rfl (fun L2 hL2 => ?_)
          obtain ⟨⟨_, d0⟩, g0⟩ := id rB1
          go_simp
          have bt2 : But bB V1 (V1.setCell ⟨bB, 0, none⟩ (.int .i64 a)) := (But.refl _ _).setCell _
          have SV := SV1.trans (bt2.below lB SV1.size)
          have cA : (V1.setCell ⟨bB, 0, none⟩ (.int .i64 a)).cell? ⟨bB, 0, none⟩ = some (.int .i64 a) := World.cell?_setCell_same _ _ _ d0
          obtain ⟨V, hV⟩ : ∃ V, V1.setCell ⟨bB, 0, none⟩ (.int .i64 a) = V := ⟨_, rfl⟩
          rw [hV] at SV cA ⊢
          clear hV bt2 d0 g0 rB1 SV1
          refine hL2 _ _ SV ?_
          try simp only [Act.put, List.setIfInBounds_toArray, List.set_cons_zero, List.set_cons_succ]
          refine wpAnyH_done (by kernel_rfl) ?_ _
          show Oper.wp _ _ _ _ _ _
          have hz := z2.below SV
          have q2 := keep c2 SV
          have q10 := keep c10 SV
          have hH1 : HoldsB 17 #[.pointer (some ⟨W1.heap.size, 0, none⟩)] z.free (ordGe (O : Int)) V := fun i hi W hb => fullF1_any W _ (O : Int) _ _ _ (keep q10 hb)
          have HC1 := bContains_any V 17 #[.pointer (some ⟨W1.heap.size, 0, none⟩)] fo fn fc z.free (ordGe (O : Int)) hz.free fullF1_call hH1
          clear hH1
          go_wp2_with fail
          go_at_call 16
          refine HC1.mono ?_
          rintro e v1 ⟨rfl, hv1⟩
          have hz1 := hz.below hv1
          have cA1 := keep cA hv1
          have q10' := keep q10 hv1
          have q2' := keep q2 hv1
          have SV2 := SV.trans (hv1.mono SV.size)
          have hH2 : HoldsB 18 #[.pointer (some ⟨bB, 0, none⟩), .pointer (some ⟨W1.heap.size, 0, none⟩)] z.free (inAt a (O : Int)) v1 := fun i hi W hb => by
            obtain ⟨r1, r2, r3, _⟩ := (freeOk_at hZ.may.free hi rfl).1
            have := hZ.f
            have := hZ.t
            exact fullF2_any W _ _ a (O : Int) _ _ _ (keep cA1 hb) (keep q10' hb) oO r1 (by omega) (by omega) (by omega) (by omega)
          have HC2 := bContains_any v1 18 #[.pointer (some ⟨bB, 0, none⟩), .pointer (some ⟨W1.heap.size, 0, none⟩)] fo fn fc z.free (inAt a (O : Int)) hz1.free fullF2_call hH2
          rw [HF1.out]
          clear hH2 HC1
          go_wp2_with fail
          go_at_call 16
          refine HC2.mono ?_
          rintro e v2 ⟨rfl, hv2⟩
          have BF := hB2.trans ((SV2.trans (hv2.mono SV2.size)).mono hB2.size)
          rw [HF2.out]
          clear HC2
          go_wp2
          go_ret
          exact ⟨rfl, BF⟩
    · go_simp
      have hb1 := below_box Wd (.cells #[.int .i64 0, .int .i64 0, .slice none 0 0, .slice none 0 0] 26)
      have S11 := S1.trans (hb1.mono S1.size)
      have rA := (zbox_new Wd (.int .i64 0) (.int .i64 0) (.slice none 0 0) (.slice none 0 0) 26).res
      have lA := S1.size
      have lA2 : Wd.heap.size < (Wd.alloc (.cells #[.int .i64 0, .int .i64 0, .slice none 0 0, .slice none 0 0] 26)).heap.size := by simp
      obtain ⟨X1, hX1⟩ : ∃ X, Wd.alloc (.cells #[.int .i64 0, .int .i64 0, .slice none 0 0, .slice none 0 0] 26) = X := ⟨_, rfl⟩
      rw [hX1] at S11 rA hb1 lA2 ⊢
      clear hX1 hb1
      generalize Wd.heap.size = bA at rA lA lA2 ⊢
      refine hK1 _ _ S11 ?_
      try simp only [Act.put, List.setIfInBounds_toArray, List.set_cons_zero, List.set_cons_succ]
      refine twoH 3 10 (by kernel_rfl) rfl rfl rfl rfl (fun K2 hK2 => ?_) (fun K2 hK2 => ?_)
      · go_simp
        refine (picked_fn t 3 3 rfl wt (by omega) (by omega) _).mono ?_
        rintro e wq ⟨rfl, rfl⟩
        rw [HT2.out]
        refine hK2 _ _ S11 ?_
        try simp only [Act.put, List.setIfInBounds_toArray, List.set_cons_zero, List.set_cons_succ]
        refine twoH 4 10 (by kernel_rfl) rfl rfl rfl rfl (fun K3 hK3 => ?_) (fun K3 hK3 => ?_)
        · go_simp
          refine (HTk.out _ S11).mono ?_
          rintro e wA ⟨⟨fo', fn', fc', to', tn', tc', rfl, _, _, _⟩, hbA⟩
          have lA3 := hbA.size
          have SA := S11.trans (hbA.mono S11.size)
          replace rA := rA.below hbA
          replace lA2 : bA < wA.heap.size := Nat.lt_of_lt_of_le lA2 lA3
          refine hK3 _ _ SA ?_
          try simp only [Act.put, List.setIfInBounds_toArray, List.set_cons_zero, List.set_cons_succ]
          refine takeH 5 (v := .tuple #[.agg #[.int .i64 Y.f, .int .i64 Y.t, .slice fo' fn' fc', .slice to' tn' tc'], .int .i64 a, .int .i64 0]) rfl (by kernel_rfl) (by kernel_rfl) (by kernel_rfl) (fun _ _ _ h => h) rfl (fun wx hSx => ?_) SA ?_
          · go_simp
          try simp only [Act.put, List.setIfInBounds_toArray, List.set_cons_zero, List.set_cons_succ]
          refine takeH 6 (v := .agg #[.int .i64 Y.f, .int .i64 Y.t, .slice fo' fn' fc', .slice to' tn' tc']) rfl (by kernel_rfl) (by kernel_rfl) (by kernel_rfl) (fun _ _ _ h => h) rfl (fun wx hSx => ?_) SA ?_
          · go_simp
          try simp only [Act.put, List.setIfInBounds_toArray, List.set_cons_zero, List.set_cons_succ]
          refine takeH 7 (v := .int .i64 a) rfl (by kernel_rfl) (by kernel_rfl) (by kernel_rfl) (fun _ _ _ h => h) rfl (fun wx hSx => ?_) SA ?_
          · go_simp
          try simp only [Act.put, List.setIfInBounds_toArray, List.set_cons_zero, List.set_cons_succ]
          refine takeH 8 (v := .int .i64 0) rfl (by kernel_rfl) (by kernel_rfl) (by kernel_rfl) (fun _ _ _ h => h) rfl (fun wx hSx => ?_) SA ?_
          · go_simp
          try simp only [Act.put, List.setIfInBounds_toArray, List.set_cons_zero, List.set_cons_succ]
          refine oneH 10 (by kernel_rfl) rfl rfl (fun K4 hK4 => ?_)
          go_simp
          have hb4 := below_box wA (.cells #[.int .i64 0] 3)
          have S14 := SA.trans (hb4.mono SA.size)
          have rB : Res1 (wA.alloc (.cells #[.int .i64 0] 3)) wA.heap.size := ⟨⟨.int .i64 0, by simp⟩, by simp⟩
          have lB := SA.size
          replace rA := rA.below hb4
          have hAB : wA.heap.size ≠ bA := by have := lA2; omega
          obtain ⟨X4, hX4⟩ : ∃ X, wA.alloc (.cells #[.int .i64 0] 3) = X := ⟨_, rfl⟩
          rw [hX4] at S14 rB hb4 rA ⊢
          clear hX4 hb4
          generalize wA.heap.size = bB at rB lB hAB ⊢
          refine hK4 _ _ S14 ?_
          try simp only [Act.put, List.setIfInBounds_toArray, List.set_cons_zero, List.set_cons_succ]
          refine oneH 11 (by kernel_rfl) rfl rfl (fun L1 hL1 => ?_)
          obtain ⟨⟨_, d0⟩, ⟨_, d1⟩, ⟨_, d2⟩, ⟨_, d3⟩, g0, g1, g2, g3⟩ := id rA
          go_simp
          have bt1 := but4 X4 bA (.int .i64 Y.f) (.int .i64 Y.t) (.slice fo' fn' fc') (.slice to' tn' tc')
          have SV1 := S14.trans (bt1.below lA S14.size)
          have rB1 : Res1 _ bB := rB.but bt1 hAB
          obtain ⟨V1, hV1⟩ : ∃ V1, (((X4.setCell ⟨bA, 0, none⟩ (.int .i64 Y.f)).setCell ⟨bA, 1, none⟩ (.int .i64 Y.t)).setCell ⟨bA, 2, none⟩ (.slice fo' fn' fc')).setCell ⟨bA, 3, none⟩ (.slice to' tn' tc') = V1 := ⟨_, rfl⟩
          rw [hV1] at SV1 rB1 ⊢
          clear hV1 bt1 d0 d1 d2 d3 g0 g1 g2 g3 rA rB
          refine hL1 _ _ SV1 ?_
          try simp only [Act.put, List.setIfInBounds_toArray, List.set_cons_zero, List.set_cons_succ]
          refine oneH 12 (by kernel_rfl) rfl rfl (fun L2 hL2 => ?_)
          obtain ⟨⟨_, d0⟩, g0⟩ := id rB1
          go_simp
          have bt2 : But bB V1 (V1.setCell ⟨bB, 0, none⟩ (.int .i64 a)) := (But.refl _ _).setCell _
          have SV := SV1.trans (bt2.below lB SV1.size)
          have cA : (V1.setCell ⟨bB, 0, none⟩ (.int .i64 a)).cell? ⟨bB, 0, none⟩ = some (.int .i64 a) := World.cell?_setCell_same _ _ _ d0
          obtain ⟨V, hV⟩ : ∃ V, V1.setCell ⟨bB, 0, none⟩ (.int .i64 a) = V := ⟨_, rfl⟩
          rw [hV] at SV cA ⊢
          clear hV bt2 d0 g0 rB1 SV1
          refine hL2 _ _ SV ?_
          try simp only [Act.put, List.setIfInBounds_toArray, List.set_cons_zero, List.set_cons_succ]
          refine wpAnyH_done (by kernel_rfl) ?_ _
          show Oper.wp _ _ _ _ _ _
          have hz := z2.below SV
          have q2 := keep c2 SV
          have q10 := keep c10 SV
          have hH1 : HoldsB 17 #[.pointer (some ⟨W1.heap.size, 0, none⟩)] z.free (ordGe (O : Int)) V := fun i hi W hb => fullF1_any W _ (O : Int) _ _ _ (keep q10 hb)
          have HC1 := bContains_any V 17 #[.pointer (some ⟨W1.heap.size, 0, none⟩)] fo fn fc z.free (ordGe (O : Int)) hz.free fullF1_call hH1
          clear hH1
          go_wp2_with fail
          go_at_call 16
          refine HC1.mono ?_
          rintro e v1 ⟨rfl, hv1⟩
          have hz1 := hz.below hv1
          have cA1 := keep cA hv1
          have q10' := keep q10 hv1
          have q2' := keep q2 hv1
          have SV2 := SV.trans (hv1.mono SV.size)
          have hH2 : HoldsB 18 #[.pointer (some ⟨bB, 0, none⟩), .pointer (some ⟨W1.heap.size, 0, none⟩)] z.free (inAt a (O : Int)) v1 := fun i hi W hb => by
            obtain ⟨r1, r2, r3, _⟩ := (freeOk_at hZ.may.free hi rfl).1
            have := hZ.f
            have := hZ.t
            exact fullF2_any W _ _ a (O : Int) _ _ _ (keep cA1 hb) (keep q10' hb) oO r1 (by omega) (by omega) (by omega) (by omega)
          have HC2 := bContains_any v1 18 #[.pointer (some ⟨bB, 0, none⟩), .pointer (some ⟨W1.heap.size, 0, none⟩)] fo fn fc z.free (inAt a (O : Int)) hz1.free fullF2_call hH2
          rw [HF1.out]
          clear hH2 HC1
          go_wp2_with fail
          go_at_call 16
          refine HC2.mono ?_
          rintro e v2 ⟨rfl, hv2⟩
          have BF := hB2.trans ((SV2.trans (hv2.mono SV2.size)).mono hB2.size)
          rw [HF2.out]
          clear HC2
          go_wp2
          go_ret
          exact ⟨rfl, BF⟩
        · go_simp
          have hb3 := below_box X1 (.cells #[.int .i64 0] 3)
          have S13 := S11.trans (hb3.mono S11.size)
          have rB : Res1 (X1.alloc (.cells #[.int .i64 0] 3)) X1.heap.size := ⟨⟨.int .i64 0, by simp⟩, by simp⟩
          have lB := S11.size
          replace rA := rA.below hb3
          have hAB : X1.heap.size ≠ bA := by have := lA2; omega
          obtain ⟨X3, hX3⟩ : ∃ X, X1.alloc (.cells #[.int .i64 0] 3) = X := ⟨_, rfl⟩
          rw [hX3] at S13 rB hb3 rA ⊢
          clear hX3 hb3
          generalize X1.heap.size = bB at rB lB hAB ⊢
          refine hK3 _ _ S13 ?_
          try simp only [Act.put, List.setIfInBounds_toArray, List.set_cons_zero, List.set_cons_succ]
          refine oneH 4 (by kernel_rfl) rfl rfl (fun K4 hK4 => ?_)
          go_simp
          refine (HTk.out _ S13).mono ?_
          rintro e wA ⟨⟨fo', fn', fc', to', tn', tc', rfl, _, _, _⟩, hbA⟩
          have SA := S13.trans (hbA.mono S13.size)
          replace rA := rA.below hbA
          replace rB := rB.below hbA
          refine hK4 _ _ SA ?_
          try simp only [Act.put, List.setIfInBounds_toArray, List.set_cons_zero, List.set_cons_succ]
          refine takeH 5 (v := .tuple #[.agg #[.int .i64 Y.f, .int .i64 Y.t, .slice fo' fn' fc', .slice to' tn' tc'], .int .i64 a, .int .i64 0]) rfl (by kernel_rfl) (by kernel_rfl) (by kernel_rfl) (fun _ _ _ h => h) rfl (fun wx hSx => ?_) SA ?_
          · go_simp
          try simp only [Act.put, List.setIfInBounds_toArray, List.set_cons_zero, List.set_cons_succ]
          refine takeH 6 (v := .agg #[.int .i64 Y.f, .int .i64 Y.t, .slice fo' fn' fc', .slice to' tn' tc']) rfl (by kernel_rfl) (by kernel_rfl) (by kernel_rfl) (fun _ _ _ h => h) rfl (fun wx hSx => ?_) SA ?_
          · go_simp
          try simp only [Act.put, List.setIfInBounds_toArray, List.set_cons_zero, List.set_cons_succ]
          refine takeH 7 (v := .int .i64 a) rfl (by kernel_rfl) (by kernel_rfl) (by kernel_rfl) (fun _ _ _ h => h) rfl (fun wx hSx => ?_) SA ?_
          · go_simp
          try simp only [Act.put, List.setIfInBounds_toArray, List.set_cons_zero, List.set_cons_succ]
          refine takeH 8 (v := .int .i64 0) rfl (by kernel_rfl) (by kernel_rfl) (by kernel_rfl) (fun _ _ _ h => h) rfl (fun wx hSx => ?_) SA ?_
          · go_simp
          try simp only [Act.put, List.setIfInBounds_toArray, List.set_cons_zero, List.set_cons_succ]
          refine oneH 11 (by kernel_rfl) rfl rfl (fun L1 hL1 => ?_)
          obtain ⟨⟨_, d0⟩, ⟨_, d1⟩, ⟨_, d2⟩, ⟨_, d3⟩, g0, g1, g2, g3⟩ := id rA
          go_simp
          have bt1 := but4 wA bA (.int .i64 Y.f) (.int .i64 Y.t) (.slice fo' fn' fc') (.slice to' tn' tc')
          have SV1 := SA.trans (bt1.below lA SA.size)
          have rB1 : Res1 _ bB := rB.but bt1 hAB
          obtain ⟨V1, hV1⟩ : ∃ V1, (((wA.setCell ⟨bA, 0, none⟩ (.int .i64 Y.f)).setCell ⟨bA, 1, none⟩ (.int .i64 Y.t)).setCell ⟨bA, 2, none⟩ (.slice fo' fn' fc')).setCell ⟨bA, 3, none⟩ (.slice to' tn' tc') = V1 := ⟨_, rfl⟩
          rw [hV1] at SV1 rB1 ⊢
          clear hV1 bt1 d0 d1 d2 d3 g0 g1 g2 g3 rA rB
          refine hL1 _ _ SV1 ?_
          try simp only [Act.put, List.setIfInBounds_toArray, List.set_cons_zero, List.set_cons_succ]
          refine oneH 12 (by kernel_rfl) rfl rfl (fun L2 hL2 => ?_)
          obtain ⟨⟨_, d0⟩, g0⟩ := id rB1
          go_simp
          have bt2 : But bB V1 (V1.setCell ⟨bB, 0, none⟩ (.int .i64 a)) := (But.refl _ _).setCell _
          have SV := SV1.trans (bt2.below lB SV1.size)
          have cA : (V1.setCell ⟨bB, 0, none⟩ (.int .i64 a)).cell? ⟨bB, 0, none⟩ = some (.int .i64 a) := World.cell?_setCell_same _ _ _ d0
          obtain ⟨V, hV⟩ : ∃ V, V1.setCell ⟨bB, 0, none⟩ (.int .i64 a) = V := ⟨_, rfl⟩
          rw [hV] at SV cA ⊢
          clear hV bt2 d0 g0 rB1 SV1
          refine hL2 _ _ SV ?_
          try simp only [Act.put, List.setIfInBounds_toArray, List.set_cons_zero, List.set_cons_succ]
          refine wpAnyH_done (by kernel_rfl) ?_ _
          show Oper.wp _ _ _ _ _ _
          have hz := z2.below SV
          have q2 := keep c2 SV
          have q10 := keep c10 SV
          have hH1 : HoldsB 17 #[.pointer (some ⟨W1.heap.size, 0, none⟩)] z.free (ordGe (O : Int)) V := fun i hi W hb => fullF1_any W _ (O : Int) _ _ _ (keep q10 hb)
          have HC1 := bContains_any V 17 #[.pointer (some ⟨W1.heap.size, 0, none⟩)] fo fn fc z.free (ordGe (O : Int)) hz.free fullF1_call hH1
          clear hH1
          go_wp2_with fail
          go_at_call 16
          refine HC1.mono ?_
          rintro e v1 ⟨rfl, hv1⟩
          have hz1 := hz.below hv1
          have cA1 := keep cA hv1
          have q10' := keep q10 hv1
          have q2' := keep q2 hv1
          have SV2 := SV.trans (hv1.mono SV.size)
          have hH2 : HoldsB 18 #[.pointer (some ⟨bB, 0, none⟩), .pointer (some ⟨W1.heap.size, 0, none⟩)] z.free (inAt a (O : Int)) v1 := fun i hi W hb => by
            obtain ⟨r1, r2, r3, _⟩ := (freeOk_at hZ.may.free hi rfl).1
            have := hZ.f
            have := hZ.t
            exact fullF2_any W _ _ a (O : Int) _ _ _ (keep cA1 hb) (keep q10' hb) oO r1 (by omega) (by omega) (by omega) (by omega)
          have HC2 := bContains_any v1 18 #[.pointer (some ⟨bB, 0, none⟩), .pointer (some ⟨W1.heap.size, 0, none⟩)] fo fn fc z.free (inAt a (O : Int)) hz1.free fullF2_call hH2
          rw [HF1.out]
          clear hH2 HC1
          go_wp2_with fail
          go_at_call 16
          refine HC2.mono ?_
          rintro e v2 ⟨rfl, hv2⟩
          have BF := hB2.trans ((SV2.trans (hv2.mono SV2.size)).mono hB2.size)
          rw [HF2.out]
          clear HC2
          go_wp2
          go_ret
          exact ⟨rfl, BF⟩
      · go_simp
        have hb2 := below_box X1 (.cells #[.int .i64 0] 3)
        have S12 := S11.trans (hb2.mono S11.size)
        have rB : Res1 (X1.alloc (.cells #[.int .i64 0] 3)) X1.heap.size := ⟨⟨.int .i64 0, by simp⟩, by simp⟩
        have lB := S11.size
        replace rA := rA.below hb2
        have hAB : X1.heap.size ≠ bA := by have := lA2; omega
        obtain ⟨X2, hX2⟩ : ∃ X, X1.alloc (.cells #[.int .i64 0] 3) = X := ⟨_, rfl⟩
        rw [hX2] at S12 rB hb2 rA ⊢
        clear hX2 hb2
        generalize X1.heap.size = bB at rB lB hAB ⊢
        refine hK2 _ _ S12 ?_
        try simp only [Act.put, List.setIfInBounds_toArray, List.set_cons_zero, List.set_cons_succ]
        refine oneH 3 (by kernel_rfl) rfl rfl (fun K3 hK3 => ?_)
        go_simp
        refine (picked_fn t 3 3 rfl wt (by omega) (by omega) _).mono ?_
        rintro e wq ⟨rfl, rfl⟩
        rw [HT2.out]
        refine hK3 _ _ S12 ?_
        try simp only [Act.put, List.setIfInBounds_toArray, List.set_cons_zero, List.set_cons_succ]
        refine oneH 4 (by kernel_rfl) rfl rfl (fun K4 hK4 => ?_)
        go_simp
        refine (HTk.out _ S12).mono ?_
        rintro e wA ⟨⟨fo', fn', fc', to', tn', tc', rfl, _, _, _⟩, hbA⟩
        have SA := S12.trans (hbA.mono S12.size)
        replace rA := rA.below hbA
        replace rB := rB.below hbA
        refine hK4 _ _ SA ?_
        try simp only [Act.put, List.setIfInBounds_toArray, List.set_cons_zero, List.set_cons_succ]
        refine takeH 5 (v := .tuple #[.agg #[.int .i64 Y.f, .int .i64 Y.t, .slice fo' fn' fc', .slice to' tn' tc'], .int .i64 a, .int .i64 0]) rfl (by kernel_rfl) (by kernel_rfl) (by kernel_rfl) (fun _ _ _ h => h) rfl (fun wx hSx => ?_) SA ?_
        · go_simp
        try simp only [Act.put, List.setIfInBounds_toArray, List.set_cons_zero, List.set_cons_succ]
        refine takeH 6 (v := .agg #[.int .i64 Y.f, .int .i64 Y.t, .slice fo' fn' fc', .slice to' tn' tc']) rfl (by kernel_rfl) (by kernel_rfl) (by kernel_rfl) (fun _ _ _ h => h) rfl (fun wx hSx => ?_) SA ?_
        · go_simp
        try simp only [Act.put, List.setIfInBounds_toArray, List.set_cons_zero, List.set_cons_succ]
        refine takeH 7 (v := .int .i64 a) rfl (by kernel_rfl) (by kernel_rfl) (by kernel_rfl) (fun _ _ _ h => h) rfl (fun wx hSx => ?_) SA ?_
        · go_simp
        try simp only [Act.put, List.setIfInBounds_toArray, List.set_cons_zero, List.set_cons_succ]
        refine takeH 8 (v := .int .i64 0) rfl (by kernel_rfl) (by kernel_rfl) (by kernel_rfl) (fun _ _ _ h => h) rfl (fun wx hSx => ?_) SA ?_
        · go_simp
        try simp only [Act.put, List.setIfInBounds_toArray, List.set_cons_zero, List.set_cons_succ]
        refine oneH 11 (by kernel_rfl) rfl rfl (fun L1 hL1 => ?_)
        obtain ⟨⟨_, d0⟩, ⟨_, d1⟩, ⟨_, d2⟩, ⟨_, d3⟩, g0, g1, g2, g3⟩ := id rA
        go_simp
        have bt1 := but4 wA bA (.int .i64 Y.f) (.int .i64 Y.t) (.slice fo' fn' fc') (.slice to' tn' tc')
        have SV1 := SA.trans (bt1.below lA SA.size)
        have rB1 : Res1 _ bB := rB.but bt1 hAB
        obtain ⟨V1, hV1⟩ : ∃ V1, (((wA.setCell ⟨bA, 0, none⟩ (.int .i64 Y.f)).setCell ⟨bA, 1, none⟩ (.int .i64 Y.t)).setCell ⟨bA, 2, none⟩ (.slice fo' fn' fc')).setCell ⟨bA, 3, none⟩ (.slice to' tn' tc') = V1 := ⟨_, rfl⟩
        rw [hV1] at SV1 rB1 ⊢
        clear hV1 bt1 d0 d1 d2 d3 g0 g1 g2 g3 rA rB
        refine hL1 _ _ SV1 ?_
        try simp only [Act.put, List.setIfInBounds_toArray, List.set_cons_zero, List.set_cons_succ]
        refine oneH 12 (by kernel_rfl) rfl rfl (fun L2 hL2 => ?_)
        obtain ⟨⟨_, d0⟩, g0⟩ := id rB1
        go_simp
        have bt2 : But bB V1 (V1.setCell ⟨bB, 0, none⟩ (.int .i64 a)) := (But.refl _ _).setCell _
        have SV := SV1.trans (bt2.below lB SV1.size)
        have cA : (V1.setCell ⟨bB, 0, none⟩ (.int .i64 a)).cell? ⟨bB, 0, none⟩ = some (.int .i64 a) := World.cell?_setCell_same _ _ _ d0
        obtain ⟨V, hV⟩ : ∃ V, V1.setCell ⟨bB, 0, none⟩ (.int .i64 a) = V := ⟨_, rfl⟩
        rw [hV] at SV cA ⊢
        clear hV bt2 d0 g0 rB1 SV1
        refine hL2 _ _ SV ?_
        try simp only [Act.put, List.setIfInBounds_toArray, List.set_cons_zero, List.set_cons_succ]
        refine wpAnyH_done (by kernel_rfl) ?_ _
        show Oper.wp _ _ _ _ _ _
        have hz := z2.below SV
        have q2 := keep c2 SV
        have q10 := keep c10 SV
        have hH1 : HoldsB 17 #[.pointer (some ⟨W1.heap.size, 0, none⟩)] z.free (ordGe (O : Int)) V := fun i hi W hb => fullF1_any W _ (O : Int) _ _ _ (keep q10 hb)
        have HC1 := bContains_any V 17 #[.pointer (some ⟨W1.heap.size, 0, none⟩)] fo fn fc z.free (ordGe (O : Int)) hz.free fullF1_call hH1
        clear hH1
        go_wp2_with fail
        go_at_call 16
        refine HC1.mono ?_
        rintro e v1 ⟨rfl, hv1⟩
        have hz1 := hz.below hv1
        have cA1 := keep cA hv1
        have q10' := keep q10 hv1
        have q2' := keep q2 hv1
        have SV2 := SV.trans (hv1.mono SV.size)
        have hH2 : HoldsB 18 #[.pointer (some ⟨bB, 0, none⟩), .pointer (some ⟨W1.heap.size, 0, none⟩)] z.free (inAt a (O : Int)) v1 := fun i hi W hb => by
          obtain ⟨r1, r2, r3, _⟩ := (freeOk_at hZ.may.free hi rfl).1
          have := hZ.f
          have := hZ.t
          exact fullF2_any W _ _ a (O : Int) _ _ _ (keep cA1 hb) (keep q10' hb) oO r1 (by omega) (by omega) (by omega) (by omega)
        have HC2 := bContains_any v1 18 #[.pointer (some ⟨bB, 0, none⟩), .pointer (some ⟨W1.heap.size, 0, none⟩)] fo fn fc z.free (inAt a (O : Int)) hz1.free fullF2_call hH2
        rw [HF1.out]
        clear hH2 HC1
        go_wp2_with fail
        go_at_call 16
        refine HC2.mono ?_
        rintro e v2 ⟨rfl, hv2⟩
        have BF := hB2.trans ((SV2.trans (hv2.mono SV2.size)).mono hB2.size)
        rw [HF2.out]
        clear HC2
        go_wp2
        go_ret
        exact ⟨rfl, BF⟩
    · go_simp
      have hb1 := below_box Wd (.cells #[.int .i64 0] 3)
      have S11 := S1.trans (hb1.mono S1.size)
      have rB : Res1 (Wd.alloc (.cells #[.int .i64 0] 3)) Wd.heap.size := ⟨⟨.int .i64 0, by simp⟩, by simp⟩
      have lB := S1.size
      have lB2 : Wd.heap.size < (Wd.alloc (.cells #[.int .i64 0] 3)).heap.size := by simp
      obtain ⟨X1, hX1⟩ : ∃ X, Wd.alloc (.cells #[.int .i64 0] 3) = X := ⟨_, rfl⟩
      rw [hX1] at S11 rB hb1 lB2 ⊢
      clear hX1 hb1
      generalize Wd.heap.size = bB at rB lB lB2 ⊢
      refine hK1 _ _ S11 ?_
      try simp only [Act.put, List.setIfInBounds_toArray, List.set_cons_zero, List.set_cons_succ]
      refine twoH 3 9 (by kernel_rfl) rfl rfl rfl rfl (fun K2 hK2 => ?_) (fun K2 hK2 => ?_)
      · go_simp
        refine (picked_fn t 3 3 rfl wt (by omega) (by omega) _).mono ?_
        rintro e wq ⟨rfl, rfl⟩
        rw [HT2.out]
        refine hK2 _ _ S11 ?_
        try simp only [Act.put, List.setIfInBounds_toArray, List.set_cons_zero, List.set_cons_succ]
        refine twoH 4 9 (by kernel_rfl) rfl rfl rfl rfl (fun K3 hK3 => ?_) (fun K3 hK3 => ?_)
        · go_simp
          refine (HTk.out _ S11).mono ?_
          rintro e wA ⟨⟨fo', fn', fc', to', tn', tc', rfl, _, _, _⟩, hbA⟩
          have lB3 := hbA.size
          have SA := S11.trans (hbA.mono S11.size)
          replace rB := rB.below hbA
          replace lB2 : bB < wA.heap.size := Nat.lt_of_lt_of_le lB2 lB3
          refine hK3 _ _ SA ?_
          try simp only [Act.put, List.setIfInBounds_toArray, List.set_cons_zero, List.set_cons_succ]
          refine takeH 5 (v := .tuple #[.agg #[.int .i64 Y.f, .int .i64 Y.t, .slice fo' fn' fc', .slice to' tn' tc'], .int .i64 a, .int .i64 0]) rfl (by kernel_rfl) (by kernel_rfl) (by kernel_rfl) (fun _ _ _ h => h) rfl (fun wx hSx => ?_) SA ?_
          · go_simp
          try simp only [Act.put, List.setIfInBounds_toArray, List.set_cons_zero, List.set_cons_succ]
          refine takeH 6 (v := .agg #[.int .i64 Y.f, .int .i64 Y.t, .slice fo' fn' fc', .slice to' tn' tc']) rfl (by kernel_rfl) (by kernel_rfl) (by kernel_rfl) (fun _ _ _ h => h) rfl (fun wx hSx => ?_) SA ?_
          · go_simp
          try simp only [Act.put, List.setIfInBounds_toArray, List.set_cons_zero, List.set_cons_succ]
          refine takeH 7 (v := .int .i64 a) rfl (by kernel_rfl) (by kernel_rfl) (by kernel_rfl) (fun _ _ _ h => h) rfl (fun wx hSx => ?_) SA ?_
          · go_simp
          try simp only [Act.put, List.setIfInBounds_toArray, List.set_cons_zero, List.set_cons_succ]
          refine takeH 8 (v := .int .i64 0) rfl (by kernel_rfl) (by kernel_rfl) (by kernel_rfl) (fun _ _ _ h => h) rfl (fun wx hSx => ?_) SA ?_
          · go_simp
          try simp only [Act.put, List.setIfInBounds_toArray, List.set_cons_zero, List.set_cons_succ]
          refine oneH 9 (by kernel_rfl) rfl rfl (fun K4 hK4 => ?_)
          go_simp
          have hb4 := below_box wA (.cells #[.int .i64 0, .int .i64 0, .slice none 0 0, .slice none 0 0] 26)
          have S14 := SA.trans (hb4.mono SA.size)
          have rA := (zbox_new wA (.int .i64 0) (.int .i64 0) (.slice none 0 0) (.slice none 0 0) 26).res
          have lA := SA.size
          replace rB := rB.below hb4
          have hAB : bB ≠ wA.heap.size := by have := lB2; omega
          obtain ⟨X4, hX4⟩ : ∃ X, wA.alloc (.cells #[.int .i64 0, .int .i64 0, .slice none 0 0, .slice none 0 0] 26) = X := ⟨_, rfl⟩
          rw [hX4] at S14 rA hb4 rB ⊢
          clear hX4 hb4
          generalize wA.heap.size = bA at rA lA hAB ⊢
          refine hK4 _ _ S14 ?_
          try simp only [Act.put, List.setIfInBounds_toArray, List.set_cons_zero, List.set_cons_succ]
          refine oneH 11 (by kernel_rfl) rfl rfl (fun L1 hL1 => ?_)
          obtain ⟨⟨_, d0⟩, ⟨_, d1⟩, ⟨_, d2⟩, ⟨_, d3⟩, g0, g1, g2, g3⟩ := id rA
          go_simp
          have bt1 := but4 X4 bA (.int .i64 Y.f) (.int .i64 Y.t) (.slice fo' fn' fc') (.slice to' tn' tc')
          have SV1 := S14.trans (bt1.below lA S14.size)
          have rB1 : Res1 _ bB := rB.but bt1 hAB
          obtain ⟨V1, hV1⟩ : ∃ V1, (((X4.setCell ⟨bA, 0, none⟩ (.int .i64 Y.f)).setCell ⟨bA, 1, none⟩ (.int .i64 Y.t)).setCell ⟨bA, 2, none⟩ (.slice fo' fn' fc')).setCell ⟨bA, 3, none⟩ (.slice to' tn' tc') = V1 := ⟨_, rfl⟩
          rw [hV1] at SV1 rB1 ⊢
          clear hV1 bt1 d0 d1 d2 d3 g0 g1 g2 g3 rA rB
          refine hL1 _ _ SV1 ?_
          try simp only [Act.put, List.setIfInBounds_toArray, List.set_cons_zero, List.set_cons_succ]
          refine oneH 12 (by kernel_rfl) rfl rfl (fun L2 hL2 => ?_)
          obtain ⟨⟨_, d0⟩, g0⟩ := id rB1
          go_simp
          have bt2 : But bB V1 (V1.setCell ⟨bB, 0, none⟩ (.int .i64 a)) := (But.refl _ _).setCell _
          have SV := SV1.trans (bt2.below lB SV1.size)
          have cA : (V1.setCell ⟨bB, 0, none⟩ (.int .i64 a)).cell? ⟨bB, 0, none⟩ = some (.int .i64 a) := World.cell?_setCell_same _ _ _ d0
          obtain ⟨V, hV⟩ : ∃ V, V1.setCell ⟨bB, 0, none⟩ (.int .i64 a) = V := ⟨_, rfl⟩
          rw [hV] at SV cA ⊢
          clear hV bt2 d0 g0 rB1 SV1
          refine hL2 _ _ SV ?_
          try simp only [Act.put, List.setIfInBounds_toArray, List.set_cons_zero, List.set_cons_succ]
          refine wpAnyH_done (by kernel_rfl) ?_ _
          show Oper.wp _ _ _ _ _ _
          have hz := z2.below SV
          have q2 := keep c2 SV
          have q10 := keep c10 SV
          have hH1 : HoldsB 17 #[.pointer (some ⟨W1.heap.size, 0, none⟩)] z.free (ordGe (O : Int)) V := fun i hi W hb => fullF1_any W _ (O : Int) _ _ _ (keep q10 hb)
          have HC1 := bContains_any V 17 #[.pointer (some ⟨W1.heap.size, 0, none⟩)] fo fn fc z.free (ordGe (O : Int)) hz.free fullF1_call hH1
          clear hH1
          go_wp2_with fail
          go_at_call 16
          refine HC1.mono ?_
          rintro e v1 ⟨rfl, hv1⟩
          have hz1 := hz.below hv1
          have cA1 := keep cA hv1
          have q10' := keep q10 hv1
          have q2' := keep q2 hv1
          have SV2 := SV.trans (hv1.mono SV.size)
          have hH2 : HoldsB 18 #[.pointer (some ⟨bB, 0, none⟩), .pointer (some ⟨W1.heap.size, 0, none⟩)] z.free (inAt a (O : Int)) v1 := fun i hi W hb => by
            obtain ⟨r1, r2, r3, _⟩ := (freeOk_at hZ.may.free hi rfl).1
            have := hZ.f
            have := hZ.t
            exact fullF2_any W _ _ a (O : Int) _ _ _ (keep cA1 hb) (keep q10' hb) oO r1 (by omega) (by omega) (by omega) (by omega)
          have HC2 := bContains_any v1 18 #[.pointer (some ⟨bB, 0, none⟩), .pointer (some ⟨W1.heap.size, 0, none⟩)] fo fn fc z.free (inAt a (O : Int)) hz1.free fullF2_call hH2
          rw [HF1.out]
          clear hH2 HC1
          go_wp2_with fail
          go_at_call 16
          refine HC2.mono ?_
          rintro e v2 ⟨rfl, hv2⟩
          have BF := hB2.trans ((SV2.trans (hv2.mono SV2.size)).mono hB2.size)
          rw [HF2.out]
          clear HC2
          go_wp2
          go_ret
          exact ⟨rfl, BF⟩
        · go_simp
          have hb3 := below_box X1 (.cells #[.int .i64 0, .int .i64 0, .slice none 0 0, .slice none 0 0] 26)
          have S13 := S11.trans (hb3.mono S11.size)
          have rA := (zbox_new X1 (.int .i64 0) (.int .i64 0) (.slice none 0 0) (.slice none 0 0) 26).res
          have lA := S11.size
          replace rB := rB.below hb3
          have hAB : bB ≠ X1.heap.size := by have := lB2; omega
          obtain ⟨X3, hX3⟩ : ∃ X, X1.alloc (.cells #[.int .i64 0, .int .i64 0, .slice none 0 0, .slice none 0 0] 26) = X := ⟨_, rfl⟩
          rw [hX3] at S13 rA hb3 rB ⊢
          clear hX3 hb3
          generalize X1.heap.size = bA at rA lA hAB ⊢
          refine hK3 _ _ S13 ?_
          try simp only [Act.put, List.setIfInBounds_toArray, List.set_cons_zero, List.set_cons_succ]
          refine oneH 4 (by kernel_rfl) rfl rfl (fun K4 hK4 => ?_)
          go_simp
          refine (HTk.out _ S13).mono ?_
          rintro e wA ⟨⟨fo', fn', fc', to', tn', tc', rfl, _, _, _⟩, hbA⟩
          have SA := S13.trans (hbA.mono S13.size)
          replace rA := rA.below hbA
          replace rB := rB.below hbA
          refine hK4 _ _ SA ?_
          try simp only [Act.put, List.setIfInBounds_toArray, List.set_cons_zero, List.set_cons_succ]
          refine takeH 5 (v := .tuple #[.agg #[.int .i64 Y.f, .int .i64 Y.t, .slice fo' fn' fc', .slice to' tn' tc'], .int .i64 a, .int .i64 0]) rfl (by kernel_rfl) (by kernel_rfl) (by kernel_rfl) (fun _ _ _ h => h) rfl (fun wx hSx => ?_) SA ?_
          · go_simp
          try simp only [Act.put, List.setIfInBounds_toArray, List.set_cons_zero, List.set_cons_succ]
          refine takeH 6 (v := .agg #[.int .i64 Y.f, .int .i64 Y.t, .slice fo' fn' fc', .slice to' tn' tc']) rfl (by kernel_rfl) (by kernel_rfl) (by kernel_rfl) (fun _ _ _ h => h) rfl (fun wx hSx => ?_) SA ?_
          · go_simp
          try simp only [Act.put, List.setIfInBounds_toArray, List.set_cons_zero, List.set_cons_succ]
          refine takeH 7 (v := .int .i64 a) rfl (by kernel_rfl) (by kernel_rfl) (by kernel_rfl) (fun _ _ _ h => h) rfl (fun wx hSx => ?_) SA ?_
          · go_simp
          try simp only [Act.put, List.setIfInBounds_toArray, List.set_cons_zero, List.set_cons_succ]
          refine takeH 8 (v := .int .i64 0) rfl (by kernel_rfl) (by kernel_rfl) (by kernel_rfl) (fun _ _ _ h => h) rfl (fun wx hSx => ?_) SA ?_
          · go_simp
          try simp only [Act.put, List.setIfInBounds_toArray, List.set_cons_zero, List.set_cons_succ]
          refine oneH 11 (by kernel_rfl) rfl rfl (fun L1 hL1 => ?_)
          obtain ⟨⟨_, d0⟩, ⟨_, d1⟩, ⟨_, d2⟩, ⟨_, d3⟩, g0, g1, g2, g3⟩ := id rA
          go_simp
          have bt1 := but4 wA bA (.int .i64 Y.f) (.int .i64 Y.t) (.slice fo' fn' fc') (.slice to' tn' tc')
          have SV1 := SA.trans (bt1.below lA SA.size)
          have rB1 : Res1 _ bB := rB.but bt1 hAB
          obtain ⟨V1, hV1⟩ : ∃ V1, (((wA.setCell ⟨bA, 0, none⟩ (.int .i64 Y.f)).setCell ⟨bA, 1, none⟩ (.int .i64 Y.t)).setCell ⟨bA, 2, none⟩ (.slice fo' fn' fc')).setCell ⟨bA, 3, none⟩ (.slice to' tn' tc') = V1 := ⟨_, rfl⟩
          rw [hV1] at SV1 rB1 ⊢
          clear hV1 bt1 d0 d1 d2 d3 g0 g1 g2 g3 rA rB
          refine hL1 _ _ SV1 ?_
          try simp only [Act.put, List.setIfInBounds_toArray, List.set_cons_zero, List.set_cons_succ]
          refine oneH 12 (by kernel_rfl) rfl rfl (fun L2 hL2 => ?_)
          obtain ⟨⟨_, d0⟩, g0⟩ := id rB1
          go_simp
          have bt2 : But bB V1 (V1.setCell ⟨bB, 0, none⟩ (.int .i64 a)) := (But.refl _ _).setCell _
          have SV := SV1.trans (bt2.below lB SV1.size)
          have cA : (V1.setCell ⟨bB, 0, none⟩ (.int .i64 a)).cell? ⟨bB, 0, none⟩ = some (.int .i64 a) := World.cell?_setCell_same _ _ _ d0
          obtain ⟨V, hV⟩ : ∃ V, V1.setCell ⟨bB, 0, none⟩ (.int .i64 a) = V := ⟨_, rfl⟩
          rw [hV] at SV cA ⊢
          clear hV bt2 d0 g0 rB1 SV1
          refine hL2 _ _ SV ?_
          try simp only [Act.put, List.setIfInBounds_toArray, List.set_cons_zero, List.set_cons_succ]
          refine wpAnyH_done (by kernel_rfl) ?_ _
          show Oper.wp _ _ _ _ _ _
          have hz := z2.below SV
          have q2 := keep c2 SV
          have q10 := keep c10 SV
          have hH1 : HoldsB 17 #[.pointer (some ⟨W1.heap.size, 0, none⟩)] z.free (ordGe (O : Int)) V := fun i hi W hb => fullF1_any W _ (O : Int) _ _ _ (keep q10 hb)
          have HC1 := bContains_any V 17 #[.pointer (some ⟨W1.heap.size, 0, none⟩)] fo fn fc z.free (ordGe (O : Int)) hz.free fullF1_call hH1
          clear hH1
          go_wp2_with fail
          go_at_call 16
          refine HC1.mono ?_
          rintro e v1 ⟨rfl, hv1⟩
          have hz1 := hz.below hv1
          have cA1 := keep cA hv1
          have q10' := keep q10 hv1
          have q2' := keep q2 hv1
          have SV2 := SV.trans (hv1.mono SV.size)
          have hH2 : HoldsB 18 #[.pointer (some ⟨bB, 0, none⟩), .pointer (some ⟨W1.heap.size, 0, none⟩)] z.free (inAt a (O : Int)) v1 := fun i hi W hb => by
            obtain ⟨r1, r2, r3, _⟩ := (freeOk_at hZ.may.free hi rfl).1
            have := hZ.f
            have := hZ.t
            exact fullF2_any W _ _ a (O : Int) _ _ _ (keep cA1 hb) (keep q10' hb) oO r1 (by omega) (by omega) (by omega) (by omega)
          have HC2 := bContains_any v1 18 #[.pointer (some ⟨bB, 0, none⟩), .pointer (some ⟨W1.heap.size, 0, none⟩)] fo fn fc z.free (inAt a (O : Int)) hz1.free fullF2_call hH2
          rw [HF1.out]
          clear hH2 HC1
          go_wp2_with fail
          go_at_call 16
          refine HC2.mono ?_
          rintro e v2 ⟨rfl, hv2⟩
          have BF := hB2.trans ((SV2.trans (hv2.mono SV2.size)).mono hB2.size)
          rw [HF2.out]
          clear HC2
          go_wp2
          go_ret
          exact ⟨rfl, BF⟩
      · go_simp
        have hb2 := below_box X1 (.cells #[.int .i64 0, .int .i64 0, .slice none 0 0, .slice none 0 0] 26)
        have S12 := S11.trans (hb2.mono S11.size)
        have rA := (zbox_new X1 (.int .i64 0) (.int .i64 0) (.slice none 0 0) (.slice none 0 0) 26).res
        have lA := S11.size
        replace rB := rB.below hb2
        have hAB : bB ≠ X1.heap.size := by have := lB2; omega
        obtain ⟨X2, hX2⟩ : ∃ X, X1.alloc (.cells #[.int .i64 0, .int .i64 0, .slice none 0 0, .slice none 0 0] 26) = X := ⟨_, rfl⟩
        rw [hX2] at S12 rA hb2 rB ⊢
        clear hX2 hb2
        generalize X1.heap.size = bA at rA lA hAB ⊢
        refine hK2 _ _ S12 ?_
        try simp only [Act.put, List.setIfInBounds_toArray, List.set_cons_zero, List.set_cons_succ]
        refine oneH 3 (by kernel_rfl) rfl rfl (fun K3 hK3 => ?_)
        go_simp
        refine (picked_fn t 3 3 rfl wt (by omega) (by omega) _).mono ?_
        rintro e wq ⟨rfl, rfl⟩
        rw [HT2.out]
        refine hK3 _ _ S12 ?_
        try simp only [Act.put, List.setIfInBounds_toArray, List.set_cons_zero, List.set_cons_succ]
        refine oneH 4 (by kernel_rfl) rfl rfl (fun K4 hK4 => ?_)
        go_simp
        refine (HTk.out _ S12).mono ?_
        rintro e wA ⟨⟨fo', fn', fc', to', tn', tc', rfl, _, _, _⟩, hbA⟩
        have SA := S12.trans (hbA.mono S12.size)
        replace rA := rA.below hbA
        replace rB := rB.below hbA
        refine hK4 _ _ SA ?_
        try simp only [Act.put, List.setIfInBounds_toArray, List.set_cons_zero, List.set_cons_succ]
        refine takeH 5 (v := .tuple #[.agg #[.int .i64 Y.f, .int .i64 Y.t, .slice fo' fn' fc', .slice to' tn' tc'], .int .i64 a, .int .i64 0]) rfl (by kernel_rfl) (by kernel_rfl) (by kernel_rfl) (fun _ _ _ h => h) rfl (fun wx hSx => ?_) SA ?_
        · go_simp
        try simp only [Act.put, List.setIfInBounds_toArray, List.set_cons_zero, List.set_cons_succ]
        refine takeH 6 (v := .agg #[.int .i64 Y.f, .int .i64 Y.t, .slice fo' fn' fc', .slice to' tn' tc']) rfl (by kernel_rfl) (by kernel_rfl) (by kernel_rfl) (fun _ _ _ h => h) rfl (fun wx hSx => ?_) SA ?_
        · go_simp
        try simp only [Act.put, List.setIfInBounds_toArray, List.set_cons_zero, List.set_cons_succ]
        refine takeH 7 (v := .int .i64 a) rfl (by kernel_rfl) (by kernel_rfl) (by kernel_rfl) (fun _ _ _ h => h) rfl (fun wx hSx => ?_) SA ?_
        · go_simp
        try simp only [Act.put, List.setIfInBounds_toArray, List.set_cons_zero, List.set_cons_succ]
        refine takeH 8 (v := .int .i64 0) rfl (by kernel_rfl) (by kernel_rfl) (by kernel_rfl) (fun _ _ _ h => h) rfl (fun wx hSx => ?_) SA ?_
        · go_simp
        try simp only [Act.put, List.setIfInBounds_toArray, List.set_cons_zero, List.set_cons_succ]
        refine oneH 11 (by kernel_rfl) rfl rfl (fun L1 hL1 => ?_)
        obtain ⟨⟨_, d0⟩, ⟨_, d1⟩, ⟨_, d2⟩, ⟨_, d3⟩, g0, g1, g2, g3⟩ := id rA
        go_simp
        have bt1 := but4 wA bA (.int .i64 Y.f) (.int .i64 Y.t) (.slice fo' fn' fc') (.slice to' tn' tc')
        have SV1 := SA.trans (bt1.below lA SA.size)
        have rB1 : Res1 _ bB := rB.but bt1 hAB
        obtain ⟨V1, hV1⟩ : ∃ V1, (((wA.setCell ⟨bA, 0, none⟩ (.int .i64 Y.f)).setCell ⟨bA, 1, none⟩ (.int .i64 Y.t)).setCell ⟨bA, 2, none⟩ (.slice fo' fn' fc')).setCell ⟨bA, 3, none⟩ (.slice to' tn' tc') = V1 := ⟨_, rfl⟩
        rw [hV1] at SV1 rB1 ⊢
        clear hV1 bt1 d0 d1 d2 d3 g0 g1 g2 g3 rA rB
        refine hL1 _ _ SV1 ?_
        try simp only [Act.put, List.setIfInBounds_toArray, List.set_cons_zero, List.set_cons_succ]
        refine oneH 12 (by kernel_rfl) rfl rfl (fun L2 hL2 => ?_)
        obtain ⟨⟨_, d0⟩, g0⟩ := id rB1
        go_simp
        have bt2 : But bB V1 (V1.setCell ⟨bB, 0, none⟩ (.int .i64 a)) := (But.refl _ _).setCell _
        have SV := SV1.trans (bt2.below lB SV1.size)
        have cA : (V1.setCell ⟨bB, 0, none⟩ (.int .i64 a)).cell? ⟨bB, 0, none⟩ = some (.int .i64 a) := World.cell?_setCell_same _ _ _ d0
        obtain ⟨V, hV⟩ : ∃ V, V1.setCell ⟨bB, 0, none⟩ (.int .i64 a) = V := ⟨_, rfl⟩
        rw [hV] at SV cA ⊢
        clear hV bt2 d0 g0 rB1 SV1
        refine hL2 _ _ SV ?_
        try simp only [Act.put, List.setIfInBounds_toArray, List.set_cons_zero, List.set_cons_succ]
        refine wpAnyH_done (by kernel_rfl) ?_ _
        show Oper.wp _ _ _ _ _ _
        have hz := z2.below SV
        have q2 := keep c2 SV
        have q10 := keep c10 SV
        have hH1 : HoldsB 17 #[.pointer (some ⟨W1.heap.size, 0, none⟩)] z.free (ordGe (O : Int)) V := fun i hi W hb => fullF1_any W _ (O : Int) _ _ _ (keep q10 hb)
        have HC1 := bContains_any V 17 #[.pointer (some ⟨W1.heap.size, 0, none⟩)] fo fn fc z.free (ordGe (O : Int)) hz.free fullF1_call hH1
        clear hH1
        go_wp2_with fail
        go_at_call 16
        refine HC1.mono ?_
        rintro e v1 ⟨rfl, hv1⟩
        have hz1 := hz.below hv1
        have cA1 := keep cA hv1
        have q10' := keep q10 hv1
        have q2' := keep q2 hv1
        have SV2 := SV.trans (hv1.mono SV.size)
        have hH2 : HoldsB 18 #[.pointer (some ⟨bB, 0, none⟩), .pointer (some ⟨W1.heap.size, 0, none⟩)] z.free (inAt a (O : Int)) v1 := fun i hi W hb => by
          obtain ⟨r1, r2, r3, _⟩ := (freeOk_at hZ.may.free hi rfl).1
          have := hZ.f
          have := hZ.t
          exact fullF2_any W _ _ a (O : Int) _ _ _ (keep cA1 hb) (keep q10' hb) oO r1 (by omega) (by omega) (by omega) (by omega)
        have HC2 := bContains_any v1 18 #[.pointer (some ⟨bB, 0, none⟩), .pointer (some ⟨W1.heap.size, 0, none⟩)] fo fn fc z.free (inAt a (O : Int)) hz1.free fullF2_call hH2
        rw [HF1.out]
        clear hH2 HC1
        go_wp2_with fail
        go_at_call 16
        refine HC2.mono ?_
        rintro e v2 ⟨rfl, hv2⟩
        have BF := hB2.trans ((SV2.trans (hv2.mono SV2.size)).mono hB2.size)
        rw [HF2.out]
        clear HC2
        go_wp2
        go_ret
        exact ⟨rfl, BF⟩
  · have HF1 : Hid (z.free.any (ordGe (O : Int)) = false) := by
      show _ = _
      rw [List.any_eq_false]
      intro b hb g
      exact hC (hiff.2 ⟨b, hb, of_decide_eq_true g⟩)
    have HTk : Hid (∀ V, Below W2.heap.size W2 V → Calls Tryd.prog 15 #[.agg #[.int .i64 z.f, .int .i64 z.t, .slice fo fn fc, .slice to_ tn tc], .int .i64 (O : Int), .int .i64 (T : Int)] V fun e w' => RetNone3 6 e ∧ Below V.heap.size V w') := fun V hV =>
      zTake_room V fo fn fc to_ tn tc z (O : Int) (T : Int) (z2.below hV) hZ.may (hT2.below hV) oO oT (by omega)
    clear hC hiff
    go_wp2_with (rw [HW2.out])
    refine wp_region_peel (S := fun wx => Below W2.heap.size W2 wx) 13 _ (by kernel_rfl) (by kernel_rfl) rfl ?_
    simp only [List.take_succ_cons, List.take_zero]
    generalize ({ W2 with drawn := W2.drawn + 1 } : World) = Wd at S1 ⊢
    refine takeH 0 (v := .agg #[.int .i64 z.f, .int .i64 z.t, .slice fo fn fc, .slice to_ tn tc]) rfl (by kernel_rfl) (by kernel_rfl) (by kernel_rfl) (fun _ _ _ h => h) rfl (fun wx hSx => ?_) S1 ?_
    · go_simp
    try simp only [Act.put, List.setIfInBounds_toArray, List.set_cons_zero, List.set_cons_succ]
    refine takeH 1 (v := .int .i64 (O : Int)) rfl (by kernel_rfl) (by kernel_rfl) (by kernel_rfl) (fun _ _ _ h => h) rfl (fun wx hSx => ?_) S1 ?_
    · go_simp
    try simp only [Act.put, List.setIfInBounds_toArray, List.set_cons_zero, List.set_cons_succ]
    refine takeH 2 (v := .int .i64 t) rfl (by kernel_rfl) (by kernel_rfl) (by kernel_rfl) (fun _ _ _ h => h) rfl (fun wx hSx => ?_) S1 ?_
    · go_simp
    try simp only [Act.put, List.setIfInBounds_toArray, List.set_cons_zero, List.set_cons_succ]
    refine threeH 3 9 10 (by kernel_rfl) rfl rfl rfl rfl rfl rfl (fun K1 hK1 => ?_) (fun K1 hK1 => ?_) (fun K1 hK1 => ?_)
    · go_simp
      refine (picked_fn t 3 3 rfl wt (by omega) (by omega) _).mono ?_
      rintro e wq ⟨rfl, rfl⟩
      rw [HT2.out]
      refine hK1 _ _ S1 ?_
      try simp only [Act.put, List.setIfInBounds_toArray, List.set_cons_zero, List.set_cons_succ]
      refine threeH 4 9 10 (by kernel_rfl) rfl rfl rfl rfl rfl rfl (fun K2 hK2 => ?_) (fun K2 hK2 => ?_) (fun K2 hK2 => ?_)
      · go_simp
        refine (HTk.out _ S1).mono ?_
        rintro e wA ⟨hE, hbA⟩
        obtain rfl := hE
        have SA := S1.trans (hbA.mono S1.size)
        refine hK2 _ _ SA ?_
        try simp only [Act.put, List.setIfInBounds_toArray, List.set_cons_zero, List.set_cons_succ]
        refine takeH 5 (v := .tuple #[.agg #[.int .i64 0, .int .i64 0, .slice none 0 0, .slice none 0 0], .int .i64 0, .int .i64 6]) rfl (by kernel_rfl) (by kernel_rfl) (by kernel_rfl) (fun _ _ _ h => h) rfl (fun wx hSx => ?_) SA ?_
        · go_simp
        try simp only [Act.put, List.setIfInBounds_toArray, List.set_cons_zero, List.set_cons_succ]
        refine takeH 6 (v := .agg #[.int .i64 0, .int .i64 0, .slice none 0 0, .slice none 0 0]) rfl (by kernel_rfl) (by kernel_rfl) (by kernel_rfl) (fun _ _ _ h => h) rfl (fun wx hSx => ?_) SA ?_
        · go_simp
        try simp only [Act.put, List.setIfInBounds_toArray, List.set_cons_zero, List.set_cons_succ]
        refine takeH 7 (v := .int .i64 0) rfl (by kernel_rfl) (by kernel_rfl) (by kernel_rfl) (fun _ _ _ h => h) rfl (fun wx hSx => ?_) SA ?_
        · go_simp
        try simp only [Act.put, List.setIfInBounds_toArray, List.set_cons_zero, List.set_cons_succ]
        refine takeH 8 (v := .int .i64 6) rfl (by kernel_rfl) (by kernel_rfl) (by kernel_rfl) (fun _ _ _ h => h) rfl (fun wx hSx => ?_) SA ?_
        · go_simp
        try simp only [Act.put, List.setIfInBounds_toArray, List.set_cons_zero, List.set_cons_succ]
        refine twoH 9 10 (by kernel_rfl) rfl rfl rfl rfl (fun K3 hK3 => ?_) (fun K3 hK3 => ?_)
        · go_simp
          have hb3 := below_box wA (.cells #[.int .i64 0, .int .i64 0, .slice none 0 0, .slice none 0 0] 26)
          have S13 := SA.trans (hb3.mono SA.size)
          have rA := (zbox_new wA (.int .i64 0) (.int .i64 0) (.slice none 0 0) (.slice none 0 0) 26).res
          have lA := SA.size
          have lA2 : wA.heap.size < (wA.alloc (.cells #[.int .i64 0, .int .i64 0, .slice none 0 0, .slice none 0 0] 26)).heap.size := by simp
          obtain ⟨X3, hX3⟩ : ∃ X, wA.alloc (.cells #[.int .i64 0, .int .i64 0, .slice none 0 0, .slice none 0 0] 26) = X := ⟨_, rfl⟩
          rw [hX3] at S13 rA hb3 lA2 ⊢
          clear hX3 hb3
          generalize wA.heap.size = bA at rA lA lA2 ⊢
          refine hK3 _ _ S13 ?_
          try simp only [Act.put, List.setIfInBounds_toArray, List.set_cons_zero, List.set_cons_succ]
          refine oneH 10 (by kernel_rfl) rfl rfl (fun K4 hK4 => ?_)
          go_simp
          have hb4 := below_box X3 (.cells #[.int .i64 0] 3)
          have S14 := S13.trans (hb4.mono S13.size)
          have rB : Res1 (X3.alloc (.cells #[.int .i64 0] 3)) X3.heap.size := ⟨⟨.int .i64 0, by simp⟩, by simp⟩
          have lB := S13.size
          replace rA := rA.below hb4
          have hAB : X3.heap.size ≠ bA := by have := lA2; omega
          obtain ⟨X4, hX4⟩ : ∃ X, X3.alloc (.cells #[.int .i64 0] 3) = X := ⟨_, rfl⟩
          rw [hX4] at S14 rB hb4 rA ⊢
          clear hX4 hb4
          generalize X3.heap.size = bB at rB lB hAB ⊢
          refine hK4 _ _ S14 ?_
          try simp only [Act.put, List.setIfInBounds_toArray, List.set_cons_zero, List.set_cons_succ]
          refine oneH 11 (by kernel_rfl) rfl rfl (fun L1 hL1 => ?_)
          obtain ⟨⟨_, d0⟩, ⟨_, d1⟩, ⟨_, d2⟩, ⟨_, d3⟩, g0, g1, g2, g3⟩ := id rA
          go_simp
          have bt1 := but4 X4 bA (.int .i64 0) (.int .i64 0) (.slice none 0 0) (.slice none 0 0)
          have SV1 := S14.trans (bt1.below lA S14.size)
          have rB1 : Res1 _ bB := rB.but bt1 hAB
          obtain ⟨V1, hV1⟩ : ∃ V1, (((X4.setCell ⟨bA, 0, none⟩ (.int .i64 0)).setCell ⟨bA, 1, none⟩ (.int .i64 0)).setCell ⟨bA, 2, none⟩ (.slice none 0 0)).setCell ⟨bA, 3, none⟩ (.slice none 0 0) = V1 := ⟨_, rfl⟩
          rw [hV1] at SV1 rB1 ⊢
          clear hV1 bt1 d0 d1 d2 d3 g0 g1 g2 g3 rA rB
          refine hL1 _ _ SV1 ?_
          try simp only [Act.put, List.setIfInBounds_toArray, List.set_cons_zero, List.set_cons_succ]
          refine oneH 12 (by kernel_rfl) rfl rfl (fun L2 hL2 => ?_)
          obtain ⟨⟨_, d0⟩, g0⟩ := id rB1
          go_simp
          have bt2 : But bB V1 (V1.setCell ⟨bB, 0, none⟩ (.int .i64 0)) := (But.refl _ _).setCell _
          have SV := SV1.trans (bt2.below lB SV1.size)
          have cA : (V1.setCell ⟨bB, 0, none⟩ (.int .i64 0)).cell? ⟨bB, 0, none⟩ = some (.int .i64 0) := World.cell?_setCell_same _ _ _ d0
          obtain ⟨V, hV⟩ : ∃ V, V1.setCell ⟨bB, 0, none⟩ (.int .i64 0) = V := ⟨_, rfl⟩
          rw [hV] at SV cA ⊢
          clear hV bt2 d0 g0 rB1 SV1
          refine hL2 _ _ SV ?_
          try simp only [Act.put, List.setIfInBounds_toArray, List.set_cons_zero, List.set_cons_succ]
          refine wpAnyH_done (by kernel_rfl) ?_ _
          show Oper.wp _ _ _ _ _ _
          have hz := z2.below SV
          have q2 := keep c2 SV
          have q10 := keep c10 SV
          have hH1 : HoldsB 17 #[.pointer (some ⟨W1.heap.size, 0, none⟩)] z.free (ordGe (O : Int)) V := fun i hi W hb => fullF1_any W _ (O : Int) _ _ _ (keep q10 hb)
          have HC1 := bContains_any V 17 #[.pointer (some ⟨W1.heap.size, 0, none⟩)] fo fn fc z.free (ordGe (O : Int)) hz.free fullF1_call hH1
          clear hH1
          go_wp2_with fail
          go_at_call 16
          refine HC1.mono ?_
          rintro e v1 ⟨rfl, hv1⟩
          have hz1 := hz.below hv1
          have cA1 := keep cA hv1
          have q10' := keep q10 hv1
          have q2' := keep q2 hv1
          have SV2 := SV.trans (hv1.mono SV.size)
          have hH2 : HoldsB 18 #[.pointer (some ⟨bB, 0, none⟩), .pointer (some ⟨W1.heap.size, 0, none⟩)] z.free (inAt 0 (O : Int)) v1 := fun i hi W hb => by
            obtain ⟨r1, r2, r3, _⟩ := (freeOk_at hZ.may.free hi rfl).1
            have := hZ.f
            have := hZ.t
            exact fullF2_any W _ _ 0 (O : Int) _ _ _ (keep cA1 hb) (keep q10' hb) oO r1 (by omega) (by omega) (by omega) (by omega)
          have HC2 := bContains_any v1 18 #[.pointer (some ⟨bB, 0, none⟩), .pointer (some ⟨W1.heap.size, 0, none⟩)] fo fn fc z.free (inAt 0 (O : Int)) hz1.free fullF2_call hH2
          rw [HF1.out]
          clear hH2 HC1
          go_wp2_with fail
          go_at_call 16
          refine HC2.mono ?_
          rintro e v2 ⟨rfl, hv2⟩
          have BF := hB2.trans ((SV2.trans (hv2.mono SV2.size)).mono hB2.size)
          generalize z.free.any (inAt 0 (O : Int)) = A2
          clear HC2
          go_wp2
          go_ret
          exact ⟨rfl, BF⟩
        · go_simp
          have hb3 := below_box wA (.cells #[.int .i64 0] 3)
          have S13 := SA.trans (hb3.mono SA.size)
          have rB : Res1 (wA.alloc (.cells #[.int .i64 0] 3)) wA.heap.size := ⟨⟨.int .i64 0, by simp⟩, by simp⟩
          have lB := SA.size
          have lB2 : wA.heap.size < (wA.alloc (.cells #[.int .i64 0] 3)).heap.size := by simp
          obtain ⟨X3, hX3⟩ : ∃ X, wA.alloc (.cells #[.int .i64 0] 3) = X := ⟨_, rfl⟩
          rw [hX3] at S13 rB hb3 lB2 ⊢
          clear hX3 hb3
          generalize wA.heap.size = bB at rB lB lB2 ⊢
          refine hK3 _ _ S13 ?_
          try simp only [Act.put, List.setIfInBounds_toArray, List.set_cons_zero, List.set_cons_succ]
          refine oneH 9 (by kernel_rfl) rfl rfl (fun K4 hK4 => ?_)
          go_simp
          have hb4 := below_box X3 (.cells #[.int .i64 0, .int .i64 0, .slice none 0 0, .slice none 0 0] 26)
          have S14 := S13.trans (hb4.mono S13.size)
          have rA := (zbox_new X3 (.int .i64 0) (.int .i64 0) (.slice none 0 0) (.slice none 0 0) 26).res
          have lA := S13.size
          replace rB := rB.below hb4
          have hAB : bB ≠ X3.heap.size := by have := lB2; omega
          obtain ⟨X4, hX4⟩ : ∃ X, X3.alloc (.cells #[.int .i64 0, .int .i64 0, .slice none 0 0, .slice none 0 0] 26) = X := ⟨_, rfl⟩
          rw [hX4] at S14 rA hb4 rB ⊢
          clear hX4 hb4
          generalize X3.heap.size = bA at rA lA hAB ⊢
          refine hK4 _ _ S14 ?_
          try simp only [Act.put, List.setIfInBounds_toArray, List.set_cons_zero, List.set_cons_succ]
          refine oneH 11 (by kernel_rfl) rfl rfl (fun L1 hL1 => ?_)
          obtain ⟨⟨_, d0⟩, ⟨_, d1⟩, ⟨_, d2⟩, ⟨_, d3⟩, g0, g1, g2, g3⟩ := id rA
          go_simp
          have bt1 := but4 X4 bA (.int .i64 0) (.int .i64 0) (.slice none 0 0) (.slice none 0 0)
          have SV1 := S14.trans (bt1.below lA S14.size)
          have rB1 : Res1 _ bB := rB.but bt1 hAB
          obtain ⟨V1, hV1⟩ : ∃ V1, (((X4.setCell ⟨bA, 0, none⟩ (.int .i64 0)).setCell ⟨bA, 1, none⟩ (.int .i64 0)).setCell ⟨bA, 2, none⟩ (.slice none 0 0)).setCell ⟨bA, 3, none⟩ (.slice none 0 0) = V1 := ⟨_, rfl⟩
          rw [hV1] at SV1 rB1 ⊢
          clear hV1 bt1 d0 d1 d2 d3 g0 g1 g2 g3 rA rB
          refine hL1 _ _ SV1 ?_
          try simp only [Act.put, List.setIfInBounds_toArray, List.set_cons_zero, List.set_cons_succ]
          refine oneH 12 (by kernel_rfl) rfl rfl (fun L2 hL2 => ?_)
          obtain ⟨⟨_, d0⟩, g0⟩ := id rB1
          go_simp
          have bt2 : But bB V1 (V1.setCell ⟨bB, 0, none⟩ (.int .i64 0)) := (But.refl _ _).setCell _
          have SV := SV1.trans (bt2.below lB SV1.size)
          have cA : (V1.setCell ⟨bB, 0, none⟩ (.int .i64 0)).cell? ⟨bB, 0, none⟩ = some (.int .i64 0) := World.cell?_setCell_same _ _ _ d0
          obtain ⟨V, hV⟩ : ∃ V, V1.setCell ⟨bB, 0, none⟩ (.int .i64 0) = V := ⟨_, rfl⟩
          rw [hV] at SV cA ⊢
          clear hV bt2 d0 g0 rB1 SV1
          refine hL2 _ _ SV ?_
          try simp only [Act.put, List.setIfInBounds_toArray, List.set_cons_zero, List.set_cons_succ]
          refine wpAnyH_done (by kernel_rfl) ?_ _
          show Oper.wp _ _ _ _ _ _
          have hz := z2.below SV
          have q2 := keep c2 SV
          have q10 := keep c10 SV
          have hH1 : HoldsB 17 #[.pointer (some ⟨W1.heap.size, 0, none⟩)] z.free (ordGe (O : Int)) V := fun i hi W hb => fullF1_any W _ (O : Int) _ _ _ (keep q10 hb)
          have HC1 := bContains_any V 17 #[.pointer (some ⟨W1.heap.size, 0, none⟩)] fo fn fc z.free (ordGe (O : Int)) hz.free fullF1_call hH1
          clear hH1
          go_wp2_with fail
          go_at_call 16
          refine HC1.mono ?_
          rintro e v1 ⟨rfl, hv1⟩
          have hz1 := hz.below hv1
          have cA1 := keep cA hv1
          have q10' := keep q10 hv1
          have q2' := keep q2 hv1
          have SV2 := SV.trans (hv1.mono SV.size)
          have hH2 : HoldsB 18 #[.pointer (some ⟨bB, 0, none⟩), .pointer (some ⟨W1.heap.size, 0, none⟩)] z.free (inAt 0 (O : Int)) v1 := fun i hi W hb => by
            obtain ⟨r1, r2, r3, _⟩ := (freeOk_at hZ.may.free hi rfl).1
            have := hZ.f
            have := hZ.t
            exact fullF2_any W _ _ 0 (O : Int) _ _ _ (keep cA1 hb) (keep q10' hb) oO r1 (by omega) (by omega) (by omega) (by omega)
          have HC2 := bContains_any v1 18 #[.pointer (some ⟨bB, 0, none⟩), .pointer (some ⟨W1.heap.size, 0, none⟩)] fo fn fc z.free (inAt 0 (O : Int)) hz1.free fullF2_call hH2
          rw [HF1.out]
          clear hH2 HC1
          go_wp2_with fail
          go_at_call 16
          refine HC2.mono ?_
          rintro e v2 ⟨rfl, hv2⟩
          have BF := hB2.trans ((SV2.trans (hv2.mono SV2.size)).mono hB2.size)
          generalize z.free.any (inAt 0 (O : Int)) = A2
          clear HC2
          go_wp2
          go_ret
          exact ⟨rfl, BF⟩
      · go_simp
        have hb2 := below_box Wd (.cells #[.int .i64 0, .int .i64 0, .slice none 0 0, .slice none 0 0] 26)
        have S12 := S1.trans (hb2.mono S1.size)
        have rA := (zbox_new Wd (.int .i64 0) (.int .i64 0) (.slice none 0 0) (.slice none 0 0) 26).res
        have lA := S1.size
        have lA2 : Wd.heap.size < (Wd.alloc (.cells #[.int .i64 0, .int .i64 0, .slice none 0 0, .slice none 0 0] 26)).heap.size := by simp
        obtain ⟨X2, hX2⟩ : ∃ X, Wd.alloc (.cells #[.int .i64 0, .int .i64 0, .slice none 0 0, .slice none 0 0] 26) = X := ⟨_, rfl⟩
        rw [hX2] at S12 rA hb2 lA2 ⊢
        clear hX2 hb2
        generalize Wd.heap.size = bA at rA lA lA2 ⊢
        refine hK2 _ _ S12 ?_
        try simp only [Act.put, List.setIfInBounds_toArray, List.set_cons_zero, List.set_cons_succ]
        refine twoH 4 10 (by kernel_rfl) rfl rfl rfl rfl (fun K3 hK3 => ?_) (fun K3 hK3 => ?_)
        · go_simp
          refine (HTk.out _ S12).mono ?_
          rintro e wA ⟨hE, hbA⟩
          obtain rfl := hE
          have lA3 := hbA.size
          have SA := S12.trans (hbA.mono S12.size)
          replace rA := rA.below hbA
          replace lA2 : bA < wA.heap.size := Nat.lt_of_lt_of_le lA2 lA3
          refine hK3 _ _ SA ?_
          try simp only [Act.put, List.setIfInBounds_toArray, List.set_cons_zero, List.set_cons_succ]
          refine takeH 5 (v := .tuple #[.agg #[.int .i64 0, .int .i64 0, .slice none 0 0, .slice none 0 0], .int .i64 0, .int .i64 6]) rfl (by kernel_rfl) (by kernel_rfl) (by kernel_rfl) (fun _ _ _ h => h) rfl (fun wx hSx => ?_) SA ?_
          · go_simp
          try simp only [Act.put, List.setIfInBounds_toArray, List.set_cons_zero, List.set_cons_succ]
          refine takeH 6 (v := .agg #[.int .i64 0, .int .i64 0, .slice none 0 0, .slice none 0 0]) rfl (by kernel_rfl) (by kernel_rfl) (by kernel_rfl) (fun _ _ _ h => h) rfl (fun wx hSx => ?_) SA ?_
          · go_simp
          try simp only [Act.put, List.setIfInBounds_toArray, List.set_cons_zero, List.set_cons_succ]
          refine takeH 7 (v := .int .i64 0) rfl (by kernel_rfl) (by kernel_rfl) (by kernel_rfl) (fun _ _ _ h => h) rfl (fun wx hSx => ?_) SA ?_
          · go_simp
          try simp only [Act.put, List.setIfInBounds_toArray, List.set_cons_zero, List.set_cons_succ]
          refine takeH 8 (v := .int .i64 6) rfl (by kernel_rfl) (by kernel_rfl) (by kernel_rfl) (fun _ _ _ h => h) rfl (fun wx hSx => ?_) SA ?_
          · go_simp
          try simp only [Act.put, List.setIfInBounds_toArray, List.set_cons_zero, List.set_cons_succ]
          refine oneH 10 (by kernel_rfl) rfl rfl (fun K4 hK4 => ?_)
          go_simp
          have hb4 := below_box wA (.cells #[.int .i64 0] 3)
          have S14 := SA.trans (hb4.mono SA.size)
          have rB : Res1 (wA.alloc (.cells #[.int .i64 0] 3)) wA.heap.size := ⟨⟨.int .i64 0, by simp⟩, by simp⟩
          have lB := SA.size
          replace rA := rA.below hb4
          have hAB : wA.heap.size ≠ bA := by have := lA2; omega
          obtain ⟨X4, hX4⟩ : ∃ X, wA.alloc (.cells #[.int .i64 0] 3) = X := ⟨_, rfl⟩
          rw [hX4] at S14 rB hb4 rA ⊢
          clear hX4 hb4
          generalize wA.heap.size = bB at rB lB hAB ⊢
          refine hK4 _ _ S14 ?_
          try simp only [Act.put, List.setIfInBounds_toArray, List.set_cons_zero, List.set_cons_succ]
          refine oneH 11 (by kernel_rfl) rfl rfl (fun L1 hL1 => ?_)
          obtain ⟨⟨_, d0⟩, ⟨_, d1⟩, ⟨_, d2⟩, ⟨_, d3⟩, g0, g1, g2, g3⟩ := id rA
          go_simp
          have bt1 := but4 X4 bA (.int .i64 0) (.int .i64 0) (.slice none 0 0) (.slice none 0 0)
          have SV1 := S14.trans (bt1.below lA S14.size)
          have rB1 : Res1 _ bB := rB.but bt1 hAB
          obtain ⟨V1, hV1⟩ : ∃ V1, (((X4.setCell ⟨bA, 0, none⟩ (.int .i64 0)).setCell ⟨bA, 1, none⟩ (.int .i64 0)).setCell ⟨bA, 2, none⟩ (.slice none 0 0)).setCell ⟨bA, 3, none⟩ (.slice none 0 0) = V1 := ⟨_, rfl⟩
          rw [hV1] at SV1 rB1 ⊢
          clear hV1 bt1 d0 d1 d2 d3 g0 g1 g2 g3 rA rB
          refine hL1 _ _ SV1 ?_
          try simp only [Act.put, List.setIfInBounds_toArray, List.set_cons_zero, List.set_cons_succ]
          refine oneH 12 (by kernel_rfl) rfl rfl (fun L2 hL2 => ?_)
          obtain ⟨⟨_, d0⟩, g0⟩ := id rB1
          go_simp
          have bt2 : But bB V1 (V1.setCell ⟨bB, 0, none⟩ (.int .i64 0)) := (But.refl _ _).setCell _
          have SV := SV1.trans (bt2.below lB SV1.size)
          have cA : (V1.setCell ⟨bB, 0, none⟩ (.int .i64 0)).cell? ⟨bB, 0, none⟩ = some (.int .i64 0) := World.cell?_setCell_same _ _ _ d0
          obtain ⟨V, hV⟩ : ∃ V, V1.setCell ⟨bB, 0, none⟩ (.int .i64 0) = V := ⟨_, rfl⟩
          rw [hV] at SV cA ⊢
          clear hV bt2 d0 g0 rB1 SV1
          refine hL2 _ _ SV ?_
          try simp only [Act.put, List.setIfInBounds_toArray, List.set_cons_zero, List.set_cons_succ]
          refine wpAnyH_done (by kernel_rfl) ?_ _
          show Oper.wp _ _ _ _ _ _
          have hz := z2.below SV
          have q2 := keep c2 SV
          have q10 := keep c10 SV
          have hH1 : HoldsB 17 #[.pointer (some ⟨W1.heap.size, 0, none⟩)] z.free (ordGe (O : Int)) V := fun i hi W hb => fullF1_any W _ (O : Int) _ _ _ (keep q10 hb)
          have HC1 := bContains_any V 17 #[.pointer (some ⟨W1.heap.size, 0, none⟩)] fo fn fc z.free (ordGe (O : Int)) hz.free fullF1_call hH1
          clear hH1
          go_wp2_with fail
          go_at_call 16
          refine HC1.mono ?_
          rintro e v1 ⟨rfl, hv1⟩
          have hz1 := hz.below hv1
          have cA1 := keep cA hv1
          have q10' := keep q10 hv1
          have q2' := keep q2 hv1
          have SV2 := SV.trans (hv1.mono SV.size)
          have hH2 : HoldsB 18 #[.pointer (some ⟨bB, 0, none⟩), .pointer (some ⟨W1.heap.size, 0, none⟩)] z.free (inAt 0 (O : Int)) v1 := fun i hi W hb => by
            obtain ⟨r1, r2, r3, _⟩ := (freeOk_at hZ.may.free hi rfl).1
            have := hZ.f
            have := hZ.t
            exact fullF2_any W _ _ 0 (O : Int) _ _ _ (keep cA1 hb) (keep q10' hb) oO r1 (by omega) (by omega) (by omega) (by omega)
          have HC2 := bContains_any v1 18 #[.pointer (some ⟨bB, 0, none⟩), .pointer (some ⟨W1.heap.size, 0, none⟩)] fo fn fc z.free (inAt 0 (O : Int)) hz1.free fullF2_call hH2
          rw [HF1.out]
          clear hH2 HC1
          go_wp2_with fail
          go_at_call 16
          refine HC2.mono ?_
          rintro e v2 ⟨rfl, hv2⟩
          have BF := hB2.trans ((SV2.trans (hv2.mono SV2.size)).mono hB2.size)
          generalize z.free.any (inAt 0 (O : Int)) = A2
          clear HC2
          go_wp2
          go_ret
          exact ⟨rfl, BF⟩
        · go_simp
          have hb3 := below_box X2 (.cells #[.int .i64 0] 3)
          have S13 := S12.trans (hb3.mono S12.size)
          have rB : Res1 (X2.alloc (.cells #[.int .i64 0] 3)) X2.heap.size := ⟨⟨.int .i64 0, by simp⟩, by simp⟩
          have lB := S12.size
          replace rA := rA.below hb3
          have hAB : X2.heap.size ≠ bA := by have := lA2; omega
          obtain ⟨X3, hX3⟩ : ∃ X, X2.alloc (.cells #[.int .i64 0] 3) = X := ⟨_, rfl⟩
          rw [hX3] at S13 rB hb3 rA ⊢
          clear hX3 hb3
          generalize X2.heap.size = bB at rB lB hAB ⊢
          refine hK3 _ _ S13 ?_
          try simp only [Act.put, List.setIfInBounds_toArray, List.set_cons_zero, List.set_cons_succ]
          refine oneH 4 (by kernel_rfl) rfl rfl (fun K4 hK4 => ?_)
          go_simp
          refine (HTk.out _ S13).mono ?_
          rintro e wA ⟨hE, hbA⟩
          obtain rfl := hE
          have SA := S13.trans (hbA.mono S13.size)
          replace rA := rA.below hbA
          replace rB := rB.below hbA
          refine hK4 _ _ SA ?_
          try simp only [Act.put, List.setIfInBounds_toArray, List.set_cons_zero, List.set_cons_succ]
          refine takeH 5 (v := .tuple #[.agg #[.int .i64 0, .int .i64 0, .slice none 0 0, .slice none 0 0], .int .i64 0, .int .i64 6]) rfl (by kernel_rfl) (by kernel_rfl) (by kernel_rfl) (fun _ _ _ h => h) rfl (fun wx hSx => ?_) SA ?_
          · go_simp
          try simp only [Act.put, List.setIfInBounds_toArray, List.set_cons_zero, List.set_cons_succ]
          refine takeH 6 (v := .agg #[.int .i64 0, .int .i64 0, .slice none 0 0, .slice none 0 0]) rfl (by kernel_rfl) (by kernel_rfl) (by kernel_rfl) (fun _ _ _ h => h) rfl (fun wx hSx => ?_) SA ?_
          · go_simp
          try simp only [Act.put, List.setIfInBounds_toArray, List.set_cons_zero, List.set_cons_succ]
          refine takeH 7 (v := .int .i64 0) rfl (by kernel_rfl) (by kernel_rfl) (by kernel_rfl) (fun _ _ _ h => h) rfl (fun wx hSx => ?_) SA ?_
          · go_simp
          try simp only [Act.put, List.setIfInBounds_toArray, List.set_cons_zero, List.set_cons_succ]
          refine takeH 8 (v := .int .i64 6) rfl (by kernel_rfl) (by kernel_rfl) (by kernel_rfl) (fun _ _ _ h => h) rfl (fun wx hSx => ?_) SA ?_
          · go_simp
          try simp only [Act.put, List.setIfInBounds_toArray, List.set_cons_zero, List.set_cons_succ]
          refine oneH 11 (by kernel_rfl) rfl rfl (fun L1 hL1 => ?_)
          obtain ⟨⟨_, d0⟩, ⟨_, d1⟩, ⟨_, d2⟩, ⟨_, d3⟩, g0, g1, g2, g3⟩ := id rA
          go_simp
          have bt1 := but4 wA bA (.int .i64 0) (.int .i64 0) (.slice none 0 0) (.slice none 0 0)
          have SV1 := SA.trans (bt1.below lA SA.size)
          have rB1 : Res1 _ bB := rB.but bt1 hAB
          obtain ⟨V1, hV1⟩ : ∃ V1, (((wA.setCell ⟨bA, 0, none⟩ (.int .i64 0)).setCell ⟨bA, 1, none⟩ (.int .i64 0)).setCell ⟨bA, 2, none⟩ (.slice none 0 0)).setCell ⟨bA, 3, none⟩ (.slice none 0 0) = V1 := ⟨_, rfl⟩
          rw [hV1] at SV1 rB1 ⊢
          clear hV1 bt1 d0 d1 d2 d3 g0 g1 g2 g3 rA rB
          refine hL1 _ _ SV1 ?_
          try simp only [Act.put, List.setIfInBounds_toArray, List.set_cons_zero, List.set_cons_succ]
          refine oneH 12 (by kernel_rfl) rfl rfl (fun L2 hL2 => ?_)
          obtain ⟨⟨_, d0⟩, g0⟩ := id rB1
          go_simp
          have bt2 : But bB V1 (V1.setCell ⟨bB, 0, none⟩ (.int .i64 0)) := (But.refl _ _).setCell _
          have SV := SV1.trans (bt2.below lB SV1.size)
          have cA : (V1.setCell ⟨bB, 0, none⟩ (.int .i64 0)).cell? ⟨bB, 0, none⟩ = some (.int .i64 0) := World.cell?_setCell_same _ _ _ d0
          obtain ⟨V, hV⟩ : ∃ V, V1.setCell ⟨bB, 0, none⟩ (.int .i64 0) = V := ⟨_, rfl⟩
          rw [hV] at SV cA ⊢
          clear hV bt2 d0 g0 rB1 SV1
          refine hL2 _ _ SV ?_
          try simp only [Act.put, List.setIfInBounds_toArray, List.set_cons_zero, List.set_cons_succ]
          refine wpAnyH_done (by kernel_rfl) ?_ _
          show Oper.wp _ _ _ _ _ _
          have hz := z2.below SV
          have q2 := keep c2 SV
          have q10 := keep c10 SV
          have hH1 : HoldsB 17 #[.pointer (some ⟨W1.heap.size, 0, none⟩)] z.free (ordGe (O : Int)) V := fun i hi W hb => fullF1_any W _ (O : Int) _ _ _ (keep q10 hb)
          have HC1 := bContains_any V 17 #[.pointer (some ⟨W1.heap.size, 0, none⟩)] fo fn fc z.free (ordGe (O : Int)) hz.free fullF1_call hH1
          clear hH1
          go_wp2_with fail
          go_at_call 16
          refine HC1.mono ?_
          rintro e v1 ⟨rfl, hv1⟩
          have hz1 := hz.below hv1
          have cA1 := keep cA hv1
          have q10' := keep q10 hv1
          have q2' := keep q2 hv1
          have SV2 := SV.trans (hv1.mono SV.size)
          have hH2 : HoldsB 18 #[.pointer (some ⟨bB, 0, none⟩), .pointer (some ⟨W1.heap.size, 0, none⟩)] z.free (inAt 0 (O : Int)) v1 := fun i hi W hb => by
            obtain ⟨r1, r2, r3, _⟩ := (freeOk_at hZ.may.free hi rfl).1
            have := hZ.f
            have := hZ.t
            exact fullF2_any W _ _ 0 (O : Int) _ _ _ (keep cA1 hb) (keep q10' hb) oO r1 (by omega) (by omega) (by omega) (by omega)
          have HC2 := bContains_any v1 18 #[.pointer (some ⟨bB, 0, none⟩), .pointer (some ⟨W1.heap.size, 0, none⟩)] fo fn fc z.free (inAt 0 (O : Int)) hz1.free fullF2_call hH2
          rw [HF1.out]
          clear hH2 HC1
          go_wp2_with fail
          go_at_call 16
          refine HC2.mono ?_
          rintro e v2 ⟨rfl, hv2⟩
          have BF := hB2.trans ((SV2.trans (hv2.mono SV2.size)).mono hB2.size)
          generalize z.free.any (inAt 0 (O : Int)) = A2
          clear HC2
          go_wp2
          go_ret
          exact ⟨rfl, BF⟩
      · go_simp
        have hb2 := below_box Wd (.cells #[.int .i64 0] 3)
        have S12 := S1.trans (hb2.mono S1.size)
        have rB : Res1 (Wd.alloc (.cells #[.int .i64 0] 3)) Wd.heap.size := ⟨⟨.int .i64 0, by simp⟩, by simp⟩
        have lB := S1.size
        have lB2 : Wd.heap.size < (Wd.alloc (.cells #[.int .i64 0] 3)).heap.size := by simp
        obtain ⟨X2, hX2⟩ : ∃ X, Wd.alloc (.cells #[.int .i64 0] 3) = X := ⟨_, rfl⟩
        rw [hX2] at S12 rB hb2 lB2 ⊢
        clear hX2 hb2
        generalize Wd.heap.size = bB at rB lB lB2 ⊢
        refine hK2 _ _ S12 ?_
        try simp only [Act.put, List.setIfInBounds_toArray, List.set_cons_zero, List.set_cons_succ]
        refine twoH 4 9 (by kernel_rfl) rfl rfl rfl rfl (fun K3 hK3 => ?_) (fun K3 hK3 => ?_)
        · go_simp
          refine (HTk.out _ S12).mono ?_
          rintro e wA ⟨hE, hbA⟩
          obtain rfl := hE
          have lB3 := hbA.size
          have SA := S12.trans (hbA.mono S12.size)
          replace rB := rB.below hbA
          replace lB2 : bB < wA.heap.size := Nat.lt_of_lt_of_le lB2 lB3
          refine hK3 _ _ SA ?_
          try simp only [Act.put, List.setIfInBounds_toArray, List.set_cons_zero, List.set_cons_succ]
          refine takeH 5 (v := .tuple #[.agg #[.int .i64 0, .int .i64 0, .slice none 0 0, .slice none 0 0], .int .i64 0, .int .i64 6]) rfl (by kernel_rfl) (by kernel_rfl) (by kernel_rfl) (fun _ _ _ h => h) rfl (fun wx hSx => ?_) SA ?_
          · go_simp
          try simp only [Act.put, List.setIfInBounds_toArray, List.set_cons_zero, List.set_cons_succ]
          refine takeH 6 (v := .agg #[.int .i64 0, .int .i64 0, .slice none 0 0, .slice none 0 0]) rfl (by kernel_rfl) (by kernel_rfl) (by kernel_rfl) (fun _ _ _ h => h) rfl (fun wx hSx => ?_) SA ?_
          · go_simp
          try simp only [Act.put, List.setIfInBounds_toArray, List.set_cons_zero, List.set_cons_succ]
          refine takeH 7 (v := .int .i64 0) rfl (by kernel_rfl) (by kernel_rfl) (by kernel_rfl) (fun _ _ _ h => h) rfl (fun wx hSx => ?_) SA ?_
          · go_simp
          try simp only [Act.put, List.setIfInBounds_toArray, List.set_cons_zero, List.set_cons_succ]
          refine takeH 8 (v := .int .i64 6) rfl (by kernel_rfl) (by kernel_rfl) (by kernel_rfl) (fun _ _ _ h => h) rfl (fun wx hSx => ?_) SA ?_
          · go_simp
          try simp only [Act.put, List.setIfInBounds_toArray, List.set_cons_zero, List.set_cons_succ]
          refine oneH 9 (by kernel_rfl) rfl rfl (fun K4 hK4 => ?_)
          go_simp
          have hb4 := below_box wA (.cells #[.int .i64 0, .int .i64 0, .slice none 0 0, .slice none 0 0] 26)
          have S14 := SA.trans (hb4.mono SA.size)
          have rA := (zbox_new wA (.int .i64 0) (.int .i64 0) (.slice none 0 0) (.slice none 0 0) 26).res
          have lA := SA.size
          replace rB := rB.below hb4
          have hAB : bB ≠ wA.heap.size := by have := lB2; omega
          obtain ⟨X4, hX4⟩ : ∃ X, wA.alloc (.cells #[.int .i64 0, .int .i64 0, .slice none 0 0, .slice none 0 0] 26) = X := ⟨_, rfl⟩
          rw [hX4] at S14 rA hb4 rB ⊢
          clear hX4 hb4
          generalize wA.heap.size = bA at rA lA hAB ⊢
          refine hK4 _ _ S14 ?_
          try simp only [Act.put, List.setIfInBounds_toArray, List.set_cons_zero, List.set_cons_succ]
          refine oneH 11 (by kernel_rfl) rfl rfl (fun L1 hL1 => ?_)
          obtain ⟨⟨_, d0⟩, ⟨_, d1⟩, ⟨_, d2⟩, ⟨_, d3⟩, g0, g1, g2, g3⟩ := id rA
          go_simp
          have bt1 := but4 X4 bA (.int .i64 0) (.int .i64 0) (.slice none 0 0) (.slice none 0 0)
          have SV1 := S14.trans (bt1.below lA S14.size)
          have rB1 : Res1 _ bB := rB.but bt1 hAB
          obtain ⟨V1, hV1⟩ : ∃ V1, (((X4.setCell ⟨bA, 0, none⟩ (.int .i64 0)).setCell ⟨bA, 1, none⟩ (.int .i64 0)).setCell ⟨bA, 2, none⟩ (.slice none 0 0)).setCell ⟨bA, 3, none⟩ (.slice none 0 0) = V1 := ⟨_, rfl⟩
          rw [hV1] at SV1 rB1 ⊢
          clear hV1 bt1 d0 d1 d2 d3 g0 g1 g2 g3 rA rB
          refine hL1 _ _ SV1 ?_
          try simp only [Act.put, List.setIfInBounds_toArray, List.set_cons_zero, List.set_cons_succ]
          refine oneH 12 (by kernel_rfl) rfl rfl (fun L2 hL2 => ?_)
          obtain ⟨⟨_, d0⟩, g0⟩ := id rB1
          go_simp
          have bt2 : But bB V1 (V1.setCell ⟨bB, 0, none⟩ (.int .i64 0)) := (But.refl _ _).setCell _
          have SV := SV1.trans (bt2.below lB SV1.size)
          have cA : (V1.setCell ⟨bB, 0, none⟩ (.int .i64 0)).cell? ⟨bB, 0, none⟩ = some (.int .i64 0) := World.cell?_setCell_same _ _ _ d0
          obtain ⟨V, hV⟩ : ∃ V, V1.setCell ⟨bB, 0, none⟩ (.int .i64 0) = V := ⟨_, rfl⟩
          rw [hV] at SV cA ⊢
          clear hV bt2 d0 g0 rB1 SV1
          refine hL2 _ _ SV ?_
          try simp only [Act.put, List.setIfInBounds_toArray, List.set_cons_zero, List.set_cons_succ]
          refine wpAnyH_done (by kernel_rfl) ?_ _
          show Oper.wp _ _ _ _ _ _
          have hz := z2.below SV
          have q2 := keep c2 SV
          have q10 := keep c10 SV
          have hH1 : HoldsB 17 #[.pointer (some ⟨W1.heap.size, 0, none⟩)] z.free (ordGe (O : Int)) V := fun i hi W hb => fullF1_any W _ (O : Int) _ _ _ (keep q10 hb)
          have HC1 := bContains_any V 17 #[.pointer (some ⟨W1.heap.size, 0, none⟩)] fo fn fc z.free (ordGe (O : Int)) hz.free fullF1_call hH1
          clear hH1
          go_wp2_with fail
          go_at_call 16
          refine HC1.mono ?_
          rintro e v1 ⟨rfl, hv1⟩
          have hz1 := hz.below hv1
          have cA1 := keep cA hv1
          have q10' := keep q10 hv1
          have q2' := keep q2 hv1
          have SV2 := SV.trans (hv1.mono SV.size)
          have hH2 : HoldsB 18 #[.pointer (some ⟨bB, 0, none⟩), .pointer (some ⟨W1.heap.size, 0, none⟩)] z.free (inAt 0 (O : Int)) v1 := fun i hi W hb => by
            obtain ⟨r1, r2, r3, _⟩ := (freeOk_at hZ.may.free hi rfl).1
            have := hZ.f
            have := hZ.t
            exact fullF2_any W _ _ 0 (O : Int) _ _ _ (keep cA1 hb) (keep q10' hb) oO r1 (by omega) (by omega) (by omega) (by omega)
          have HC2 := bContains_any v1 18 #[.pointer (some ⟨bB, 0, none⟩), .pointer (some ⟨W1.heap.size, 0, none⟩)] fo fn fc z.free (inAt 0 (O : Int)) hz1.free fullF2_call hH2
          rw [HF1.out]
          clear hH2 HC1
          go_wp2_with fail
          go_at_call 16
          refine HC2.mono ?_
          rintro e v2 ⟨rfl, hv2⟩
          have BF := hB2.trans ((SV2.trans (hv2.mono SV2.size)).mono hB2.size)
          generalize z.free.any (inAt 0 (O : Int)) = A2
          clear HC2
          go_wp2
          go_ret
          exact ⟨rfl, BF⟩
        · go_simp
          have hb3 := below_box X2 (.cells #[.int .i64 0, .int .i64 0, .slice none 0 0, .slice none 0 0] 26)
          have S13 := S12.trans (hb3.mono S12.size)
          have rA := (zbox_new X2 (.int .i64 0) (.int .i64 0) (.slice none 0 0) (.slice none 0 0) 26).res
          have lA := S12.size
          replace rB := rB.below hb3
          have hAB : bB ≠ X2.heap.size := by have := lB2; omega
          obtain ⟨X3, hX3⟩ : ∃ X, X2.alloc (.cells #[.int .i64 0, .int .i64 0, .slice none 0 0, .slice none 0 0] 26) = X := ⟨_, rfl⟩
          rw [hX3] at S13 rA hb3 rB ⊢
          clear hX3 hb3
          generalize X2.heap.size = bA at rA lA hAB ⊢
          refine hK3 _ _ S13 ?_
          try simp only [Act.put, List.setIfInBounds_toArray, List.set_cons_zero, List.set_cons_succ]
          refine oneH 4 (by kernel_rfl) rfl rfl (fun K4 hK4 => ?_)
          go_simp
          refine (HTk.out _ S13).mono ?_
          rintro e wA ⟨hE, hbA⟩
          obtain rfl := hE
          have SA := S13.trans (hbA.mono S13.size)
          replace rA := rA.below hbA
          replace rB := rB.below hbA
          refine hK4 _ _ SA ?_
          try simp only [Act.put, List.setIfInBounds_toArray, List.set_cons_zero, List.set_cons_succ]
          refine takeH 5 (v := .tuple #[.agg #[.int .i64 0, .int .i64 0, .slice none 0 0, .slice none 0 0], .int .i64 0, .int .i64 6]) rfl (by kernel_rfl) (by kernel_rfl) (by kernel_rfl) (fun _ _ _ h => h) rfl (fun wx hSx => ?_) SA ?_
          · go_simp
          try simp only [Act.put, List.setIfInBounds_toArray, List.set_cons_zero, List.set_cons_succ]
          refine takeH 6 (v := .agg #[.int .i64 0, .int .i64 0, .slice none 0 0, .slice none 0 0]) rfl (by kernel_rfl) (by kernel_rfl) (by kernel_rfl) (fun _ _ _ h => h) rfl (fun wx hSx => ?_) SA ?_
          · go_simp
          try simp only [Act.put, List.setIfInBounds_toArray, List.set_cons_zero, List.set_cons_succ]
          refine takeH 7 (v := .int .i64 0) rfl (by kernel_rfl) (by kernel_rfl) (by kernel_rfl) (fun _ _ _ h => h) rfl (fun wx hSx => ?_) SA ?_
          · go_simp
          try simp only [Act.put, List.setIfInBounds_toArray, List.set_cons_zero, List.set_cons_succ]
          refine takeH 8 (v := .int .i64 6) rfl (by kernel_rfl) (by kernel_rfl) (by kernel_rfl) (fun _ _ _ h => h) rfl (fun wx hSx => ?_) SA ?_
          · go_simp
          try simp only [Act.put, List.setIfInBounds_toArray, List.set_cons_zero, List.set_cons_succ]
          refine oneH 11 (by kernel_rfl) rfl rfl (fun L1 hL1 => ?_)
          obtain ⟨⟨_, d0⟩, ⟨_, d1⟩, ⟨_, d2⟩, ⟨_, d3⟩, g0, g1, g2, g3⟩ := id rA
          go_simp
          have bt1 := but4 wA bA (.int .i64 0) (.int .i64 0) (.slice none 0 0) (.slice none 0 0)
          have SV1 := SA.trans (bt1.below lA SA.size)
          have rB1 : Res1 _ bB := rB.but bt1 hAB
          obtain ⟨V1, hV1⟩ : ∃ V1, (((wA.setCell ⟨bA, 0, none⟩ (.int .i64 0)).setCell ⟨bA, 1, none⟩ (.int .i64 0)).setCell ⟨bA, 2, none⟩ (.slice none 0 0)).setCell ⟨bA, 3, none⟩ (.slice none 0 0) = V1 := ⟨_, rfl⟩
          rw [hV1] at SV1 rB1 ⊢
          clear hV1 bt1 d0 d1 d2 d3 g0 g1 g2 g3 rA rB
          refine hL1 _ _ SV1 ?_
          try simp only [Act.put, List.setIfInBounds_toArray, List.set_cons_zero, List.set_cons_succ]
          refine oneH 12 (by kernel_rfl) rfl rfl (fun L2 hL2 => ?_)
          obtain ⟨⟨_, d0⟩, g0⟩ := id rB1
          go_simp
          have bt2 : But bB V1 (V1.setCell ⟨bB, 0, none⟩ (.int .i64 0)) := (But.refl _ _).setCell _
          have SV := SV1.trans (bt2.below lB SV1.size)
          have cA : (V1.setCell ⟨bB, 0, none⟩ (.int .i64 0)).cell? ⟨bB, 0, none⟩ = some (.int .i64 0) := World.cell?_setCell_same _ _ _ d0
          obtain ⟨V, hV⟩ : ∃ V, V1.setCell ⟨bB, 0, none⟩ (.int .i64 0) = V := ⟨_, rfl⟩
          rw [hV] at SV cA ⊢
          clear hV bt2 d0 g0 rB1 SV1
          refine hL2 _ _ SV ?_
          try simp only [Act.put, List.setIfInBounds_toArray, List.set_cons_zero, List.set_cons_succ]
          refine wpAnyH_done (by kernel_rfl) ?_ _
          show Oper.wp _ _ _ _ _ _
          have hz := z2.below SV
          have q2 := keep c2 SV
          have q10 := keep c10 SV
          have hH1 : HoldsB 17 #[.pointer (some ⟨W1.heap.size, 0, none⟩)] z.free (ordGe (O : Int)) V := fun i hi W hb => fullF1_any W _ (O : Int) _ _ _ (keep q10 hb)
          have HC1 := bContains_any V 17 #[.pointer (some ⟨W1.heap.size, 0, none⟩)] fo fn fc z.free (ordGe (O : Int)) hz.free fullF1_call hH1
          clear hH1
          go_wp2_with fail
          go_at_call 16
          refine HC1.mono ?_
          rintro e v1 ⟨rfl, hv1⟩
          have hz1 := hz.below hv1
          have cA1 := keep cA hv1
          have q10' := keep q10 hv1
          have q2' := keep q2 hv1
          have SV2 := SV.trans (hv1.mono SV.size)
          have hH2 : HoldsB 18 #[.pointer (some ⟨bB, 0, none⟩), .pointer (some ⟨W1.heap.size, 0, none⟩)] z.free (inAt 0 (O : Int)) v1 := fun i hi W hb => by
            obtain ⟨r1, r2, r3, _⟩ := (freeOk_at hZ.may.free hi rfl).1
            have := hZ.f
            have := hZ.t
            exact fullF2_any W _ _ 0 (O : Int) _ _ _ (keep cA1 hb) (keep q10' hb) oO r1 (by omega) (by omega) (by omega) (by omega)
          have HC2 := bContains_any v1 18 #[.pointer (some ⟨bB, 0, none⟩), .pointer (some ⟨W1.heap.size, 0, none⟩)] fo fn fc z.free (inAt 0 (O : Int)) hz1.free fullF2_call hH2
          rw [HF1.out]
          clear hH2 HC1
          go_wp2_with fail
          go_at_call 16
          refine HC2.mono ?_
          rintro e v2 ⟨rfl, hv2⟩
          have BF := hB2.trans ((SV2.trans (hv2.mono SV2.size)).mono hB2.size)
          generalize z.free.any (inAt 0 (O : Int)) = A2
          clear HC2
          go_wp2
          go_ret
          exact ⟨rfl, BF⟩
    · go_simp
      have hb1 := below_box Wd (.cells #[.int .i64 0, .int .i64 0, .slice none 0 0, .slice none 0 0] 26)
      have S11 := S1.trans (hb1.mono S1.size)
      have rA := (zbox_new Wd (.int .i64 0) (.int .i64 0) (.slice none 0 0) (.slice none 0 0) 26).res
      have lA := S1.size
      have lA2 : Wd.heap.size < (Wd.alloc (.cells #[.int .i64 0, .int .i64 0, .slice none 0 0, .slice none 0 0] 26)).heap.size := by simp
      obtain ⟨X1, hX1⟩ : ∃ X, Wd.alloc (.cells #[.int .i64 0, .int .i64 0, .slice none 0 0, .slice none 0 0] 26) = X := ⟨_, rfl⟩
      rw [hX1] at S11 rA hb1 lA2 ⊢
      clear hX1 hb1
      generalize Wd.heap.size = bA at rA lA lA2 ⊢
      refine hK1 _ _ S11 ?_
      try simp only [Act.put, List.setIfInBounds_toArray, List.set_cons_zero, List.set_cons_succ]
      refine twoH 3 10 (by kernel_rfl) rfl rfl rfl rfl (fun K2 hK2 => ?_) (fun K2 hK2 => ?_)
      · go_simp
        refine (picked_fn t 3 3 rfl wt (by omega) (by omega) _).mono ?_
        rintro e wq ⟨rfl, rfl⟩
        rw [HT2.out]
        refine hK2 _ _ S11 ?_
        try simp only [Act.put, List.setIfInBounds_toArray, List.set_cons_zero, List.set_cons_succ]
        refine twoH 4 10 (by kernel_rfl) rfl rfl rfl rfl (fun K3 hK3 => ?_) (fun K3 hK3 => ?_)
        · go_simp
          refine (HTk.out _ S11).mono ?_
          rintro e wA ⟨hE, hbA⟩
          obtain rfl := hE
          have lA3 := hbA.size
          have SA := S11.trans (hbA.mono S11.size)
          replace rA := rA.below hbA
          replace lA2 : bA < wA.heap.size := Nat.lt_of_lt_of_le lA2 lA3
          refine hK3 _ _ SA ?_
          try simp only [Act.put, List.setIfInBounds_toArray, List.set_cons_zero, List.set_cons_succ]
          refine takeH 5 (v := .tuple #[.agg #[.int .i64 0, .int .i64 0, .slice none 0 0, .slice none 0 0], .int .i64 0, .int .i64 6]) rfl (by kernel_rfl) (by kernel_rfl) (by kernel_rfl) (fun _ _ _ h => h) rfl (fun wx hSx => ?_) SA ?_
          · go_simp
          try simp only [Act.put, List.setIfInBounds_toArray, List.set_cons_zero, List.set_cons_succ]
          refine takeH 6 (v := .agg #[.int .i64 0, .int .i64 0, .slice none 0 0, .slice none 0 0]) rfl (by kernel_rfl) (by kernel_rfl) (by kernel_rfl) (fun _ _ _ h => h) rfl (fun wx hSx => ?_) SA ?_
          · go_simp
          try simp only [Act.put, List.setIfInBounds_toArray, List.set_cons_zero, List.set_cons_succ]
          refine takeH 7 (v := .int .i64 0) rfl (by kernel_rfl) (by kernel_rfl) (by kernel_rfl) (fun _ _ _ h => h) rfl (fun wx hSx => ?_) SA ?_
          · go_simp
          try simp only [Act.put, List.setIfInBounds_toArray, List.set_cons_zero, List.set_cons_succ]
          refine takeH 8 (v := .int .i64 6) rfl (by kernel_rfl) (by kernel_rfl) (by kernel_rfl) (fun _ _ _ h => h) rfl (fun wx hSx => ?_) SA ?_
          · go_simp
          try simp only [Act.put, List.setIfInBounds_toArray, List.set_cons_zero, List.set_cons_succ]
          refine oneH 10 (by kernel_rfl) rfl rfl (fun K4 hK4 => ?_)
          go_simp
          have hb4 := below_box wA (.cells #[.int .i64 0] 3)
          have S14 := SA.trans (hb4.mono SA.size)
          have rB : Res1 (wA.alloc (.cells #[.int .i64 0] 3)) wA.heap.size := ⟨⟨.int .i64 0, by simp⟩, by simp⟩
          have lB := SA.size
          replace rA := rA.below hb4
          have hAB : wA.heap.size ≠ bA := by have := lA2; omega
          obtain ⟨X4, hX4⟩ : ∃ X, wA.alloc (.cells #[.int .i64 0] 3) = X := ⟨_, rfl⟩
          rw [hX4] at S14 rB hb4 rA ⊢
          clear hX4 hb4
          generalize wA.heap.size = bB at rB lB hAB ⊢
          refine hK4 _ _ S14 ?_
          try simp only [Act.put, List.setIfInBounds_toArray, List.set_cons_zero, List.set_cons_succ]
          refine oneH 11 (by kernel_rfl) rfl rfl (fun L1 hL1 => ?_)
          obtain ⟨⟨_, d0⟩, ⟨_, d1⟩, ⟨_, d2⟩, ⟨_, d3⟩, g0, g1, g2, g3⟩ := id rA
          go_simp
          have bt1 := but4 X4 bA (.int .i64 0) (.int .i64 0) (.slice none 0 0) (.slice none 0 0)
          have SV1 := S14.trans (bt1.below lA S14.size)
          have rB1 : Res1 _ bB := rB.but bt1 hAB
          obtain ⟨V1, hV1⟩ : ∃ V1, (((X4.setCell ⟨bA, 0, none⟩ (.int .i64 0)).setCell ⟨bA, 1, none⟩ (.int .i64 0)).setCell ⟨bA, 2, none⟩ (.slice none 0 0)).setCell ⟨bA, 3, none⟩ (.slice none 0 0) = V1 := ⟨_, rfl⟩
          rw [hV1] at SV1 rB1 ⊢
          clear hV1 bt1 d0 d1 d2 d3 g0 g1 g2 g3 rA rB
          refine hL1 _ _ SV1 ?_
          try simp only [Act.put, List.setIfInBounds_toArray, List.set_cons_zero, List.set_cons_succ]
          refine oneH 12 (by kernel_rfl) rfl rfl (fun L2 hL2 => ?_)
          obtain ⟨⟨_, d0⟩, g0⟩ := id rB1
          go_simp
          have bt2 : But bB V1 (V1.setCell ⟨bB, 0, none⟩ (.int .i64 0)) := (But.refl _ _).setCell _
          have SV := SV1.trans (bt2.below lB SV1.size)
          have cA : (V1.setCell ⟨bB, 0, none⟩ (.int .i64 0)).cell? ⟨bB, 0, none⟩ = some (.int .i64 0) := World.cell?_setCell_same _ _ _ d0
          obtain ⟨V, hV⟩ : ∃ V, V1.setCell ⟨bB, 0, none⟩ (.int .i64 0) = V := ⟨_, rfl⟩
          rw [hV] at SV cA ⊢
          clear hV bt2 d0 g0 rB1 SV1
          refine hL2 _ _ SV ?_
          try simp only [Act.put, List.setIfInBounds_toArray, List.set_cons_zero, List.set_cons_succ]
          refine wpAnyH_done (by kernel_rfl) ?_ _
          show Oper.wp _ _ _ _ _ _
          have hz := z2.below SV
          have q2 := keep c2 SV
          have q10 := keep c10 SV
          have hH1 : HoldsB 17 #[.pointer (some ⟨W1.heap.size, 0, none⟩)] z.free (ordGe (O : Int)) V := fun i hi W hb => fullF1_any W _ (O : Int) _ _ _ (keep q10 hb)
          have HC1 := bContains_any V 17 #[.pointer (some ⟨W1.heap.size, 0, none⟩)] fo fn fc z.free (ordGe (O : Int)) hz.free fullF1_call hH1
          clear hH1
          go_wp2_with fail
          go_at_call 16
          refine HC1.mono ?_
          rintro e v1 ⟨rfl, hv1⟩
          have hz1 := hz.below hv1
          have cA1 := keep cA hv1
          have q10' := keep q10 hv1
          have q2' := keep q2 hv1
          have SV2 := SV.trans (hv1.mono SV.size)
          have hH2 : HoldsB 18 #[.pointer (some ⟨bB, 0, none⟩), .pointer (some ⟨W1.heap.size, 0, none⟩)] z.free (inAt 0 (O : Int)) v1 := fun i hi W hb => by
            obtain ⟨r1, r2, r3, _⟩ := (freeOk_at hZ.may.free hi rfl).1
            have := hZ.f
            have := hZ.t
            exact fullF2_any W _ _ 0 (O : Int) _ _ _ (keep cA1 hb) (keep q10' hb) oO r1 (by omega) (by omega) (by omega) (by omega)
          have HC2 := bContains_any v1 18 #[.pointer (some ⟨bB, 0, none⟩), .pointer (some ⟨W1.heap.size, 0, none⟩)] fo fn fc z.free (inAt 0 (O : Int)) hz1.free fullF2_call hH2
          rw [HF1.out]
          clear hH2 HC1
          go_wp2_with fail
          go_at_call 16
          refine HC2.mono ?_
          rintro e v2 ⟨rfl, hv2⟩
          have BF := hB2.trans ((SV2.trans (hv2.mono SV2.size)).mono hB2.size)
          generalize z.free.any (inAt 0 (O : Int)) = A2
          clear HC2
          go_wp2
          go_ret
          exact ⟨rfl, BF⟩
        · go_simp
          have hb3 := below_box X1 (.cells #[.int .i64 0] 3)
          have S13 := S11.trans (hb3.mono S11.size)
          have rB : Res1 (X1.alloc (.cells #[.int .i64 0] 3)) X1.heap.size := ⟨⟨.int .i64 0, by simp⟩, by simp⟩
          have lB := S11.size
          replace rA := rA.below hb3
          have hAB : X1.heap.size ≠ bA := by have := lA2; omega
          obtain ⟨X3, hX3⟩ : ∃ X, X1.alloc (.cells #[.int .i64 0] 3) = X := ⟨_, rfl⟩
          rw [hX3] at S13 rB hb3 rA ⊢
          clear hX3 hb3
          generalize X1.heap.size = bB at rB lB hAB ⊢
          refine hK3 _ _ S13 ?_
          try simp only [Act.put, List.setIfInBounds_toArray, List.set_cons_zero, List.set_cons_succ]
          refine oneH 4 (by kernel_rfl) rfl rfl (fun K4 hK4 => ?_)
          go_simp
          refine (HTk.out _ S13).mono ?_
          rintro e wA ⟨hE, hbA⟩
          obtain rfl := hE
          have SA := S13.trans (hbA.mono S13.size)
          replace rA := rA.below hbA
          replace rB := rB.below hbA
          refine hK4 _ _ SA ?_
          try simp only [Act.put, List.setIfInBounds_toArray, List.set_cons_zero, List.set_cons_succ]
          refine takeH 5 (v := .tuple #[.agg #[.int .i64 0, .int .i64 0, .slice none 0 0, .slice none 0 0], .int .i64 0, .int .i64 6]) rfl (by kernel_rfl) (by kernel_rfl) (by kernel_rfl) (fun _ _ _ h => h) rfl (fun wx hSx => ?_) SA ?_
          · go_simp
          try simp only [Act.put, List.setIfInBounds_toArray, List.set_cons_zero, List.set_cons_succ]
          refine takeH 6 (v := .agg #[.int .i64 0, .int .i64 0, .slice none 0 0, .slice none 0 0]) rfl (by kernel_rfl) (by kernel_rfl) (by kernel_rfl) (fun _ _ _ h => h) rfl (fun wx hSx => ?_) SA ?_
          · go_simp
          try simp only [Act.put, List.setIfInBounds_toArray, List.set_cons_zero, List.set_cons_succ]
          refine takeH 7 (v := .int .i64 0) rfl (by kernel_rfl) (by kernel_rfl) (by kernel_rfl) (fun _ _ _ h => h) rfl (fun wx hSx => ?_) SA ?_
          · go_simp
          try simp only [Act.put, List.setIfInBounds_toArray, List.set_cons_zero, List.set_cons_succ]
          refine takeH 8 (v := .int .i64 6) rfl (by kernel_rfl) (by kernel_rfl) (by kernel_rfl) (fun _ _ _ h => h) rfl (fun wx hSx => ?_) SA ?_
          · go_simp
          try simp only [Act.put, List.setIfInBounds_toArray, List.set_cons_zero, List.set_cons_succ]
          refine oneH 11 (by kernel_rfl) rfl rfl (fun L1 hL1 => ?_)
          obtain ⟨⟨_, d0⟩, ⟨_, d1⟩, ⟨_, d2⟩, ⟨_, d3⟩, g0, g1, g2, g3⟩ := id rA
          go_simp
          have bt1 := but4 wA bA (.int .i64 0) (.int .i64 0) (.slice none 0 0) (.slice none 0 0)
          have SV1 := SA.trans (bt1.below lA SA.size)
          have rB1 : Res1 _ bB := rB.but bt1 hAB
          obtain ⟨V1, hV1⟩ : ∃ V1, (((wA.setCell ⟨bA, 0, none⟩ (.int .i64 0)).setCell ⟨bA, 1, none⟩ (.int .i64 0)).setCell ⟨bA, 2, none⟩ (.slice none 0 0)).setCell ⟨bA, 3, none⟩ (.slice none 0 0) = V1 := ⟨_, rfl⟩
          rw [hV1] at SV1 rB1 ⊢
          clear hV1 bt1 d0 d1 d2 d3 g0 g1 g2 g3 rA rB
          refine hL1 _ _ SV1 ?_
          try simp only [Act.put, List.setIfInBounds_toArray, List.set_cons_zero, List.set_cons_succ]
          refine oneH 12 (by kernel_rfl) rfl rfl (fun L2 hL2 => ?_)
          obtain ⟨⟨_, d0⟩, g0⟩ := id rB1
          go_simp
          have bt2 : But bB V1 (V1.setCell ⟨bB, 0, none⟩ (.int .i64 0)) := (But.refl _ _).setCell _
          have SV := SV1.trans (bt2.below lB SV1.size)
          have cA : (V1.setCell ⟨bB, 0, none⟩ (.int .i64 0)).cell? ⟨bB, 0, none⟩ = some (.int .i64 0) := World.cell?_setCell_same _ _ _ d0
          obtain ⟨V, hV⟩ : ∃ V, V1.setCell ⟨bB, 0, none⟩ (.int .i64 0) = V := ⟨_, rfl⟩
          rw [hV] at SV cA ⊢
          clear hV bt2 d0 g0 rB1 SV1
          refine hL2 _ _ SV ?_
          try simp only [Act.put, List.setIfInBounds_toArray, List.set_cons_zero, List.set_cons_succ]
          refine wpAnyH_done (by kernel_rfl) ?_ _
          show Oper.wp _ _ _ _ _ _
          have hz := z2.below SV
          have q2 := keep c2 SV
          have q10 := keep c10 SV
          have hH1 : HoldsB 17 #[.pointer (some ⟨W1.heap.size, 0, none⟩)] z.free (ordGe (O : Int)) V := fun i hi W hb => fullF1_any W _ (O : Int) _ _ _ (keep q10 hb)
          have HC1 := bContains_any V 17 #[.pointer (some ⟨W1.heap.size, 0, none⟩)] fo fn fc z.free (ordGe (O : Int)) hz.free fullF1_call hH1
          clear hH1
          go_wp2_with fail
          go_at_call 16
          refine HC1.mono ?_
          rintro e v1 ⟨rfl, hv1⟩
          have hz1 := hz.below hv1
          have cA1 := keep cA hv1
          have q10' := keep q10 hv1
          have q2' := keep q2 hv1
          have SV2 := SV.trans (hv1.mono SV.size)
          have hH2 : HoldsB 18 #[.pointer (some ⟨bB, 0, none⟩), .pointer (some ⟨W1.heap.size, 0, none⟩)] z.free (inAt 0 (O : Int)) v1 := fun i hi W hb => by
            obtain ⟨r1, r2, r3, _⟩ := (freeOk_at hZ.may.free hi rfl).1
            have := hZ.f
            have := hZ.t
            exact fullF2_any W _ _ 0 (O : Int) _ _ _ (keep cA1 hb) (keep q10' hb) oO r1 (by omega) (by omega) (by omega) (by omega)
          have HC2 := bContains_any v1 18 #[.pointer (some ⟨bB, 0, none⟩), .pointer (some ⟨W1.heap.size, 0, none⟩)] fo fn fc z.free (inAt 0 (O : Int)) hz1.free fullF2_call hH2
          rw [HF1.out]
          clear hH2 HC1
          go_wp2_with fail
          go_at_call 16
          refine HC2.mono ?_
          rintro e v2 ⟨rfl, hv2⟩
          have BF := hB2.trans ((SV2.trans (hv2.mono SV2.size)).mono hB2.size)
          generalize z.free.any (inAt 0 (O : Int)) = A2
          clear HC2
          go_wp2
          go_ret
          exact ⟨rfl, BF⟩
      · go_simp
        have hb2 := below_box X1 (.cells #[.int .i64 0] 3)
        have S12 := S11.trans (hb2.mono S11.size)
        have rB : Res1 (X1.alloc (.cells #[.int .i64 0] 3)) X1.heap.size := ⟨⟨.int .i64 0, by simp⟩, by simp⟩
        have lB := S11.size
        replace rA := rA.below hb2
        have hAB : X1.heap.size ≠ bA := by have := lA2; omega
        obtain ⟨X2, hX2⟩ : ∃ X, X1.alloc (.cells #[.int .i64 0] 3) = X := ⟨_, rfl⟩
        rw [hX2] at S12 rB hb2 rA ⊢
        clear hX2 hb2
        generalize X1.heap.size = bB at rB lB hAB ⊢
        refine hK2 _ _ S12 ?_
        try simp only [Act.put, List.setIfInBounds_toArray, List.set_cons_zero, List.set_cons_succ]
        refine oneH 3 (by kernel_rfl) rfl rfl (fun K3 hK3 => ?_)
        go_simp
        refine (picked_fn t 3 3 rfl wt (by omega) (by omega) _).mono ?_
        rintro e wq ⟨rfl, rfl⟩
        rw [HT2.out]
        refine hK3 _ _ S12 ?_
        try simp only [Act.put, List.setIfInBounds_toArray, List.set_cons_zero, List.set_cons_succ]
        refine oneH 4 (by kernel_rfl) rfl rfl (fun K4 hK4 => ?_)
        go_simp
        refine (HTk.out _ S12).mono ?_
        rintro e wA ⟨hE, hbA⟩
        obtain rfl := hE
        have SA := S12.trans (hbA.mono S12.size)
        replace rA := rA.below hbA
        replace rB := rB.below hbA
        refine hK4 _ _ SA ?_
        try simp only [Act.put, List.setIfInBounds_toArray, List.set_cons_zero, List.set_cons_succ]
        refine takeH 5 (v := .tuple #[.agg #[.int .i64 0, .int .i64 0, .slice none 0 0, .slice none 0 0], .int .i64 0, .int .i64 6]) rfl (by kernel_rfl) (by kernel_rfl) (by kernel_rfl) (fun _ _ _ h => h) rfl (fun wx hSx => ?_) SA ?_
        · go_simp
        try simp only [Act.put, List.setIfInBounds_toArray, List.set_cons_zero, List.set_cons_succ]
        refine takeH 6 (v := .agg #[.int .i64 0, .int .i64 0, .slice none 0 0, .slice none 0 0]) rfl (by kernel_rfl) (by kernel_rfl) (by kernel_rfl) (fun _ _ _ h => h) rfl (fun wx hSx => ?_) SA ?_
        · go_simp
        try simp only [Act.put, List.setIfInBounds_toArray, List.set_cons_zero, List.set_cons_succ]
        refine takeH 7 (v := .int .i64 0) rfl (by kernel_rfl) (by kernel_rfl) (by kernel_rfl) (fun _ _ _ h => h) rfl (fun wx hSx => ?_) SA ?_
        · go_simp
        try simp only [Act.put, List.setIfInBounds_toArray, List.set_cons_zero, List.set_cons_succ]
        refine takeH 8 (v := .int .i64 6) rfl (by kernel_rfl) (by kernel_rfl) (by kernel_rfl) (fun _ _ _ h => h) rfl (fun wx hSx => ?_) SA ?_
        · go_simp
        try simp only [Act.put, List.setIfInBounds_toArray, List.set_cons_zero, List.set_cons_succ]
        refine oneH 11 (by kernel_rfl) rfl rfl (fun L1 hL1 => ?_)
        obtain ⟨⟨_, d0⟩, ⟨_, d1⟩, ⟨_, d2⟩, ⟨_, d3⟩, g0, g1, g2, g3⟩ := id rA
        go_simp
        have bt1 := but4 wA bA (.int .i64 0) (.int .i64 0) (.slice none 0 0) (.slice none 0 0)
        have SV1 := SA.trans (bt1.below lA SA.size)
        have rB1 : Res1 _ bB := rB.but bt1 hAB
        obtain ⟨V1, hV1⟩ : ∃ V1, (((wA.setCell ⟨bA, 0, none⟩ (.int .i64 0)).setCell ⟨bA, 1, none⟩ (.int .i64 0)).setCell ⟨bA, 2, none⟩ (.slice none 0 0)).setCell ⟨bA, 3, none⟩ (.slice none 0 0) = V1 := ⟨_, rfl⟩
        rw [hV1] at SV1 rB1 ⊢
        clear hV1 bt1 d0 d1 d2 d3 g0 g1 g2 g3 rA rB
        refine hL1 _ _ SV1 ?_
        try simp only [Act.put, List.setIfInBounds_toArray, List.set_cons_zero, List.set_cons_succ]
        refine oneH 12 (by kernel_rfl) rfl rfl (fun L2 hL2 => ?_)
        obtain ⟨⟨_, d0⟩, g0⟩ := id rB1
        go_simp
        have bt2 : But bB V1 (V1.setCell ⟨bB, 0, none⟩ (.int .i64 0)) := (But.refl _ _).setCell _
        have SV := SV1.trans (bt2.below lB SV1.size)
        have cA : (V1.setCell ⟨bB, 0, none⟩ (.int .i64 0)).cell? ⟨bB, 0, none⟩ = some (.int .i64 0) := World.cell?_setCell_same _ _ _ d0
        obtain ⟨V, hV⟩ : ∃ V, V1.setCell ⟨bB, 0, none⟩ (.int .i64 0) = V := ⟨_, rfl⟩
        rw [hV] at SV cA ⊢
        clear hV bt2 d0 g0 rB1 SV1
        refine hL2 _ _ SV ?_
        try simp only [Act.put, List.setIfInBounds_toArray, List.set_cons_zero, List.set_cons_succ]
        refine wpAnyH_done (by kernel_rfl) ?_ _
        show Oper.wp _ _ _ _ _ _
        have hz := z2.below SV
        have q2 := keep c2 SV
        have q10 := keep c10 SV
        have hH1 : HoldsB 17 #[.pointer (some ⟨W1.heap.size, 0, none⟩)] z.free (ordGe (O : Int)) V := fun i hi W hb => fullF1_any W _ (O : Int) _ _ _ (keep q10 hb)
        have HC1 := bContains_any V 17 #[.pointer (some ⟨W1.heap.size, 0, none⟩)] fo fn fc z.free (ordGe (O : Int)) hz.free fullF1_call hH1
        clear hH1
        go_wp2_with fail
        go_at_call 16
        refine HC1.mono ?_
        rintro e v1 ⟨rfl, hv1⟩
        have hz1 := hz.below hv1
        have cA1 := keep cA hv1
        have q10' := keep q10 hv1
        have q2' := keep q2 hv1
        have SV2 := SV.trans (hv1.mono SV.size)
        have hH2 : HoldsB 18 #[.pointer (some ⟨bB, 0, none⟩), .pointer (some ⟨W1.heap.size, 0, none⟩)] z.free (inAt 0 (O : Int)) v1 := fun i hi W hb => by
          obtain ⟨r1, r2, r3, _⟩ := (freeOk_at hZ.may.free hi rfl).1
          have := hZ.f
          have := hZ.t
          exact fullF2_any W _ _ 0 (O : Int) _ _ _ (keep cA1 hb) (keep q10' hb) oO r1 (by omega) (by omega) (by omega) (by omega)
        have HC2 := bContains_any v1 18 #[.pointer (some ⟨bB, 0, none⟩), .pointer (some ⟨W1.heap.size, 0, none⟩)] fo fn fc z.free (inAt 0 (O : Int)) hz1.free fullF2_call hH2
        rw [HF1.out]
        clear hH2 HC1
        go_wp2_with fail
        go_at_call 16
        refine HC2.mono ?_
        rintro e v2 ⟨rfl, hv2⟩
        have BF := hB2.trans ((SV2.trans (hv2.mono SV2.size)).mono hB2.size)
        generalize z.free.any (inAt 0 (O : Int)) = A2
        clear HC2
        go_wp2
        go_ret
        exact ⟨rfl, BF⟩
    · go_simp
      have hb1 := below_box Wd (.cells #[.int .i64 0] 3)
      have S11 := S1.trans (hb1.mono S1.size)
      have rB : Res1 (Wd.alloc (.cells #[.int .i64 0] 3)) Wd.heap.size := ⟨⟨.int .i64 0, by simp⟩, by simp⟩
      have lB := S1.size
      have lB2 : Wd.heap.size < (Wd.alloc (.cells #[.int .i64 0] 3)).heap.size := by simp
      obtain ⟨X1, hX1⟩ : ∃ X, Wd.alloc (.cells #[.int .i64 0] 3) = X := ⟨_, rfl⟩
      rw [hX1] at S11 rB hb1 lB2 ⊢
      clear hX1 hb1
      generalize Wd.heap.size = bB at rB lB lB2 ⊢
      refine hK1 _ _ S11 ?_
      try simp only [Act.put, List.setIfInBounds_toArray, List.set_cons_zero, List.set_cons_succ]
      refine twoH 3 9 (by kernel_rfl) rfl rfl rfl rfl (fun K2 hK2 => ?_) (fun K2 hK2 => ?_)
      · go_simp
        refine (picked_fn t 3 3 rfl wt (by omega) (by omega) _).mono ?_
        rintro e wq ⟨rfl, rfl⟩
        rw [HT2.out]
        refine hK2 _ _ S11 ?_
        try simp only [Act.put, List.setIfInBounds_toArray, List.set_cons_zero, List.set_cons_succ]
        refine twoH 4 9 (by kernel_rfl) rfl rfl rfl rfl (fun K3 hK3 => ?_) (fun K3 hK3 => ?_)
        · go_simp
          refine (HTk.out _ S11).mono ?_
          rintro e wA ⟨hE, hbA⟩
          obtain rfl := hE
          have lB3 := hbA.size
          have SA := S11.trans (hbA.mono S11.size)
          replace rB := rB.below hbA
          replace lB2 : bB < wA.heap.size := Nat.lt_of_lt_of_le lB2 lB3
          refine hK3 _ _ SA ?_
          try simp only [Act.put, List.setIfInBounds_toArray, List.set_cons_zero, List.set_cons_succ]
          refine takeH 5 (v := .tuple #[.agg #[.int .i64 0, .int .i64 0, .slice none 0 0, .slice none 0 0], .int .i64 0, .int .i64 6]) rfl (by kernel_rfl) (by kernel_rfl) (by kernel_rfl) (fun _ _ _ h => h) rfl (fun wx hSx => ?_) SA ?_
          · go_simp
          try simp only [Act.put, List.setIfInBounds_toArray, List.set_cons_zero, List.set_cons_succ]
          refine takeH 6 (v := .agg #[.int .i64 0, .int .i64 0, .slice none 0 0, .slice none 0 0]) rfl (by kernel_rfl) (by kernel_rfl) (by kernel_rfl) (fun _ _ _ h => h) rfl (fun wx hSx => ?_) SA ?_
          · go_simp
          try simp only [Act.put, List.setIfInBounds_toArray, List.set_cons_zero, List.set_cons_succ]
          refine takeH 7 (v := .int .i64 0) rfl (by kernel_rfl) (by kernel_rfl) (by kernel_rfl) (fun _ _ _ h => h) rfl (fun wx hSx => ?_) SA ?_
          · go_simp
          try simp only [Act.put, List.setIfInBounds_toArray, List.set_cons_zero, List.set_cons_succ]
          refine takeH 8 (v := .int .i64 6) rfl (by kernel_rfl) (by kernel_rfl) (by kernel_rfl) (fun _ _ _ h => h) rfl (fun wx hSx => ?_) SA ?_
          · go_simp
          try simp only [Act.put, List.setIfInBounds_toArray, List.set_cons_zero, List.set_cons_succ]
          refine oneH 9 (by kernel_rfl) rfl rfl (fun K4 hK4 => ?_)
          go_simp
          have hb4 := below_box wA (.cells #[.int .i64 0, .int .i64 0, .slice none 0 0, .slice none 0 0] 26)
          have S14 := SA.trans (hb4.mono SA.size)
          have rA := (zbox_new wA (.int .i64 0) (.int .i64 0) (.slice none 0 0) (.slice none 0 0) 26).res
          have lA := SA.size
          replace rB := rB.below hb4
          have hAB : bB ≠ wA.heap.size := by have := lB2; omega
          obtain ⟨X4, hX4⟩ : ∃ X, wA.alloc (.cells #[.int .i64 0, .int .i64 0, .slice none 0 0, .slice none 0 0] 26) = X := ⟨_, rfl⟩
          rw [hX4] at S14 rA hb4 rB ⊢
          clear hX4 hb4
          generalize wA.heap.size = bA at rA lA hAB ⊢
          refine hK4 _ _ S14 ?_
          try simp only [Act.put, List.setIfInBounds_toArray, List.set_cons_zero, List.set_cons_succ]
          refine oneH 11 (by kernel_rfl) rfl rfl (fun L1 hL1 => ?_)
          obtain ⟨⟨_, d0⟩, ⟨_, d1⟩, ⟨_, d2⟩, ⟨_, d3⟩, g0, g1, g2, g3⟩ := id rA
          go_simp
          have bt1 := but4 X4 bA (.int .i64 0) (.int .i64 0) (.slice none 0 0) (.slice none 0 0)
          have SV1 := S14.trans (bt1.below lA S14.size)
          have rB1 : Res1 _ bB := rB.but bt1 hAB
          obtain ⟨V1, hV1⟩ : ∃ V1, (((X4.setCell ⟨bA, 0, none⟩ (.int .i64 0)).setCell ⟨bA, 1, none⟩ (.int .i64 0)).setCell ⟨bA, 2, none⟩ (.slice none 0 0)).setCell ⟨bA, 3, none⟩ (.slice none 0 0) = V1 := ⟨_, rfl⟩
          rw [hV1] at SV1 rB1 ⊢
          clear hV1 bt1 d0 d1 d2 d3 g0 g1 g2 g3 rA rB
          refine hL1 _ _ SV1 ?_
          try simp only [Act.put, List.setIfInBounds_toArray, List.set_cons_zero, List.set_cons_succ]
          refine oneH 12 (by kernel_rfl) rfl rfl (fun L2 hL2 => ?_)
          obtain ⟨⟨_, d0⟩, g0⟩ := id rB1
          go_simp
          have bt2 : But bB V1 (V1.setCell ⟨bB, 0, none⟩ (.int .i64 0)) := (But.refl _ _).setCell _
          have SV := SV1.trans (bt2.below lB SV1.size)
          have cA : (V1.setCell ⟨bB, 0, none⟩ (.int .i64 0)).cell? ⟨bB, 0, none⟩ = some (.int .i64 0) := World.cell?_setCell_same _ _ _ d0
          obtain ⟨V, hV⟩ : ∃ V, V1.setCell ⟨bB, 0, none⟩ (.int .i64 0) = V := ⟨_, rfl⟩
          rw [hV] at SV cA ⊢
          clear hV bt2 d0 g0 rB1 SV1
          refine hL2 _ _ SV ?_
          try simp only [Act.put, List.setIfInBounds_toArray, List.set_cons_zero, List.set_cons_succ]
          refine wpAnyH_done (by kernel_rfl) ?_ _
          show Oper.wp _ _ _ _ _ _
          have hz := z2.below SV
          have q2 := keep c2 SV
          have q10 := keep c10 SV
          have hH1 : HoldsB 17 #[.pointer (some ⟨W1.heap.size, 0, none⟩)] z.free (ordGe (O : Int)) V := fun i hi W hb => fullF1_any W _ (O : Int) _ _ _ (keep q10 hb)
          have HC1 := bContains_any V 17 #[.pointer (some ⟨W1.heap.size, 0, none⟩)] fo fn fc z.free (ordGe (O : Int)) hz.free fullF1_call hH1
          clear hH1
          go_wp2_with fail
          go_at_call 16
          refine HC1.mono ?_
          rintro e v1 ⟨rfl, hv1⟩
          have hz1 := hz.below hv1
          have cA1 := keep cA hv1
          have q10' := keep q10 hv1
          have q2' := keep q2 hv1
          have SV2 := SV.trans (hv1.mono SV.size)
          have hH2 : HoldsB 18 #[.pointer (some ⟨bB, 0, none⟩), .pointer (some ⟨W1.heap.size, 0, none⟩)] z.free (inAt 0 (O : Int)) v1 := fun i hi W hb => by
            obtain ⟨r1, r2, r3, _⟩ := (freeOk_at hZ.may.free hi rfl).1
            have := hZ.f
            have := hZ.t
            exact fullF2_any W _ _ 0 (O : Int) _ _ _ (keep cA1 hb) (keep q10' hb) oO r1 (by omega) (by omega) (by omega) (by omega)
          have HC2 := bContains_any v1 18 #[.pointer (some ⟨bB, 0, none⟩), .pointer (some ⟨W1.heap.size, 0, none⟩)] fo fn fc z.free (inAt 0 (O : Int)) hz1.free fullF2_call hH2
          rw [HF1.out]
          clear hH2 HC1
          go_wp2_with fail
          go_at_call 16
          refine HC2.mono ?_
          rintro e v2 ⟨rfl, hv2⟩
          have BF := hB2.trans ((SV2.trans (hv2.mono SV2.size)).mono hB2.size)
          generalize z.free.any (inAt 0 (O : Int)) = A2
          clear HC2
          go_wp2
          go_ret
          exact ⟨rfl, BF⟩
        · go_simp
          have hb3 := below_box X1 (.cells #[.int .i64 0, .int .i64 0, .slice none 0 0, .slice none 0 0] 26)
          have S13 := S11.trans (hb3.mono S11.size)
          have rA := (zbox_new X1 (.int .i64 0) (.int .i64 0) (.slice none 0 0) (.slice none 0 0) 26).res
          have lA := S11.size
          replace rB := rB.below hb3
          have hAB : bB ≠ X1.heap.size := by have := lB2; omega
          obtain ⟨X3, hX3⟩ : ∃ X, X1.alloc (.cells #[.int .i64 0, .int .i64 0, .slice none 0 0, .slice none 0 0] 26) = X := ⟨_, rfl⟩
          rw [hX3] at S13 rA hb3 rB ⊢
          clear hX3 hb3
          generalize X1.heap.size = bA at rA lA hAB ⊢
          refine hK3 _ _ S13 ?_
          try simp only [Act.put, List.setIfInBounds_toArray, List.set_cons_zero, List.set_cons_succ]
          refine oneH 4 (by kernel_rfl) rfl rfl (fun K4 hK4 => ?_)
          go_simp
          refine (HTk.out _ S13).mono ?_
          rintro e wA ⟨hE, hbA⟩
          obtain rfl := hE
          have SA := S13.trans (hbA.mono S13.size)
          replace rA := rA.below hbA
          replace rB := rB.below hbA
          refine hK4 _ _ SA ?_
          try simp only [Act.put, List.setIfInBounds_toArray, List.set_cons_zero, List.set_cons_succ]
          refine takeH 5 (v := .tuple #[.agg #[.int .i64 0, .int .i64 0, .slice none 0 0, .slice none 0 0], .int .i64 0, .int .i64 6]) rfl (by kernel_rfl) (by kernel_rfl) (by kernel_rfl) (fun _ _ _ h => h) rfl (fun wx hSx => ?_) SA ?_
          · go_simp
          try simp only [Act.put, List.setIfInBounds_toArray, List.set_cons_zero, List.set_cons_succ]
          refine takeH 6 (v := .agg #[.int .i64 0, .int .i64 0, .slice none 0 0, .slice none 0 0]) rfl (by kernel_rfl) (by kernel_rfl) (by kernel_rfl) (fun _ _ _ h => h) rfl (fun wx hSx => ?_) SA ?_
          · go_simp
          try simp only [Act.put, List.setIfInBounds_toArray, List.set_cons_zero, List.set_cons_succ]
          refine takeH 7 (v := .int .i64 0) rfl (by kernel_rfl) (by kernel_rfl) (by kernel_rfl) (fun _ _ _ h => h) rfl (fun wx hSx => ?_) SA ?_
          · go_simp
          try simp only [Act.put, List.setIfInBounds_toArray, List.set_cons_zero, List.set_cons_succ]
          refine takeH 8 (v := .int .i64 6) rfl (by kernel_rfl) (by kernel_rfl) (by kernel_rfl) (fun _ _ _ h => h) rfl (fun wx hSx => ?_) SA ?_
          · go_simp
          try simp only [Act.put, List.setIfInBounds_toArray, List.set_cons_zero, List.set_cons_succ]
          refine oneH 11 (by kernel_rfl) rfl rfl (fun L1 hL1 => ?_)
          obtain ⟨⟨_, d0⟩, ⟨_, d1⟩, ⟨_, d2⟩, ⟨_, d3⟩, g0, g1, g2, g3⟩ := id rA
          go_simp
          have bt1 := but4 wA bA (.int .i64 0) (.int .i64 0) (.slice none 0 0) (.slice none 0 0)
          have SV1 := SA.trans (bt1.below lA SA.size)
          have rB1 : Res1 _ bB := rB.but bt1 hAB
          obtain ⟨V1, hV1⟩ : ∃ V1, (((wA.setCell ⟨bA, 0, none⟩ (.int .i64 0)).setCell ⟨bA, 1, none⟩ (.int .i64 0)).setCell ⟨bA, 2, none⟩ (.slice none 0 0)).setCell ⟨bA, 3, none⟩ (.slice none 0 0) = V1 := ⟨_, rfl⟩
          rw [hV1] at SV1 rB1 ⊢
          clear hV1 bt1 d0 d1 d2 d3 g0 g1 g2 g3 rA rB
          refine hL1 _ _ SV1 ?_
          try simp only [Act.put, List.setIfInBounds_toArray, List.set_cons_zero, List.set_cons_succ]
          refine oneH 12 (by kernel_rfl) rfl rfl (fun L2 hL2 => ?_)
          obtain ⟨⟨_, d0⟩, g0⟩ := id rB1
          go_simp
          have bt2 : But bB V1 (V1.setCell ⟨bB, 0, none⟩ (.int .i64 0)) := (But.refl _ _).setCell _
          have SV := SV1.trans (bt2.below lB SV1.size)
          have cA : (V1.setCell ⟨bB, 0, none⟩ (.int .i64 0)).cell? ⟨bB, 0, none⟩ = some (.int .i64 0) := World.cell?_setCell_same _ _ _ d0
          obtain ⟨V, hV⟩ : ∃ V, V1.setCell ⟨bB, 0, none⟩ (.int .i64 0) = V := ⟨_, rfl⟩
          rw [hV] at SV cA ⊢
          clear hV bt2 d0 g0 rB1 SV1
          refine hL2 _ _ SV ?_
          try simp only [Act.put, List.setIfInBounds_toArray, List.set_cons_zero, List.set_cons_succ]
          refine wpAnyH_done (by kernel_rfl) ?_ _
          show Oper.wp _ _ _ _ _ _
          have hz := z2.below SV
          have q2 := keep c2 SV
          have q10 := keep c10 SV
          have hH1 : HoldsB 17 #[.pointer (some ⟨W1.heap.size, 0, none⟩)] z.free (ordGe (O : Int)) V := fun i hi W hb => fullF1_any W _ (O : Int) _ _ _ (keep q10 hb)
          have HC1 := bContains_any V 17 #[.pointer (some ⟨W1.heap.size, 0, none⟩)] fo fn fc z.free (ordGe (O : Int)) hz.free fullF1_call hH1
          clear hH1
          go_wp2_with fail
          go_at_call 16
          refine HC1.mono ?_
          rintro e v1 ⟨rfl, hv1⟩
          have hz1 := hz.below hv1
          have cA1 := keep cA hv1
          have q10' := keep q10 hv1
          have q2' := keep q2 hv1
          have SV2 := SV.trans (hv1.mono SV.size)
          have hH2 : HoldsB 18 #[.pointer (some ⟨bB, 0, none⟩), .pointer (some ⟨W1.heap.size, 0, none⟩)] z.free (inAt 0 (O : Int)) v1 := fun i hi W hb => by
            obtain ⟨r1, r2, r3, _⟩ := (freeOk_at hZ.may.free hi rfl).1
            have := hZ.f
            have := hZ.t
            exact fullF2_any W _ _ 0 (O : Int) _ _ _ (keep cA1 hb) (keep q10' hb) oO r1 (by omega) (by omega) (by omega) (by omega)
          have HC2 := bContains_any v1 18 #[.pointer (some ⟨bB, 0, none⟩), .pointer (some ⟨W1.heap.size, 0, none⟩)] fo fn fc z.free (inAt 0 (O : Int)) hz1.free fullF2_call hH2
          rw [HF1.out]
          clear hH2 HC1
          go_wp2_with fail
          go_at_call 16
          refine HC2.mono ?_
          rintro e v2 ⟨rfl, hv2⟩
          have BF := hB2.trans ((SV2.trans (hv2.mono SV2.size)).mono hB2.size)
          generalize z.free.any (inAt 0 (O : Int)) = A2
          clear HC2
          go_wp2
          go_ret
          exact ⟨rfl, BF⟩
      · go_simp
        have hb2 := below_box X1 (.cells #[.int .i64 0, .int .i64 0, .slice none 0 0, .slice none 0 0] 26)
        have S12 := S11.trans (hb2.mono S11.size)
        have rA := (zbox_new X1 (.int .i64 0) (.int .i64 0) (.slice none 0 0) (.slice none 0 0) 26).res
        have lA := S11.size
        replace rB := rB.below hb2
        have hAB : bB ≠ X1.heap.size := by have := lB2; omega
        obtain ⟨X2, hX2⟩ : ∃ X, X1.alloc (.cells #[.int .i64 0, .int .i64 0, .slice none 0 0, .slice none 0 0] 26) = X := ⟨_, rfl⟩
        rw [hX2] at S12 rA hb2 rB ⊢
        clear hX2 hb2
        generalize X1.heap.size = bA at rA lA hAB ⊢
        refine hK2 _ _ S12 ?_
        try simp only [Act.put, List.setIfInBounds_toArray, List.set_cons_zero, List.set_cons_succ]
        refine oneH 3 (by kernel_rfl) rfl rfl (fun K3 hK3 => ?_)
        go_simp
        refine (picked_fn t 3 3 rfl wt (by omega) (by omega) _).mono ?_
        rintro e wq ⟨rfl, rfl⟩
        rw [HT2.out]
        refine hK3 _ _ S12 ?_
        try simp only [Act.put, List.setIfInBounds_toArray, List.set_cons_zero, List.set_cons_succ]
        refine oneH 4 (by kernel_rfl) rfl rfl (fun K4 hK4 => ?_)
        go_simp
        refine (HTk.out _ S12).mono ?_
        rintro e wA ⟨hE, hbA⟩
        obtain rfl := hE
        have SA := S12.trans (hbA.mono S12.size)
        replace rA := rA.below hbA
        replace rB := rB.below hbA
        refine hK4 _ _ SA ?_
        try simp only [Act.put, List.setIfInBounds_toArray, List.set_cons_zero, List.set_cons_succ]
        refine takeH 5 (v := .tuple #[.agg #[.int .i64 0, .int .i64 0, .slice none 0 0, .slice none 0 0], .int .i64 0, .int .i64 6]) rfl (by kernel_rfl) (by kernel_rfl) (by kernel_rfl) (fun _ _ _ h => h) rfl (fun wx hSx => ?_) SA ?_
        · go_simp
        try simp only [Act.put, List.setIfInBounds_toArray, List.set_cons_zero, List.set_cons_succ]
        refine takeH 6 (v := .agg #[.int .i64 0, .int .i64 0, .slice none 0 0, .slice none 0 0]) rfl (by kernel_rfl) (by kernel_rfl) (by kernel_rfl) (fun _ _ _ h => h) rfl (fun wx hSx => ?_) SA ?_
        · go_simp
        try simp only [Act.put, List.setIfInBounds_toArray, List.set_cons_zero, List.set_cons_succ]
        refine takeH 7 (v := .int .i64 0) rfl (by kernel_rfl) (by kernel_rfl) (by kernel_rfl) (fun _ _ _ h => h) rfl (fun wx hSx => ?_) SA ?_
        · go_simp
        try simp only [Act.put, List.setIfInBounds_toArray, List.set_cons_zero, List.set_cons_succ]
        refine takeH 8 (v := .int .i64 6) rfl (by kernel_rfl) (by kernel_rfl) (by kernel_rfl) (fun _ _ _ h => h) rfl (fun wx hSx => ?_) SA ?_
        · go_simp
        try simp only [Act.put, List.setIfInBounds_toArray, List.set_cons_zero, List.set_cons_succ]
        refine oneH 11 (by kernel_rfl) rfl rfl (fun L1 hL1 => ?_)
        obtain ⟨⟨_, d0⟩, ⟨_, d1⟩, ⟨_, d2⟩, ⟨_, d3⟩, g0, g1, g2, g3⟩ := id rA
        go_simp
        have bt1 := but4 wA bA (.int .i64 0) (.int .i64 0) (.slice none 0 0) (.slice none 0 0)
        have SV1 := SA.trans (bt1.below lA SA.size)
        have rB1 : Res1 _ bB := rB.but bt1 hAB
        obtain ⟨V1, hV1⟩ : ∃ V1, (((wA.setCell ⟨bA, 0, none⟩ (.int .i64 0)).setCell ⟨bA, 1, none⟩ (.int .i64 0)).setCell ⟨bA, 2, none⟩ (.slice none 0 0)).setCell ⟨bA, 3, none⟩ (.slice none 0 0) = V1 := ⟨_, rfl⟩
        rw [hV1] at SV1 rB1 ⊢
        clear hV1 bt1 d0 d1 d2 d3 g0 g1 g2 g3 rA rB
        refine hL1 _ _ SV1 ?_
        try simp only [Act.put, List.setIfInBounds_toArray, List.set_cons_zero, List.set_cons_succ]
        refine oneH 12 (by kernel_rfl) rfl rfl (fun L2 hL2 => ?_)
        obtain ⟨⟨_, d0⟩, g0⟩ := id rB1
        go_simp
        have bt2 : But bB V1 (V1.setCell ⟨bB, 0, none⟩ (.int .i64 0)) := (But.refl _ _).setCell _
        have SV := SV1.trans (bt2.below lB SV1.size)
        have cA : (V1.setCell ⟨bB, 0, none⟩ (.int .i64 0)).cell? ⟨bB, 0, none⟩ = some (.int .i64 0) := World.cell?_setCell_same _ _ _ d0
        obtain ⟨V, hV⟩ : ∃ V, V1.setCell ⟨bB, 0, none⟩ (.int .i64 0) = V := ⟨_, rfl⟩
        rw [hV] at SV cA ⊢
        clear hV bt2 d0 g0 rB1 SV1
        refine hL2 _ _ SV ?_
        try simp only [Act.put, List.setIfInBounds_toArray, List.set_cons_zero, List.set_cons_succ]
        refine wpAnyH_done (by kernel_rfl) ?_ _
        show Oper.wp _ _ _ _ _ _
        have hz := z2.below SV
        have q2 := keep c2 SV
        have q10 := keep c10 SV
        have hH1 : HoldsB 17 #[.pointer (some ⟨W1.heap.size, 0, none⟩)] z.free (ordGe (O : Int)) V := fun i hi W hb => fullF1_any W _ (O : Int) _ _ _ (keep q10 hb)
        have HC1 := bContains_any V 17 #[.pointer (some ⟨W1.heap.size, 0, none⟩)] fo fn fc z.free (ordGe (O : Int)) hz.free fullF1_call hH1
        clear hH1
        go_wp2_with fail
        go_at_call 16
        refine HC1.mono ?_
        rintro e v1 ⟨rfl, hv1⟩
        have hz1 := hz.below hv1
        have cA1 := keep cA hv1
        have q10' := keep q10 hv1
        have q2' := keep q2 hv1
        have SV2 := SV.trans (hv1.mono SV.size)
        have hH2 : HoldsB 18 #[.pointer (some ⟨bB, 0, none⟩), .pointer (some ⟨W1.heap.size, 0, none⟩)] z.free (inAt 0 (O : Int)) v1 := fun i hi W hb => by
          obtain ⟨r1, r2, r3, _⟩ := (freeOk_at hZ.may.free hi rfl).1
          have := hZ.f
          have := hZ.t
          exact fullF2_any W _ _ 0 (O : Int) _ _ _ (keep cA1 hb) (keep q10' hb) oO r1 (by omega) (by omega) (by omega) (by omega)
        have HC2 := bContains_any v1 18 #[.pointer (some ⟨bB, 0, none⟩), .pointer (some ⟨W1.heap.size, 0, none⟩)] fo fn fc z.free (inAt 0 (O : Int)) hz1.free fullF2_call hH2
        rw [HF1.out]
        clear hH2 HC1
        go_wp2_with fail
        go_at_call 16
        refine HC2.mono ?_
        rintro e v2 ⟨rfl, hv2⟩
        have BF := hB2.trans ((SV2.trans (hv2.mono SV2.size)).mono hB2.size)
        generalize z.free.any (inAt 0 (O : Int)) = A2
        clear HC2
        go_wp2
        go_ret
        exact ⟨rfl, BF⟩

end Go.Proofs.YtffhpjjioefaeafDoor
