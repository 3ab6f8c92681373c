/-
  OWN TEXTS, bundled: KZone.
-/
import Derived.Test.YtffhpjjioefaeafDoorPart6
import Derived.Test.YtffhpjjioefaeafDoorPart9
import Derived.Test.YtffhpjjioefaeafDoorPart10

/-
  OWN TEXT. Contract of paddockkeep.zoned: a zone from which blocks were taken, and to which some came back; those that are away.
-/
namespace Go.Proofs.YtffhpjjioefaeafDoor
open Go Go.RowKit Go.Proofs.YtffhpjjioefaeafDoor.Kit

/-- What zoned returns. -/
def KzRet (w w' : World) (most : Nat) (e : Ending) : Prop := ∃ z aw fo fn fc to_ tn tc ao m cap, e = .returned (.tuple #[.agg #[.int .i64 z.f, .int .i64 z.t, .slice fo fn fc, .slice to_ tn tc], .slice ao m cap, .bool true]) ∧ ZnAt w' fo fn to_ tn z ∧ Blks w' ao m aw ∧ ZI z aw ∧ m ≤ 60 ∧ (most = 0 → firstZ = some z) ∧ Below w.heap.size w w'

/-- What a round of zoned begins with. -/
def KzS (w : World) (zb j : Nat) (av : Value) (W : World) : Prop :=
  ∃ z aw fo fn fc to_ tn tc ao m cap, av = .slice ao m cap ∧ KzI w zb z aw fo fn fc to_ tn tc ao m cap W ∧ ZI z aw ∧ m ≤ j ∧ (j = 0 → firstZ = some z)

theorem bDel_m (w : World) (base g m cap i : Nat) (l : List Bk) (hi : i < m) (hn : m ≤ 300) (own : w.ownsRow base 32 3 (.slice (some ⟨g, 0, none⟩) m cap) m (bvals l)) :
    Calls Tryd.prog 24 #[.slice (some ⟨g, 0, none⟩) m cap, .int .i64 i, .int .i64 ((i : Int) + 1)] w fun e w' => e = .returned (.slice (some ⟨g, 0, none⟩) (m - 1) cap) ∧
      w'.ownsRow base 32 3 (.slice (some ⟨g, 0, none⟩) (m - 1) cap) (m - 1) (bvals (l.eraseIdx i)) ∧ But g w w' := by
  obtain ⟨N, rfl⟩ : ∃ N, m = N + 1 := ⟨m - 1, by omega⟩
  exact bDel_any w base g N cap i l (by omega) (by omega) own

set_option maxRecDepth 10000 in
set_option maxHeartbeats 16000000 in
theorem zoned_any (w : World) (lo : Option Addr) (n lc : Nat) (l : List Raw4) (h : IsRaws w lo n lc l) (most : Nat) (hmost : most ≤ 60) (hT : TabAt w) :
    Calls Tryd.prog 8 #[.slice lo n lc, .int .i64 most] w fun e w' => KzRet w w' most e := by
  obtain ⟨i1, hj, hy0, hy1, hy2⟩ := info_parts info_block
  obtain ⟨hn, hle, hreach, hx, hwf⟩ := h
  obtain ⟨Y0, hY0, hI0⟩ := zi_first
  have HY0 : Hid _ := hY0
  have hb0 := below_box w (.cells #[.int .i64 0, .int .i64 0, .slice none 0 0, .slice none 0 0] 26)
  have r0 := (zbox_new w (.int .i64 0) (.int .i64 0) (.slice none 0 0) (.slice none 0 0) 26).res
  have hs0 : w.heap.size < (w.alloc (.cells #[.int .i64 0, .int .i64 0, .slice none 0 0, .slice none 0 0] 26)).heap.size := by simp
  obtain ⟨W0, hW0⟩ : ∃ W0, w.alloc (.cells #[.int .i64 0, .int .i64 0, .slice none 0 0, .slice none 0 0] 26) = W0 := ⟨_, rfl⟩
  rw [hW0] at hb0 r0 hs0
  have HW0 : Hid _ := hW0
  clear hW0 hY0
  go_enter Tryd.func8, Tryd.ntmps8
  go_wp2_with (rw [HW0.out])
  go_at_call 22
  refine (zNew_ok W0 16 112 ⟨by omega, by omega, by omega, by omega, by omega⟩).mono ?_
  rintro e w1 ⟨⟨fo, fn, fc, to_, tn, tc, rfl, hz1, f1, f2⟩, hb1⟩
  have hb01 := hb0.trans (hb1.mono hb0.size)
  have hbx := below_box w1 (.cells #[.int .i64 (newZ 16 112).f, .int .i64 (newZ 16 112).t, .slice fo fn fc, .slice to_ tn tc] 26)
  have B1 := zbox_new w1 (.int .i64 (newZ 16 112).f) (.int .i64 (newZ 16 112).t) (.slice fo fn fc) (.slice to_ tn tc) 26
  have z1 := hz1.below hbx
  have r1 := (r0.below hb1).below hbx
  have hs1 : w1.heap.size < (w1.alloc (.cells #[.int .i64 (newZ 16 112).f, .int .i64 (newZ 16 112).t, .slice fo fn fc, .slice to_ tn tc] 26)).heap.size := by simp
  have hs01 := hb1.size
  have hbW := hb01.trans (hbx.mono hb01.size)
  obtain ⟨W1, hW1⟩ : ∃ W1, w1.alloc (.cells #[.int .i64 (newZ 16 112).f, .int .i64 (newZ 16 112).t, .slice fo fn fc, .slice to_ tn tc] 26) = W1 := ⟨_, rfl⟩
  rw [hW1] at B1 z1 r1 hs1 hbW
  have HW1 : Hid _ := hW1
  have K1 : KzI w w1.heap.size (newZ 16 112) [] fo fn fc to_ tn tc none 0 0 W1 := ⟨hbW, r1, by omega, B1, z1, World.ownsRow_nil _ _ _ _, (fun g hg => by cases hg), f1.mono (by omega), f2.mono (by omega)⟩
  have hM0 : ZMay (newZ 16 112) := newZ_may ⟨by omega, by omega, by omega, by omega, by omega⟩
  have HG := zGive_do W1 fo fn fc to_ tn tc (newZ 16 112) 18 90 z1 hM0 ⟨by show (16 : Int) ≤ 18; omega, by show (18 : Int) ≤ 112; omega, by omega, by show (90 : Int) ≤ 112 - 18; omega⟩ (some Y0) HY0.out
  have c0 := B1.c0
  have c1 := B1.c1
  have c2 := B1.c2
  have c3 := B1.c3
  clear hb0 r0 hs0 HW0 hz1 hb1 hbx B1 z1 r1 hbW hb01 hW1
  go_wp2_with (rw [HW1.out])
  go_at_call 23
  refine HG.mono ?_
  rintro e w2 ⟨hE, hb2⟩
  obtain ⟨fo, fn, fc, to_, tn, tc, rfl, hz2, f1, f2⟩ : RetZone W1.heap.size w2 Y0 e := by
    rcases hE with ⟨Z, e1, hR⟩ | ⟨e1, _⟩
    · cases e1; exact hR
    · cases e1
  have K2 := K1.newZone (fc' := fc) (tc' := tc) hb2 hz2 f1 f2
  have K1' := K1.below hb2
  obtain ⟨⟨_, d0⟩, ⟨_, d1⟩, ⟨_, d2⟩, ⟨_, d3⟩, g0, g1, g2, g3⟩ := K1'.box.res
  have S0 : KzS w w1.heap.size 0 (.slice none 0 0) _ := ⟨_, _, _, _, _, _, _, _, _, _, _, rfl, K2, hI0, Nat.le_refl _, fun _ => HY0.out⟩
  obtain ⟨W2, hW2⟩ : ∃ W2, (((w2.setCell ⟨w1.heap.size, 0, none⟩ (.int .i64 Y0.f)).setCell ⟨w1.heap.size, 1, none⟩ (.int .i64 Y0.t)).setCell ⟨w1.heap.size, 2, none⟩ (.slice fo fn fc)).setCell ⟨w1.heap.size, 3, none⟩ (.slice to_ tn tc) = W2 := ⟨_, rfl⟩
  rw [hW2] at S0
  have HW2 : Hid _ := hW2
  clear K1 K2 K1' hM0 HG hW2 HW1 hE c0 c1 c2 c3 hs1 hs01 hb2 hz2
  go_wp2_with (rw [HW2.out])
  generalize w1.heap.size = zb at *
  clear HW2 d0 d1 d2 d3 g0 g1 g2 g3 f1 f2 hI0 HY0
  go_loopw [10, 11] (fun av iv wr => ∃ j : Nat, j ≤ n ∧ j ≤ most ∧ iv = .int .i64 j ∧ KzS w zb j av wr) (fun _ iv _ => n - (intOf iv).toNat)
  case atStart => exact ⟨0, Nat.zero_le _, Nat.zero_le _, rfl, S0⟩
  case round =>
    obtain ⟨j, hj1, hj2, rfl, S⟩ := hrel
    clear S0
    obtain ⟨z, aw, fo, fn, fc, to_, tn, tc, ao, m, cap, rfl, I, hZ, hmj, hfirst⟩ := S
    have c0 := I.box.c0
    have c1 := I.box.c1
    have c2 := I.box.c2
    have c3 := I.box.c3
    by_cases hlt : (j : Int) < n
    · by_cases hlt2 : (j : Int) < most
      · obtain ⟨rb, ro, rfl, x0, x1, x2, x3⟩ := hx j (by omega)
        have hfit := hwf j (by omega)
        generalize l.getD j .zero = r at x0 x1 x2 x3 hfit
        obtain ⟨rk, ra, rbb, rc⟩ := r
        obtain ⟨v0, v1, v2, v3⟩ := hfit
        dsimp only at x0 x1 x2 x3 v0 v1 v2 v3
        have t0 := keep x0 I.b
        have t1 := keep x1 I.b
        have t2 := keep x2 I.b
        have t3 := keep x3 I.b
        have hbx := below_box wr (.cells #[.int .i64 rk, .int .i64 ra, .int .i64 rbb, .int .i64 rc] 53)
        have I1 := I.below hbx
        have Y1 := zbox_new wr (.int .i64 rk) (.int .i64 ra) (.int .i64 rbb) (.int .i64 rc) 53
        obtain ⟨Wb, hWb⟩ : ∃ Wb, wr.alloc (.cells #[.int .i64 rk, .int .i64 ra, .int .i64 rbb, .int .i64 rc] 53) = Wb := ⟨_, rfl⟩
        rw [hWb] at I1 Y1
        have HWb : Hid _ := hWb
        have y0 := Y1.c0
        have y1 := Y1.c1
        have y2 := Y1.c2
        have n0 := I1.box.c0
        have n1 := I1.box.c1
        have n2 := I1.box.c2
        have n3 := I1.box.c3
        have hmn : (j : Int) < (n : Int) := hlt
        clear hWb hbx c0 c1 c2 c3 I
        go_wp2_with (rw [HWb.out])
        go_at_call 14
        refine (picked_fn rk 3 3 rfl v0 (by omega) (by omega) _).mono ?_
        rintro e wq ⟨rfl, rfl⟩
        clear HWb t0 t1 t2 t3
        generalize pickN rk 3 = R
        have hbl := bowns_len I1.own
        by_cases hback : R = 0 ∧ 0 < m
        · obtain ⟨rfl, hm0⟩ := hback
          have q1 : (((0 : Nat) : Int) == 0) = true := rfl
          have q2 : (0 : Int) < (m : Int) := by omega
          obtain ⟨g, rfl, hgz, hgl⟩ := owns_head I1.own hm0
          have hq := pickN_lt ra m hm0
          go_wp2_with fail
          go_at_call 14
          refine (picked_fn ra (m : Int) m rfl v1 hm0 (by omega) _).mono ?_
          rintro e wq ⟨rfl, rfl⟩
          generalize pickN ra m = q at hq
          generalize hbk : aw.getD q .zero = bk
          obtain ⟨ba, bo, bt⟩ := bk
          obtain ⟨hin, hno, hZ'⟩ := zi_back hZ (by omega) hbk
          obtain ⟨p0, p1, p2⟩ := own_at I1.own hq hbk
          have HBK : Hid _ := hbk
          clear hbk
          have q3 : (q : Int) < (m : Int) := by omega
          obtain ⟨Y, hY⟩ : ∃ Y, backZ z ba bo = Y := ⟨_, rfl⟩
          rw [hY] at hZ'
          have HBk : Hid (∀ V, Below Wb.heap.size Wb V → Calls Tryd.prog 11 #[.agg #[.int .i64 z.f, .int .i64 z.t, .slice fo fn fc, .slice to_ tn tc], .int .i64 ba, .int .i64 bo] V fun e w' => RetZone V.heap.size w' Y e ∧ Below V.heap.size V w') := fun V hV => hY ▸ zBack_ok V fo fn fc to_ tn tc z ba bo (I1.zn.below hV) hZ.may hin hno
          clear hY
          have S1 : Below Wb.heap.size Wb { Wb with drawn := Wb.drawn + 1 } := (Below.refl Wb.heap.size Wb).drew
          have m0 : ∀ wx, Below Wb.heap.size Wb wx → wx.cell? ⟨zb, 0, none⟩ = some (.int .i64 z.f) := fun wx h => keep n0 h
          have m1 : ∀ wx, Below Wb.heap.size Wb wx → wx.cell? ⟨zb, 1, none⟩ = some (.int .i64 z.t) := fun wx h => keep n1 h
          have m2 : ∀ wx, Below Wb.heap.size Wb wx → wx.cell? ⟨zb, 2, none⟩ = some (.slice fo fn fc) := fun wx h => keep n2 h
          have m3 : ∀ wx, Below Wb.heap.size Wb wx → wx.cell? ⟨zb, 3, none⟩ = some (.slice to_ tn tc) := fun wx h => keep n3 h
          have m4 : ∀ wx, Below Wb.heap.size Wb wx → wx.cell? ⟨g, q * 3, none⟩ = some (.int .i64 ba) := fun wx h => keep p0 h
          have m5 : ∀ wx, Below Wb.heap.size Wb wx → wx.cell? ⟨g, q * 3 + 1, none⟩ = some (.int .i64 bo) := fun wx h => keep p1 h
          go_wp2_with fail
          refine wp_region_peel (S := fun wx => Below Wb.heap.size Wb wx) 17 _ (by kernel_rfl) (by kernel_rfl) rfl ?_
          simp only [List.take_succ_cons, List.take_zero]
          refine takeH 0 (v := .agg #[.int .i64 z.f, .int .i64 z.t, .slice fo fn fc, .slice to_ tn tc]) rfl (by kernel_rfl) (by kernel_rfl) (by kernel_rfl) (fun _ _ _ h => h) rfl (fun wx hSx => ?_) S1 ?_
          · go_simp
          try simp only [Act.put, List.setIfInBounds_toArray, List.set_cons_zero, List.set_cons_succ]
          refine takeH 1 (v := .slice (some ⟨g, 0, none⟩) m cap) rfl (by kernel_rfl) (by kernel_rfl) (by kernel_rfl) (fun _ _ _ h => h) rfl (fun wx hSx => ?_) S1 ?_
          · go_simp
          try simp only [Act.put, List.setIfInBounds_toArray, List.set_cons_zero, List.set_cons_succ]
          refine takeH 2 (v := .int .i64 (q : Int)) rfl (by kernel_rfl) (by kernel_rfl) (by kernel_rfl) (fun _ _ _ h => h) rfl (fun wx hSx => ?_) S1 ?_
          · go_simp
          try simp only [Act.put, List.setIfInBounds_toArray, List.set_cons_zero, List.set_cons_succ]
          refine takeH 3 (v := .pointer (some ⟨g, q * 3, none⟩)) rfl (by kernel_rfl) (by kernel_rfl) (by kernel_rfl) (fun _ _ _ h => h) rfl (fun wx hSx => ?_) S1 ?_
          · go_simp
          try simp only [Act.put, List.setIfInBounds_toArray, List.set_cons_zero, List.set_cons_succ]
          refine takeH 4 (v := .pointer (some ⟨g, q * 3, none⟩)) rfl (by kernel_rfl) (by kernel_rfl) (by kernel_rfl) (fun _ _ _ h => h) rfl (fun wx hSx => ?_) S1 ?_
          · go_simp
          try simp only [Act.put, List.setIfInBounds_toArray, List.set_cons_zero, List.set_cons_succ]
          refine takeH 5 (v := .int .i64 ba) rfl (by kernel_rfl) (by kernel_rfl) (by kernel_rfl) (fun _ _ _ h => h) rfl (fun wx hSx => ?_) S1 ?_
          · go_simp
          try simp only [Act.put, List.setIfInBounds_toArray, List.set_cons_zero, List.set_cons_succ]
          refine takeH 6 (v := .slice (some ⟨g, 0, none⟩) m cap) rfl (by kernel_rfl) (by kernel_rfl) (by kernel_rfl) (fun _ _ _ h => h) rfl (fun wx hSx => ?_) S1 ?_
          · go_simp
          try simp only [Act.put, List.setIfInBounds_toArray, List.set_cons_zero, List.set_cons_succ]
          refine takeH 7 (v := .int .i64 (q : Int)) rfl (by kernel_rfl) (by kernel_rfl) (by kernel_rfl) (fun _ _ _ h => h) rfl (fun wx hSx => ?_) S1 ?_
          · go_simp
          try simp only [Act.put, List.setIfInBounds_toArray, List.set_cons_zero, List.set_cons_succ]
          refine takeH 8 (v := .pointer (some ⟨g, q * 3, none⟩)) rfl (by kernel_rfl) (by kernel_rfl) (by kernel_rfl) (fun _ _ _ h => h) rfl (fun wx hSx => ?_) S1 ?_
          · go_simp
          try simp only [Act.put, List.setIfInBounds_toArray, List.set_cons_zero, List.set_cons_succ]
          refine takeH 9 (v := .pointer (some ⟨g, q * 3 + 1, none⟩)) rfl (by kernel_rfl) (by kernel_rfl) (by kernel_rfl) (fun _ _ _ h => h) rfl (fun wx hSx => ?_) S1 ?_
          · go_simp
          try simp only [Act.put, List.setIfInBounds_toArray, List.set_cons_zero, List.set_cons_succ]
          refine takeH 10 (v := .int .i64 bo) rfl (by kernel_rfl) (by kernel_rfl) (by kernel_rfl) (fun _ _ _ h => h) rfl (fun wx hSx => ?_) S1 ?_
          · go_simp
          try simp only [Act.put, List.setIfInBounds_toArray, List.set_cons_zero, List.set_cons_succ]
          refine twoH 11 15 (by kernel_rfl) rfl rfl rfl rfl (fun K1 hK1 => ?_) (fun K1 hK1 => ?_)
          · go_simp
            refine (HBk.out _ S1).mono ?_
            rintro e wA ⟨⟨fo', fn', fc', to', tn', tc', rfl, hzA, fA1, fA2⟩, hbA⟩
            have SA : Below Wb.heap.size Wb wA := S1.trans (hbA.mono S1.size)
            refine hK1 _ _ SA ?_
            try simp only [Act.put, List.setIfInBounds_toArray, List.set_cons_zero, List.set_cons_succ]
            refine takeH 12 (v := .tuple #[.agg #[.int .i64 Y.f, .int .i64 Y.t, .slice fo' fn' fc', .slice to' tn' tc'], .int .i64 0]) rfl (by kernel_rfl) (by kernel_rfl) (by kernel_rfl) (fun _ _ _ h => h) rfl (fun wx hSx => ?_) SA ?_
            · go_simp
            try simp only [Act.put, List.setIfInBounds_toArray, List.set_cons_zero, List.set_cons_succ]
            refine takeH 13 (v := .agg #[.int .i64 Y.f, .int .i64 Y.t, .slice fo' fn' fc', .slice to' tn' tc']) rfl (by kernel_rfl) (by kernel_rfl) (by kernel_rfl) (fun _ _ _ h => h) rfl (fun wx hSx => ?_) SA ?_
            · go_simp
            try simp only [Act.put, List.setIfInBounds_toArray, List.set_cons_zero, List.set_cons_succ]
            refine takeH 14 (v := .int .i64 0) rfl (by kernel_rfl) (by kernel_rfl) (by kernel_rfl) (fun _ _ _ h => h) rfl (fun wx hSx => ?_) SA ?_
            · go_simp
            try simp only [Act.put, List.setIfInBounds_toArray, List.set_cons_zero, List.set_cons_succ]
            refine oneH 15 (by kernel_rfl) rfl rfl (fun K2 hK2 => ?_)
            go_simp
            refine hK2 _ _ (SA.trans ((below_box wA _).mono SA.size)) ?_
            try simp only [Act.put, List.setIfInBounds_toArray, List.set_cons_zero, List.set_cons_succ]
            refine oneH 16 (by kernel_rfl) rfl rfl (fun K3 hK3 => ?_)
            go_simp
            have BX := zbox_new wA (.int .i64 Y.f) (.int .i64 Y.t) (.slice fo' fn' fc') (.slice to' tn' tc') 26
            have ZV := hzA.below (below_box wA (.cells #[.int .i64 Y.f, .int .i64 Y.t, .slice fo' fn' fc', .slice to' tn' tc'] 26))
            have SV : Below Wb.heap.size Wb (wA.alloc (.cells #[.int .i64 Y.f, .int .i64 Y.t, .slice fo' fn' fc', .slice to' tn' tc'] 26)) := SA.trans ((below_box wA _).mono SA.size)
            have FV1 : Fresh Wb.heap.size fo' := fA1.mono (by have := S1.size; exact this)
            have FV2 : Fresh Wb.heap.size to' := fA2.mono (by have := S1.size; exact this)
            obtain ⟨V, hV⟩ : ∃ V, wA.alloc (.cells #[.int .i64 Y.f, .int .i64 Y.t, .slice fo' fn' fc', .slice to' tn' tc'] 26) = V := ⟨_, rfl⟩
            rw [hV] at BX ZV SV ⊢
            have HV : Hid _ := hV
            clear hV
            refine hK3 _ _ SV ?_
            try simp only [Act.put, List.setIfInBounds_toArray, List.set_cons_zero, List.set_cons_succ]
            refine wpAnyH_done (by kernel_rfl) ?_ _
            show Oper.wp _ _ _ _ _ _
            have b0 := BX.c0
            have b1 := BX.c1
            have b2 := BX.c2
            have b3 := BX.c3
            have KV := I1.newZone (fc' := fc') (tc' := tc') SV ZV FV1 FV2
            obtain ⟨⟨_, e0⟩, ⟨_, e1⟩, ⟨_, e2⟩, ⟨_, e3⟩, s0, s1, s2, s3⟩ := (I1.below SV).box.res
            obtain ⟨V1, hV1⟩ : ∃ V1, (((V.setCell ⟨zb, 0, none⟩ (.int .i64 Y.f)).setCell ⟨zb, 1, none⟩ (.int .i64 Y.t)).setCell ⟨zb, 2, none⟩ (.slice fo' fn' fc')).setCell ⟨zb, 3, none⟩ (.slice to' tn' tc') = V1 := ⟨_, rfl⟩
            rw [hV1] at KV
            have HV1 : Hid _ := hV1
            have HD := bDel_m V1 (zb + 1) g m cap q aw hq (by omega) KV.own
            have q5 : IntKind.i64.wrap ((q : Int) + 1) = (q : Int) + 1 := IntWalk.i64_in _ (by omega)
            clear hV1 hK1 hK2 hK3 m0 m1 m2 m3 m4 m5 HBk S1 I1 BX ZV SV SA n0 n1 n2 n3 p0 p1 p2 y0 y1 y2 Y1 HV
            go_wp2_with (rw [HV1.out])
            go_at_call 24
            refine HD.mono ?_
            rintro e w5 ⟨rfl, o5, hb5⟩
            have K5 := KV.newRow hb5 (by omega) o5
            clear HD HV1 KV e0 e1 e2 e3 s0 s1 s2 s3 b0 b1 b2 b3
            go_wp2
            go_roundw
            case rel => exact ⟨j + 1, by omega, by omega, by go_num, ⟨_, _, _, _, _, _, _, _, _, _, _, rfl, K5, hZ', by omega, fun h0 => by omega⟩⟩
            case measure => simp [intOf]; omega
          · go_simp
            have SB : Below Wb.heap.size Wb (Wb.alloc (.cells #[.int .i64 0, .int .i64 0, .slice none 0 0, .slice none 0 0] 26)).drew := (below_box Wb _).drew
            refine hK1 _ _ SB ?_
            try simp only [Act.put, List.setIfInBounds_toArray, List.set_cons_zero, List.set_cons_succ]
            refine oneH 11 (by kernel_rfl) rfl rfl (fun K2 hK2 => ?_)
            go_simp
            refine (HBk.out _ SB).mono ?_
            rintro e wA ⟨⟨fo', fn', fc', to', tn', tc', rfl, hzA, fA1, fA2⟩, hbA⟩
            have SA : Below Wb.heap.size Wb wA := SB.trans (hbA.mono SB.size)
            refine hK2 _ _ SA ?_
            try simp only [Act.put, List.setIfInBounds_toArray, List.set_cons_zero, List.set_cons_succ]
            refine takeH 12 (v := .tuple #[.agg #[.int .i64 Y.f, .int .i64 Y.t, .slice fo' fn' fc', .slice to' tn' tc'], .int .i64 0]) rfl (by kernel_rfl) (by kernel_rfl) (by kernel_rfl) (fun _ _ _ h => h) rfl (fun wx hSx => ?_) SA ?_
            · go_simp
            try simp only [Act.put, List.setIfInBounds_toArray, List.set_cons_zero, List.set_cons_succ]
            refine takeH 13 (v := .agg #[.int .i64 Y.f, .int .i64 Y.t, .slice fo' fn' fc', .slice to' tn' tc']) rfl (by kernel_rfl) (by kernel_rfl) (by kernel_rfl) (fun _ _ _ h => h) rfl (fun wx hSx => ?_) SA ?_
            · go_simp
            try simp only [Act.put, List.setIfInBounds_toArray, List.set_cons_zero, List.set_cons_succ]
            refine takeH 14 (v := .int .i64 0) rfl (by kernel_rfl) (by kernel_rfl) (by kernel_rfl) (fun _ _ _ h => h) rfl (fun wx hSx => ?_) SA ?_
            · go_simp
            try simp only [Act.put, List.setIfInBounds_toArray, List.set_cons_zero, List.set_cons_succ]
            have rB := ((zbox_new Wb (.int .i64 0) (.int .i64 0) (.slice none 0 0) (.slice none 0 0) 26).res.below (Below.refl _ _).drew).below hbA
            obtain ⟨⟨_, d0⟩, ⟨_, d1⟩, ⟨_, d2⟩, ⟨_, d3⟩, g0, g1, g2, g3⟩ := id rB
            refine oneH 16 (by kernel_rfl) rfl rfl (fun K3 hK3 => ?_)
            go_simp
            have hbt := but4 wA Wb.heap.size (.int .i64 Y.f) (.int .i64 Y.t) (.slice fo' fn' fc') (.slice to' tn' tc')
            have BX := (ZBox.mk d0 d1 d2 d3 g0 g1 g2 g3).set4 (.int .i64 Y.f) (.int .i64 Y.t) (.slice fo' fn' fc') (.slice to' tn' tc')
            have fs : Wb.heap.size < ((Wb.alloc (.cells #[.int .i64 0, .int .i64 0, .slice none 0 0, .slice none 0 0] 26)).drew).heap.size := by simp
            have ZV := ZnAt.apt hzA hbt (.fresh fA1 fs) (.fresh fA2 fs)
            have SV := SA.trans (hbt.below (Nat.le_refl _) SA.size)
            have FV1 : Fresh Wb.heap.size fo' := fA1.mono (Nat.le_of_lt fs)
            have FV2 : Fresh Wb.heap.size to' := fA2.mono (Nat.le_of_lt fs)
            obtain ⟨V, hV⟩ : ∃ V, (((wA.setCell ⟨Wb.heap.size, 0, none⟩ (.int .i64 Y.f)).setCell ⟨Wb.heap.size, 1, none⟩ (.int .i64 Y.t)).setCell ⟨Wb.heap.size, 2, none⟩ (.slice fo' fn' fc')).setCell ⟨Wb.heap.size, 3, none⟩ (.slice to' tn' tc') = V := ⟨_, rfl⟩
            rw [hV] at BX ZV SV ⊢
            have HV : Hid _ := hV
            clear hV
            refine hK3 _ _ SV ?_
            try simp only [Act.put, List.setIfInBounds_toArray, List.set_cons_zero, List.set_cons_succ]
            refine wpAnyH_done (by kernel_rfl) ?_ _
            show Oper.wp _ _ _ _ _ _
            have b0 := BX.c0
            have b1 := BX.c1
            have b2 := BX.c2
            have b3 := BX.c3
            have KV := I1.newZone (fc' := fc') (tc' := tc') SV ZV FV1 FV2
            obtain ⟨⟨_, e0⟩, ⟨_, e1⟩, ⟨_, e2⟩, ⟨_, e3⟩, s0, s1, s2, s3⟩ := (I1.below SV).box.res
            obtain ⟨V1, hV1⟩ : ∃ V1, (((V.setCell ⟨zb, 0, none⟩ (.int .i64 Y.f)).setCell ⟨zb, 1, none⟩ (.int .i64 Y.t)).setCell ⟨zb, 2, none⟩ (.slice fo' fn' fc')).setCell ⟨zb, 3, none⟩ (.slice to' tn' tc') = V1 := ⟨_, rfl⟩
            rw [hV1] at KV
            have HV1 : Hid _ := hV1
            have HD := bDel_m V1 (zb + 1) g m cap q aw hq (by omega) KV.own
            have q5 : IntKind.i64.wrap ((q : Int) + 1) = (q : Int) + 1 := IntWalk.i64_in _ (by omega)
            clear hV1 hbt rB d0 d1 d2 d3 g0 g1 g2 g3 fs hK1 hK2 hK3 m0 m1 m2 m3 m4 m5 HBk S1 I1 BX ZV SV SA n0 n1 n2 n3 p0 p1 p2 y0 y1 y2 Y1 HV
            go_wp2_with (rw [HV1.out])
            go_at_call 24
            refine HD.mono ?_
            rintro e w5 ⟨rfl, o5, hb5⟩
            have K5 := KV.newRow hb5 (by omega) o5
            clear HD HV1 KV e0 e1 e2 e3 s0 s1 s2 s3 b0 b1 b2 b3
            go_wp2
            go_roundw
            case rel => exact ⟨j + 1, by omega, by omega, by go_num, ⟨_, _, _, _, _, _, _, _, _, _, _, rfl, K5, hZ', by omega, fun h0 => by omega⟩⟩
            case measure => simp [intOf]; omega
        · have q1' : ((R : Int) == 0) = false ∨ (((R : Int) == 0) = true ∧ ¬ ((0 : Int) < (m : Int))) := by
            by_cases hR : R = 0
            · subst hR
              exact .inr ⟨rfl, by omega⟩
            · exact .inl (by simp; omega)
          clear hback
          have hO5 := pickN_lt ra 5 (by omega)
          have hT3 := pickN_lt rbb 3 (by omega)
          obtain ⟨O, hO⟩ : ∃ O, pickN ra 5 = O := ⟨_, rfl⟩
          obtain ⟨T, hTt⟩ : ∃ T, pickN rbb 3 = T := ⟨_, rfl⟩
          rw [hO] at hO5
          rw [hTt] at hT3
          have HO2 : Hid _ := hO
          have HT2 : Hid _ := hTt
          have oO : ordOk (O : Int) := ⟨by omega, by omega⟩
          have oT : typeOk (T : Int) := ⟨by omega, by omega⟩
          have hTb : TabAt Wb := hT.below I1.b
          clear hO hTt
          have S1 : Below Wb.heap.size Wb { Wb with drawn := Wb.drawn + 1 } := (Below.refl Wb.heap.size Wb).drew
          have m0 : ∀ wx, Below Wb.heap.size Wb wx → wx.cell? ⟨zb, 0, none⟩ = some (.int .i64 z.f) := fun wx h => keep n0 h
          have m1 : ∀ wx, Below Wb.heap.size Wb wx → wx.cell? ⟨zb, 1, none⟩ = some (.int .i64 z.t) := fun wx h => keep n1 h
          have m2 : ∀ wx, Below Wb.heap.size Wb wx → wx.cell? ⟨zb, 2, none⟩ = some (.slice fo fn fc) := fun wx h => keep n2 h
          have m3 : ∀ wx, Below Wb.heap.size Wb wx → wx.cell? ⟨zb, 3, none⟩ = some (.slice to_ tn tc) := fun wx h => keep n3 h
          have m6 : ∀ wx, Below Wb.heap.size Wb wx → wx.cell? ⟨wr.heap.size, 2, none⟩ = some (.int .i64 rbb) := fun wx h => keep y2 h
          by_cases hC : 0 ≤ chooseI z.free (O : Int) (T : Int)
          · obtain ⟨i, hi, _, _⟩ := choose_in hC
            have hZ' := zi_take hZ oO oT hi
            obtain ⟨Y, hY⟩ : ∃ Y, takeZ z (O : Int) (T : Int) i = Y := ⟨_, rfl⟩
            obtain ⟨a, ha⟩ : ∃ a, (z.free.getD i .zero).a = a := ⟨_, rfl⟩
            rw [hY, ha] at hZ'
            have HTk : Hid (∀ V, Below Wb.heap.size Wb V → Calls Tryd.prog 15 #[.agg #[.int .i64 z.f, .int .i64 z.t, .slice fo fn fc, .slice to_ tn tc], .int .i64 (O : Int), .int .i64 (T : Int)] V fun e w' => RetZone3 V.heap.size w' Y a e ∧ Below V.heap.size V w') := fun V hV => by
              have := zTake_ok V fo fn fc to_ tn tc z (O : Int) (T : Int) i (I1.zn.below hV) hZ.may (hTb.below hV) oO oT hi
              rw [hY, ha] at this
              exact this
            clear hY ha hi hC
            rcases q1' with q1 | ⟨q1, q2⟩
            all_goals
              go_wp2_with fail
              go_at_call 14
              refine (picked_fn ra 5 5 rfl v1 (by omega) (by omega) _).mono ?_
              rintro e wq ⟨rfl, rfl⟩
              rw [HO2.out]
              go_wp2_with fail
              refine wp_region_peel (S := fun wx => Below Wb.heap.size Wb wx) 13 _ (by kernel_rfl) (by kernel_rfl) rfl ?_
              simp only [List.take_succ_cons, List.take_zero]
              refine takeH 0 (v := .agg #[.int .i64 z.f, .int .i64 z.t, .slice fo fn fc, .slice to_ tn tc]) rfl (by kernel_rfl) (by kernel_rfl) (by kernel_rfl) (fun _ _ _ h => h) rfl (fun wx hSx => ?_) S1 ?_
              · go_simp
              try simp only [Act.put, List.setIfInBounds_toArray, List.set_cons_zero, List.set_cons_succ]
              refine takeH 1 (v := .int .i64 (O : Int)) rfl (by kernel_rfl) (by kernel_rfl) (by kernel_rfl) (fun _ _ _ h => h) rfl (fun wx hSx => ?_) S1 ?_
              · go_simp
              try simp only [Act.put, List.setIfInBounds_toArray, List.set_cons_zero, List.set_cons_succ]
              refine takeH 2 (v := .pointer (some ⟨wr.heap.size, 2, none⟩)) rfl (by kernel_rfl) (by kernel_rfl) (by kernel_rfl) (fun _ _ _ h => h) rfl (fun wx hSx => ?_) S1 ?_
              · go_simp
              try simp only [Act.put, List.setIfInBounds_toArray, List.set_cons_zero, List.set_cons_succ]
              refine takeH 3 (v := .int .i64 rbb) rfl (by kernel_rfl) (by kernel_rfl) (by kernel_rfl) (fun _ _ _ h => h) rfl (fun wx hSx => ?_) S1 ?_
              · go_simp
              try simp only [Act.put, List.setIfInBounds_toArray, List.set_cons_zero, List.set_cons_succ]
              refine twoH 4 10 (by kernel_rfl) rfl rfl rfl rfl (fun K1 hK1 => ?_) (fun K1 hK1 => ?_)
              · go_simp
                refine (picked_fn rbb 3 3 rfl v2 (by omega) (by omega) _).mono ?_
                rintro e wq ⟨rfl, rfl⟩
                rw [HT2.out]
                refine hK1 _ _ S1 ?_
                try simp only [Act.put, List.setIfInBounds_toArray, List.set_cons_zero, List.set_cons_succ]
                refine twoH 5 10 (by kernel_rfl) rfl rfl rfl rfl (fun K2 hK2 => ?_) (fun K2 hK2 => ?_)
                · go_simp
                  refine (HTk.out _ S1).mono ?_
                  rintro e wA ⟨⟨fo', fn', fc', to', tn', tc', rfl, hzA, fA1, fA2⟩, hbA⟩
                  have SA : Below Wb.heap.size Wb wA := S1.trans (hbA.mono S1.size)
                  refine hK2 _ _ SA ?_
                  try simp only [Act.put, List.setIfInBounds_toArray, List.set_cons_zero, List.set_cons_succ]
                  refine takeH 6 (v := .tuple #[.agg #[.int .i64 Y.f, .int .i64 Y.t, .slice fo' fn' fc', .slice to' tn' tc'], .int .i64 a, .int .i64 0]) rfl (by kernel_rfl) (by kernel_rfl) (by kernel_rfl) (fun _ _ _ h => h) rfl (fun wx hSx => ?_) SA ?_
                  · go_simp
                  try simp only [Act.put, List.setIfInBounds_toArray, List.set_cons_zero, List.set_cons_succ]
                  refine takeH 7 (v := .agg #[.int .i64 Y.f, .int .i64 Y.t, .slice fo' fn' fc', .slice to' tn' tc']) rfl (by kernel_rfl) (by kernel_rfl) (by kernel_rfl) (fun _ _ _ h => h) rfl (fun wx hSx => ?_) SA ?_
                  · go_simp
                  try simp only [Act.put, List.setIfInBounds_toArray, List.set_cons_zero, List.set_cons_succ]
                  refine takeH 8 (v := .int .i64 a) rfl (by kernel_rfl) (by kernel_rfl) (by kernel_rfl) (fun _ _ _ h => h) rfl (fun wx hSx => ?_) SA ?_
                  · go_simp
                  try simp only [Act.put, List.setIfInBounds_toArray, List.set_cons_zero, List.set_cons_succ]
                  refine takeH 9 (v := .int .i64 0) rfl (by kernel_rfl) (by kernel_rfl) (by kernel_rfl) (fun _ _ _ h => h) rfl (fun wx hSx => ?_) SA ?_
                  · go_simp
                  try simp only [Act.put, List.setIfInBounds_toArray, List.set_cons_zero, List.set_cons_succ]
                  refine oneH 10 (by kernel_rfl) rfl rfl (fun K5 hK5 => ?_)
                  go_simp
                  refine hK5 _ _ (SA.trans ((below_box wA _).mono SA.size)) ?_
                  try simp only [Act.put, List.setIfInBounds_toArray, List.set_cons_zero, List.set_cons_succ]
                  refine oneH 11 (by kernel_rfl) rfl rfl (fun K6 hK6 => ?_)
                  go_simp
                  have SV : Below Wb.heap.size Wb (wA.alloc (.cells #[.int .i64 Y.f, .int .i64 Y.t, .slice fo' fn' fc', .slice to' tn' tc'] 26)) := SA.trans ((below_box wA _).mono SA.size)
                  have BX := zbox_new wA (.int .i64 Y.f) (.int .i64 Y.t) (.slice fo' fn' fc') (.slice to' tn' tc') 26
                  have ZV := hzA.below (below_box wA (.cells #[.int .i64 Y.f, .int .i64 Y.t, .slice fo' fn' fc', .slice to' tn' tc'] 26))
                  have FV1 : Fresh Wb.heap.size fo' := fA1.mono (by have := S1.size; exact this)
                  have FV2 : Fresh Wb.heap.size to' := fA2.mono (by have := S1.size; exact this)
                  obtain ⟨V, hV⟩ : ∃ V, wA.alloc (.cells #[.int .i64 Y.f, .int .i64 Y.t, .slice fo' fn' fc', .slice to' tn' tc'] 26) = V := ⟨_, rfl⟩
                  rw [hV] at BX ZV SV ⊢
                  clear hV
                  refine hK6 _ _ SV ?_
                  try simp only [Act.put, List.setIfInBounds_toArray, List.set_cons_zero, List.set_cons_succ]
                  refine takeH 12 (v := .int .i64 a) rfl (by kernel_rfl) (by kernel_rfl) (by kernel_rfl) (fun _ _ _ h => h) rfl (fun wx hSx => ?_) SV ?_
                  · go_simp
                  try simp only [Act.put, List.setIfInBounds_toArray, List.set_cons_zero, List.set_cons_succ]
                  refine wpAnyH_done (by kernel_rfl) ?_ _
                  show Oper.wp _ _ _ _ _ _
                  have b0 := BX.c0
                  have b1 := BX.c1
                  have b2 := BX.c2
                  have b3 := BX.c3
                  have KV := I1.newZone (fc' := fc') (tc' := tc') SV ZV FV1 FV2
                  obtain ⟨⟨_, e0⟩, ⟨_, e1⟩, ⟨_, e2⟩, ⟨_, e3⟩, s0, s1, s2, s3⟩ := (I1.below SV).box.res
                  obtain ⟨V1, hV1⟩ : ∃ V1, (((V.setCell ⟨zb, 0, none⟩ (.int .i64 Y.f)).setCell ⟨zb, 1, none⟩ (.int .i64 Y.t)).setCell ⟨zb, 2, none⟩ (.slice fo' fn' fc')).setCell ⟨zb, 3, none⟩ (.slice to' tn' tc') = V1 := ⟨_, rfl⟩
                  rw [hV1] at KV
                  have HV1 : Hid _ := hV1
                  have K2' := KV.below (below_box V1 (.cells #[.int .i64 a, .int .i64 (O : Int), .int .i64 0] 32))
                  have hzl := KV.box.lt
                  obtain ⟨g', cap', W6, hrun, o6, hc6⟩ := append_row (P := Tryd.prog) (V1.alloc (.cells #[.int .i64 a, .int .i64 (O : Int), .int .i64 0] 32)) (zb + 1) 23 23 32 i1 _ 3 Tryd.underlying23 hj hy0 hy1 rfl ao m cap (bvals aw) K2'.own ⟨V1.heap.size, 0, none⟩ 1 1 [.int .i64 a, .int .i64 (O : Int), .int .i64 0] rfl (cell_three_new _ _ _ _ _) (ints_oneCell .i64 [_, _, _]) (by omega) (by unfold maxLen; omega) (by rw [hy2]; omega) (by simp; omega)
                  have HR : Hid _ := hrun
                  have o6' : W6.ownsRow (zb + 1) 32 3 (.slice (some ⟨g', 0, none⟩) (m + 1) cap') (m + 1) (bvals (aw ++ [⟨a, (O : Int), 0⟩])) := by rw [bvals_append]; exact o6
                  have K6 := K2'.grown o6' hc6
                  clear hV1 hrun hK6 m0 m1 m2 m3 m6 HTk S1 I1 BX ZV SV SA n0 n1 n2 n3 y0 y1 y2 Y1 KV K2' o6 o6' hc6
                  go_wp2_with (first | rw [HV1.out] | (at_builtin; refine Lib.wpList_append_run _ rfl (.tmp 99) (.tmp 103) 23 23 rfl _ _ rfl rfl _ _ HR.out ?_))
                  go_roundw
                  case rel => exact ⟨j + 1, by omega, by omega, by go_num, ⟨_, _, _, _, _, _, _, _, _, _, _, rfl, K6, hZ', by omega, fun h0 => by omega⟩⟩
                  case measure => simp [intOf]; omega
                · go_simp
                  have SB : Below Wb.heap.size Wb (Wb.alloc (.cells #[.int .i64 0, .int .i64 0, .slice none 0 0, .slice none 0 0] 26)).drew := (below_box Wb _).drew
                  refine hK2 _ _ SB ?_
                  try simp only [Act.put, List.setIfInBounds_toArray, List.set_cons_zero, List.set_cons_succ]
                  refine oneH 5 (by kernel_rfl) rfl rfl (fun K3 hK3 => ?_)
                  go_simp
                  refine (HTk.out _ SB).mono ?_
                  rintro e wA ⟨⟨fo', fn', fc', to', tn', tc', rfl, hzA, fA1, fA2⟩, hbA⟩
                  have SA : Below Wb.heap.size Wb wA := SB.trans (hbA.mono SB.size)
                  refine hK3 _ _ SA ?_
                  try simp only [Act.put, List.setIfInBounds_toArray, List.set_cons_zero, List.set_cons_succ]
                  refine takeH 6 (v := .tuple #[.agg #[.int .i64 Y.f, .int .i64 Y.t, .slice fo' fn' fc', .slice to' tn' tc'], .int .i64 a, .int .i64 0]) rfl (by kernel_rfl) (by kernel_rfl) (by kernel_rfl) (fun _ _ _ h => h) rfl (fun wx hSx => ?_) SA ?_
                  · go_simp
                  try simp only [Act.put, List.setIfInBounds_toArray, List.set_cons_zero, List.set_cons_succ]
                  refine takeH 7 (v := .agg #[.int .i64 Y.f, .int .i64 Y.t, .slice fo' fn' fc', .slice to' tn' tc']) rfl (by kernel_rfl) (by kernel_rfl) (by kernel_rfl) (fun _ _ _ h => h) rfl (fun wx hSx => ?_) SA ?_
                  · go_simp
                  try simp only [Act.put, List.setIfInBounds_toArray, List.set_cons_zero, List.set_cons_succ]
                  refine takeH 8 (v := .int .i64 a) rfl (by kernel_rfl) (by kernel_rfl) (by kernel_rfl) (fun _ _ _ h => h) rfl (fun wx hSx => ?_) SA ?_
                  · go_simp
                  try simp only [Act.put, List.setIfInBounds_toArray, List.set_cons_zero, List.set_cons_succ]
                  refine takeH 9 (v := .int .i64 0) rfl (by kernel_rfl) (by kernel_rfl) (by kernel_rfl) (fun _ _ _ h => h) rfl (fun wx hSx => ?_) SA ?_
                  · go_simp
                  try simp only [Act.put, List.setIfInBounds_toArray, List.set_cons_zero, List.set_cons_succ]
                  have rB := ((zbox_new Wb (.int .i64 0) (.int .i64 0) (.slice none 0 0) (.slice none 0 0) 26).res.below (Below.refl _ _).drew).below hbA
                  obtain ⟨⟨_, d0⟩, ⟨_, d1⟩, ⟨_, d2⟩, ⟨_, d3⟩, g0, g1, g2, g3⟩ := id rB
                  refine oneH 11 (by kernel_rfl) rfl rfl (fun K6 hK6 => ?_)
                  go_simp
                  have hbt := but4 wA Wb.heap.size (.int .i64 Y.f) (.int .i64 Y.t) (.slice fo' fn' fc') (.slice to' tn' tc')
                  have SV := SA.trans (hbt.below (Nat.le_refl _) SA.size)
                  have BX := (ZBox.mk d0 d1 d2 d3 g0 g1 g2 g3).set4 (.int .i64 Y.f) (.int .i64 Y.t) (.slice fo' fn' fc') (.slice to' tn' tc')
                  have fs : Wb.heap.size < ((Wb.alloc (.cells #[.int .i64 0, .int .i64 0, .slice none 0 0, .slice none 0 0] 26)).drew).heap.size := by simp
                  have ZV := ZnAt.apt hzA hbt (.fresh fA1 fs) (.fresh fA2 fs)
                  have FV1 : Fresh Wb.heap.size fo' := fA1.mono (Nat.le_of_lt fs)
                  have FV2 : Fresh Wb.heap.size to' := fA2.mono (Nat.le_of_lt fs)
                  obtain ⟨V, hV⟩ : ∃ V, (((wA.setCell ⟨Wb.heap.size, 0, none⟩ (.int .i64 Y.f)).setCell ⟨Wb.heap.size, 1, none⟩ (.int .i64 Y.t)).setCell ⟨Wb.heap.size, 2, none⟩ (.slice fo' fn' fc')).setCell ⟨Wb.heap.size, 3, none⟩ (.slice to' tn' tc') = V := ⟨_, rfl⟩
                  rw [hV] at BX ZV SV ⊢
                  clear hV
                  refine hK6 _ _ SV ?_
                  try simp only [Act.put, List.setIfInBounds_toArray, List.set_cons_zero, List.set_cons_succ]
                  refine takeH 12 (v := .int .i64 a) rfl (by kernel_rfl) (by kernel_rfl) (by kernel_rfl) (fun _ _ _ h => h) rfl (fun wx hSx => ?_) SV ?_
                  · go_simp
                  try simp only [Act.put, List.setIfInBounds_toArray, List.set_cons_zero, List.set_cons_succ]
                  refine wpAnyH_done (by kernel_rfl) ?_ _
                  show Oper.wp _ _ _ _ _ _
                  have b0 := BX.c0
                  have b1 := BX.c1
                  have b2 := BX.c2
                  have b3 := BX.c3
                  have KV := I1.newZone (fc' := fc') (tc' := tc') SV ZV FV1 FV2
                  obtain ⟨⟨_, e0⟩, ⟨_, e1⟩, ⟨_, e2⟩, ⟨_, e3⟩, s0, s1, s2, s3⟩ := (I1.below SV).box.res
                  obtain ⟨V1, hV1⟩ : ∃ V1, (((V.setCell ⟨zb, 0, none⟩ (.int .i64 Y.f)).setCell ⟨zb, 1, none⟩ (.int .i64 Y.t)).setCell ⟨zb, 2, none⟩ (.slice fo' fn' fc')).setCell ⟨zb, 3, none⟩ (.slice to' tn' tc') = V1 := ⟨_, rfl⟩
                  rw [hV1] at KV
                  have HV1 : Hid _ := hV1
                  have K2' := KV.below (below_box V1 (.cells #[.int .i64 a, .int .i64 (O : Int), .int .i64 0] 32))
                  have hzl := KV.box.lt
                  obtain ⟨g', cap', W6, hrun, o6, hc6⟩ := append_row (P := Tryd.prog) (V1.alloc (.cells #[.int .i64 a, .int .i64 (O : Int), .int .i64 0] 32)) (zb + 1) 23 23 32 i1 _ 3 Tryd.underlying23 hj hy0 hy1 rfl ao m cap (bvals aw) K2'.own ⟨V1.heap.size, 0, none⟩ 1 1 [.int .i64 a, .int .i64 (O : Int), .int .i64 0] rfl (cell_three_new _ _ _ _ _) (ints_oneCell .i64 [_, _, _]) (by omega) (by unfold maxLen; omega) (by rw [hy2]; omega) (by simp; omega)
                  have HR : Hid _ := hrun
                  have o6' : W6.ownsRow (zb + 1) 32 3 (.slice (some ⟨g', 0, none⟩) (m + 1) cap') (m + 1) (bvals (aw ++ [⟨a, (O : Int), 0⟩])) := by rw [bvals_append]; exact o6
                  have K6 := K2'.grown o6' hc6
                  clear hV1 hbt rB d0 d1 d2 d3 g0 g1 g2 g3 fs hrun hK6 m0 m1 m2 m3 m6 HTk S1 I1 BX ZV SV SA n0 n1 n2 n3 y0 y1 y2 Y1 KV K2' o6 o6' hc6
                  go_wp2_with (first | rw [HV1.out] | (at_builtin; refine Lib.wpList_append_run _ rfl (.tmp 99) (.tmp 103) 23 23 rfl _ _ rfl rfl _ _ HR.out ?_))
                  go_roundw
                  case rel => exact ⟨j + 1, by omega, by omega, by go_num, ⟨_, _, _, _, _, _, _, _, _, _, _, rfl, K6, hZ', by omega, fun h0 => by omega⟩⟩
                  case measure => simp [intOf]; omega
              · go_simp
                have SB : Below Wb.heap.size Wb (Wb.alloc (.cells #[.int .i64 0, .int .i64 0, .slice none 0 0, .slice none 0 0] 26)).drew := (below_box Wb _).drew
                refine hK1 _ _ SB ?_
                try simp only [Act.put, List.setIfInBounds_toArray, List.set_cons_zero, List.set_cons_succ]
                refine oneH 4 (by kernel_rfl) rfl rfl (fun K2 hK2 => ?_)
                go_simp
                refine (picked_fn rbb 3 3 rfl v2 (by omega) (by omega) _).mono ?_
                rintro e wq ⟨rfl, rfl⟩
                rw [HT2.out]
                refine hK2 _ _ SB ?_
                try simp only [Act.put, List.setIfInBounds_toArray, List.set_cons_zero, List.set_cons_succ]
                refine oneH 5 (by kernel_rfl) rfl rfl (fun K3 hK3 => ?_)
                go_simp
                refine (HTk.out _ SB).mono ?_
                rintro e wA ⟨⟨fo', fn', fc', to', tn', tc', rfl, hzA, fA1, fA2⟩, hbA⟩
                have SA : Below Wb.heap.size Wb wA := SB.trans (hbA.mono SB.size)
                refine hK3 _ _ SA ?_
                try simp only [Act.put, List.setIfInBounds_toArray, List.set_cons_zero, List.set_cons_succ]
                refine takeH 6 (v := .tuple #[.agg #[.int .i64 Y.f, .int .i64 Y.t, .slice fo' fn' fc', .slice to' tn' tc'], .int .i64 a, .int .i64 0]) rfl (by kernel_rfl) (by kernel_rfl) (by kernel_rfl) (fun _ _ _ h => h) rfl (fun wx hSx => ?_) SA ?_
                · go_simp
                try simp only [Act.put, List.setIfInBounds_toArray, List.set_cons_zero, List.set_cons_succ]
                refine takeH 7 (v := .agg #[.int .i64 Y.f, .int .i64 Y.t, .slice fo' fn' fc', .slice to' tn' tc']) rfl (by kernel_rfl) (by kernel_rfl) (by kernel_rfl) (fun _ _ _ h => h) rfl (fun wx hSx => ?_) SA ?_
                · go_simp
                try simp only [Act.put, List.setIfInBounds_toArray, List.set_cons_zero, List.set_cons_succ]
                refine takeH 8 (v := .int .i64 a) rfl (by kernel_rfl) (by kernel_rfl) (by kernel_rfl) (fun _ _ _ h => h) rfl (fun wx hSx => ?_) SA ?_
                · go_simp
                try simp only [Act.put, List.setIfInBounds_toArray, List.set_cons_zero, List.set_cons_succ]
                refine takeH 9 (v := .int .i64 0) rfl (by kernel_rfl) (by kernel_rfl) (by kernel_rfl) (fun _ _ _ h => h) rfl (fun wx hSx => ?_) SA ?_
                · go_simp
                try simp only [Act.put, List.setIfInBounds_toArray, List.set_cons_zero, List.set_cons_succ]
                have rB := ((zbox_new Wb (.int .i64 0) (.int .i64 0) (.slice none 0 0) (.slice none 0 0) 26).res.below (Below.refl _ _).drew).below hbA
                obtain ⟨⟨_, d0⟩, ⟨_, d1⟩, ⟨_, d2⟩, ⟨_, d3⟩, g0, g1, g2, g3⟩ := id rB
                refine oneH 11 (by kernel_rfl) rfl rfl (fun K6 hK6 => ?_)
                go_simp
                have hbt := but4 wA Wb.heap.size (.int .i64 Y.f) (.int .i64 Y.t) (.slice fo' fn' fc') (.slice to' tn' tc')
                have SV := SA.trans (hbt.below (Nat.le_refl _) SA.size)
                have BX := (ZBox.mk d0 d1 d2 d3 g0 g1 g2 g3).set4 (.int .i64 Y.f) (.int .i64 Y.t) (.slice fo' fn' fc') (.slice to' tn' tc')
                have fs : Wb.heap.size < ((Wb.alloc (.cells #[.int .i64 0, .int .i64 0, .slice none 0 0, .slice none 0 0] 26)).drew).heap.size := by simp
                have ZV := ZnAt.apt hzA hbt (.fresh fA1 fs) (.fresh fA2 fs)
                have FV1 : Fresh Wb.heap.size fo' := fA1.mono (Nat.le_of_lt fs)
                have FV2 : Fresh Wb.heap.size to' := fA2.mono (Nat.le_of_lt fs)
                obtain ⟨V, hV⟩ : ∃ V, (((wA.setCell ⟨Wb.heap.size, 0, none⟩ (.int .i64 Y.f)).setCell ⟨Wb.heap.size, 1, none⟩ (.int .i64 Y.t)).setCell ⟨Wb.heap.size, 2, none⟩ (.slice fo' fn' fc')).setCell ⟨Wb.heap.size, 3, none⟩ (.slice to' tn' tc') = V := ⟨_, rfl⟩
                rw [hV] at BX ZV SV ⊢
                clear hV
                refine hK6 _ _ SV ?_
                try simp only [Act.put, List.setIfInBounds_toArray, List.set_cons_zero, List.set_cons_succ]
                refine takeH 12 (v := .int .i64 a) rfl (by kernel_rfl) (by kernel_rfl) (by kernel_rfl) (fun _ _ _ h => h) rfl (fun wx hSx => ?_) SV ?_
                · go_simp
                try simp only [Act.put, List.setIfInBounds_toArray, List.set_cons_zero, List.set_cons_succ]
                refine wpAnyH_done (by kernel_rfl) ?_ _
                show Oper.wp _ _ _ _ _ _
                have b0 := BX.c0
                have b1 := BX.c1
                have b2 := BX.c2
                have b3 := BX.c3
                have KV := I1.newZone (fc' := fc') (tc' := tc') SV ZV FV1 FV2
                obtain ⟨⟨_, e0⟩, ⟨_, e1⟩, ⟨_, e2⟩, ⟨_, e3⟩, s0, s1, s2, s3⟩ := (I1.below SV).box.res
                obtain ⟨V1, hV1⟩ : ∃ V1, (((V.setCell ⟨zb, 0, none⟩ (.int .i64 Y.f)).setCell ⟨zb, 1, none⟩ (.int .i64 Y.t)).setCell ⟨zb, 2, none⟩ (.slice fo' fn' fc')).setCell ⟨zb, 3, none⟩ (.slice to' tn' tc') = V1 := ⟨_, rfl⟩
                rw [hV1] at KV
                have HV1 : Hid _ := hV1
                have K2' := KV.below (below_box V1 (.cells #[.int .i64 a, .int .i64 (O : Int), .int .i64 0] 32))
                have hzl := KV.box.lt
                obtain ⟨g', cap', W6, hrun, o6, hc6⟩ := append_row (P := Tryd.prog) (V1.alloc (.cells #[.int .i64 a, .int .i64 (O : Int), .int .i64 0] 32)) (zb + 1) 23 23 32 i1 _ 3 Tryd.underlying23 hj hy0 hy1 rfl ao m cap (bvals aw) K2'.own ⟨V1.heap.size, 0, none⟩ 1 1 [.int .i64 a, .int .i64 (O : Int), .int .i64 0] rfl (cell_three_new _ _ _ _ _) (ints_oneCell .i64 [_, _, _]) (by omega) (by unfold maxLen; omega) (by rw [hy2]; omega) (by simp; omega)
                have HR : Hid _ := hrun
                have o6' : W6.ownsRow (zb + 1) 32 3 (.slice (some ⟨g', 0, none⟩) (m + 1) cap') (m + 1) (bvals (aw ++ [⟨a, (O : Int), 0⟩])) := by rw [bvals_append]; exact o6
                have K6 := K2'.grown o6' hc6
                clear hV1 hbt rB d0 d1 d2 d3 g0 g1 g2 g3 fs hrun hK6 m0 m1 m2 m3 m6 HTk S1 I1 BX ZV SV SA n0 n1 n2 n3 y0 y1 y2 Y1 KV K2' o6 o6' hc6
                go_wp2_with (first | rw [HV1.out] | (at_builtin; refine Lib.wpList_append_run _ rfl (.tmp 99) (.tmp 103) 23 23 rfl _ _ rfl rfl _ _ HR.out ?_))
                go_roundw
                case rel => exact ⟨j + 1, by omega, by omega, by go_num, ⟨_, _, _, _, _, _, _, _, _, _, _, rfl, K6, hZ', by omega, fun h0 => by omega⟩⟩
                case measure => simp [intOf]; omega
          · have HTk : Hid (∀ V, Below Wb.heap.size Wb V → Calls Tryd.prog 15 #[.agg #[.int .i64 z.f, .int .i64 z.t, .slice fo fn fc, .slice to_ tn tc], .int .i64 (O : Int), .int .i64 (T : Int)] V fun e w' => RetNone3 6 e ∧ Below V.heap.size V w') := fun V hV =>
              zTake_room V fo fn fc to_ tn tc z (O : Int) (T : Int) (I1.zn.below hV) hZ.may (hTb.below hV) oO oT (by omega)
            clear hC
            rcases q1' with q1 | ⟨q1, q2⟩
            all_goals
              go_wp2_with fail
              go_at_call 14
              refine (picked_fn ra 5 5 rfl v1 (by omega) (by omega) _).mono ?_
              rintro e wq ⟨rfl, rfl⟩
              rw [HO2.out]
              go_wp2_with fail
              refine wp_region_peel (S := fun wx => Below Wb.heap.size Wb wx) 13 _ (by kernel_rfl) (by kernel_rfl) rfl ?_
              simp only [List.take_succ_cons, List.take_zero]
              refine takeH 0 (v := .agg #[.int .i64 z.f, .int .i64 z.t, .slice fo fn fc, .slice to_ tn tc]) rfl (by kernel_rfl) (by kernel_rfl) (by kernel_rfl) (fun _ _ _ h => h) rfl (fun wx hSx => ?_) S1 ?_
              · go_simp
              try simp only [Act.put, List.setIfInBounds_toArray, List.set_cons_zero, List.set_cons_succ]
              refine takeH 1 (v := .int .i64 (O : Int)) rfl (by kernel_rfl) (by kernel_rfl) (by kernel_rfl) (fun _ _ _ h => h) rfl (fun wx hSx => ?_) S1 ?_
              · go_simp
              try simp only [Act.put, List.setIfInBounds_toArray, List.set_cons_zero, List.set_cons_succ]
              refine takeH 2 (v := .pointer (some ⟨wr.heap.size, 2, none⟩)) rfl (by kernel_rfl) (by kernel_rfl) (by kernel_rfl) (fun _ _ _ h => h) rfl (fun wx hSx => ?_) S1 ?_
              · go_simp
              try simp only [Act.put, List.setIfInBounds_toArray, List.set_cons_zero, List.set_cons_succ]
              refine takeH 3 (v := .int .i64 rbb) rfl (by kernel_rfl) (by kernel_rfl) (by kernel_rfl) (fun _ _ _ h => h) rfl (fun wx hSx => ?_) S1 ?_
              · go_simp
              try simp only [Act.put, List.setIfInBounds_toArray, List.set_cons_zero, List.set_cons_succ]
              refine twoH 4 10 (by kernel_rfl) rfl rfl rfl rfl (fun K1 hK1 => ?_) (fun K1 hK1 => ?_)
              · go_simp
                refine (picked_fn rbb 3 3 rfl v2 (by omega) (by omega) _).mono ?_
                rintro e wq ⟨rfl, rfl⟩
                rw [HT2.out]
                refine hK1 _ _ S1 ?_
                try simp only [Act.put, List.setIfInBounds_toArray, List.set_cons_zero, List.set_cons_succ]
                refine twoH 5 10 (by kernel_rfl) rfl rfl rfl rfl (fun K2 hK2 => ?_) (fun K2 hK2 => ?_)
                · go_simp
                  refine (HTk.out _ S1).mono ?_
                  rintro e wA ⟨hE, hbA⟩
                  obtain rfl := hE
                  have SA : Below Wb.heap.size Wb wA := S1.trans (hbA.mono S1.size)
                  refine hK2 _ _ SA ?_
                  try simp only [Act.put, List.setIfInBounds_toArray, List.set_cons_zero, List.set_cons_succ]
                  refine takeH 6 (v := .tuple #[.agg #[.int .i64 0, .int .i64 0, .slice none 0 0, .slice none 0 0], .int .i64 0, .int .i64 6]) rfl (by kernel_rfl) (by kernel_rfl) (by kernel_rfl) (fun _ _ _ h => h) rfl (fun wx hSx => ?_) SA ?_
                  · go_simp
                  try simp only [Act.put, List.setIfInBounds_toArray, List.set_cons_zero, List.set_cons_succ]
                  refine takeH 7 (v := .agg #[.int .i64 0, .int .i64 0, .slice none 0 0, .slice none 0 0]) rfl (by kernel_rfl) (by kernel_rfl) (by kernel_rfl) (fun _ _ _ h => h) rfl (fun wx hSx => ?_) SA ?_
                  · go_simp
                  try simp only [Act.put, List.setIfInBounds_toArray, List.set_cons_zero, List.set_cons_succ]
                  refine takeH 8 (v := .int .i64 0) rfl (by kernel_rfl) (by kernel_rfl) (by kernel_rfl) (fun _ _ _ h => h) rfl (fun wx hSx => ?_) SA ?_
                  · go_simp
                  try simp only [Act.put, List.setIfInBounds_toArray, List.set_cons_zero, List.set_cons_succ]
                  refine takeH 9 (v := .int .i64 6) rfl (by kernel_rfl) (by kernel_rfl) (by kernel_rfl) (fun _ _ _ h => h) rfl (fun wx hSx => ?_) SA ?_
                  · go_simp
                  try simp only [Act.put, List.setIfInBounds_toArray, List.set_cons_zero, List.set_cons_succ]
                  refine oneH 10 (by kernel_rfl) rfl rfl (fun K5 hK5 => ?_)
                  go_simp
                  refine hK5 _ _ (SA.trans ((below_box wA _).mono SA.size)) ?_
                  try simp only [Act.put, List.setIfInBounds_toArray, List.set_cons_zero, List.set_cons_succ]
                  refine oneH 11 (by kernel_rfl) rfl rfl (fun K6 hK6 => ?_)
                  go_simp
                  have SV : Below Wb.heap.size Wb (wA.alloc (.cells #[.int .i64 0, .int .i64 0, .slice none 0 0, .slice none 0 0] 26)) := SA.trans ((below_box wA _).mono SA.size)
                  obtain ⟨V, hV⟩ : ∃ V, wA.alloc (.cells #[.int .i64 0, .int .i64 0, .slice none 0 0, .slice none 0 0] 26) = V := ⟨_, rfl⟩
                  rw [hV] at SV ⊢
                  clear hV
                  refine hK6 _ _ SV ?_
                  try simp only [Act.put, List.setIfInBounds_toArray, List.set_cons_zero, List.set_cons_succ]
                  refine takeH 12 (v := .int .i64 0) rfl (by kernel_rfl) (by kernel_rfl) (by kernel_rfl) (fun _ _ _ h => h) rfl (fun wx hSx => ?_) SV ?_
                  · go_simp
                  try simp only [Act.put, List.setIfInBounds_toArray, List.set_cons_zero, List.set_cons_succ]
                  refine wpAnyH_done (by kernel_rfl) ?_ _
                  show Oper.wp _ _ _ _ _ _
                  have K6 := I1.below SV
                  clear hK6 m0 m1 m2 m3 m6 HTk S1 I1 SV SA n0 n1 n2 n3 y0 y1 y2 Y1
                  go_wp2
                  go_roundw
                  case rel => exact ⟨j + 1, by omega, by omega, by go_num, ⟨_, _, _, _, _, _, _, _, _, _, _, rfl, K6, hZ, by omega, fun h0 => by omega⟩⟩
                  case measure => simp [intOf]; omega
                · go_simp
                  have SB : Below Wb.heap.size Wb (Wb.alloc (.cells #[.int .i64 0, .int .i64 0, .slice none 0 0, .slice none 0 0] 26)).drew := (below_box Wb _).drew
                  refine hK2 _ _ SB ?_
                  try simp only [Act.put, List.setIfInBounds_toArray, List.set_cons_zero, List.set_cons_succ]
                  refine oneH 5 (by kernel_rfl) rfl rfl (fun K3 hK3 => ?_)
                  go_simp
                  refine (HTk.out _ SB).mono ?_
                  rintro e wA ⟨hE, hbA⟩
                  obtain rfl := hE
                  have SA : Below Wb.heap.size Wb wA := SB.trans (hbA.mono SB.size)
                  refine hK3 _ _ SA ?_
                  try simp only [Act.put, List.setIfInBounds_toArray, List.set_cons_zero, List.set_cons_succ]
                  refine takeH 6 (v := .tuple #[.agg #[.int .i64 0, .int .i64 0, .slice none 0 0, .slice none 0 0], .int .i64 0, .int .i64 6]) rfl (by kernel_rfl) (by kernel_rfl) (by kernel_rfl) (fun _ _ _ h => h) rfl (fun wx hSx => ?_) SA ?_
                  · go_simp
                  try simp only [Act.put, List.setIfInBounds_toArray, List.set_cons_zero, List.set_cons_succ]
                  refine takeH 7 (v := .agg #[.int .i64 0, .int .i64 0, .slice none 0 0, .slice none 0 0]) rfl (by kernel_rfl) (by kernel_rfl) (by kernel_rfl) (fun _ _ _ h => h) rfl (fun wx hSx => ?_) SA ?_
                  · go_simp
                  try simp only [Act.put, List.setIfInBounds_toArray, List.set_cons_zero, List.set_cons_succ]
                  refine takeH 8 (v := .int .i64 0) rfl (by kernel_rfl) (by kernel_rfl) (by kernel_rfl) (fun _ _ _ h => h) rfl (fun wx hSx => ?_) SA ?_
                  · go_simp
                  try simp only [Act.put, List.setIfInBounds_toArray, List.set_cons_zero, List.set_cons_succ]
                  refine takeH 9 (v := .int .i64 6) rfl (by kernel_rfl) (by kernel_rfl) (by kernel_rfl) (fun _ _ _ h => h) rfl (fun wx hSx => ?_) SA ?_
                  · go_simp
                  try simp only [Act.put, List.setIfInBounds_toArray, List.set_cons_zero, List.set_cons_succ]
                  have rB := ((zbox_new Wb (.int .i64 0) (.int .i64 0) (.slice none 0 0) (.slice none 0 0) 26).res.below (Below.refl _ _).drew).below hbA
                  obtain ⟨⟨_, d0⟩, ⟨_, d1⟩, ⟨_, d2⟩, ⟨_, d3⟩, g0, g1, g2, g3⟩ := id rB
                  refine oneH 11 (by kernel_rfl) rfl rfl (fun K6 hK6 => ?_)
                  go_simp
                  have hbt := but4 wA Wb.heap.size (.int .i64 0) (.int .i64 0) (.slice none 0 0) (.slice none 0 0)
                  have SV := SA.trans (hbt.below (Nat.le_refl _) SA.size)
                  obtain ⟨V, hV⟩ : ∃ V, (((wA.setCell ⟨Wb.heap.size, 0, none⟩ (.int .i64 0)).setCell ⟨Wb.heap.size, 1, none⟩ (.int .i64 0)).setCell ⟨Wb.heap.size, 2, none⟩ (.slice none 0 0)).setCell ⟨Wb.heap.size, 3, none⟩ (.slice none 0 0) = V := ⟨_, rfl⟩
                  rw [hV] at SV ⊢
                  clear hV
                  refine hK6 _ _ SV ?_
                  try simp only [Act.put, List.setIfInBounds_toArray, List.set_cons_zero, List.set_cons_succ]
                  refine takeH 12 (v := .int .i64 0) rfl (by kernel_rfl) (by kernel_rfl) (by kernel_rfl) (fun _ _ _ h => h) rfl (fun wx hSx => ?_) SV ?_
                  · go_simp
                  try simp only [Act.put, List.setIfInBounds_toArray, List.set_cons_zero, List.set_cons_succ]
                  refine wpAnyH_done (by kernel_rfl) ?_ _
                  show Oper.wp _ _ _ _ _ _
                  have K6 := I1.below SV
                  clear hbt rB d0 d1 d2 d3 g0 g1 g2 g3 hK6 m0 m1 m2 m3 m6 HTk S1 I1 SV SA n0 n1 n2 n3 y0 y1 y2 Y1
                  go_wp2
                  go_roundw
                  case rel => exact ⟨j + 1, by omega, by omega, by go_num, ⟨_, _, _, _, _, _, _, _, _, _, _, rfl, K6, hZ, by omega, fun h0 => by omega⟩⟩
                  case measure => simp [intOf]; omega
              · go_simp
                have SB : Below Wb.heap.size Wb (Wb.alloc (.cells #[.int .i64 0, .int .i64 0, .slice none 0 0, .slice none 0 0] 26)).drew := (below_box Wb _).drew
                refine hK1 _ _ SB ?_
                try simp only [Act.put, List.setIfInBounds_toArray, List.set_cons_zero, List.set_cons_succ]
                refine oneH 4 (by kernel_rfl) rfl rfl (fun K2 hK2 => ?_)
                go_simp
                refine (picked_fn rbb 3 3 rfl v2 (by omega) (by omega) _).mono ?_
                rintro e wq ⟨rfl, rfl⟩
                rw [HT2.out]
                refine hK2 _ _ SB ?_
                try simp only [Act.put, List.setIfInBounds_toArray, List.set_cons_zero, List.set_cons_succ]
                refine oneH 5 (by kernel_rfl) rfl rfl (fun K3 hK3 => ?_)
                go_simp
                refine (HTk.out _ SB).mono ?_
                rintro e wA ⟨hE, hbA⟩
                obtain rfl := hE
                have SA : Below Wb.heap.size Wb wA := SB.trans (hbA.mono SB.size)
                refine hK3 _ _ SA ?_
                try simp only [Act.put, List.setIfInBounds_toArray, List.set_cons_zero, List.set_cons_succ]
                refine takeH 6 (v := .tuple #[.agg #[.int .i64 0, .int .i64 0, .slice none 0 0, .slice none 0 0], .int .i64 0, .int .i64 6]) rfl (by kernel_rfl) (by kernel_rfl) (by kernel_rfl) (fun _ _ _ h => h) rfl (fun wx hSx => ?_) SA ?_
                · go_simp
                try simp only [Act.put, List.setIfInBounds_toArray, List.set_cons_zero, List.set_cons_succ]
                refine takeH 7 (v := .agg #[.int .i64 0, .int .i64 0, .slice none 0 0, .slice none 0 0]) rfl (by kernel_rfl) (by kernel_rfl) (by kernel_rfl) (fun _ _ _ h => h) rfl (fun wx hSx => ?_) SA ?_
                · go_simp
                try simp only [Act.put, List.setIfInBounds_toArray, List.set_cons_zero, List.set_cons_succ]
                refine takeH 8 (v := .int .i64 0) rfl (by kernel_rfl) (by kernel_rfl) (by kernel_rfl) (fun _ _ _ h => h) rfl (fun wx hSx => ?_) SA ?_
                · go_simp
                try simp only [Act.put, List.setIfInBounds_toArray, List.set_cons_zero, List.set_cons_succ]
                refine takeH 9 (v := .int .i64 6) rfl (by kernel_rfl) (by kernel_rfl) (by kernel_rfl) (fun _ _ _ h => h) rfl (fun wx hSx => ?_) SA ?_
                · go_simp
                try simp only [Act.put, List.setIfInBounds_toArray, List.set_cons_zero, List.set_cons_succ]
                have rB := ((zbox_new Wb (.int .i64 0) (.int .i64 0) (.slice none 0 0) (.slice none 0 0) 26).res.below (Below.refl _ _).drew).below hbA
                obtain ⟨⟨_, d0⟩, ⟨_, d1⟩, ⟨_, d2⟩, ⟨_, d3⟩, g0, g1, g2, g3⟩ := id rB
                refine oneH 11 (by kernel_rfl) rfl rfl (fun K6 hK6 => ?_)
                go_simp
                have hbt := but4 wA Wb.heap.size (.int .i64 0) (.int .i64 0) (.slice none 0 0) (.slice none 0 0)
                have SV := SA.trans (hbt.below (Nat.le_refl _) SA.size)
                obtain ⟨V, hV⟩ : ∃ V, (((wA.setCell ⟨Wb.heap.size, 0, none⟩ (.int .i64 0)).setCell ⟨Wb.heap.size, 1, none⟩ (.int .i64 0)).setCell ⟨Wb.heap.size, 2, none⟩ (.slice none 0 0)).setCell ⟨Wb.heap.size, 3, none⟩ (.slice none 0 0) = V := ⟨_, rfl⟩
                rw [hV] at SV ⊢
                clear hV
                refine hK6 _ _ SV ?_
                try simp only [Act.put, List.setIfInBounds_toArray, List.set_cons_zero, List.set_cons_succ]
                refine takeH 12 (v := .int .i64 0) rfl (by kernel_rfl) (by kernel_rfl) (by kernel_rfl) (fun _ _ _ h => h) rfl (fun wx hSx => ?_) SV ?_
                · go_simp
                try simp only [Act.put, List.setIfInBounds_toArray, List.set_cons_zero, List.set_cons_succ]
                refine wpAnyH_done (by kernel_rfl) ?_ _
                show Oper.wp _ _ _ _ _ _
                have K6 := I1.below SV
                clear hbt rB d0 d1 d2 d3 g0 g1 g2 g3 hK6 m0 m1 m2 m3 m6 HTk S1 I1 SV SA n0 n1 n2 n3 y0 y1 y2 Y1
                go_wp2
                go_roundw
                case rel => exact ⟨j + 1, by omega, by omega, by go_num, ⟨_, _, _, _, _, _, _, _, _, _, _, rfl, K6, hZ, by omega, fun h0 => by omega⟩⟩
                case measure => simp [intOf]; omega
      · obtain ⟨⟨_, d0⟩, ⟨_, d1⟩, ⟨_, d2⟩, ⟨_, d3⟩, g0, g1, g2, g3⟩ := I.res
        have hal := bowns_len I.own
        have hbt := but4 wr w.heap.size (.int .i64 z.f) (.int .i64 z.t) (.slice fo fn fc) (.slice to_ tn tc)
        obtain ⟨k0, k1, k2, k3⟩ := res4 I.res (.int .i64 z.f) (.int .i64 z.t) (.slice fo fn fc) (.slice to_ tn tc)
        have zF := ZnAt.apt I.zn hbt (.fresh I.a2 (by omega)) (.fresh I.a3 (by omega))
        have hz1 := I.zb1
        have oF := blks_own (row_but I.own hbt (by omega)) (by omega)
        have bF := I.b.trans (hbt.below (Nat.le_refl _) I.b.size)
        have HF0 : Hid (most = 0 → firstZ = some z) := fun h0 => hfirst (by omega)
        clear I hbt hfirst
        go_wp2
        exact bodyPost_ret (v := .tuple #[.agg #[.int .i64 z.f, .int .i64 z.t, .slice fo fn fc, .slice to_ tn tc], .slice ao m cap, .bool true]) (by simp [results, Tryd.results8, go_sem, k0, k1, k2, k3]) rfl ⟨z, aw, fo, fn, fc, to_, tn, tc, ao, m, cap, rfl, zF, oF, hZ, by omega, HF0.out, bF⟩
    · obtain ⟨⟨_, d0⟩, ⟨_, d1⟩, ⟨_, d2⟩, ⟨_, d3⟩, g0, g1, g2, g3⟩ := I.res
      have hal := bowns_len I.own
      have hbt := but4 wr w.heap.size (.int .i64 z.f) (.int .i64 z.t) (.slice fo fn fc) (.slice to_ tn tc)
      obtain ⟨k0, k1, k2, k3⟩ := res4 I.res (.int .i64 z.f) (.int .i64 z.t) (.slice fo fn fc) (.slice to_ tn tc)
      have zF := ZnAt.apt I.zn hbt (.fresh I.a2 (by omega)) (.fresh I.a3 (by omega))
      have hz1 := I.zb1
      have oF := blks_own (row_but I.own hbt (by omega)) (by omega)
      have bF := I.b.trans (hbt.below (Nat.le_refl _) I.b.size)
      have HF0 : Hid (most = 0 → firstZ = some z) := fun h0 => hfirst (by omega)
      clear I hbt hfirst
      go_wp2
      exact bodyPost_ret (v := .tuple #[.agg #[.int .i64 z.f, .int .i64 z.t, .slice fo fn fc, .slice to_ tn tc], .slice ao m cap, .bool true]) (by simp [results, Tryd.results8, go_sem, k0, k1, k2, k3]) rfl ⟨z, aw, fo, fn, fc, to_, tn, tc, ao, m, cap, rfl, zF, oF, hZ, by omega, HF0.out, bF⟩

end Go.Proofs.YtffhpjjioefaeafDoor
