/-
  OWN TEXTS, bundled: HcCopy.
-/
import Derived.Test.YtnijjpakpphhhaaSlabCopiesPart7
import Derived.Test.YtnijjpakpphhhaaSlabCopiesPart8

/-
  OWN TEXT. Contracts of the code: pages.Copy.
-/
namespace Go.Proofs.Ytnijjpakpphhhaa
open Go Go.RowKit Go.Proofs.Ytnijjpakpphhhaa.Kit

set_option maxRecDepth 4000 in
set_option maxHeartbeats 4000000 in
theorem pCopy_own (w : World) (x : Hx) (h : x.At w) :
    Calls Try.prog 19 #[.agg #[.slice x.zo x.zn x.zc, .slice x.mo x.mn x.mc, .int .i64 x.cpus, .slice x.lo x.ln x.lc, .slice x.vo x.vn x.vc]] w fun e w' => RetHeap w.heap.size w' x.hp e ∧ Below w.heap.size w w' := by
  obtain ⟨zs, zo, zn, zc, mins, mo, mn, mc, cpus, ls, lo, ln, lc, live, vo, vn, vc⟩ := x
  dsimp only at h ⊢
  obtain ⟨i0, hi0, zi0, si0, bi0⟩ := info_parts info_int
  obtain ⟨i1, hi1, zi1, si1, bi1⟩ := info_parts info_block
  obtain ⟨i2, hi2, zi2, si2, bi2⟩ := info_parts info_zone
  obtain ⟨i3, hi3, zi3, si3, bi3⟩ := info_parts info_list
  have rz := h.zones.reach
  have rm := h.mins.reach
  have rl := h.lists.reach
  have rv := h.live.reach
  dsimp only at rz rm rl rv
  have mz : zn ≤ maxLen := by unfold maxLen; omega
  have mm : mn ≤ maxLen := by unfold maxLen; omega
  have ml : ln ≤ maxLen := by unfold maxLen; omega
  have mv : vn ≤ maxLen := by unfold maxLen; omega
  obtain ⟨MZ, sZ, hMZ⟩ := made_b (P := Try.prog) Try.underlying23 hi2 zi2 zn (by rw [bi2]; omega) mz
  obtain ⟨MM, sM, hMM⟩ := made_b (P := Try.prog) Try.underlying22 hi0 zi0 mn (by rw [bi0]; omega) mm
  obtain ⟨ML, sL, hML⟩ := made_b (P := Try.prog) Try.underlying24 hi3 zi3 ln (by rw [bi3]; omega) ml
  obtain ⟨MV, sV, hMV⟩ := made_b (P := Try.prog) Try.underlying25 hi1 zi1 vn (by rw [bi1]; omega) mv
  rw [si2] at sZ
  rw [si0] at sM
  rw [si3] at sL
  rw [si1] at sV
  obtain ⟨W0, hW0⟩ : ∃ W0, (w.alloc (.cells #[.slice zo zn zc, .slice mo mn mc, .int .i64 cpus, .slice lo ln lc, .slice vo vn vc] 27)).alloc (.cells #[.slice none 0 0, .slice none 0 0, .int .i64 0, .slice none 0 0, .slice none 0 0] 27) = W0 := ⟨_, rfl⟩
  have hb0 : Below w.heap.size w W0 := by rw [← hW0]; exact ((Below.refl _ _).alloc (Nat.le_refl _) _).alloc (by simp) _
  have B0 : HBox W0 w.heap.size (.slice zo zn zc) (.slice mo mn mc) (.int .i64 cpus) (.slice lo ln lc) (.slice vo vn vc) := by rw [← hW0]; exact (hbox_new w _ _ _ _ _ _).below (below_box _ _)
  have R0 : HBox W0 (w.heap.size + 1) (.slice none 0 0) (.slice none 0 0) (.int .i64 0) (.slice none 0 0) (.slice none 0 0) := by
    rw [← hW0]
    have := hbox_new (w.alloc (.cells #[.slice zo zn zc, .slice mo mn mc, .int .i64 cpus, .slice lo ln lc, .slice vo vn vc] 27)) (.slice none 0 0) (.slice none 0 0) (.int .i64 0) (.slice none 0 0) (.slice none 0 0) 27
    simpa using this
  have hs0 : Hid (W0.heap.size = w.heap.size + 2) := by show _ = _; rw [← hW0]; simp
  have HW0 : Hid _ := hW0
  have m0 : ∀ wx, Below W0.heap.size W0 wx → wx.cell? ⟨w.heap.size, 0, none⟩ = some (.slice zo zn zc) := fun wx h => keep B0.c0 h
  have m1 : ∀ wx, Below W0.heap.size W0 wx → wx.cell? ⟨w.heap.size, 1, none⟩ = some (.slice mo mn mc) := fun wx h => keep B0.c1 h
  have m2 : ∀ wx, Below W0.heap.size W0 wx → wx.cell? ⟨w.heap.size, 2, none⟩ = some (.int .i64 cpus) := fun wx h => keep B0.c2 h
  have m3 : ∀ wx, Below W0.heap.size W0 wx → wx.cell? ⟨w.heap.size, 3, none⟩ = some (.slice lo ln lc) := fun wx h => keep B0.c3 h
  have m4 : ∀ wx, Below W0.heap.size W0 wx → wx.cell? ⟨w.heap.size, 4, none⟩ = some (.slice vo vn vc) := fun wx h => keep B0.c4 h
  have S1 : Below W0.heap.size W0 { W0 with drawn := W0.drawn + 1 } := (Below.refl W0.heap.size W0).drew
  clear hW0
  go_enter Try.func19, Try.ntmps19
  go_wp2_with (rw [HW0.out])
  refine wp_region_peel (S := fun wx => Below W0.heap.size W0 wx) 20 _ (by kernel_rfl) (by kernel_rfl) rfl ?_
  simp only [List.take_succ_cons, List.take_zero]
  refine takeH 0 (v := .pointer (some ⟨w.heap.size, 0, none⟩)) rfl (by kernel_rfl) (by kernel_rfl) (by kernel_rfl) (fun _ _ _ h => h) rfl (fun wx hSx => ?_) S1 ?_
  · go_simp
  try simp only [Act.put, List.setIfInBounds_toArray, List.set_cons_zero, List.set_cons_succ]
  refine takeH 1 (v := .slice zo zn zc) rfl (by kernel_rfl) (by kernel_rfl) (by kernel_rfl) (fun _ _ _ h => h) rfl (fun wx hSx => ?_) S1 ?_
  · go_simp
  try simp only [Act.put, List.setIfInBounds_toArray, List.set_cons_zero, List.set_cons_succ]
  refine takeH 2 (v := .int .i64 (zn : Int)) rfl (by kernel_rfl) (by kernel_rfl) (by kernel_rfl) (fun _ _ _ h => h) rfl (fun wx hSx => ?_) S1 ?_
  · go_simp
  try simp only [Act.put, List.setIfInBounds_toArray, List.set_cons_zero, List.set_cons_succ]
  refine takeH 4 (v := .pointer (some ⟨w.heap.size, 1, none⟩)) rfl (by kernel_rfl) (by kernel_rfl) (by kernel_rfl) (fun _ _ _ h => h) rfl (fun wx hSx => ?_) S1 ?_
  · go_simp
  try simp only [Act.put, List.setIfInBounds_toArray, List.set_cons_zero, List.set_cons_succ]
  refine takeH 5 (v := .slice mo mn mc) rfl (by kernel_rfl) (by kernel_rfl) (by kernel_rfl) (fun _ _ _ h => h) rfl (fun wx hSx => ?_) S1 ?_
  · go_simp
  try simp only [Act.put, List.setIfInBounds_toArray, List.set_cons_zero, List.set_cons_succ]
  refine takeH 6 (v := .int .i64 (mn : Int)) rfl (by kernel_rfl) (by kernel_rfl) (by kernel_rfl) (fun _ _ _ h => h) rfl (fun wx hSx => ?_) S1 ?_
  · go_simp
  try simp only [Act.put, List.setIfInBounds_toArray, List.set_cons_zero, List.set_cons_succ]
  refine takeH 8 (v := .pointer (some ⟨w.heap.size, 2, none⟩)) rfl (by kernel_rfl) (by kernel_rfl) (by kernel_rfl) (fun _ _ _ h => h) rfl (fun wx hSx => ?_) S1 ?_
  · go_simp
  try simp only [Act.put, List.setIfInBounds_toArray, List.set_cons_zero, List.set_cons_succ]
  refine takeH 9 (v := .int .i64 cpus) rfl (by kernel_rfl) (by kernel_rfl) (by kernel_rfl) (fun _ _ _ h => h) rfl (fun wx hSx => ?_) S1 ?_
  · go_simp
  try simp only [Act.put, List.setIfInBounds_toArray, List.set_cons_zero, List.set_cons_succ]
  refine takeH 10 (v := .pointer (some ⟨w.heap.size, 3, none⟩)) rfl (by kernel_rfl) (by kernel_rfl) (by kernel_rfl) (fun _ _ _ h => h) rfl (fun wx hSx => ?_) S1 ?_
  · go_simp
  try simp only [Act.put, List.setIfInBounds_toArray, List.set_cons_zero, List.set_cons_succ]
  refine takeH 11 (v := .slice lo ln lc) rfl (by kernel_rfl) (by kernel_rfl) (by kernel_rfl) (fun _ _ _ h => h) rfl (fun wx hSx => ?_) S1 ?_
  · go_simp
  try simp only [Act.put, List.setIfInBounds_toArray, List.set_cons_zero, List.set_cons_succ]
  refine takeH 12 (v := .int .i64 (ln : Int)) rfl (by kernel_rfl) (by kernel_rfl) (by kernel_rfl) (fun _ _ _ h => h) rfl (fun wx hSx => ?_) S1 ?_
  · go_simp
  try simp only [Act.put, List.setIfInBounds_toArray, List.set_cons_zero, List.set_cons_succ]
  refine takeH 14 (v := .pointer (some ⟨w.heap.size, 4, none⟩)) rfl (by kernel_rfl) (by kernel_rfl) (by kernel_rfl) (fun _ _ _ h => h) rfl (fun wx hSx => ?_) S1 ?_
  · go_simp
  try simp only [Act.put, List.setIfInBounds_toArray, List.set_cons_zero, List.set_cons_succ]
  refine takeH 15 (v := .slice vo vn vc) rfl (by kernel_rfl) (by kernel_rfl) (by kernel_rfl) (fun _ _ _ h => h) rfl (fun wx hSx => ?_) S1 ?_
  · go_simp
  try simp only [Act.put, List.setIfInBounds_toArray, List.set_cons_zero, List.set_cons_succ]
  refine takeH 16 (v := .int .i64 (vn : Int)) rfl (by kernel_rfl) (by kernel_rfl) (by kernel_rfl) (fun _ _ _ h => h) rfl (fun wx hSx => ?_) S1 ?_
  · go_simp
  try simp only [Act.put, List.setIfInBounds_toArray, List.set_cons_zero, List.set_cons_succ]
  refine manyB (fuel := 0) (W0 := { W0 with drawn := W0.drawn + 1 }) (u0 := undef) 5 4 (by decide) (fun f u => { tmps := #[.agg #[.slice zo zn zc, .slice mo mn mc, .int .i64 cpus, .slice lo ln lc, .slice vo vn vc], .pointer (some ⟨w.heap.size, 0, none⟩), .pointer (some ⟨w.heap.size + 1, 0, none⟩), f 4, undef, undef, undef, undef, .pointer (some ⟨w.heap.size, 0, none⟩), .slice zo zn zc, .int .i64 (zn : Int), f 0, .pointer (some ⟨w.heap.size, 1, none⟩), .slice mo mn mc, .int .i64 (mn : Int), f 1, .pointer (some ⟨w.heap.size, 2, none⟩), .int .i64 cpus, .pointer (some ⟨w.heap.size, 3, none⟩), .slice lo ln lc, .int .i64 (ln : Int), f 2, .pointer (some ⟨w.heap.size, 4, none⟩), .slice vo vn vc, .int .i64 (vn : Int), f 3, u, undef, undef, undef, undef, undef, undef, undef, undef, undef, undef, undef, undef, undef, undef, undef, undef, undef, undef, undef, undef, undef, undef, undef, undef, undef, undef, undef, undef, undef, undef, undef, undef, undef, undef, undef, undef, undef, undef, undef, undef, undef, undef, undef, undef, undef, undef, undef, undef, undef, undef, undef, undef, undef, undef, undef, undef, undef, undef], defers := [] }) (fun j => match j with | 0 => 3 | 1 => 7 | 2 => 13 | 3 => 17 | _ => 19)
    (fun j => match j with | 0 => .cells MZ 70 | 1 => .cells MM 3 | 2 => .cells ML 77 | 3 => .cells MV 72 | _ => .cells #[.slice none 0 0, .slice none 0 0, .int .i64 0, .slice none 0 0, .slice none 0 0] 27)
    (fun j n => match j with | 0 => .slice (some ⟨n, 0, none⟩) zn zn | 1 => .slice (some ⟨n, 0, none⟩) mn mn | 2 => .slice (some ⟨n, 0, none⟩) ln ln | 3 => .slice (some ⟨n, 0, none⟩) vn vn | _ => .pointer (some ⟨n, 0, none⟩))
    (fun n => .agg #[.slice (some ⟨n 0, 0, none⟩) zn zn, .slice (some ⟨n 1, 0, none⟩) mn mn, .int .i64 cpus, .slice (some ⟨n 2, 0, none⟩) ln ln, .slice (some ⟨n 3, 0, none⟩) vn vn])
    (fun b c => #[true, true, true, b 0, true, true, true, b 1, true, true, true, true, true, b 2, true, true, true, b 3, c, b 4]) ?_ ?_ ?_ ?_ ?_ ?_ ?_ ?_ ?_ (fun _ => undef)
  · intro j hj
    rcases (show j = 0 ∨ j = 1 ∨ j = 2 ∨ j = 3 ∨ j = 4 by omega) with rfl | rfl | rfl | rfl | rfl
    · refine ⟨_, rfl, rfl, fun f u W K hW hK => ?_⟩
      have := hMZ W
      go_simp
      exact hK
    · refine ⟨_, rfl, rfl, fun f u W K hW hK => ?_⟩
      have := hMM W
      go_simp
      exact hK
    · refine ⟨_, rfl, rfl, fun f u W K hW hK => ?_⟩
      have := hML W
      go_simp
      exact hK
    · refine ⟨_, rfl, rfl, fun f u W K hW hK => ?_⟩
      have := hMV W
      go_simp
      exact hK
    · refine ⟨_, rfl, rfl, fun f u W K hW hK => ?_⟩
      go_simp
      exact hK
  · intro j hj b c
    rcases (show j = 0 ∨ j = 1 ∨ j = 2 ∨ j = 3 ∨ j = 4 by omega) with rfl | rfl | rfl | rfl | rfl <;> rfl
  · intro b b' c hb
    simp only [hb 0 (by decide), hb 1 (by decide), hb 2 (by decide), hb 3 (by decide), hb 4 (by decide)]
  · intro f f' u hf
    simp only [hf 0 (by decide), hf 1 (by decide), hf 2 (by decide), hf 3 (by decide), hf 4 (by decide)]
  · intro n n' hn
    simp only [hn 0 (by decide), hn 1 (by decide), hn 2 (by decide), hn 3 (by decide)]
  · intro b c
    show ((!c && [0, 1, 2, 3].all b) || rdyOk .any _ #[true, true, true, b 0, true, true, true, b 1, true, true, true, true, true, b 2, true, true, true, b 3, c, b 4] [(3, b 0), (7, b 1), (13, b 2), (17, b 3), (19, b 4)]) = true
    simp only [List.all_cons, List.all_nil]
    generalize b 0 = b0
    generalize b 1 = b1
    generalize b 2 = b2
    generalize b 3 = b3
    generalize b 4 = b4
    revert b0 b1 b2 b3 b4 c
    decide +kernel
  · intro b hb f n W fuel' hf hW hgo
    have SW : Below W0.heap.size W0 W := S1.trans (hW.mono S1.size)
    have e0 : f 0 = .slice (some ⟨n 0, 0, none⟩) zn zn := hf 0 (by decide)
    have e1 : f 1 = .slice (some ⟨n 1, 0, none⟩) mn mn := hf 1 (by decide)
    have e2 : f 2 = .slice (some ⟨n 2, 0, none⟩) ln ln := hf 2 (by decide)
    have e3 : f 3 = .slice (some ⟨n 3, 0, none⟩) vn vn := hf 3 (by decide)
    simp only [hb 0 (by decide), hb 1 (by decide), hb 2 (by decide), hb 3 (by decide), e0, e1, e2, e3] at hgo ⊢
    generalize b 4 = b4 at hgo ⊢
    generalize f 4 = f4 at hgo ⊢
    cases b4
    · refine takeH 18 (v := .agg #[.slice (some ⟨n 0, 0, none⟩) zn zn, .slice (some ⟨n 1, 0, none⟩) mn mn, .int .i64 cpus, .slice (some ⟨n 2, 0, none⟩) ln ln, .slice (some ⟨n 3, 0, none⟩) vn vn]) rfl (by kernel_rfl) (by kernel_rfl) (by kernel_rfl) (fun _ _ _ h => h) rfl (fun wx hSx => ?_) SW hgo
      go_simp
    · refine takeH 18 (v := .agg #[.slice (some ⟨n 0, 0, none⟩) zn zn, .slice (some ⟨n 1, 0, none⟩) mn mn, .int .i64 cpus, .slice (some ⟨n 2, 0, none⟩) ln ln, .slice (some ⟨n 3, 0, none⟩) vn vn]) rfl (by kernel_rfl) (by kernel_rfl) (by kernel_rfl) (fun _ _ _ h => h) rfl (fun wx hSx => ?_) SW hgo
      go_simp
  · intro W hW
    exact S1.trans (hW.mono S1.size)
  · intro n W hW hn hne
    have SW : Below W0.heap.size W0 W := S1.trans (hW.mono S1.size)
    have a0 : W0.heap.size ≤ n 0 := (hn 0 (by decide)).1
    have a1 : W0.heap.size ≤ n 1 := (hn 1 (by decide)).1
    have a2 : W0.heap.size ≤ n 2 := (hn 2 (by decide)).1
    have a3 : W0.heap.size ≤ n 3 := (hn 3 (by decide)).1
    have a4 : W0.heap.size ≤ n 4 := (hn 4 (by decide)).1
    have r0 : W.heap[n 0]? = some (.cells MZ 70) := (hn 0 (by decide)).2
    have r1 : W.heap[n 1]? = some (.cells MM 3) := (hn 1 (by decide)).2
    have r2 : W.heap[n 2]? = some (.cells ML 77) := (hn 2 (by decide)).2
    have r3 : W.heap[n 3]? = some (.cells MV 72) := (hn 3 (by decide)).2
    have r4 : W.heap[n 4]? = some (.cells #[.slice none 0 0, .slice none 0 0, .int .i64 0, .slice none 0 0, .slice none 0 0] 27) := (hn 4 (by decide)).2
    have FV : Five W0.heap.size W.heap.size (n 4) (n 0) (n 1) (n 2) (n 3) := ⟨a4, a0, a1, a2, a3, lt_of_row r4, lt_of_row r0, lt_of_row r1, lt_of_row r2, lt_of_row r3, hne 4 0 (by decide) (by decide) (by decide), hne 4 1 (by decide) (by decide) (by decide), hne 4 2 (by decide) (by decide) (by decide), hne 4 3 (by decide) (by decide) (by decide),
      hne 0 1 (by decide) (by decide) (by decide), hne 0 2 (by decide) (by decide) (by decide), hne 0 3 (by decide) (by decide) (by decide), hne 1 2 (by decide) (by decide) (by decide), hne 1 3 (by decide) (by decide) (by decide), hne 2 3 (by decide) (by decide) (by decide)⟩
    refine wpAnyH_done (by kernel_rfl) ?_ _
    show Oper.wp _ _ _ _ _ _
    dsimp only
    clear hn hne hW S1 a0 a1 a2 a3 a4
    generalize n 0 = gz at *
    generalize n 1 = gm at *
    generalize n 2 = gl at *
    generalize n 3 = gv at *
    generalize n 4 = X at *
    clear n
    have BX := hbox_of_row r4
    have q0 := BX.c0
    have q1 := BX.c1
    have q2 := BX.c2
    have q3 := BX.c3
    have q4 := BX.c4
    have z0 := BX.z0
    have z1 := BX.z1
    have z2 := BX.z2
    have z3 := BX.z3
    have z4 := BX.z4
    have hbt := but5 W X (.slice (some ⟨gz, 0, none⟩) zn zn) (.slice (some ⟨gm, 0, none⟩) mn mn) (.int .i64 cpus) (.slice (some ⟨gl, 0, none⟩) ln ln) (.slice (some ⟨gv, 0, none⟩) vn vn)
    have BX2 := BX.set5 (.slice (some ⟨gz, 0, none⟩) zn zn) (.slice (some ⟨gm, 0, none⟩) mn mn) (.int .i64 cpus) (.slice (some ⟨gl, 0, none⟩) ln ln) (.slice (some ⟨gv, 0, none⟩) vn vn)
    obtain ⟨W1, hW1⟩ : ∃ W1, ((((W.setCell ⟨X, 0, none⟩ (.slice (some ⟨gz, 0, none⟩) zn zn)).setCell ⟨X, 1, none⟩ (.slice (some ⟨gm, 0, none⟩) mn mn)).setCell ⟨X, 2, none⟩ (.int .i64 cpus)).setCell ⟨X, 3, none⟩ (.slice (some ⟨gl, 0, none⟩) ln ln)).setCell ⟨X, 4, none⟩ (.slice (some ⟨gv, 0, none⟩) vn vn) = W1 := ⟨_, rfl⟩
    rw [hW1] at hbt BX2
    have HW1 : Hid _ := hW1
    have hsz : W.heap.size = W1.heap.size := by rw [← hW1]; simp [World.setCell]
    rw [hsz] at FV
    have I1 : HcI W0 w.heap.size ⟨zs, zo, zn, zc, mins, mo, mn, mc, cpus, ls, lo, ln, lc, live, vo, vn, vc⟩ X gz gm gl gv MZ.toList MM.toList ML.toList MV.toList W1 := by
      have e := hs0.out
      have B := B0.below SW
      have R := R0.below SW
      have f1 := FV.x1
      refine ⟨SW.trans (hbt.below f1 SW.size), B.but hbt (by omega), R.but hbt (by omega), BX2, ?_, ?_, ?_, ?_⟩
      · exact (hbt.block _ (lt_of_row r0) (fun e => FV.xz e.symm)).trans (by simpa using r0)
      · exact (hbt.block _ (lt_of_row r1) (fun e => FV.xm e.symm)).trans (by simpa using r1)
      · exact (hbt.block _ (lt_of_row r2) (fun e => FV.xl e.symm)).trans (by simpa using r2)
      · exact (hbt.block _ (lt_of_row r3) (fun e => FV.xv e.symm)).trans (by simpa using r3)
    clear hW1 hbt BX2 BX r0 r1 r2 r3 r4 SW hsz hMZ hMM hML hMV m0 m1 m2 m3 m4
    go_simp
    rw [HW1.out]
    clear HW1 q0 q1 q2 q3 q4 z0 z1 z2 z3 z4 B0 R0
    have p0 := I1.hin.c0
    have p1 := I1.hin.c1
    have p3 := I1.hin.c3
    have p4 := I1.hin.c4
    go_wp2_with fail
    obtain ⟨S, hS⟩ : ∃ S, W1.heap.size = S := ⟨_, rfl⟩
    rw [hS] at FV
    have HS : Hid _ := hS
    have hSZ : Hid (MZ.size = zn * 4) := sZ
    have hSM : Hid (MM.size = mn * 1) := sM
    have hSL : Hid (ML.size = ln * 4) := sL
    have hSV : Hid (MV.size = vn * 3) := sV
    clear hS sZ sM sL sV hi0 hi1 hi2 hi3 zi0 zi1 zi2 zi3 si0 si1 si2 si3 bi0 bi1 bi2 bi3
    go_loopw [30] (fun iv wr => ∃ (k : Nat) (done : List Zc) (CZ : List Value), k ≤ zn ∧ iv = .int .i64 k ∧ HcI W0 w.heap.size ⟨zs, zo, zn, zc, mins, mo, mn, mc, cpus, ls, lo, ln, lc, live, vo, vn, vc⟩ X gz gm gl gv CZ MM.toList ML.toList MV.toList wr ∧ ZDone S zn k zs done CZ wr ∧ S ≤ wr.heap.size) (fun iv _ => zn - (intOf iv).toNat)
    case atStart => exact ⟨0, [], _, Nat.zero_le _, rfl, I1, ZDone.first (by rw [Array.length_toList]; exact hSZ.out), Nat.le_of_eq HS.out.symm⟩
    case round =>
      obtain ⟨k, done, CZ, hk, rfl, I, D, hS1⟩ := hrel
      by_cases hlt : k < zn
      · clear p0 p1 p3 p4 I1
        obtain ⟨b, off, z, fo, fn, fc, to_, tn, tc, ha, c0, c1, c2, c3, hat, hz⟩ := ((h.zones.below hb0).below I.b).at k hlt
        dsimp only at ha hz
        subst ha
        have hbb := below_box wr (.cells #[.int .i64 z.f, .int .i64 z.t, .slice fo fn fc, .slice to_ tn tc] 70)
        have ZB := zbox_new wr (.int .i64 z.f) (.int .i64 z.t) (.slice fo fn fc) (.slice to_ tn tc) 70
        have Ib := I.below hbb
        have Db := D.below hbb
        have atb := hat.below hbb
        obtain ⟨Wb, hWb⟩ : ∃ Wb, wr.alloc (.cells #[.int .i64 z.f, .int .i64 z.t, .slice fo fn fc, .slice to_ tn tc] 70) = Wb := ⟨_, rfl⟩
        rw [hWb] at hbb ZB Ib Db atb
        have HWb : Hid _ := hWb
        have hS2 : S ≤ Wb.heap.size := Nat.le_trans hS1 hbb.size
        clear hWb
        go_wp2_with (rw [HWb.out])
        clear HWb c0 c1 c2 c3 hat I D
        have SB : Below Wb.heap.size Wb { Wb with drawn := Wb.drawn + 1 } := (Below.refl Wb.heap.size Wb).drew
        have m0 : ∀ wx, Below Wb.heap.size Wb wx → wx.cell? ⟨X, 0, none⟩ = some (.slice (some ⟨gz, 0, none⟩) zn zn) := fun wx h => keep Ib.box.c0 h
        have m1 : ∀ wx, Below Wb.heap.size Wb wx → wx.cell? ⟨wr.heap.size, 0, none⟩ = some (.int .i64 z.f) := fun wx h => keep ZB.c0 h
        have m2 : ∀ wx, Below Wb.heap.size Wb wx → wx.cell? ⟨wr.heap.size, 1, none⟩ = some (.int .i64 z.t) := fun wx h => keep ZB.c1 h
        have m3 : ∀ wx, Below Wb.heap.size Wb wx → wx.cell? ⟨wr.heap.size, 2, none⟩ = some (.slice fo fn fc) := fun wx h => keep ZB.c2 h
        have m4 : ∀ wx, Below Wb.heap.size Wb wx → wx.cell? ⟨wr.heap.size, 3, none⟩ = some (.slice to_ tn tc) := fun wx h => keep ZB.c3 h
        refine wp_region_peel (S := fun wx => Below Wb.heap.size Wb wx) 6 _ (by kernel_rfl) (by kernel_rfl) rfl ?_
        simp only [List.take_succ_cons, List.take_zero]
        refine takeH 0 (v := .pointer (some ⟨X, 0, none⟩)) rfl (by kernel_rfl) (by kernel_rfl) (by kernel_rfl) (fun _ _ _ h => h) rfl (fun wx hSx => ?_) SB ?_
        · go_simp
        try simp only [Act.put, List.setIfInBounds_toArray, List.set_cons_zero, List.set_cons_succ]
        refine takeH 1 (v := .slice (some ⟨gz, 0, none⟩) zn zn) rfl (by kernel_rfl) (by kernel_rfl) (by kernel_rfl) (fun _ _ _ h => h) rfl (fun wx hSx => ?_) SB ?_
        · go_simp
        try simp only [Act.put, List.setIfInBounds_toArray, List.set_cons_zero, List.set_cons_succ]
        refine takeH 2 (v := .int .i64 (k : Int)) rfl (by kernel_rfl) (by kernel_rfl) (by kernel_rfl) (fun _ _ _ h => h) rfl (fun wx hSx => ?_) SB ?_
        · go_simp
        try simp only [Act.put, List.setIfInBounds_toArray, List.set_cons_zero, List.set_cons_succ]
        refine takeH 3 (v := .agg #[.int .i64 z.f, .int .i64 z.t, .slice fo fn fc, .slice to_ tn tc]) rfl (by kernel_rfl) (by kernel_rfl) (by kernel_rfl) (fun _ _ _ h => h) rfl (fun wx hSx => ?_) SB ?_
        · go_simp
        try simp only [Act.put, List.setIfInBounds_toArray, List.set_cons_zero, List.set_cons_succ]
        refine oneH 4 (by kernel_rfl) rfl rfl (fun K1 hK1 => ?_)
        go_simp
        refine (zCopy_own _ fo fn fc to_ tn tc z (atb.below SB)).mono ?_
        rintro e wA ⟨g, kk, rfl, o1, o2, _, hbA⟩
        have SA : Below Wb.heap.size Wb wA := SB.trans (hbA.mono SB.size)
        refine hK1 _ _ SA ?_
        try simp only [Act.put, List.setIfInBounds_toArray, List.set_cons_zero, List.set_cons_succ]
        refine takeH 5 (v := .pointer (some ⟨gz, k * 4, none⟩)) rfl (by kernel_rfl) (by kernel_rfl) (by kernel_rfl) (fun _ _ _ h => h) rfl (fun wx hSx => ?_) SA ?_
        · go_simp
        try simp only [Act.put, List.setIfInBounds_toArray, List.set_cons_zero, List.set_cons_succ]
        refine wpAnyH_done (by kernel_rfl) ?_ _
        show Oper.wp _ _ _ _ _ _
        have IA := Ib.below SA
        have DA := Db.below SA
        have atA : ZnAt wA (some ⟨g, 0, none⟩) fn (some ⟨kk, 0, none⟩) tn z := ⟨blks_own o1 atb.free.reach, nums_of_owns o2 atb.types.reach⟩
        have fA1 : Fresh S (some ⟨g, 0, none⟩) := (owns_fresh o1).mono hS2
        have fA2 : Fresh S (some ⟨kk, 0, none⟩) := (owns_fresh o2).mono hS2
        obtain ⟨⟨_, e0⟩, ⟨_, e1⟩, ⟨_, e2⟩, ⟨_, e3⟩, hfz⟩ := row_res4 IA.rz DA.clen hlt
        have z0 := hfz (k * 4)
        have z1 := hfz (k * 4 + 1)
        have z2 := hfz (k * 4 + 2)
        have z3 := hfz (k * 4 + 3)
        have hbt := but_set4 wA gz (k * 4) (.int .i64 z.f) (.int .i64 z.t) (.slice (some ⟨g, 0, none⟩) fn fn) (.slice (some ⟨kk, 0, none⟩) tn tn)
        have I2 := IA.setZ FV hs0.out rfl hbt (row_set4 IA.rz (k * 4) _ _ _ _)
        have D2 := DA.next (fc := fn) (tc := tn) hlt h.zones.len (by rw [hz.out]) hbt FV.z2 atA fA1 fA2
        have hS3 : S ≤ ((((wA.setCell ⟨gz, k * 4, none⟩ (.int .i64 z.f)).setCell ⟨gz, k * 4 + 1, none⟩ (.int .i64 z.t)).setCell ⟨gz, k * 4 + 2, none⟩ (.slice (some ⟨g, 0, none⟩) fn fn)).setCell ⟨gz, k * 4 + 3, none⟩ (.slice (some ⟨kk, 0, none⟩) tn tn)).heap.size := Nat.le_trans hS2 (Nat.le_trans SA.size hbt.size)
        obtain ⟨V1, hV1⟩ : ∃ V1, (((wA.setCell ⟨gz, k * 4, none⟩ (.int .i64 z.f)).setCell ⟨gz, k * 4 + 1, none⟩ (.int .i64 z.t)).setCell ⟨gz, k * 4 + 2, none⟩ (.slice (some ⟨g, 0, none⟩) fn fn)).setCell ⟨gz, k * 4 + 3, none⟩ (.slice (some ⟨kk, 0, none⟩) tn tn) = V1 := ⟨_, rfl⟩
        rw [hV1] at I2 D2 hS3
        have HV1 : Hid _ := hV1
        clear hV1 hbt hK1 m0 m1 m2 m3 m4 IA DA atA Ib Db ZB SA SB o1 o2 hfz hbb
        go_wp2_with (rw [HV1.out])
        go_roundw
        case rel => exact ⟨k + 1, _, _, by omega, by go_num, I2, D2, hS3⟩
        case measure => simp [intOf]; omega
      · obtain rfl : zn = k := by omega
        obtain ⟨E1, E2⟩ := D.all h.zones.len
        have HE1 : Hid _ := E1
        have HE2 : Hid _ := E2
        clear I1 p0 p1 p3 p4 hlt hk E1 E2
        have p1 := I.hin.c1
        have p3 := I.hin.c3
        have y1 := I.box.c1
        obtain ⟨CT, hCT⟩ : ∃ CT, CT = vals mins := ⟨_, rfl⟩
        have lT : CT.length = mn * 1 := by rw [hCT, length_vals]; have := h.mins.len; dsimp only at this; omega
        have oT : ∀ v ∈ CT, v.oneCell' = true := by rw [hCT]; exact vals_oneCell _
        have HST : Hid (∀ W, Below W0.heap.size W0 W → 0 < mn → ∃ ad, mo = some ad ∧ ∀ j v, CT[j]? = some v → W.cell? (ad.add j) = some v) := fun W hW h0 => by
          rw [hCT]
          exact src_of ((h.mins.below hb0).below hW).at_ (by have := h.mins.len; dsimp only at this ⊢; omega)
        have HCT : Hid _ := hCT
        clear hCT
        go_wp2_with (refine wpList_copy_k rfl (.tmp 43) (.tmp 45) 22 22 rfl 3 1 Try.underlying22 size_int _ _ _ _ _ _ rfl rfl gm 0 MM.toList 3 I.rm CT mn (Nat.min_self _) lT (fun h0 => ⟨rfl, HST.out _ I.b h0⟩) (by simp only [Array.length_toList]; rw [lT, hSM.out]; omega) oT ?_; intro w2 hg2 hb2; have I2 := I.setM FV hs0.out rfl hb2 hg2.out; have D2 := D.but hb2 FV.m2; have hS2 := Nat.le_trans hS1 hb2.size; clear I D p1 p3 y1 hg2 hb2 hS1; have p3 := I2.hin.c3)
        rw [splice_all (by rw [Array.length_toList, hSM.out, lT])] at I2
        clear HST lT oT
        go_loopw [50] (fun iv wr => ∃ (k : Nat) (ld : List Lc) (CL : List Value), k ≤ ln ∧ iv = .int .i64 k ∧ HcI W0 w.heap.size ⟨zs, zo, zn, zc, mins, mo, mn, mc, cpus, ls, lo, ln, lc, live, vo, vn, vc⟩ X gz gm gl gv CZ CT CL MV.toList wr ∧ ZDone S zn zn zs done CZ wr ∧ LDone S ln k ls ld CL wr ∧ S ≤ wr.heap.size) (fun iv _ => ln - (intOf iv).toNat)
        case atStart => exact ⟨0, [], _, Nat.zero_le _, rfl, I2, D2, LDone.first (by rw [Array.length_toList]; exact hSL.out), hS2⟩
        case round =>
          obtain ⟨k, ld, CL, hk, rfl, I, D, LD, hS1⟩ := hrel
          clear I2 D2 p3 hS2
          by_cases hlt : k < ln
          · obtain ⟨b, off, c, z, t, pages, po, pn, pc, ha, c0, c1, c2, c3, hat, hz⟩ := (h.lists.below hb0).at k hlt
            dsimp only at ha hz
            subst ha
            replace c0 := keep c0 I.b
            replace c1 := keep c1 I.b
            replace c2 := keep c2 I.b
            replace c3 := keep c3 I.b
            have hbb := below_box wr (.cells #[.int .i64 c, .int .i64 z, .int .i64 t, .slice po pn pc] 77)
            have ZB := zbox_new wr (.int .i64 c) (.int .i64 z) (.int .i64 t) (.slice po pn pc) 77
            have Ib := I.below hbb
            obtain ⟨Wb, hWb⟩ : ∃ Wb, wr.alloc (.cells #[.int .i64 c, .int .i64 z, .int .i64 t, .slice po pn pc] 77) = Wb := ⟨_, rfl⟩
            rw [hWb] at hbb ZB Ib
            have HWb : Hid _ := hWb
            have hS2 : S ≤ Wb.heap.size := Nat.le_trans hS1 hbb.size
            have gls := FV.l2
            obtain ⟨⟨_, e0⟩, ⟨_, e1⟩, ⟨_, e2⟩, ⟨_, e3⟩, hfz⟩ := row_res4 Ib.rl LD.clen hlt
            have z0 := hfz (k * 4)
            have z1 := hfz (k * 4 + 1)
            have z2 := hfz (k * 4 + 2)
            have z3 := hfz (k * 4 + 3)
            have hbt := but_set4 Wb gl (k * 4) (.int .i64 c) (.int .i64 z) (.int .i64 t) (.slice po pn pc)
            have I2 := Ib.setL FV hs0.out rfl hbt (row_set4 Ib.rl (k * 4) (.int .i64 c) (.int .i64 z) (.int .i64 t) (.slice po pn pc))
            have ZB2 := ZB.but hbt (by omega)
            have hBL : But gl wr _ := (But.of_below hbb).trans hbt
            have y3 := Ib.box.c3
            obtain ⟨V1, hV1⟩ : ∃ V1, (((Wb.setCell ⟨gl, k * 4, none⟩ (.int .i64 c)).setCell ⟨gl, k * 4 + 1, none⟩ (.int .i64 z)).setCell ⟨gl, k * 4 + 2, none⟩ (.int .i64 t)).setCell ⟨gl, k * 4 + 3, none⟩ (.slice po pn pc) = V1 := ⟨_, rfl⟩
            rw [hV1] at I2 ZB2 hBL
            have HV1 : Hid _ := hV1
            have zb0 := ZB.c0
            have zb1 := ZB.c1
            have zb2 := ZB.c2
            have zb3 := ZB.c3
            clear hWb hV1 hbt
            go_wp2_with (first | rw [HWb.out] | rw [HV1.out])
            clear HWb HV1 c0 c1 c2 c3 e0 e1 e2 e3 z0 z1 z2 z3 hfz zb0 zb1 zb2 zb3 y3 Ib ZB hbb
            have rp := hat.reach
            have mp : pn ≤ maxLen := by unfold maxLen; omega
            obtain ⟨MP, sP, hMP⟩ := made_b (P := Try.prog) Try.underlying22 (info_parts info_int).choose_spec.1 (info_parts info_int).choose_spec.2.1 pn (by rw [(info_parts info_int).choose_spec.2.2.2]; omega) mp
            rw [(info_parts info_int).choose_spec.2.2.1] at sP
            have hS3 : S ≤ V1.heap.size := Nat.le_trans hS1 hBL.size
            have SB : Below V1.heap.size V1 { V1 with drawn := V1.drawn + 1 } := (Below.refl V1.heap.size V1).drew
            have m0 : ∀ wx, Below V1.heap.size V1 wx → wx.cell? ⟨X, 3, none⟩ = some (.slice (some ⟨gl, 0, none⟩) ln ln) := fun wx h => keep I2.box.c3 h
            have m1 : ∀ wx, Below V1.heap.size V1 wx → wx.cell? ⟨wr.heap.size, 3, none⟩ = some (.slice po pn pc) := fun wx h => keep ZB2.c3 h
            refine wp_region_peel (S := fun wx => Below V1.heap.size V1 wx) 9 _ (by kernel_rfl) (by kernel_rfl) rfl ?_
            simp only [List.take_succ_cons, List.take_zero]
            refine takeH 0 (v := .pointer (some ⟨X, 3, none⟩)) rfl (by kernel_rfl) (by kernel_rfl) (by kernel_rfl) (fun _ _ _ h => h) rfl (fun wx hSx => ?_) SB ?_
            · go_simp
            try simp only [Act.put, List.setIfInBounds_toArray, List.set_cons_zero, List.set_cons_succ]
            refine takeH 1 (v := .slice (some ⟨gl, 0, none⟩) ln ln) rfl (by kernel_rfl) (by kernel_rfl) (by kernel_rfl) (fun _ _ _ h => h) rfl (fun wx hSx => ?_) SB ?_
            · go_simp
            try simp only [Act.put, List.setIfInBounds_toArray, List.set_cons_zero, List.set_cons_succ]
            refine takeH 2 (v := .int .i64 (k : Int)) rfl (by kernel_rfl) (by kernel_rfl) (by kernel_rfl) (fun _ _ _ h => h) rfl (fun wx hSx => ?_) SB ?_
            · go_simp
            try simp only [Act.put, List.setIfInBounds_toArray, List.set_cons_zero, List.set_cons_succ]
            refine takeH 3 (v := .pointer (some ⟨wr.heap.size, 3, none⟩)) rfl (by kernel_rfl) (by kernel_rfl) (by kernel_rfl) (fun _ _ _ h => h) rfl (fun wx hSx => ?_) SB ?_
            · go_simp
            try simp only [Act.put, List.setIfInBounds_toArray, List.set_cons_zero, List.set_cons_succ]
            refine takeH 4 (v := .slice po pn pc) rfl (by kernel_rfl) (by kernel_rfl) (by kernel_rfl) (fun _ _ _ h => h) rfl (fun wx hSx => ?_) SB ?_
            · go_simp
            try simp only [Act.put, List.setIfInBounds_toArray, List.set_cons_zero, List.set_cons_succ]
            refine takeH 5 (v := .int .i64 (pn : Int)) rfl (by kernel_rfl) (by kernel_rfl) (by kernel_rfl) (fun _ _ _ h => h) rfl (fun wx hSx => ?_) SB ?_
            · go_simp
            try simp only [Act.put, List.setIfInBounds_toArray, List.set_cons_zero, List.set_cons_succ]
            refine oneH 6 (by kernel_rfl) rfl rfl (fun K1 hK1 => ?_)
            have hrun := hMP { V1 with drawn := V1.drawn + 1 }
            go_simp
            have SA : Below V1.heap.size V1 (({ V1 with drawn := V1.drawn + 1 } : World).alloc (.cells MP 3)) := SB.alloc (Nat.le_refl _) _
            refine hK1 _ _ SA ?_
            try simp only [Act.put, List.setIfInBounds_toArray, List.set_cons_zero, List.set_cons_succ]
            have rP : (({ V1 with drawn := V1.drawn + 1 } : World).alloc (.cells MP 3)).heap[V1.heap.size]? = some (.cells MP.toList.toArray 3 (0, 0)) := by
              show (V1.heap.push _)[V1.heap.size]? = _
              rw [Array.getElem?_push, if_pos rfl]
            obtain ⟨wA, hwA⟩ : ∃ wA, (({ V1 with drawn := V1.drawn + 1 } : World).alloc (.cells MP 3)) = wA := ⟨_, rfl⟩
            have hwA' : (V1.alloc (.cells MP 3)).drew = wA := hwA
            rw [hwA] at rP SA
            rw [hwA']
            have I3 := I2.below SA
            have ZB3 := ZB2.below SA
            have hBA : But gl wr wA := hBL.trans (But.of_below SA)
            obtain ⟨pb, hpb⟩ : ∃ pb, V1.heap.size = pb := ⟨_, rfl⟩
            rw [hpb] at rP hS3 SA ⊢
            have hpw : wr.heap.size ≤ pb := by have := hBL.size; omega
            clear hrun hK1 m0 m1 hwA hwA' hpb SB
            refine takeH 7 (v := .pointer (some ⟨gl, k * 4, none⟩)) rfl (by kernel_rfl) (by kernel_rfl) (by kernel_rfl) (fun _ _ _ h => h) rfl (fun wx hSx => ?_) SA ?_
            · go_simp
            try simp only [Act.put, List.setIfInBounds_toArray, List.set_cons_zero, List.set_cons_succ]
            refine takeH 8 (v := .pointer (some ⟨gl, k * 4 + 3, none⟩)) rfl (by kernel_rfl) (by kernel_rfl) (by kernel_rfl) (fun _ _ _ h => h) rfl (fun wx hSx => ?_) SA ?_
            · go_simp
            try simp only [Act.put, List.setIfInBounds_toArray, List.set_cons_zero, List.set_cons_succ]
            refine wpAnyH_done (by kernel_rfl) ?_ _
            show Oper.wp _ _ _ _ _ _
            obtain ⟨_, _, _, ⟨_, e3⟩, hfz⟩ := row_res4 I3.rl (show _ = ln * 4 by simpa using LD.clen) hlt
            have z3 := hfz (k * 4 + 3)
            have hb3 := (But.refl gl wA).setCell (o := k * 4 + 3) (.slice (some ⟨pb, 0, none⟩) pn pn)
            have I4 := I3.setL FV hs0.out rfl hb3 (row_set1 I3.rl (k * 4 + 3) (.slice (some ⟨pb, 0, none⟩) pn pn))
            rw [List.set_set] at I4
            have ZB4 := ZB3.but hb3 (by omega)
            have rP4 := (hb3.block pb (lt_of_row rP) (by omega)).trans rP
            have hB4 := hBA.trans hb3
            obtain ⟨V4, hV4⟩ : ∃ V4, wA.setCell ⟨gl, k * 4 + 3, none⟩ (.slice (some ⟨pb, 0, none⟩) pn pn) = V4 := ⟨_, rfl⟩
            rw [hV4] at I4 ZB4 rP4 hB4
            have HV4 : Hid _ := hV4
            clear hV4 hb3 I3 I2 ZB3 ZB2 rP SA hBA hBL
            go_wp2_with (rw [HV4.out])
            clear HV4 e3 z3 hfz
            have SB : Below V4.heap.size V4 { V4 with drawn := V4.drawn + 1 } := (Below.refl V4.heap.size V4).drew
            have m0 : ∀ wx, Below V4.heap.size V4 wx → wx.cell? ⟨X, 3, none⟩ = some (.slice (some ⟨gl, 0, none⟩) ln ln) := fun wx h => keep I4.box.c3 h
            have m1 : ∀ wx, Below V4.heap.size V4 wx → wx.cell? ⟨wr.heap.size, 3, none⟩ = some (.slice po pn pc) := fun wx h => keep ZB4.c3 h
            have hcl := LD.clen
            have m2 : ∀ wx, Below V4.heap.size V4 wx → wx.cell? ⟨gl, k * 4 + 3, none⟩ = some (.slice (some ⟨pb, 0, none⟩) pn pn) := fun wx h => keep (by
              rw [cell_of_row _ _ _ _ _ _ I4.rl]
              simp only [List.getElem?_toArray]
              rw [List.getElem?_set_self (by simp; omega)]) h
            refine wp_region_peel (S := fun wx => Below V4.heap.size V4 wx) 8 _ (by kernel_rfl) (by kernel_rfl) rfl ?_
            simp only [List.take_succ_cons, List.take_zero]
            refine takeH 0 (v := .pointer (some ⟨X, 3, none⟩)) rfl (by kernel_rfl) (by kernel_rfl) (by kernel_rfl) (fun _ _ _ h => h) rfl (fun wx hSx => ?_) SB ?_
            · go_simp
            try simp only [Act.put, List.setIfInBounds_toArray, List.set_cons_zero, List.set_cons_succ]
            refine takeH 1 (v := .slice (some ⟨gl, 0, none⟩) ln ln) rfl (by kernel_rfl) (by kernel_rfl) (by kernel_rfl) (fun _ _ _ h => h) rfl (fun wx hSx => ?_) SB ?_
            · go_simp
            try simp only [Act.put, List.setIfInBounds_toArray, List.set_cons_zero, List.set_cons_succ]
            refine takeH 2 (v := .int .i64 (k : Int)) rfl (by kernel_rfl) (by kernel_rfl) (by kernel_rfl) (fun _ _ _ h => h) rfl (fun wx hSx => ?_) SB ?_
            · go_simp
            try simp only [Act.put, List.setIfInBounds_toArray, List.set_cons_zero, List.set_cons_succ]
            refine takeH 3 (v := .pointer (some ⟨gl, k * 4, none⟩)) rfl (by kernel_rfl) (by kernel_rfl) (by kernel_rfl) (fun _ _ _ h => h) rfl (fun wx hSx => ?_) SB ?_
            · go_simp
            try simp only [Act.put, List.setIfInBounds_toArray, List.set_cons_zero, List.set_cons_succ]
            refine takeH 4 (v := .pointer (some ⟨gl, k * 4 + 3, none⟩)) rfl (by kernel_rfl) (by kernel_rfl) (by kernel_rfl) (fun _ _ _ h => h) rfl (fun wx hSx => ?_) SB ?_
            · go_simp
            try simp only [Act.put, List.setIfInBounds_toArray, List.set_cons_zero, List.set_cons_succ]
            refine takeH 5 (v := .slice (some ⟨pb, 0, none⟩) pn pn) rfl (by kernel_rfl) (by kernel_rfl) (by kernel_rfl) (fun _ _ _ h => h) rfl (fun wx hSx => ?_) SB ?_
            · go_simp
            try simp only [Act.put, List.setIfInBounds_toArray, List.set_cons_zero, List.set_cons_succ]
            refine takeH 6 (v := .pointer (some ⟨wr.heap.size, 3, none⟩)) rfl (by kernel_rfl) (by kernel_rfl) (by kernel_rfl) (fun _ _ _ h => h) rfl (fun wx hSx => ?_) SB ?_
            · go_simp
            try simp only [Act.put, List.setIfInBounds_toArray, List.set_cons_zero, List.set_cons_succ]
            refine takeH 7 (v := .slice po pn pc) rfl (by kernel_rfl) (by kernel_rfl) (by kernel_rfl) (fun _ _ _ h => h) rfl (fun wx hSx => ?_) SB ?_
            · go_simp
            try simp only [Act.put, List.setIfInBounds_toArray, List.set_cons_zero, List.set_cons_succ]
            refine wpAnyH_done (by kernel_rfl) ?_ _
            show Oper.wp _ _ _ _ _ _
            have I5 := I4.below SB
            have at5 := hat.below I5.b
            have lP : (vals pages).length = pn * 1 := by rw [length_vals, hat.len]; omega
            refine oper_copy_k rfl (.tmp 74) (.tmp 76) 22 22 rfl 3 1 Try.underlying22 size_int (some ⟨pb, 0, none⟩) po pn pn pn pc (by simp [Act.eval]) (by simp [Act.eval]) pb 0 MP.toList 3 rP4 (vals pages) pn (Nat.min_self _) lP (fun h0 => ⟨rfl, src_of at5.at_ (by rw [hat.len]; exact h0)⟩) (by have e1 := lP; have e2 := sP; simp only [Array.length_toList]; omega) (vals_oneCell _) ?_
            intro w5 hg5 hb5
            have rP5 := hg5.out
            rw [splice_all (by rw [Array.length_toList, lP, sP])] at rP5
            have I6 := I5.newer FV hs0.out rfl hb5 hS3
            have oP := owns_of_row (base := S) rP5 hS3 lP mp
            have hB5 : But gl wr w5 := But.then_new (hB4.trans (But.of_below SB)) hb5 hpw
            have D5 := D.but hB5 gls
            have LD5 := LD.next hlt h.lists.len (by rw [hz.out]) hB5 gls (nums_of_owns oP rp) (owns_fresh oP) rfl
            have hS5 : S ≤ w5.heap.size := Nat.le_trans hS1 hB5.size
            clear I4 I5 at5 SB m0 m1 m2 rP4 hg5 hb5 rP5 oP ZB4 hB4 hB5
            go_wp2
            go_roundw
            case rel => exact ⟨k + 1, _, _, by omega, by go_num, I6, D5, LD5, hS5⟩
            case measure => simp [intOf]; omega
          · obtain rfl : ln = k := by omega
            clear hlt hk
            have p4 := I.hin.c4
            have y0 := I.box.c0
            have y1 := I.box.c1
            have y2 := I.box.c2
            have y3 := I.box.c3
            have y4 := I.box.c4
            obtain ⟨CV, hCV⟩ : ∃ CV, CV = bvals live := ⟨_, rfl⟩
            have lT : CV.length = vn * 3 := by rw [hCV, length_bvals]; have := h.live.len; dsimp only at this; omega
            have oT : ∀ v ∈ CV, v.oneCell' = true := by rw [hCV]; exact bvals_oneCell _
            have HST : Hid (∀ W, Below W0.heap.size W0 W → 0 < vn → ∃ ad, vo = some ad ∧ ∀ j v, CV[j]? = some v → W.cell? (ad.add j) = some v) := fun W hW h0 => by
              rw [hCV]
              exact bsrc_of ((h.live.below hb0).below hW).at_ (by have := h.live.len; dsimp only at this ⊢; omega)
            have HCV : Hid _ := hCV
            clear hCV
            go_wp2_with (refine wpList_copy_k rfl (.tmp 80) (.tmp 82) 25 25 rfl 72 3 Try.underlying25 size_block _ _ _ _ _ _ rfl rfl gv 0 MV.toList 72 I.rv CV vn (Nat.min_self _) lT (fun h0 => ⟨rfl, HST.out _ I.b h0⟩) (by simp only [Array.length_toList]; rw [lT, hSV.out]; omega) oT ?_; intro w2 hg2 hb2; have I2 := I.setV FV hs0.out rfl hb2 hg2.out; have D2 := D.but hb2 FV.v2; have L2 := LD.but hb2 FV.v2; clear I D LD p4 y0 y1 y2 y3 y4 hg2 hb2 hS1; have y0 := I2.box.c0; have y1 := I2.box.c1; have y2 := I2.box.c2; have y3 := I2.box.c3; have y4 := I2.box.c4; have R2 := I2.res; have t0 := R2.c0; have t1 := R2.c1; have t2 := R2.c2; have t3 := R2.c3; have t4 := R2.c4; have f0 := R2.z0; have f1 := R2.z1; have f2 := R2.z2; have f3 := R2.z3; have f4 := R2.z4)
            rw [splice_all (by rw [Array.length_toList, hSV.out, lT])] at I2
            obtain ⟨O2, e2⟩ := I2.owns FV ((h.below hb0).below I2.b) D2 L2 HCT.out HCV.out
            have hbt := but5 w2 (w.heap.size + 1) (.slice (some ⟨gz, 0, none⟩) zn zn) (.slice (some ⟨gm, 0, none⟩) mn mn) (.int .i64 cpus) (.slice (some ⟨gl, 0, none⟩) ln ln) (.slice (some ⟨gv, 0, none⟩) vn vn)
            have R3 := R2.set5 (.slice (some ⟨gz, 0, none⟩) zn zn) (.slice (some ⟨gm, 0, none⟩) mn mn) (.int .i64 cpus) (.slice (some ⟨gl, 0, none⟩) ln ln) (.slice (some ⟨gv, 0, none⟩) vn vn)
            have O3 := (O2.but hbt (by rw [hs0.out]; omega)).weaken (B' := w.heap.size) (by rw [hs0.out]; omega)
            have hBf : Below w.heap.size w _ := (hb0.trans (I2.b.mono hb0.size)).trans (hbt.below (by omega) (by have := hb0.size; have := I2.b.size; omega))
            have k0 := R3.c0
            have k1 := R3.c1
            have k2 := R3.c2
            have k3 := R3.c3
            have k4 := R3.c4
            exact bodyPost_ret (v := .agg #[.slice (some ⟨gz, 0, none⟩) zn zn, .slice (some ⟨gm, 0, none⟩) mn mn, .int .i64 cpus, .slice (some ⟨gl, 0, none⟩) ln ln, .slice (some ⟨gv, 0, none⟩) vn vn]) (by simp [results, Try.results19, go_sem, k0, k1, k2, k3, k4]) rfl ⟨⟨gz, gl, gv, _, rfl, e2, O3⟩, hBf⟩

end Go.Proofs.Ytnijjpakpphhhaa
