/-
  OWN TEXT. Contracts of the laws' own: sameHeap at two that hold the same.
-/
import Derived.Test.YtmpalonhckafjaaSameZ
import Derived.Test.YtmpalonhckafjaaHKit
import Derived.Test.YtmpalonhckafjaaPeel
namespace Go.Proofs.Ytmpalonhckafjaa
open Go Go.RowKit Go.Proofs.Ytmpalonhckafjaa.Kit

/-- A heap as a value. -/
def hval (x : Hx) : Value := .agg #[.slice x.zo x.zn x.zc, .slice x.mo x.mn x.mc, .int .i64 x.cpus, .slice x.lo x.ln x.lc, .slice x.vo x.vn x.vc]

theorem map_getD {α β : Type} {l m : List α} {f : α → β} (h : l.map f = m.map f) (i : Nat) (d : α) : f (l.getD i d) = f (m.getD i d) := by
  have e := congrArg (fun s => s[i]?) h
  simp only [List.getElem?_map] at e
  rw [List.getD_eq_getElem?_getD, List.getD_eq_getElem?_getD]
  cases h1 : l[i]? with
  | none =>
    cases h2 : m[i]? with
    | none => rfl
    | some y => rw [h1, h2] at e; cases e
  | some x =>
    cases h2 : m[i]? with
    | none => rw [h1, h2] at e; cases e
    | some y => rw [h1, h2] at e; simpa using e

set_option maxRecDepth 4000 in
set_option maxHeartbeats 4000000 in
theorem sameHeap_eq (w : World) (x y : Hx) (hx : x.At w) (hy : y.At w) (he : x.hp = y.hp) :
    Calls Try.prog 10 #[.agg #[.slice x.zo x.zn x.zc, .slice x.mo x.mn x.mc, .int .i64 x.cpus, .slice x.lo x.ln x.lc, .slice x.vo x.vn x.vc], .agg #[.slice y.zo y.zn y.zc, .slice y.mo y.mn y.mc, .int .i64 y.cpus, .slice y.lo y.ln y.lc, .slice y.vo y.vn y.vc]] w fun e w' => e = .returned (.bool true) ∧ Below w.heap.size w w' := by
  have e0 : x.zs.map (·.z) = y.zs.map (·.z) := congrArg Hp.zones he
  have e1 : x.mins = y.mins := congrArg Hp.mins he
  have e2 : x.cpus = y.cpus := congrArg Hp.cpus he
  have e3 : x.ls.map (·.l) = y.ls.map (·.l) := congrArg Hp.lists he
  have e4 : x.live = y.live := congrArg Hp.live he
  obtain ⟨zs, zo, zn, zc, mins, mo, mn, mc, cpus, ls, lo, ln, lc, live, vo, vn, vc⟩ := x
  obtain ⟨zs', zo', zn', zc', mins', mo', mn', mc', cpus', ls', lo', ln', lc', live', vo', vn', vc'⟩ := y
  dsimp only at e0 e1 e2 e3 e4 ⊢
  subst e1 e2 e4
  obtain ⟨xz, xm, xl, xv⟩ := hx
  obtain ⟨yz, ym, yl, yv⟩ := hy
  dsimp only at xz xm xl xv yz ym yl yv
  obtain rfl : zn = zn' := by have := congrArg List.length e0; simp only [List.length_map] at this; have := xz.len; have := yz.len; omega
  obtain rfl : ln = ln' := by have := congrArg List.length e3; simp only [List.length_map] at this; have := xl.len; have := yl.len; omega
  obtain rfl : mn = mn' := by have := xm.len; have := ym.len; omega
  obtain rfl : vn = vn' := by have := xv.len; have := yv.len; omega
  clear he
  have hE0 : Hid (zs.map (·.z) = zs'.map (·.z)) := e0
  have hE3 : Hid (ls.map (·.l) = ls'.map (·.l)) := e3
  clear e0 e3
  have hb1 := below_box w (.cells #[.slice zo zn zc, .slice mo mn mc, .int .i64 cpus, .slice lo ln lc, .slice vo vn vc] 28)
  have A1 := hbox_new w (.slice zo zn zc) (.slice mo mn mc) (.int .i64 cpus) (.slice lo ln lc) (.slice vo vn vc) 28
  have hb2 := below_box (w.alloc (.cells #[.slice zo zn zc, .slice mo mn mc, .int .i64 cpus, .slice lo ln lc, .slice vo vn vc] 28)) (.cells #[.slice zo' zn zc', .slice mo' mn mc', .int .i64 cpus, .slice lo' ln lc', .slice vo' vn vc'] 28)
  have A2 := hbox_new (w.alloc (.cells #[.slice zo zn zc, .slice mo mn mc, .int .i64 cpus, .slice lo ln lc, .slice vo vn vc] 28)) (.slice zo' zn zc') (.slice mo' mn mc') (.int .i64 cpus) (.slice lo' ln lc') (.slice vo' vn vc') 28
  replace A1 := A1.below hb2
  have hb0 := hb1.trans (hb2.mono hb1.size)
  have hs0 : (w.alloc (.cells #[.slice zo zn zc, .slice mo mn mc, .int .i64 cpus, .slice lo ln lc, .slice vo vn vc] 28)).heap.size = w.heap.size + 1 := by simp
  rw [hs0] at A2
  clear hb1 hb2 hs0
  obtain ⟨W0, hW0⟩ : ∃ W0, (w.alloc (.cells #[.slice zo zn zc, .slice mo mn mc, .int .i64 cpus, .slice lo ln lc, .slice vo vn vc] 28)).alloc (.cells #[.slice zo' zn zc', .slice mo' mn mc', .int .i64 cpus, .slice lo' ln lc', .slice vo' vn vc'] 28) = W0 := ⟨_, rfl⟩
  rw [hW0] at A1 A2 hb0
  have HW0 : Hid _ := hW0
  replace xz := xz.below hb0
  replace xm := xm.below hb0
  replace xl := xl.below hb0
  replace xv := xv.below hb0
  replace yz := yz.below hb0
  replace ym := ym.below hb0
  replace yl := yl.below hb0
  replace yv := yv.below hb0
  have a0 := A1.c0
  have a1 := A1.c1
  have a2 := A1.c2
  have a3 := A1.c3
  have a4 := A1.c4
  have b0 := A2.c0
  have b1 := A2.c1
  have b2 := A2.c2
  have b3 := A2.c3
  have b4 := A2.c4
  have q : (cpus == cpus) = true := by simp
  have qz : ((zn : Int) == (zn : Int)) = true := by simp
  have ql : ((ln : Int) == (ln : Int)) = true := by simp
  have rz := xz.reach
  have rl := xl.reach
  clear hW0
  go_enter Try.func10, Try.ntmps10
  go_wp2_with (rw [HW0.out])
  go_at_call 28
  refine (same_eq _ mo mo' mn mc mc' mins xm.len xm.reach xm.at_ ym.at_).mono ?_
  rintro e w2 ⟨rfl, d2, rfl⟩
  obtain ⟨W2, hW2⟩ : ∃ W2, W0.drewN d2 = W2 := ⟨_, rfl⟩
  have hB2 : Below W0.heap.size W0 W2 := by rw [← hW2]; exact below_drawn d2
  rw [hW2]
  clear hW2 a0 a1 a2 a3 a4 b0 b1 b2 b3 b4
  have a4 := (A1.below hB2).c4
  have b4 := (A2.below hB2).c4
  go_wp2_with fail
  go_at_call 29
  refine (sameBlocks_eq _ vo vo' vn vc vc' live (xv.below hB2) (yv.below hB2)).mono ?_
  rintro e w3 ⟨rfl, d3, rfl⟩
  obtain ⟨W3, hW3⟩ : ∃ W3, W2.drewN d3 = W3 := ⟨_, rfl⟩
  have hB3 : Below W0.heap.size W0 W3 := by rw [← hW3]; exact hB2.trans ((below_drawn d3).mono hB2.size)
  rw [hW3]
  clear hW3 a4 b4 HW0
  go_wp2_with fail
  go_loopw [5] (fun iv wr => ∃ k : Nat, k ≤ zn ∧ iv = .int .i64 k ∧ Below W0.heap.size W0 wr) (fun iv _ => zn - (intOf iv).toNat)
  case atStart => exact ⟨0, Nat.zero_le _, rfl, hB3⟩
  case round =>
    obtain ⟨k, hk, rfl, hB⟩ := hrel
    clear hB2 hB3
    have B1 := A1.below hB
    have B2 := A2.below hB
    have a0 := B1.c0
    have b0 := B2.c0
    by_cases hlt : k < zn
    · obtain ⟨g, off, z, fo, fn, fc, to_, tn, tc, ha, c0, c1, c2, c3, hat, hz⟩ := (xz.below hB).at k hlt
      obtain ⟨g', off', z', fo', fn', fc', to', tn', tc', ha', d0, d1, d2, d3, hat', hz'⟩ := (yz.below hB).at k hlt
      subst ha ha'
      have hzz : z = z' := by
        have := map_getD hE0.out k .zero
        rw [hz.out, hz'.out] at this
        exact this
      subst hzz
      obtain rfl : fn = fn' := hat.free.len.symm.trans hat'.free.len
      obtain rfl : tn = tn' := hat.types.len.symm.trans hat'.types.len
      go_wp2_with fail
      have SB : Below wr.heap.size wr { wr with drawn := wr.drawn + 1 } := (Below.refl wr.heap.size wr).drew
      have m0 : ∀ wx, Below wr.heap.size wr wx → wx.cell? ⟨w.heap.size, 0, none⟩ = some (.slice (some ⟨g, off, none⟩) zn zc) := fun wx h => keep a0 h
      have m1 : ∀ wx, Below wr.heap.size wr wx → wx.cell? ⟨w.heap.size + 1, 0, none⟩ = some (.slice (some ⟨g', off', none⟩) zn zc') := fun wx h => keep b0 h
      have n0 : ∀ wx, Below wr.heap.size wr wx → wx.cell? ⟨g, off + k * 4, none⟩ = some (.int .i64 z.f) := fun wx h => keep c0 h
      have n1 : ∀ wx, Below wr.heap.size wr wx → wx.cell? ⟨g, off + k * 4 + 1, none⟩ = some (.int .i64 z.t) := fun wx h => keep c1 h
      have n2 : ∀ wx, Below wr.heap.size wr wx → wx.cell? ⟨g, off + k * 4 + 2, none⟩ = some (.slice fo fn fc) := fun wx h => keep c2 h
      have n3 : ∀ wx, Below wr.heap.size wr wx → wx.cell? ⟨g, off + k * 4 + 3, none⟩ = some (.slice to_ tn tc) := fun wx h => keep c3 h
      have o0 : ∀ wx, Below wr.heap.size wr wx → wx.cell? ⟨g', off' + k * 4, none⟩ = some (.int .i64 z.f) := fun wx h => keep d0 h
      have o1 : ∀ wx, Below wr.heap.size wr wx → wx.cell? ⟨g', off' + k * 4 + 1, none⟩ = some (.int .i64 z.t) := fun wx h => keep d1 h
      have o2 : ∀ wx, Below wr.heap.size wr wx → wx.cell? ⟨g', off' + k * 4 + 2, none⟩ = some (.slice fo' fn fc') := fun wx h => keep d2 h
      have o3 : ∀ wx, Below wr.heap.size wr wx → wx.cell? ⟨g', off' + k * 4 + 3, none⟩ = some (.slice to' tn tc') := fun wx h => keep d3 h
      refine wp_region_peel (S := fun wx => Below wr.heap.size wr wx) 11 _ (by kernel_rfl) (by kernel_rfl) rfl ?_
      simp only [List.take_succ_cons, List.take_zero]
      refine takeH 0 (v := .pointer (some ⟨w.heap.size, 0, none⟩)) rfl (by kernel_rfl) (by kernel_rfl) (by kernel_rfl) (fun _ _ _ h => h) rfl (fun wx hSx => ?_) SB ?_
      · go_simp
      try simp only [Act.put, List.setIfInBounds_toArray, List.set_cons_zero, List.set_cons_succ]
      refine takeH 1 (v := .slice (some ⟨g, off, none⟩) zn zc) rfl (by kernel_rfl) (by kernel_rfl) (by kernel_rfl) (fun _ _ _ h => h) rfl (fun wx hSx => ?_) SB ?_
      · go_simp
      try simp only [Act.put, List.setIfInBounds_toArray, List.set_cons_zero, List.set_cons_succ]
      refine takeH 2 (v := .int .i64 (k : Int)) rfl (by kernel_rfl) (by kernel_rfl) (by kernel_rfl) (fun _ _ _ h => h) rfl (fun wx hSx => ?_) SB ?_
      · go_simp
      try simp only [Act.put, List.setIfInBounds_toArray, List.set_cons_zero, List.set_cons_succ]
      refine takeH 3 (v := .pointer (some ⟨g, off + k * 4, none⟩)) rfl (by kernel_rfl) (by kernel_rfl) (by kernel_rfl) (fun _ _ _ h => h) rfl (fun wx hSx => ?_) SB ?_
      · go_simp
      try simp only [Act.put, List.setIfInBounds_toArray, List.set_cons_zero, List.set_cons_succ]
      refine takeH 4 (v := .agg #[.int .i64 z.f, .int .i64 z.t, .slice fo fn fc, .slice to_ tn tc]) rfl (by kernel_rfl) (by kernel_rfl) (by kernel_rfl) (fun _ _ _ h => h) rfl (fun wx hSx => ?_) SB ?_
      · go_simp
      try simp only [Act.put, List.setIfInBounds_toArray, List.set_cons_zero, List.set_cons_succ]
      refine takeH 5 (v := .pointer (some ⟨w.heap.size + 1, 0, none⟩)) rfl (by kernel_rfl) (by kernel_rfl) (by kernel_rfl) (fun _ _ _ h => h) rfl (fun wx hSx => ?_) SB ?_
      · go_simp
      try simp only [Act.put, List.setIfInBounds_toArray, List.set_cons_zero, List.set_cons_succ]
      refine takeH 6 (v := .slice (some ⟨g', off', none⟩) zn zc') rfl (by kernel_rfl) (by kernel_rfl) (by kernel_rfl) (fun _ _ _ h => h) rfl (fun wx hSx => ?_) SB ?_
      · go_simp
      try simp only [Act.put, List.setIfInBounds_toArray, List.set_cons_zero, List.set_cons_succ]
      refine takeH 7 (v := .int .i64 (k : Int)) rfl (by kernel_rfl) (by kernel_rfl) (by kernel_rfl) (fun _ _ _ h => h) rfl (fun wx hSx => ?_) SB ?_
      · go_simp
      try simp only [Act.put, List.setIfInBounds_toArray, List.set_cons_zero, List.set_cons_succ]
      refine takeH 8 (v := .pointer (some ⟨g', off' + k * 4, none⟩)) rfl (by kernel_rfl) (by kernel_rfl) (by kernel_rfl) (fun _ _ _ h => h) rfl (fun wx hSx => ?_) SB ?_
      · go_simp
      try simp only [Act.put, List.setIfInBounds_toArray, List.set_cons_zero, List.set_cons_succ]
      refine takeH 9 (v := .agg #[.int .i64 z.f, .int .i64 z.t, .slice fo' fn fc', .slice to' tn tc']) rfl (by kernel_rfl) (by kernel_rfl) (by kernel_rfl) (fun _ _ _ h => h) rfl (fun wx hSx => ?_) SB ?_
      · go_simp
      try simp only [Act.put, List.setIfInBounds_toArray, List.set_cons_zero, List.set_cons_succ]
      refine oneH 10 (by kernel_rfl) rfl rfl (fun K1 hK1 => ?_)
      go_simp
      refine (sameZone_eq _ z.f z.t fo fo' to_ to' fn fc fc' tn tc tc' z (hat.below SB) (hat'.below SB)).mono ?_
      rintro e wA ⟨rfl, hbA⟩
      have SA : Below wr.heap.size wr wA := SB.trans (hbA.mono SB.size)
      refine hK1 _ _ SA ?_
      try simp only [Act.put, List.setIfInBounds_toArray, List.set_cons_zero, List.set_cons_succ]
      refine wpAnyH_done (by kernel_rfl) ?_ _
      show Oper.wp _ _ _ _ _ _
      have hBA : Below W0.heap.size W0 wA := hB.trans (SA.mono hB.size)
      clear m0 m1 n0 n1 n2 n3 o0 o1 o2 o3 hat hat' c0 c1 c2 c3 d0 d1 d2 d3 hz hz' SA SB hbA a0 b0 B1 B2 hK1
      go_wp2_with fail
      go_roundw
      case rel => exact ⟨k + 1, by omega, by go_num, hBA⟩
      case measure => simp [intOf]; omega
    · go_wp2_with fail
      clear hlt hk
      go_loopw [6] (fun iv wr => ∃ k : Nat, k ≤ ln ∧ iv = .int .i64 k ∧ Below W0.heap.size W0 wr) (fun iv _ => ln - (intOf iv).toNat)
      case atStart => exact ⟨0, Nat.zero_le _, rfl, hB⟩
      case round =>
        clear a0 b0 B1 B2 hB
        obtain ⟨k, hk, rfl, hB⟩ := hrel
        have B1 := A1.below hB
        have B2 := A2.below hB
        have a3 := B1.c3
        have b3 := B2.c3
        by_cases hlt : k < ln
        · obtain ⟨g, off, c, z, t, pages, po, pn, pc, ha, c0, c1, c2, c3, hat, hz⟩ := (xl.below hB).at k hlt
          obtain ⟨g', off', c', z', t', pages', po', pn', pc', ha', d0, d1, d2, d3, hat', hz'⟩ := (yl.below hB).at k hlt
          subst ha ha'
          have hzz : (⟨c, z, t, pages⟩ : Ls) = ⟨c', z', t', pages'⟩ := by
            have := map_getD hE3.out k .zero
            rw [hz.out, hz'.out] at this
            exact this
          cases hzz
          obtain rfl : pn = pn' := hat.len.symm.trans hat'.len
          have qc : (c == c) = true := by simp
          have qq : (z == z) = true := by simp
          have qt : (t == t) = true := by simp
          have hb1 := below_box wr (.cells #[.int .i64 c, .int .i64 z, .int .i64 t, .slice po pn pc] 57)
          have X1 := zbox_new wr (.int .i64 c) (.int .i64 z) (.int .i64 t) (.slice po pn pc) 57
          have hb2 := below_box (wr.alloc (.cells #[.int .i64 c, .int .i64 z, .int .i64 t, .slice po pn pc] 57)) (.cells #[.int .i64 c, .int .i64 z, .int .i64 t, .slice po' pn pc'] 57)
          have X2 := zbox_new (wr.alloc (.cells #[.int .i64 c, .int .i64 z, .int .i64 t, .slice po pn pc] 57)) (.int .i64 c) (.int .i64 z) (.int .i64 t) (.slice po' pn pc') 57
          have hbb := hb1.trans (hb2.mono hb1.size)
          replace X1 := X1.below hb2
          replace b3 := keep b3 hb1
          replace d0 := keep d0 hb1
          replace d1 := keep d1 hb1
          replace d2 := keep d2 hb1
          replace d3 := keep d3 hb1
          have x0 := X1.c0
          have x1 := X1.c1
          have x2 := X1.c2
          have x3 := X1.c3
          have u0 := X2.c0
          have u1 := X2.c1
          have u2 := X2.c2
          have u3 := X2.c3
          have HS := same_eq ((wr.alloc (.cells #[.int .i64 c, .int .i64 z, .int .i64 t, .slice po pn pc] 57)).alloc (.cells #[.int .i64 c, .int .i64 z, .int .i64 t, .slice po' pn pc'] 57)) po po' pn pc pc' pages hat.len hat.reach (hat.below hbb).at_ (hat'.below hbb).at_
          clear hat hat' hz hz' B1 B2 hb1 hb2
          go_wp2_with fail
          go_at_call 28
          refine HS.mono ?_
          rintro e w5 ⟨rfl, d5, rfl⟩
          have hB5 := hB.trans ((hbb.trans ((below_drawn d5).mono hbb.size)).mono hB.size)
          clear HS x0 x1 x2 x3 u0 u1 u2 u3 X1 X2 c0 c1 c2 c3 d0 d1 d2 d3 a3 b3 hbb
          go_wp2_with fail
          go_roundw
          case rel => exact ⟨k + 1, by omega, by go_num, hB5⟩
          case measure => simp [intOf]; omega
        · go_wp2
          go_ret
          exact ⟨rfl, hb0.trans (hB.mono hb0.size)⟩

end Go.Proofs.Ytmpalonhckafjaa
