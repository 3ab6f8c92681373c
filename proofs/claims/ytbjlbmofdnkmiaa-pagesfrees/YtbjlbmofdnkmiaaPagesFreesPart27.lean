/-
  OWN TEXTS, bundled: SameH, WPagesFrees.
-/
import Derived.Test.YtbjlbmofdnkmiaaPagesFreesPart26
import Derived.Test.YtbjlbmofdnkmiaaPagesFreesPart3
import Derived.Test.YtbjlbmofdnkmiaaPagesFreesPart7

/-
  OWN TEXT. Contracts of the laws' own: sameHeap at two that hold the same.
-/
namespace Go.Proofs.Ytbjlbmofdnkmiaa
open Go Go.RowKit Go.Proofs.Ytbjlbmofdnkmiaa.Kit

/-- A heap as a value. -/
def hval (x : Hx) : Value := .agg #[.slice x.zo x.zn x.zc, .slice x.mo x.mn x.mc, .int .i64 x.cpus, .slice x.lo x.ln x.lc, .slice x.vo x.vn x.vc]

theorem map_getDH {α β : Type} {l m : List α} {f : α → β} (h : l.map f = m.map f) (i : Nat) (d : α) : f (l.getD i d) = f (m.getD i d) := by
  have e := congrArg (fun s => s[i]?) h
  simp only [List.getElem?_map] at e
  rw [List.getD_eq_getElem?_getD, List.getD_eq_getElem?_getD]
  cases h1 : l[i]? with
  | none =>
    cases h2 : m[i]? with
    | none => rfl
    | some y => rw [h1, h2] at e; cases e
  | some x =>
    cases h2 : m[i]? with
    | none => rw [h1, h2] at e; cases e
    | some y => rw [h1, h2] at e; simpa using e

set_option maxRecDepth 4000 in
set_option maxHeartbeats 4000000 in
theorem sameHeap_eq (w : World) (x y : Hx) (hx : x.At w) (hy : y.At w) (he : x.hp = y.hp) :
    Calls Try.prog 10 #[.agg #[.slice x.zo x.zn x.zc, .slice x.mo x.mn x.mc, .int .i64 x.cpus, .slice x.lo x.ln x.lc, .slice x.vo x.vn x.vc], .agg #[.slice y.zo y.zn y.zc, .slice y.mo y.mn y.mc, .int .i64 y.cpus, .slice y.lo y.ln y.lc, .slice y.vo y.vn y.vc]] w fun e w' => e = .returned (.bool true) ∧ Below w.heap.size w w' := by
  have e0 : x.zs.map (·.z) = y.zs.map (·.z) := congrArg Hp.zones he
  have e1 : x.mins = y.mins := congrArg Hp.mins he
  have e2 : x.cpus = y.cpus := congrArg Hp.cpus he
  have e3 : x.ls.map (·.l) = y.ls.map (·.l) := congrArg Hp.lists he
  have e4 : x.live = y.live := congrArg Hp.live he
  obtain ⟨zs, zo, zn, zc, mins, mo, mn, mc, cpus, ls, lo, ln, lc, live, vo, vn, vc⟩ := x
  obtain ⟨zs', zo', zn', zc', mins', mo', mn', mc', cpus', ls', lo', ln', lc', live', vo', vn', vc'⟩ := y
  dsimp only at e0 e1 e2 e3 e4 ⊢
  subst e1 e2 e4
  obtain ⟨xz, xm, xl, xv⟩ := hx
  obtain ⟨yz, ym, yl, yv⟩ := hy
  dsimp only at xz xm xl xv yz ym yl yv
  obtain rfl : zn = zn' := by have := congrArg List.length e0; simp only [List.length_map] at this; have := xz.len; have := yz.len; omega
  obtain rfl : ln = ln' := by have := congrArg List.length e3; simp only [List.length_map] at this; have := xl.len; have := yl.len; omega
  obtain rfl : mn = mn' := by have := xm.len; have := ym.len; omega
  obtain rfl : vn = vn' := by have := xv.len; have := yv.len; omega
  clear he
  have hE0 : Hid (zs.map (·.z) = zs'.map (·.z)) := e0
  have hE3 : Hid (ls.map (·.l) = ls'.map (·.l)) := e3
  clear e0 e3
  have hb1 := below_box w (.cells #[.slice zo zn zc, .slice mo mn mc, .int .i64 cpus, .slice lo ln lc, .slice vo vn vc] 28)
  have A1 := hbox_new w (.slice zo zn zc) (.slice mo mn mc) (.int .i64 cpus) (.slice lo ln lc) (.slice vo vn vc) 28
  have hb2 := below_box (w.alloc (.cells #[.slice zo zn zc, .slice mo mn mc, .int .i64 cpus, .slice lo ln lc, .slice vo vn vc] 28)) (.cells #[.slice zo' zn zc', .slice mo' mn mc', .int .i64 cpus, .slice lo' ln lc', .slice vo' vn vc'] 28)
  have A2 := hbox_new (w.alloc (.cells #[.slice zo zn zc, .slice mo mn mc, .int .i64 cpus, .slice lo ln lc, .slice vo vn vc] 28)) (.slice zo' zn zc') (.slice mo' mn mc') (.int .i64 cpus) (.slice lo' ln lc') (.slice vo' vn vc') 28
  replace A1 := A1.below hb2
  have hb0 := hb1.trans (hb2.mono hb1.size)
  have hs0 : (w.alloc (.cells #[.slice zo zn zc, .slice mo mn mc, .int .i64 cpus, .slice lo ln lc, .slice vo vn vc] 28)).heap.size = w.heap.size + 1 := by simp
  rw [hs0] at A2
  clear hb1 hb2 hs0
  obtain ⟨W0, hW0⟩ : ∃ W0, (w.alloc (.cells #[.slice zo zn zc, .slice mo mn mc, .int .i64 cpus, .slice lo ln lc, .slice vo vn vc] 28)).alloc (.cells #[.slice zo' zn zc', .slice mo' mn mc', .int .i64 cpus, .slice lo' ln lc', .slice vo' vn vc'] 28) = W0 := ⟨_, rfl⟩
  rw [hW0] at A1 A2 hb0
  have HW0 : Hid _ := hW0
  replace xz := xz.below hb0
  replace xm := xm.below hb0
  replace xl := xl.below hb0
  replace xv := xv.below hb0
  replace yz := yz.below hb0
  replace ym := ym.below hb0
  replace yl := yl.below hb0
  replace yv := yv.below hb0
  have a0 := A1.c0
  have a1 := A1.c1
  have a2 := A1.c2
  have a3 := A1.c3
  have a4 := A1.c4
  have b0 := A2.c0
  have b1 := A2.c1
  have b2 := A2.c2
  have b3 := A2.c3
  have b4 := A2.c4
  have q : (cpus == cpus) = true := by simp
  have qz : ((zn : Int) == (zn : Int)) = true := by simp
  have ql : ((ln : Int) == (ln : Int)) = true := by simp
  have rz := xz.reach
  have rl := xl.reach
  clear hW0
  go_enter Try.func10, Try.ntmps10
  go_wp2_with (rw [HW0.out])
  go_at_call 28
  refine (same_eq _ mo mo' mn mc mc' mins xm.len xm.reach xm.at_ ym.at_).mono ?_
  rintro e w2 ⟨rfl, d2, rfl⟩
  obtain ⟨W2, hW2⟩ : ∃ W2, W0.drewN d2 = W2 := ⟨_, rfl⟩
  have hB2 : Below W0.heap.size W0 W2 := by rw [← hW2]; exact below_drawn d2
  rw [hW2]
  clear hW2 a0 a1 a2 a3 a4 b0 b1 b2 b3 b4
  have a4 := (A1.below hB2).c4
  have b4 := (A2.below hB2).c4
  go_wp2_with fail
  go_at_call 29
  refine (sameBlocks_eq _ vo vo' vn vc vc' live (xv.below hB2) (yv.below hB2)).mono ?_
  rintro e w3 ⟨rfl, d3, rfl⟩
  obtain ⟨W3, hW3⟩ : ∃ W3, W2.drewN d3 = W3 := ⟨_, rfl⟩
  have hB3 : Below W0.heap.size W0 W3 := by rw [← hW3]; exact hB2.trans ((below_drawn d3).mono hB2.size)
  rw [hW3]
  clear hW3 a4 b4 HW0
  go_wp2_with fail
  go_loopw [5] (fun iv wr => ∃ k : Nat, k ≤ zn ∧ iv = .int .i64 k ∧ Below W0.heap.size W0 wr) (fun iv _ => zn - (intOf iv).toNat)
  case atStart => exact ⟨0, Nat.zero_le _, rfl, hB3⟩
  case round =>
    obtain ⟨k, hk, rfl, hB⟩ := hrel
    clear hB2 hB3
    have B1 := A1.below hB
    have B2 := A2.below hB
    have a0 := B1.c0
    have b0 := B2.c0
    by_cases hlt : k < zn
    · obtain ⟨g, off, z, fo, fn, fc, to_, tn, tc, ha, c0, c1, c2, c3, hat, hz⟩ := (xz.below hB).at k hlt
      obtain ⟨g', off', z', fo', fn', fc', to', tn', tc', ha', d0, d1, d2, d3, hat', hz'⟩ := (yz.below hB).at k hlt
      subst ha ha'
      have hzz : z = z' := by
        have := map_getDH hE0.out k .zero
        rw [hz.out, hz'.out] at this
        exact this
      subst hzz
      obtain rfl : fn = fn' := hat.free.len.symm.trans hat'.free.len
      obtain rfl : tn = tn' := hat.types.len.symm.trans hat'.types.len
      go_wp2_with fail
      have SB : Below wr.heap.size wr { wr with drawn := wr.drawn + 1 } := (Below.refl wr.heap.size wr).drew
      have m0 : ∀ wx, Below wr.heap.size wr wx → wx.cell? ⟨w.heap.size, 0, none⟩ = some (.slice (some ⟨g, off, none⟩) zn zc) := fun wx h => keep a0 h
      have m1 : ∀ wx, Below wr.heap.size wr wx → wx.cell? ⟨w.heap.size + 1, 0, none⟩ = some (.slice (some ⟨g', off', none⟩) zn zc') := fun wx h => keep b0 h
      have n0 : ∀ wx, Below wr.heap.size wr wx → wx.cell? ⟨g, off + k * 4, none⟩ = some (.int .i64 z.f) := fun wx h => keep c0 h
      have n1 : ∀ wx, Below wr.heap.size wr wx → wx.cell? ⟨g, off + k * 4 + 1, none⟩ = some (.int .i64 z.t) := fun wx h => keep c1 h
      have n2 : ∀ wx, Below wr.heap.size wr wx → wx.cell? ⟨g, off + k * 4 + 2, none⟩ = some (.slice fo fn fc) := fun wx h => keep c2 h
      have n3 : ∀ wx, Below wr.heap.size wr wx → wx.cell? ⟨g, off + k * 4 + 3, none⟩ = some (.slice to_ tn tc) := fun wx h => keep c3 h
      have o0 : ∀ wx, Below wr.heap.size wr wx → wx.cell? ⟨g', off' + k * 4, none⟩ = some (.int .i64 z.f) := fun wx h => keep d0 h
      have o1 : ∀ wx, Below wr.heap.size wr wx → wx.cell? ⟨g', off' + k * 4 + 1, none⟩ = some (.int .i64 z.t) := fun wx h => keep d1 h
      have o2 : ∀ wx, Below wr.heap.size wr wx → wx.cell? ⟨g', off' + k * 4 + 2, none⟩ = some (.slice fo' fn fc') := fun wx h => keep d2 h
      have o3 : ∀ wx, Below wr.heap.size wr wx → wx.cell? ⟨g', off' + k * 4 + 3, none⟩ = some (.slice to' tn tc') := fun wx h => keep d3 h
      refine wp_region_peel (S := fun wx => Below wr.heap.size wr wx) 11 _ (by kernel_rfl) (by kernel_rfl) rfl ?_
      simp only [List.take_succ_cons, List.take_zero]
      refine takeH 0 (v := .pointer (some ⟨w.heap.size, 0, none⟩)) rfl (by kernel_rfl) (by kernel_rfl) (by kernel_rfl) (fun _ _ _ h => h) rfl (fun wx hSx => ?_) SB ?_
      · go_simp
      try simp only [Act.put, List.setIfInBounds_toArray, List.set_cons_zero, List.set_cons_succ]
      refine takeH 1 (v := .slice (some ⟨g, off, none⟩) zn zc) rfl (by kernel_rfl) (by kernel_rfl) (by kernel_rfl) (fun _ _ _ h => h) rfl (fun wx hSx => ?_) SB ?_
      · go_simp
      try simp only [Act.put, List.setIfInBounds_toArray, List.set_cons_zero, List.set_cons_succ]
      refine takeH 2 (v := .int .i64 (k : Int)) rfl (by kernel_rfl) (by kernel_rfl) (by kernel_rfl) (fun _ _ _ h => h) rfl (fun wx hSx => ?_) SB ?_
      · go_simp
      try simp only [Act.put, List.setIfInBounds_toArray, List.set_cons_zero, List.set_cons_succ]
      refine takeH 3 (v := .pointer (some ⟨g, off + k * 4, none⟩)) rfl (by kernel_rfl) (by kernel_rfl) (by kernel_rfl) (fun _ _ _ h => h) rfl (fun wx hSx => ?_) SB ?_
      · go_simp
      try simp only [Act.put, List.setIfInBounds_toArray, List.set_cons_zero, List.set_cons_succ]
      refine takeH 4 (v := .agg #[.int .i64 z.f, .int .i64 z.t, .slice fo fn fc, .slice to_ tn tc]) rfl (by kernel_rfl) (by kernel_rfl) (by kernel_rfl) (fun _ _ _ h => h) rfl (fun wx hSx => ?_) SB ?_
      · go_simp
      try simp only [Act.put, List.setIfInBounds_toArray, List.set_cons_zero, List.set_cons_succ]
      refine takeH 5 (v := .pointer (some ⟨w.heap.size + 1, 0, none⟩)) rfl (by kernel_rfl) (by kernel_rfl) (by kernel_rfl) (fun _ _ _ h => h) rfl (fun wx hSx => ?_) SB ?_
      · go_simp
      try simp only [Act.put, List.setIfInBounds_toArray, List.set_cons_zero, List.set_cons_succ]
      refine takeH 6 (v := .slice (some ⟨g', off', none⟩) zn zc') rfl (by kernel_rfl) (by kernel_rfl) (by kernel_rfl) (fun _ _ _ h => h) rfl (fun wx hSx => ?_) SB ?_
      · go_simp
      try simp only [Act.put, List.setIfInBounds_toArray, List.set_cons_zero, List.set_cons_succ]
      refine takeH 7 (v := .int .i64 (k : Int)) rfl (by kernel_rfl) (by kernel_rfl) (by kernel_rfl) (fun _ _ _ h => h) rfl (fun wx hSx => ?_) SB ?_
      · go_simp
      try simp only [Act.put, List.setIfInBounds_toArray, List.set_cons_zero, List.set_cons_succ]
      refine takeH 8 (v := .pointer (some ⟨g', off' + k * 4, none⟩)) rfl (by kernel_rfl) (by kernel_rfl) (by kernel_rfl) (fun _ _ _ h => h) rfl (fun wx hSx => ?_) SB ?_
      · go_simp
      try simp only [Act.put, List.setIfInBounds_toArray, List.set_cons_zero, List.set_cons_succ]
      refine takeH 9 (v := .agg #[.int .i64 z.f, .int .i64 z.t, .slice fo' fn fc', .slice to' tn tc']) rfl (by kernel_rfl) (by kernel_rfl) (by kernel_rfl) (fun _ _ _ h => h) rfl (fun wx hSx => ?_) SB ?_
      · go_simp
      try simp only [Act.put, List.setIfInBounds_toArray, List.set_cons_zero, List.set_cons_succ]
      refine oneH 10 (by kernel_rfl) rfl rfl (fun K1 hK1 => ?_)
      go_simp
      refine (sameZone_eq _ z.f z.t fo fo' to_ to' fn fc fc' tn tc tc' z (hat.below SB) (hat'.below SB)).mono ?_
      rintro e wA ⟨rfl, hbA⟩
      have SA : Below wr.heap.size wr wA := SB.trans (hbA.mono SB.size)
      refine hK1 _ _ SA ?_
      try simp only [Act.put, List.setIfInBounds_toArray, List.set_cons_zero, List.set_cons_succ]
      refine wpAnyH_done (by kernel_rfl) ?_ _
      show Oper.wp _ _ _ _ _ _
      have hBA : Below W0.heap.size W0 wA := hB.trans (SA.mono hB.size)
      clear m0 m1 n0 n1 n2 n3 o0 o1 o2 o3 hat hat' c0 c1 c2 c3 d0 d1 d2 d3 hz hz' SA SB hbA a0 b0 B1 B2 hK1
      go_wp2_with fail
      go_roundw
      case rel => exact ⟨k + 1, by omega, by go_num, hBA⟩
      case measure => simp [intOf]; omega
    · go_wp2_with fail
      clear hlt hk
      go_loopw [6] (fun iv wr => ∃ k : Nat, k ≤ ln ∧ iv = .int .i64 k ∧ Below W0.heap.size W0 wr) (fun iv _ => ln - (intOf iv).toNat)
      case atStart => exact ⟨0, Nat.zero_le _, rfl, hB⟩
      case round =>
        clear a0 b0 B1 B2 hB
        obtain ⟨k, hk, rfl, hB⟩ := hrel
        have B1 := A1.below hB
        have B2 := A2.below hB
        have a3 := B1.c3
        have b3 := B2.c3
        by_cases hlt : k < ln
        · obtain ⟨g, off, c, z, t, pages, po, pn, pc, ha, c0, c1, c2, c3, hat, hz⟩ := (xl.below hB).at k hlt
          obtain ⟨g', off', c', z', t', pages', po', pn', pc', ha', d0, d1, d2, d3, hat', hz'⟩ := (yl.below hB).at k hlt
          subst ha ha'
          have hzz : (⟨c, z, t, pages⟩ : Ls) = ⟨c', z', t', pages'⟩ := by
            have := map_getDH hE3.out k .zero
            rw [hz.out, hz'.out] at this
            exact this
          cases hzz
          obtain rfl : pn = pn' := hat.len.symm.trans hat'.len
          have qc : (c == c) = true := by simp
          have qq : (z == z) = true := by simp
          have qt : (t == t) = true := by simp
          have hb1 := below_box wr (.cells #[.int .i64 c, .int .i64 z, .int .i64 t, .slice po pn pc] 57)
          have X1 := zbox_new wr (.int .i64 c) (.int .i64 z) (.int .i64 t) (.slice po pn pc) 57
          have hb2 := below_box (wr.alloc (.cells #[.int .i64 c, .int .i64 z, .int .i64 t, .slice po pn pc] 57)) (.cells #[.int .i64 c, .int .i64 z, .int .i64 t, .slice po' pn pc'] 57)
          have X2 := zbox_new (wr.alloc (.cells #[.int .i64 c, .int .i64 z, .int .i64 t, .slice po pn pc] 57)) (.int .i64 c) (.int .i64 z) (.int .i64 t) (.slice po' pn pc') 57
          have hbb := hb1.trans (hb2.mono hb1.size)
          replace X1 := X1.below hb2
          replace b3 := keep b3 hb1
          replace d0 := keep d0 hb1
          replace d1 := keep d1 hb1
          replace d2 := keep d2 hb1
          replace d3 := keep d3 hb1
          have x0 := X1.c0
          have x1 := X1.c1
          have x2 := X1.c2
          have x3 := X1.c3
          have u0 := X2.c0
          have u1 := X2.c1
          have u2 := X2.c2
          have u3 := X2.c3
          have HS := same_eq ((wr.alloc (.cells #[.int .i64 c, .int .i64 z, .int .i64 t, .slice po pn pc] 57)).alloc (.cells #[.int .i64 c, .int .i64 z, .int .i64 t, .slice po' pn pc'] 57)) po po' pn pc pc' pages hat.len hat.reach (hat.below hbb).at_ (hat'.below hbb).at_
          clear hat hat' hz hz' B1 B2 hb1 hb2
          go_wp2_with fail
          go_at_call 28
          refine HS.mono ?_
          rintro e w5 ⟨rfl, d5, rfl⟩
          have hB5 := hB.trans ((hbb.trans ((below_drawn d5).mono hbb.size)).mono hB.size)
          clear HS x0 x1 x2 x3 u0 u1 u2 u3 X1 X2 c0 c1 c2 c3 d0 d1 d2 d3 a3 b3 hbb
          go_wp2_with fail
          go_roundw
          case rel => exact ⟨k + 1, by omega, by go_num, hB5⟩
          case measure => simp [intOf]; omega
        · go_wp2
          go_ret
          exact ⟨rfl, hb0.trans (hB.mono hb0.size)⟩

end Go.Proofs.Ytbjlbmofdnkmiaa

/-
  OWN TEXT. The walk of the law PagesFrees: it returns true and writes nothing that was there (written by sxpf.py).
-/
namespace Go.Proofs.Ytbjlbmofdnkmiaa
open Go Go.RowKit Go.Proofs.Ytbjlbmofdnkmiaa.Kit

/-- No heap. -/
def Kit.Hx.none : Hx := ⟨[], .none, 0, 0, [], .none, 0, 0, 0, [], .none, 0, 0, [], .none, 0, 0⟩
theorem none_at (w : World) : Hx.none.At w := ⟨Zons.nil _, Nums.nil _, Lsts.nil _, Blks.nil _⟩
theorem none_of {f : FuncId} {args : Array Value} {W : World} {c : Int} (h : Calls Try.prog f args W fun e w' => e = .returned (.tuple #[.agg #[.slice none 0 0, .slice none 0 0, .int .i64 0, .slice none 0 0, .slice none 0 0], .int .i64 c]) ∧ Below W.heap.size W w') :
    Calls Try.prog f args W fun e w' => (∃ z : Hx, e = .returned (.tuple #[.agg #[.slice z.zo z.zn z.zc, .slice z.mo z.mn z.mc, .int .i64 z.cpus, .slice z.lo z.ln z.lc, .slice z.vo z.vn z.vc], .int .i64 c]) ∧ z.hp = Hx.none.hp ∧ z.At w') ∧ Below W.heap.size W w' := by
  refine h.mono ?_
  rintro e w' ⟨rfl, hb⟩
  exact ⟨⟨Hx.none, rfl, rfl, none_at _⟩, hb⟩

set_option maxRecDepth 10000 in
set_option maxHeartbeats 4000000 in
theorem pagesFrees_walk (x : Hx) (cpu p : Int) (w : World) (h : IsHeap w x) (_wc : (Lit.int .i64 cpu).wf = true) (_wp : (Lit.int .i64 p).wf = true) :
    Calls Try.prog 6 #[.agg #[.slice x.zo x.zn x.zc, .slice x.mo x.mn x.mc, .int .i64 x.cpus, .slice x.lo x.ln x.lc, .slice x.vo x.vn x.vc], .int .i64 cpu, .int .i64 p] w fun e w' => e = .returned (.bool true) ∧ Below w.heap.size w w' := by
  have hx := h.at_
  obtain ⟨cc, H, HD, HR⟩ : ∃ (cc : Int) (H : Hp), (∀ W (y : Hx), y.At W → y.hp = x.hp → Calls Try.prog 15 #[.agg #[.slice y.zo y.zn y.zc, .slice y.mo y.mn y.mc, .int .i64 y.cpus, .slice y.lo y.ln y.lc, .slice y.vo y.vn y.vc], .int .i64 cpu, .int .i64 p] W fun e w' => (∃ z : Hx, e = .returned (.tuple #[.agg #[.slice z.zo z.zn z.zc, .slice z.mo z.mn z.mc, .int .i64 z.cpus, .slice z.lo z.ln z.lc, .slice z.vo z.vn z.vc], .int .i64 cc]) ∧ z.hp = H ∧ z.At w') ∧ Below W.heap.size W w') ∧ (∀ W, x.At W → Calls Try.prog 16 #[.agg #[.slice x.zo x.zn x.zc, .slice x.mo x.mn x.mc, .int .i64 x.cpus, .slice x.lo x.ln x.lc, .slice x.vo x.vn x.vc], .int .i64 cpu, .int .i64 p] W fun e w' => (∃ z : Hx, e = .returned (.tuple #[.agg #[.slice z.zo z.zn z.zc, .slice z.mo z.mn z.mc, .int .i64 z.cpus, .slice z.lo z.ln z.lc, .slice z.vo z.vn z.vc], .int .i64 cc]) ∧ z.hp = H ∧ z.At w') ∧ Below W.heap.size W w') := by
    by_cases hM : HMay x.hp
    · by_cases hc : 0 ≤ cpu ∧ cpu ≤ x.hp.cpus - 1
      · by_cases hi : ∃ i, i < x.hp.live.length ∧ (x.hp.live.getD i .zero).a = p
        · obtain ⟨i, hi, hia⟩ := hi
          have hu := live_unique hM.lv hi hia
          refine ⟨0, releaseH { x.hp with live := x.hp.live.eraseIdx i } cpu (x.hp.live.getD i .zero), fun W y hy ey => ?_, fun W hW => ?_⟩
          · rw [← ey] at hM hc hi hia hu ⊢
            refine (pFree_ok W y cpu p i hy hM hc hi hia (fun k hk => hu k (by omega) (by omega))).mono fun e w1 h1 => ?_
            obtain ⟨⟨y2, rfl, h2, h3⟩, hb⟩ := h1
            exact ⟨⟨y2, rfl, h3, h2⟩, hb⟩
          · by_cases ho : (x.hp.live.getD i .zero).o = 0
            · refine (heapFree_okk W x cpu p i hW hM hc hi hia ho).mono fun e w1 h1 => ?_
              obtain ⟨⟨y2, rfl, h2, h3⟩, hb⟩ := h1
              exact ⟨⟨y2, rfl, h3, h2⟩, hb⟩
            · have ho2 := (hM.lv.ok i hi).o.1
              refine (heapFree_okb W x cpu p i hW hM hc hi hia (show 0 < (x.hp.live.getD i .zero).o by omega)).mono fun e w1 h1 => ?_
              obtain ⟨⟨y2, rfl, h2, h3⟩, hb⟩ := h1
              exact ⟨⟨y2, rfl, h3, h2⟩, hb⟩
        · have hno : ∀ k, k < x.hp.live.length → (x.hp.live.getD k .zero).a ≠ p := fun k hk e => hi ⟨k, hk, e⟩
          refine ⟨4, Hx.none.hp, ?_, ?_⟩
          · exact fun W y hy ey => none_of (pFree_no4 W y cpu p hy (by rw [ey]; exact hM) (by have g := hc; rw [← ey] at g; exact g) (by have g := hno; rw [← ey] at g; exact g))
          · exact fun W hW => none_of (heapFree_no4 W x cpu p hW hM hc hno)
      · refine ⟨1, Hx.none.hp, ?_, ?_⟩
        · exact fun W y hy ey => none_of (pFree_no1 W y cpu p hy (by rw [ey]; exact hM) (by have g := hc; rw [← ey] at g; exact g))
        · exact fun W hW => none_of (heapFree_no1 W x cpu p hW hM hc)
    · refine ⟨8, Hx.none.hp, ?_, ?_⟩
      · exact fun W y hy ey => none_of (pFree_no8 W y cpu p hy (by rw [ey]; exact hM))
      · exact fun W hW => none_of (heapFree_no8 W x cpu p hW hM)
  have B0 := Below.refl w.heap.size w
  refine sx_enter (args := [_, _, _]) 41 Try.func6 rfl rfl rfl ?_
  intro A f
  refine wp_seq ?_
  refine sx_list ?_
  refine l_box f rfl rfl rfl rfl rfl ?_; clear f A; intro b1 W2 eb1 hb3 rb1 A f; dsimp only [Value.cells] at rb1
  have z_B0_b1 := B0.size; rw [eb1] at z_B0_b1
  replace B0 := Below.next B0 hb3
  refine l_do f rfl rfl rfl (y_assign rfl rfl) ?_; clear f A; intro A f
  refine wpList_nil ?_
  refine x_tn ?_
  refine wp_seq ?_
  refine sx_list ?_
  refine l_do f rfl rfl rfl (y_loadN (vs := [_, _, _, _, _]) rfl rfl (ag rfl) rfl (rowls (rowq rb1) _ _ ⟨rfl, rfl, rfl, rfl, rfl, trivial⟩)) ?_; clear f A; intro A f
  refine l_call f rfl rfl rfl (IsCall.mk' (cap := []) rfl rfl rfl) (pl rfl) (heapCopy_own _ x (hx.below B0)) ?_
  clear f A
  rintro _ W4 ⟨⟨k, rfl, ek, hk, -⟩, hb5⟩
  refine ⟨_, rfl, ?_⟩
  intro A f
  replace B0 := Below.next B0 hb5; replace rb1 := row_next rb1 hb5
  replace hk := hk.at_
  refine l_as (z := .agg #[.slice none 0 0, .slice none 0 0, .int .i64 0, .slice none 0 0, .slice none 0 0]) f rfl rfl rfl rfl (by kernel_rfl) rfl rfl (fun _ => rfl) (fun _ => rfl) rfl (by intro u hu; simp [Value.cells] at hu; rcases hu with rfl | rfl | rfl | rfl | rfl <;> rfl) ?_; clear f A; intro b6 W7 eb6 hb8 rb6 A f
  dsimp only [Value.cells] at rb6
  have hpb6 := hb8
  have o_b1_b6 : b1 < b6 := by have := row_lt rb1; omega
  have z_B0_b6 := B0.size; rw [eb6] at z_B0_b6
  replace B0 := Below.next B0 hb8; replace hk := hk.below hb8; replace rb1 := row_next rb1 hb8
  refine wpList_nil ?_
  refine x_tn ?_
  refine wp_seq ?_
  refine sx_list ?_
  refine l_do f rfl rfl rfl (y_loadN (vs := [_, _, _, _, _]) rfl rfl (ag rfl) rfl (rowls (rowq rb6) _ _ ⟨rfl, rfl, rfl, rfl, rfl, trivial⟩)) ?_; clear f A; intro A f
  refine l_do f rfl rfl rfl (y_move rfl rfl) ?_; clear f A; intro A f
  refine l_do f rfl rfl rfl (y_move rfl rfl) ?_; clear f A; intro A f
  refine l_call f rfl rfl rfl (IsCall.mk' (cap := []) rfl rfl rfl) (pl rfl) (HD _ k hk ek) ?_
  clear f A
  rintro _ W9 ⟨⟨y, rfl, ey, hy⟩, hb10⟩
  refine ⟨_, rfl, ?_⟩
  intro A f
  replace B0 := Below.next B0 hb10; replace hk := hk.below hb10; replace rb1 := row_next rb1 hb10; replace rb6 := row_next rb6 hb10
  refine l_do f rfl rfl rfl (y_move rfl rfl) ?_; clear f A; intro A f
  refine l_do f rfl rfl rfl (y_ext rfl rfl rfl) ?_; clear f A; intro A f
  refine l_do f rfl rfl rfl (y_ext rfl rfl rfl) ?_; clear f A; intro A f
  refine l_as (z := .agg #[.slice none 0 0, .slice none 0 0, .int .i64 0, .slice none 0 0, .slice none 0 0]) f rfl rfl rfl rfl (by kernel_rfl) rfl rfl (fun _ => rfl) (fun _ => rfl) rfl (by intro u hu; simp [Value.cells] at hu; rcases hu with rfl | rfl | rfl | rfl | rfl <;> rfl) ?_; clear f A; intro b11 W12 eb11 hb13 rb11 A f
  dsimp only [Value.cells] at rb11
  have hpb11 := hb13
  have o_b1_b11 : b1 < b11 := by have := row_lt rb1; omega
  have o_b6_b11 : b6 < b11 := by have := row_lt rb6; omega
  have z_B0_b11 := B0.size; rw [eb11] at z_B0_b11
  replace B0 := Below.next B0 hb13; replace hk := hk.below hb13; replace hy := hy.below hb13; replace rb1 := row_next rb1 hb13; replace rb6 := row_next rb6 hb13
  refine l_do f rfl rfl rfl (y_assign rfl rfl) ?_; clear f A; intro A f
  refine wpList_nil ?_
  refine x_tn ?_
  refine wp_seq ?_
  refine sx_list ?_
  refine l_do f rfl rfl rfl (y_loadN (vs := [_, _, _, _, _]) rfl rfl (ag rfl) rfl (rowls (rowq rb1) _ _ ⟨rfl, rfl, rfl, rfl, rfl, trivial⟩)) ?_; clear f A; intro A f
  refine l_do f rfl rfl rfl (y_move rfl rfl) ?_; clear f A; intro A f
  refine l_do f rfl rfl rfl (y_move rfl rfl) ?_; clear f A; intro A f
  refine l_call f rfl rfl rfl (IsCall.mk' (cap := []) rfl rfl rfl) (pl rfl) (HR _ (hx.below B0)) ?_
  clear f A
  rintro _ W14 ⟨⟨z, rfl, ez, hz⟩, hb15⟩
  refine ⟨_, rfl, ?_⟩
  intro A f
  replace B0 := Below.next B0 hb15; replace hk := hk.below hb15; replace hy := hy.below hb15; replace rb1 := row_next rb1 hb15; replace rb6 := row_next rb6 hb15; replace rb11 := row_next rb11 hb15
  refine l_do f rfl rfl rfl (y_move rfl rfl) ?_; clear f A; intro A f
  refine l_do f rfl rfl rfl (y_ext rfl rfl rfl) ?_; clear f A; intro A f
  refine l_do f rfl rfl rfl (y_ext rfl rfl rfl) ?_; clear f A; intro A f
  refine l_as (z := .agg #[.slice none 0 0, .slice none 0 0, .int .i64 0, .slice none 0 0, .slice none 0 0]) f rfl rfl rfl rfl (by kernel_rfl) rfl rfl (fun _ => rfl) (fun _ => rfl) rfl (by intro u hu; simp [Value.cells] at hu; rcases hu with rfl | rfl | rfl | rfl | rfl <;> rfl) ?_; clear f A; intro b16 W17 eb16 hb18 rb16 A f
  dsimp only [Value.cells] at rb16
  have hpb16 := hb18
  have o_b1_b16 : b1 < b16 := by have := row_lt rb1; omega
  have o_b6_b16 : b6 < b16 := by have := row_lt rb6; omega
  have o_b11_b16 : b11 < b16 := by have := row_lt rb11; omega
  have z_B0_b16 := B0.size; rw [eb16] at z_B0_b16
  replace B0 := Below.next B0 hb18; replace hk := hk.below hb18; replace hy := hy.below hb18; replace hz := hz.below hb18; replace rb1 := row_next rb1 hb18; replace rb6 := row_next rb6 hb18; replace rb11 := row_next rb11 hb18
  refine l_do f rfl rfl rfl (y_assign rfl rfl) ?_; clear f A; intro A f
  refine wpList_nil ?_
  refine x_tn ?_
  refine wp_seq ?_
  refine sx_list ?_
  refine l_do f rfl rfl rfl (y_move rfl rfl) ?_; clear f A; intro A f
  refine l_do f rfl rfl rfl (y_move rfl rfl) ?_; clear f A; intro A f
  refine l_if _ f rfl rfl rfl (y_eql rfl rfl rfl) ?_ ?_
  · clear f A; intro c19 A f
    refine l_do f rfl rfl rfl (y_move rfl rfl) ?_; clear f A; intro A f
    refine l_do f rfl rfl rfl (y_loadN (vs := [_, _, _, _, _]) rfl rfl (ag rfl) rfl (rowls (rowq rb11) _ _ ⟨rfl, rfl, rfl, rfl, rfl, trivial⟩)) ?_; clear f A; intro A f
    refine l_do f rfl rfl rfl (y_loadN (vs := [_, _, _, _, _]) rfl rfl (ag rfl) rfl (rowls (rowq rb16) _ _ ⟨rfl, rfl, rfl, rfl, rfl, trivial⟩)) ?_; clear f A; intro A f
    refine l_call f rfl rfl rfl (IsCall.mk' (cap := []) rfl rfl rfl) (pl rfl) (sameHeap_eq _ y z hy hz (ey.trans ez.symm)) ?_; clear f A; rintro _ W20 ⟨rfl, hb21⟩; refine ⟨_, rfl, ?_⟩; intro A f; replace B0 := Below.next B0 hb21; replace hk := hk.below hb21; replace hy := hy.below hb21; replace hz := hz.below hb21; replace rb1 := row_next rb1 hb21; replace rb6 := row_next rb6 hb21; replace rb11 := row_next rb11 hb21; replace rb16 := row_next rb16 hb21
    refine l_do f rfl rfl rfl (y_pick rfl rfl rfl) ?_; clear f A; intro A f
    refine l_do f rfl rfl rfl (y_move rfl rfl) ?_; clear f A; intro A f
    refine l_do f rfl rfl rfl (y_loadN (vs := [_, _, _, _, _]) rfl rfl (ag rfl) rfl (rowls (rowq rb6) _ _ ⟨rfl, rfl, rfl, rfl, rfl, trivial⟩)) ?_; clear f A; intro A f
    refine l_do f rfl rfl rfl (y_loadN (vs := [_, _, _, _, _]) rfl rfl (ag rfl) rfl (rowls (rowq rb1) _ _ ⟨rfl, rfl, rfl, rfl, rfl, trivial⟩)) ?_; clear f A; intro A f
    refine l_call f rfl rfl rfl (IsCall.mk' (cap := []) rfl rfl rfl) (pl rfl) (sameHeap_eq _ k x hk (hx.below B0) (ek)) ?_; clear f A; rintro _ W22 ⟨rfl, hb23⟩; refine ⟨_, rfl, ?_⟩; intro A f; replace B0 := Below.next B0 hb23; replace hk := hk.below hb23; replace hy := hy.below hb23; replace hz := hz.below hb23; replace rb1 := row_next rb1 hb23; replace rb6 := row_next rb6 hb23; replace rb11 := row_next rb11 hb23; replace rb16 := row_next rb16 hb23
    refine l_do f rfl rfl rfl (y_pick rfl rfl rfl) ?_; clear f A; intro A f
    refine l_do f rfl rfl rfl (y_assign rfl rfl) ?_; clear f A; intro A f
    refine wpList_nil ?_
    refine x_tn ?_
    refine wp_ret ?_
    refine x_ret1 f rfl rfl ?_
    -- return 0: c19@30
    exact ⟨rfl, B0⟩
  · intro c19; exfalso; omega


end Go.Proofs.Ytbjlbmofdnkmiaa
