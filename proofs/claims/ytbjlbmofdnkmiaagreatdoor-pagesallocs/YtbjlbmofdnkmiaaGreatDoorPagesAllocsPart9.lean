/-
  OWN TEXTS.
-/
import Derived.Test.YtbjlbmofdnkmiaaGreatDoorPagesAllocsPart8
set_option maxRecDepth 10000
set_option maxHeartbeats 4000000
namespace Go.Proofs.YtbjlbmofdnkmiaaGreatDoor
open Go Go.RowKit Go.Proofs.YtbjlbmofdnkmiaaGreatDoor.Kit
set_option maxHeartbeats 8000000 in
theorem zTake_plain (w : World) (fo : Option Addr) (N fc : Nat) (to_ : Option Addr) (tn tc : Nat) (z : Zn) (o t ba bo bt : Int) (i : Nat) (h : ZnAt w fo (N + 1) to_ tn z) (hM : ZMay z) (hT : TabAt w) (ho : ordOk o) (ht : typeOk t) (hC : chooseI z.free o t = i) (hiN : i ≤ N) (hb : z.free.getD i .zero = ⟨ba, bo, bt⟩) (hob : o ≤ bo) (hst : (bt == t) = true ∨ bo < 2) :
    Calls Tryz.prog 63 #[.agg #[.int .i64 z.f, .int .i64 z.t, .slice fo (N + 1) fc, .slice to_ tn tc], .int .i64 o, .int .i64 t] w fun e w' => RetZone3 w.heap.size w' ⟨z.f, z.t, repB z.free i (halvesL ba bt o (bo - o).toNat), z.types⟩ ba e ∧ Below w.heap.size w w' := by
 have I0 := cbI_first w fo (N + 1) fc to_ tn tc z h
 have c0 := I0.box.c0
 have c1 := I0.box.c1
 have c2 := I0.box.c2
 have c3 := I0.box.c3
 have hlen : z.free.length = N + 1 := h.free.len
 have hbl := may_len hM
 have htr := h.types.reach
 have hN3 : N ≤ 300 := by omega
 obtain ⟨n1, n2, n3, n4, n5⟩ := hM.new
 obtain ⟨⟨o0, o4⟩, a1, a2, a3⟩ := (freeOk_at hM.free (k := i) (by omega) hb).1
 dsimp only at o0 o4 a1 a2 a3
 have htl : tn ≤ 300 := by have h1 := hM.len; have h2 : z.types.length = tn := h.types.len; omega
 have HAll : Hid (∀ b ∈ z.free, z.f ≤ b.a ∧ b.a ≤ 256) := fun b hb => by obtain ⟨_, q1, q2, _⟩ := may_blk hM b hb; omega
 have HEnd : Hid (ba + pw bo ≤ 256) := by
  show _ ≤ _
  have hp := blk_end (o := bo) ⟨o0, o4⟩ a2 a3 n5
  omega
 have HB : Hid _ := hb
 have HC : Hid _ := hC
 have HL : Hid _ := hlen
 have HO : Hid (inB o 0 4 = true) := inB_t ho
 have HT : Hid (inB t 0 2 = true) := inB_t ht
 have k1 : ¬ ((i : Int) < 0) := by omega
 have k2 : (i : Int) < (N : Int) + 1 := by omega
 have k3 : IntKind.i64.wrap ((i : Int) + 1) = (i : Int) + 1 := IntWalk.i64_in _ (by omega)
 clear h hb hC hlen
 go_enter Tryz.func63, Tryz.ntmps63
 go_wp2_with fail
 go_at_call 54
 refine (zCheck_ok _ fo (N + 1) fc to_ tn tc z I0.zn hM).mono ?_
 rintro e w1 ⟨rfl, hb⟩
 have I1 := I0.step hb
 clear I0 hb c0 c1 c2 c3
 have c0 := I1.box.c0
 have c1 := I1.box.c1
 have c2 := I1.box.c2
 have c3 := I1.box.c3
 go_wp2_with fail
 go_at_call 86
 refine (isOrder_any _ o).mono ?_
 rintro e wq ⟨rfl, rfl⟩
 rw [HO.out]
 go_wp2_with fail
 go_at_call 87
 refine (isType_any _ t).mono ?_
 rintro e wq ⟨rfl, rfl⟩
 rw [HT.out]
 go_wp2_with fail
 go_at_call 88
 refine (choose_any _ fo (N + 1) fc z.free o t I1.zn.free (hT.below I1.b) ho ht).mono ?_
 rintro e w2 ⟨rfl, hb2⟩
 rw [HC.out]
 have I2 := I1.step hb2
 clear I1 hb2 c0 c1 c2 c3
 have c0 := I2.box.c0
 have c1 := I2.box.c1
 have c2 := I2.box.c2
 have c3 := I2.box.c3
 go_wp2_with fail
 go_at_call 35
 refine (zCopy_own _ fo (N + 1) fc to_ tn tc z I2.zn).mono ?_
 rintro e w3 ⟨g, k, rfl, o1, o2, hgk, hb3⟩
 have I3 := I2.step hb3
 have hf1 := owns_fresh o1 _ rfl
 have hf2 := owns_fresh o2 _ rfl
 have Z4 := zo_new o1 o2 hgk
 have hbx := below_box w3 (.cells #[.int .i64 z.f, .int .i64 z.t, .slice (some ⟨g, 0, none⟩) (N + 1) (N + 1), .slice (some ⟨k, 0, none⟩) tn tn] 37)
 have I4 := I3.step hbx
 have hs2 := I2.size
 have hs3 := I3.size
 obtain ⟨W4, hW4⟩ : ∃ W4, w3.alloc (.cells #[.int .i64 z.f, .int .i64 z.t, .slice (some ⟨g, 0, none⟩) (N + 1) (N + 1), .slice (some ⟨k, 0, none⟩) tn tn] 37) = W4 := ⟨_, rfl⟩
 rw [hW4] at I4 Z4
 have HW4 : Hid _ := hW4
 dsimp only at hf1 hf2
 have hgl := Z4.glt
 have hkl := Z4.klt
 have hzl := Z4.box.lt
 obtain ⟨d0, d1, d2⟩ := own_at Z4.own (i := i) (by omega) HB.out
 have y2 := Z4.box.c2
 have hb5 := below_box W4 (.cells #[.int .i64 ba, .int .i64 bo, .int .i64 bt] 53)
 have I5 := I4.step hb5
 have Z5 := Z4.below hb5
 have T5 := tbox_new' W4 ⟨ba, bo, bt⟩ 53
 have hs5 : W4.heap.size < (W4.alloc (.cells #[.int .i64 ba, .int .i64 bo, .int .i64 bt] 53)).heap.size := by simp
 obtain ⟨W5, hW5⟩ : ∃ W5, W4.alloc (.cells #[.int .i64 ba, .int .i64 bo, .int .i64 bt] 53) = W5 := ⟨_, rfl⟩
 dsimp only at T5
 rw [hW5] at I5 Z5 T5 hs5
 have HW5 : Hid _ := hW5
 obtain ⟨e0, e1, e2⟩ := T5
 have y5 := Z5.box.c2
 obtain ⟨f0, f1, f2⟩ := own_at Z5.own (i := i) (by omega) HB.out
 clear I2 I3 hb3 c0 c1 c2 c3 o1 o2 hbx hW4 hW5 hb5
 have hst' : (bt == t) = true ∨ ((bt == t) = false ∧ ¬ (2 ≤ bo)) := by
  cases s1 : (bt == t) with
  | true => exact .inl rfl
  | false => rw [s1] at hst; exact .inr ⟨rfl, by rcases hst with q | q; cases q; omega⟩
 clear hst
 have R5 := I5.res
 have B5 := I5.b
 have hf3 : w.heap.size + 2 ≤ W5.heap.size := I5.size
 rcases hst' with s1 | ⟨s1, s2⟩
 ·have s3 : (bt != t) = false := by simpa using s1
  clear I5
  go_wp2_with (first | rw [HW4.out] | rw [HW5.out])
  clear s1 s3 I4 Z4 HW4 HW5 d0 d1 d2 e0 e1 e2 y2
  have hb7 := below_box W5 (.cells #[.int .i64 ba, .int .i64 bo, .int .i64 bt] 53)
  have Z7 := Z5.below hb7
  have R7 := R5.below hb7
  have B7 := B5.trans (hb7.mono B5.size)
  have T7 := tbox_new' W5 ⟨ba, bo, bt⟩ 53
  have hs7 : W5.heap.size < (W5.alloc (.cells #[.int .i64 ba, .int .i64 bo, .int .i64 bt] 53)).heap.size := by simp
  have gz7 := Z5.gz
  have kz7 := Z5.kz
  have gk7 := Z5.gk
  have hz7 := Z5.box.lt
  have hg7 := Z5.glt
  have hk7 := Z5.klt
  dsimp only at T7
  obtain ⟨W7, hW7⟩ : ∃ W7, W5.alloc (.cells #[.int .i64 ba, .int .i64 bo, .int .i64 bt] 53) = W7 := ⟨_, rfl⟩
  rw [hW7] at Z7 R7 B7 T7 hs7 ⊢
  obtain ⟨g0, g1, g2⟩ := T7
  have S0 : TkF w3.heap.size W5.heap.size g (N + 1) (N + 1) ba bo bt W7 := ⟨Z7.box.c2, g0, g1, g2⟩
  have S1 := S0.below (Below.refl W7.heap.size W7).drew
  have hBd := (Below.refl W7.heap.size W7).drew
  have m1 : ∀ wx, TkF w3.heap.size W5.heap.size g (N + 1) (N + 1) ba bo bt wx → wx.cell? ⟨w3.heap.size, 2, none⟩ = some (.slice (some ⟨g, 0, none⟩) (N + 1) (N + 1)) := fun wx h => h.c
  have m2 : ∀ wx, TkF w3.heap.size W5.heap.size g (N + 1) (N + 1) ba bo bt wx → wx.cell? ⟨W5.heap.size, 0, none⟩ = some (.int .i64 ba) := fun wx h => h.e0
  have m3 : ∀ wx, TkF w3.heap.size W5.heap.size g (N + 1) (N + 1) ba bo bt wx → wx.cell? ⟨W5.heap.size, 1, none⟩ = some (.int .i64 bo) := fun wx h => h.e1
  have m4 : ∀ wx, TkF w3.heap.size W5.heap.size g (N + 1) (N + 1) ba bo bt wx → wx.cell? ⟨W5.heap.size, 2, none⟩ = some (.int .i64 bt) := fun wx h => h.e2
  have HH : Hid (∀ V, Below W7.heap.size W7 V → Calls Tryz.prog 91 #[.agg #[.int .i64 ba, .int .i64 bo, .int .i64 bt], .int .i64 o] V fun e w' => ∃ v, e = .returned v ∧ w'.ownsRow W7.heap.size 53 3 v (bo - o).toNat (bvals (halvesL ba bt o (bo - o).toNat)) ∧ Below W7.heap.size W7 w') := fun V hV => by
   refine (halves_any V ba bo bt o ⟨o0, o4⟩ ho.1 hob (by omega) (by omega)).mono ?_
   rintro e w' ⟨v, rfl, ow, hb⟩
   exact ⟨v, rfl, owns_weaken ow hV.size, hV.trans (hb.mono hV.size)⟩
  have HR : Hid (∀ V vo vc, Below W7.heap.size W7 V → V.ownsRow W7.heap.size 53 3 (.slice vo (bo - o).toNat vc) (bo - o).toNat (bvals (halvesL ba bt o (bo - o).toNat)) → Calls Tryz.prog 90 #[.slice (some ⟨g, 0, none⟩) (N + 1) (N + 1), .int .i64 i, .int .i64 ((i : Int) + 1), .slice vo (bo - o).toNat vc] V fun e w' => RetRow V w' w2.heap.size g (N + (bo - o).toNat) (repB z.free i (halvesL ba bt o (bo - o).toNat)) e) := fun V vo vc hV ov =>
   bRep_any V w2.heap.size g N (N + 1) i (bo - o).toNat vc W7.heap.size vo z.free (halvesL ba bt o (bo - o).toNat) hiN hN3 (by have := ho.1; omega) (owns_below Z7.own hV (Nat.le_refl _)) ov (by omega)
  go_wp2_with fail
  refine wp_region_peel (S := fun wx => TkF w3.heap.size W5.heap.size g (N + 1) (N + 1) ba bo bt wx) 10 _ (by kernel_rfl) (by kernel_rfl) rfl ?_
  simp only [List.take_succ_cons, List.take_zero]
  refine tkH 0 (.pointer (some ⟨w3.heap.size, 2, none⟩)) S1 (h:=?_)
  refine tkH 1 (.slice (some ⟨g, 0, none⟩) (N + 1) (N + 1)) S1 (h:=?_)
  refine tkH 2 (.int .i64 (i : Int)) S1 (h:=?_)
  refine tkH 3 (.int .i64 (i : Int)) S1 (h:=?_)
  refine tkH 4 (.int .i64 ((i : Int) + 1)) S1 (h:=?_)
  refine tkH 5 (.agg #[.int .i64 ba, .int .i64 bo, .int .i64 bt]) S1 (h:=?_)
  refine tkH 6 (.int .i64 o) S1 (h:=?_)
  refine oneH 7 (by kernel_rfl) rfl rfl (fun K1 hK1 => ?_)
  go_simp
  refine (HH.out _ hBd).mono ?_
  rintro e w8 ⟨v, rfl, ow8, hb8⟩
  obtain ⟨vo, vc, rfl⟩ := owns_shape ow8
  have hS8 := S0.below hb8
  refine hK1 _ _ hS8 ?_
  try simp only [Act.put, List.setIfInBounds_toArray, List.set_cons_zero, List.set_cons_succ]
  refine oneH 8 (by kernel_rfl) rfl rfl (fun K2 hK2 => ?_)
  go_simp
  refine (HR.out _ vo vc hb8 ow8).mono ?_
  rintro e w9 ⟨g', cap', rfl, ow9, hb9, hg9⟩
  have hS9 := hS8.but hb9 (by omega) (by omega)
  have X9 := (Z7.box.below hb8).but hb9 (by omega)
  refine hK2 _ _ hS9 ?_
  try simp only [Act.put, List.setIfInBounds_toArray, List.set_cons_zero, List.set_cons_succ]
  refine tkH 9 (.pointer (some ⟨w3.heap.size, 2, none⟩)) hS9 (h:=?_)
  refine wpAnyH_done (by kernel_rfl) ?_ _
  show Oper.wp _ _ _ _ _ _
  have x2 := X9.c2
  have x2z := X9.z2
  have hg9' : g' = g ∨ W7.heap.size ≤ g' := by rcases hg9 with q | q; exact .inl q; exact .inr (Nat.le_trans hb8.size q)
  have hbt : But w3.heap.size w9 (w9.setCell ⟨w3.heap.size, 2, none⟩ (.slice (some ⟨g', 0, none⟩) (N + (bo - o).toNat) cap')) := (But.refl _ _).setCell _
  have X10 := X9.set2 (.slice (some ⟨g', 0, none⟩) (N + (bo - o).toNat) cap')
  have R10 := ((R7.below hb8).but hb9 (by omega)).but hbt (by omega)
  have q0 := hbt.cell hS9.e0 (by omega)
  have ow10 := own_but ow9 hbt (by omega)
  have ty10 := own_but (own_but (owns_below Z7.typ hb8 (Nat.le_refl _)) hb9 (Ne.symm gk7)) hbt (by omega)
  have B10 : Below w.heap.size w (w9.setCell ⟨w3.heap.size, 2, none⟩ (.slice (some ⟨g', 0, none⟩) (N + (bo - o).toNat) cap')) := B7.trans ((hb8.mono (B7.size)).trans ((hb9.below (by omega) (Nat.le_trans B7.size hb8.size)).trans (hbt.below (by omega) (Nat.le_trans B7.size (Nat.le_trans hb8.size hb9.size)))))
  have hs9 : W7.heap.size ≤ (w9.setCell ⟨w3.heap.size, 2, none⟩ (.slice (some ⟨g', 0, none⟩) (N + (bo - o).toNat) cap')).heap.size := Nat.le_trans hb8.size (Nat.le_trans hb9.size hbt.size)
  obtain ⟨w10, hw10⟩ : ∃ w10, w9.setCell ⟨w3.heap.size, 2, none⟩ (.slice (some ⟨g', 0, none⟩) (N + (bo - o).toNat) cap') = w10 := ⟨_, rfl⟩
  rw [hw10] at X10 R10 q0 ow10 ty10 B10 hs9
  have HW10 : Hid _ := hw10
  obtain ⟨p0, p1, p2, p3, _, _, _, _⟩ := id X10
  obtain ⟨⟨u0, d0⟩, ⟨u1, d1⟩, ⟨u2, d2⟩, ⟨u3, d3⟩, z0, z1, z2, z3⟩ := id R10
  clear hw10 hbt HH HR m1 m2 m3 m4 S0 S1 hS8 hS9 X9 R7 Z7 hb8 hb9 ow8 ow9 B7 hBd g0 g1 g2
  go_wp2_with (rw [HW10.out])
  have ne1 : ¬ (W5.heap.size = w.heap.size + 1) := by omega
  have ne2 : ¬ (w.heap.size + 1 = W5.heap.size) := by omega
  have RD := R10.below (Below.refl w10.heap.size w10).drew
  obtain ⟨k0, k1, k2, k3⟩ := res4 R10 (.int .i64 z.f) (.int .i64 z.t) (.slice (some ⟨g', 0, none⟩) (N + (bo - o).toNat) cap') (.slice (some ⟨k, 0, none⟩) tn tn)
  have hbt := but4 w10.drew (w.heap.size + 1) (.int .i64 z.f) (.int .i64 z.t) (.slice (some ⟨g', 0, none⟩) (N + (bo - o).toNat) cap') (.slice (some ⟨k, 0, none⟩) tn tn)
  have Bl : Below w10.heap.size w10 w10.drew := (Below.refl w10.heap.size w10).drew
  have BF := blks_own (owns_below ow10 Bl (Nat.le_refl _)) (by have := ho.1; omega)
  have NF := nums_of_owns (owns_below ty10 Bl (Nat.le_refl _)) htr
  have BB := (B10.trans (Bl.mono B10.size)).trans (hbt.below (B := w.heap.size) (by omega) (Nat.le_trans B10.size Bl.size))
  have FIN : RetZone3 w.heap.size ((((w10.drew.setCell ⟨w.heap.size + 1, 0, none⟩ (.int .i64 z.f)).setCell ⟨w.heap.size + 1, 1, none⟩ (.int .i64 z.t)).setCell ⟨w.heap.size + 1, 2, none⟩ (.slice (some ⟨g', 0, none⟩) (N + (bo - o).toNat) cap')).setCell ⟨w.heap.size + 1, 3, none⟩ (.slice (some ⟨k, 0, none⟩) tn tn)) ⟨z.f, z.t, repB z.free i (halvesL ba bt o (bo - o).toNat), z.types⟩ ba (.returned (.tuple #[.agg #[.int .i64 z.f, .int .i64 z.t, .slice (some ⟨g', 0, none⟩) (N + (bo - o).toNat) cap', .slice (some ⟨k, 0, none⟩) tn tn], .int .i64 ba, .int .i64 0])) := ⟨_, _, _, _, _, _, rfl, hbt.zn ⟨BF, NF⟩ (fun a ha => by cases ha; dsimp only; omega) (fun a ha => by cases ha; dsimp only; omega), fun a ha => by cases ha; dsimp only; omega, fun a ha => by cases ha; dsimp only; omega⟩
  have HFIN : Hid _ := FIN
  have HBB : Hid _ := BB
  clear FIN BB BF NF X10 ow10 ty10 B10 R10 RD hbt Bl
  go_region
  all_goals
   try go_wp2_with fail
   exact bodyPost_ret (v := .tuple #[.agg #[.int .i64 z.f, .int .i64 z.t, .slice (some ⟨g', 0, none⟩) (N + (bo - o).toNat) cap', .slice (some ⟨k, 0, none⟩) tn tn], .int .i64 ba, .int .i64 0]) (by simp [results, Tryz.results63, go_sem, k0, k1, k2, k3]) rfl ⟨HFIN.out, HBB.out⟩
 have s3 : (bt != t) = true := by simpa using s1
 clear I5
 go_wp2_with (first | rw [HW4.out] | rw [HW5.out])
 clear s1 s2 s3 I4 Z4 HW4 HW5 d0 d1 d2 e0 e1 e2 y2
 have hb7 := below_box W5 (.cells #[.int .i64 ba, .int .i64 bo, .int .i64 bt] 53)
 have Z7 := Z5.below hb7
 have R7 := R5.below hb7
 have B7 := B5.trans (hb7.mono B5.size)
 have T7 := tbox_new' W5 ⟨ba, bo, bt⟩ 53
 have hs7 : W5.heap.size < (W5.alloc (.cells #[.int .i64 ba, .int .i64 bo, .int .i64 bt] 53)).heap.size := by simp
 have gz7 := Z5.gz
 have kz7 := Z5.kz
 have gk7 := Z5.gk
 have hz7 := Z5.box.lt
 have hg7 := Z5.glt
 have hk7 := Z5.klt
 dsimp only at T7
 obtain ⟨W7, hW7⟩ : ∃ W7, W5.alloc (.cells #[.int .i64 ba, .int .i64 bo, .int .i64 bt] 53) = W7 := ⟨_, rfl⟩
 rw [hW7] at Z7 R7 B7 T7 hs7 ⊢
 obtain ⟨g0, g1, g2⟩ := T7
 have S0 : TkF w3.heap.size W5.heap.size g (N + 1) (N + 1) ba bo bt W7 := ⟨Z7.box.c2, g0, g1, g2⟩
 have S1 := S0.below (Below.refl W7.heap.size W7).drew
 have hBd := (Below.refl W7.heap.size W7).drew
 have m1 : ∀ wx, TkF w3.heap.size W5.heap.size g (N + 1) (N + 1) ba bo bt wx → wx.cell? ⟨w3.heap.size, 2, none⟩ = some (.slice (some ⟨g, 0, none⟩) (N + 1) (N + 1)) := fun wx h => h.c
 have m2 : ∀ wx, TkF w3.heap.size W5.heap.size g (N + 1) (N + 1) ba bo bt wx → wx.cell? ⟨W5.heap.size, 0, none⟩ = some (.int .i64 ba) := fun wx h => h.e0
 have m3 : ∀ wx, TkF w3.heap.size W5.heap.size g (N + 1) (N + 1) ba bo bt wx → wx.cell? ⟨W5.heap.size, 1, none⟩ = some (.int .i64 bo) := fun wx h => h.e1
 have m4 : ∀ wx, TkF w3.heap.size W5.heap.size g (N + 1) (N + 1) ba bo bt wx → wx.cell? ⟨W5.heap.size, 2, none⟩ = some (.int .i64 bt) := fun wx h => h.e2
 have HH : Hid (∀ V, Below W7.heap.size W7 V → Calls Tryz.prog 91 #[.agg #[.int .i64 ba, .int .i64 bo, .int .i64 bt], .int .i64 o] V fun e w' => ∃ v, e = .returned v ∧ w'.ownsRow W7.heap.size 53 3 v (bo - o).toNat (bvals (halvesL ba bt o (bo - o).toNat)) ∧ Below W7.heap.size W7 w') := fun V hV => by
  refine (halves_any V ba bo bt o ⟨o0, o4⟩ ho.1 hob (by omega) (by omega)).mono ?_
  rintro e w' ⟨v, rfl, ow, hb⟩
  exact ⟨v, rfl, owns_weaken ow hV.size, hV.trans (hb.mono hV.size)⟩
 have HR : Hid (∀ V vo vc, Below W7.heap.size W7 V → V.ownsRow W7.heap.size 53 3 (.slice vo (bo - o).toNat vc) (bo - o).toNat (bvals (halvesL ba bt o (bo - o).toNat)) → Calls Tryz.prog 90 #[.slice (some ⟨g, 0, none⟩) (N + 1) (N + 1), .int .i64 i, .int .i64 ((i : Int) + 1), .slice vo (bo - o).toNat vc] V fun e w' => RetRow V w' w2.heap.size g (N + (bo - o).toNat) (repB z.free i (halvesL ba bt o (bo - o).toNat)) e) := fun V vo vc hV ov =>
  bRep_any V w2.heap.size g N (N + 1) i (bo - o).toNat vc W7.heap.size vo z.free (halvesL ba bt o (bo - o).toNat) hiN hN3 (by have := ho.1; omega) (owns_below Z7.own hV (Nat.le_refl _)) ov (by omega)
 go_wp2_with fail
 refine wp_region_peel (S := fun wx => TkF w3.heap.size W5.heap.size g (N + 1) (N + 1) ba bo bt wx) 10 _ (by kernel_rfl) (by kernel_rfl) rfl ?_
 simp only [List.take_succ_cons, List.take_zero]
 refine tkH 0 (.pointer (some ⟨w3.heap.size, 2, none⟩)) S1 (h:=?_)
 refine tkH 1 (.slice (some ⟨g, 0, none⟩) (N + 1) (N + 1)) S1 (h:=?_)
 refine tkH 2 (.int .i64 (i : Int)) S1 (h:=?_)
 refine tkH 3 (.int .i64 (i : Int)) S1 (h:=?_)
 refine tkH 4 (.int .i64 ((i : Int) + 1)) S1 (h:=?_)
 refine tkH 5 (.agg #[.int .i64 ba, .int .i64 bo, .int .i64 bt]) S1 (h:=?_)
 refine tkH 6 (.int .i64 o) S1 (h:=?_)
 refine oneH 7 (by kernel_rfl) rfl rfl (fun K1 hK1 => ?_)
 go_simp
 refine (HH.out _ hBd).mono ?_
 rintro e w8 ⟨v, rfl, ow8, hb8⟩
 obtain ⟨vo, vc, rfl⟩ := owns_shape ow8
 have hS8 := S0.below hb8
 refine hK1 _ _ hS8 ?_
 try simp only [Act.put, List.setIfInBounds_toArray, List.set_cons_zero, List.set_cons_succ]
 refine oneH 8 (by kernel_rfl) rfl rfl (fun K2 hK2 => ?_)
 go_simp
 refine (HR.out _ vo vc hb8 ow8).mono ?_
 rintro e w9 ⟨g', cap', rfl, ow9, hb9, hg9⟩
 have hS9 := hS8.but hb9 (by omega) (by omega)
 have X9 := (Z7.box.below hb8).but hb9 (by omega)
 refine hK2 _ _ hS9 ?_
 try simp only [Act.put, List.setIfInBounds_toArray, List.set_cons_zero, List.set_cons_succ]
 refine tkH 9 (.pointer (some ⟨w3.heap.size, 2, none⟩)) hS9 (h:=?_)
 refine wpAnyH_done (by kernel_rfl) ?_ _
 show Oper.wp _ _ _ _ _ _
 have x2 := X9.c2
 have x2z := X9.z2
 have hg9' : g' = g ∨ W7.heap.size ≤ g' := by rcases hg9 with q | q; exact .inl q; exact .inr (Nat.le_trans hb8.size q)
 have hbt : But w3.heap.size w9 (w9.setCell ⟨w3.heap.size, 2, none⟩ (.slice (some ⟨g', 0, none⟩) (N + (bo - o).toNat) cap')) := (But.refl _ _).setCell _
 have X10 := X9.set2 (.slice (some ⟨g', 0, none⟩) (N + (bo - o).toNat) cap')
 have R10 := ((R7.below hb8).but hb9 (by omega)).but hbt (by omega)
 have q0 := hbt.cell hS9.e0 (by omega)
 have ow10 := own_but ow9 hbt (by omega)
 have ty10 := own_but (own_but (owns_below Z7.typ hb8 (Nat.le_refl _)) hb9 (Ne.symm gk7)) hbt (by omega)
 have B10 : Below w.heap.size w (w9.setCell ⟨w3.heap.size, 2, none⟩ (.slice (some ⟨g', 0, none⟩) (N + (bo - o).toNat) cap')) := B7.trans ((hb8.mono (B7.size)).trans ((hb9.below (by omega) (Nat.le_trans B7.size hb8.size)).trans (hbt.below (by omega) (Nat.le_trans B7.size (Nat.le_trans hb8.size hb9.size)))))
 have hs9 : W7.heap.size ≤ (w9.setCell ⟨w3.heap.size, 2, none⟩ (.slice (some ⟨g', 0, none⟩) (N + (bo - o).toNat) cap')).heap.size := Nat.le_trans hb8.size (Nat.le_trans hb9.size hbt.size)
 obtain ⟨w10, hw10⟩ : ∃ w10, w9.setCell ⟨w3.heap.size, 2, none⟩ (.slice (some ⟨g', 0, none⟩) (N + (bo - o).toNat) cap') = w10 := ⟨_, rfl⟩
 rw [hw10] at X10 R10 q0 ow10 ty10 B10 hs9
 have HW10 : Hid _ := hw10
 obtain ⟨p0, p1, p2, p3, _, _, _, _⟩ := id X10
 obtain ⟨⟨u0, d0⟩, ⟨u1, d1⟩, ⟨u2, d2⟩, ⟨u3, d3⟩, z0, z1, z2, z3⟩ := id R10
 clear hw10 hbt HH HR m1 m2 m3 m4 S0 S1 hS8 hS9 X9 R7 Z7 hb8 hb9 ow8 ow9 B7 hBd g0 g1 g2
 go_wp2_with (rw [HW10.out])
 have ne1 : ¬ (W5.heap.size = w.heap.size + 1) := by omega
 have ne2 : ¬ (w.heap.size + 1 = W5.heap.size) := by omega
 have RD := R10.below (Below.refl w10.heap.size w10).drew
 obtain ⟨k0, k1, k2, k3⟩ := res4 R10 (.int .i64 z.f) (.int .i64 z.t) (.slice (some ⟨g', 0, none⟩) (N + (bo - o).toNat) cap') (.slice (some ⟨k, 0, none⟩) tn tn)
 have hbt := but4 w10.drew (w.heap.size + 1) (.int .i64 z.f) (.int .i64 z.t) (.slice (some ⟨g', 0, none⟩) (N + (bo - o).toNat) cap') (.slice (some ⟨k, 0, none⟩) tn tn)
 have Bl : Below w10.heap.size w10 w10.drew := (Below.refl w10.heap.size w10).drew
 have BF := blks_own (owns_below ow10 Bl (Nat.le_refl _)) (by have := ho.1; omega)
 have NF := nums_of_owns (owns_below ty10 Bl (Nat.le_refl _)) htr
 have BB := (B10.trans (Bl.mono B10.size)).trans (hbt.below (B := w.heap.size) (by omega) (Nat.le_trans B10.size Bl.size))
 have FIN : RetZone3 w.heap.size ((((w10.drew.setCell ⟨w.heap.size + 1, 0, none⟩ (.int .i64 z.f)).setCell ⟨w.heap.size + 1, 1, none⟩ (.int .i64 z.t)).setCell ⟨w.heap.size + 1, 2, none⟩ (.slice (some ⟨g', 0, none⟩) (N + (bo - o).toNat) cap')).setCell ⟨w.heap.size + 1, 3, none⟩ (.slice (some ⟨k, 0, none⟩) tn tn)) ⟨z.f, z.t, repB z.free i (halvesL ba bt o (bo - o).toNat), z.types⟩ ba (.returned (.tuple #[.agg #[.int .i64 z.f, .int .i64 z.t, .slice (some ⟨g', 0, none⟩) (N + (bo - o).toNat) cap', .slice (some ⟨k, 0, none⟩) tn tn], .int .i64 ba, .int .i64 0])) := ⟨_, _, _, _, _, _, rfl, hbt.zn ⟨BF, NF⟩ (fun a ha => by cases ha; dsimp only; omega) (fun a ha => by cases ha; dsimp only; omega), fun a ha => by cases ha; dsimp only; omega, fun a ha => by cases ha; dsimp only; omega⟩
 have HFIN : Hid _ := FIN
 have HBB : Hid _ := BB
 clear FIN BB BF NF X10 ow10 ty10 B10 R10 RD hbt Bl
 go_region
 all_goals
  try go_wp2_with fail
  exact bodyPost_ret (v := .tuple #[.agg #[.int .i64 z.f, .int .i64 z.t, .slice (some ⟨g', 0, none⟩) (N + (bo - o).toNat) cap', .slice (some ⟨k, 0, none⟩) tn tn], .int .i64 ba, .int .i64 0]) (by simp [results, Tryz.results63, go_sem, k0, k1, k2, k3]) rfl ⟨HFIN.out, HBB.out⟩
set_option maxHeartbeats 8000000 in
theorem zTake_steal (w : World) (fo : Option Addr) (N fc : Nat) (to_ : Option Addr) (tn tc : Nat) (z : Zn) (o t ba bo bt : Int) (i : Nat) (h : ZnAt w fo (N + 1) to_ tn z) (hM : ZMay z) (hT : TabAt w) (ho : ordOk o) (ht : typeOk t) (hC : chooseI z.free o t = i) (hiN : i ≤ N) (hb : z.free.getD i .zero = ⟨ba, bo, bt⟩) (hob : o ≤ bo) (F L : Nat) (hF : (ba - z.f) / 8 = (F : Int)) (hL : (ba + pw bo - 1 - z.f) / 8 = (L : Int)) (hLn : L < tn) (s1 : (bt == t) = false) (s2 : 2 ≤ bo) :
    Calls Tryz.prog 63 #[.agg #[.int .i64 z.f, .int .i64 z.t, .slice fo (N + 1) fc, .slice to_ tn tc], .int .i64 o, .int .i64 t] w fun e w' => RetZone3 w.heap.size w' ⟨z.f, z.t, repB (z.free.map (stealB z.f F L t)) i (halvesL ba t o (bo - o).toNat), (setR z.types F t (L + 1 - F))⟩ ba e ∧ Below w.heap.size w w' := by
 have I0 := cbI_first w fo (N + 1) fc to_ tn tc z h
 have c0 := I0.box.c0
 have c1 := I0.box.c1
 have c2 := I0.box.c2
 have c3 := I0.box.c3
 have hlen : z.free.length = N + 1 := h.free.len
 have hbl := may_len hM
 have htr := h.types.reach
 have hN3 : N ≤ 300 := by omega
 obtain ⟨n1, n2, n3, n4, n5⟩ := hM.new
 obtain ⟨⟨o0, o4⟩, a1, a2, a3⟩ := (freeOk_at hM.free (k := i) (by omega) hb).1
 dsimp only at o0 o4 a1 a2 a3
 have htl : tn ≤ 300 := by have h1 := hM.len; have h2 : z.types.length = tn := h.types.len; omega
 have HAll : Hid (∀ b ∈ z.free, z.f ≤ b.a ∧ b.a ≤ 256) := fun b hb => by obtain ⟨_, q1, q2, _⟩ := may_blk hM b hb; omega
 have HEnd : Hid (ba + pw bo ≤ 256) := by
  show _ ≤ _
  have hp := blk_end (o := bo) ⟨o0, o4⟩ a2 a3 n5
  omega
 have HB : Hid _ := hb
 have HC : Hid _ := hC
 have HL : Hid _ := hlen
 have HO : Hid (inB o 0 4 = true) := inB_t ho
 have HT : Hid (inB t 0 2 = true) := inB_t ht
 have k1 : ¬ ((i : Int) < 0) := by omega
 have k2 : (i : Int) < (N : Int) + 1 := by omega
 have k3 : IntKind.i64.wrap ((i : Int) + 1) = (i : Int) + 1 := IntWalk.i64_in _ (by omega)
 clear h hb hC hlen
 go_enter Tryz.func63, Tryz.ntmps63
 go_wp2_with fail
 go_at_call 54
 refine (zCheck_ok _ fo (N + 1) fc to_ tn tc z I0.zn hM).mono ?_
 rintro e w1 ⟨rfl, hb⟩
 have I1 := I0.step hb
 clear I0 hb c0 c1 c2 c3
 have c0 := I1.box.c0
 have c1 := I1.box.c1
 have c2 := I1.box.c2
 have c3 := I1.box.c3
 go_wp2_with fail
 go_at_call 86
 refine (isOrder_any _ o).mono ?_
 rintro e wq ⟨rfl, rfl⟩
 rw [HO.out]
 go_wp2_with fail
 go_at_call 87
 refine (isType_any _ t).mono ?_
 rintro e wq ⟨rfl, rfl⟩
 rw [HT.out]
 go_wp2_with fail
 go_at_call 88
 refine (choose_any _ fo (N + 1) fc z.free o t I1.zn.free (hT.below I1.b) ho ht).mono ?_
 rintro e w2 ⟨rfl, hb2⟩
 rw [HC.out]
 have I2 := I1.step hb2
 clear I1 hb2 c0 c1 c2 c3
 have c0 := I2.box.c0
 have c1 := I2.box.c1
 have c2 := I2.box.c2
 have c3 := I2.box.c3
 go_wp2_with fail
 go_at_call 35
 refine (zCopy_own _ fo (N + 1) fc to_ tn tc z I2.zn).mono ?_
 rintro e w3 ⟨g, k, rfl, o1, o2, hgk, hb3⟩
 have I3 := I2.step hb3
 have hf1 := owns_fresh o1 _ rfl
 have hf2 := owns_fresh o2 _ rfl
 have Z4 := zo_new o1 o2 hgk
 have hbx := below_box w3 (.cells #[.int .i64 z.f, .int .i64 z.t, .slice (some ⟨g, 0, none⟩) (N + 1) (N + 1), .slice (some ⟨k, 0, none⟩) tn tn] 37)
 have I4 := I3.step hbx
 have hs2 := I2.size
 have hs3 := I3.size
 obtain ⟨W4, hW4⟩ : ∃ W4, w3.alloc (.cells #[.int .i64 z.f, .int .i64 z.t, .slice (some ⟨g, 0, none⟩) (N + 1) (N + 1), .slice (some ⟨k, 0, none⟩) tn tn] 37) = W4 := ⟨_, rfl⟩
 rw [hW4] at I4 Z4
 have HW4 : Hid _ := hW4
 dsimp only at hf1 hf2
 have hgl := Z4.glt
 have hkl := Z4.klt
 have hzl := Z4.box.lt
 obtain ⟨d0, d1, d2⟩ := own_at Z4.own (i := i) (by omega) HB.out
 have y2 := Z4.box.c2
 have hb5 := below_box W4 (.cells #[.int .i64 ba, .int .i64 bo, .int .i64 bt] 53)
 have I5 := I4.step hb5
 have Z5 := Z4.below hb5
 have T5 := tbox_new' W4 ⟨ba, bo, bt⟩ 53
 have hs5 : W4.heap.size < (W4.alloc (.cells #[.int .i64 ba, .int .i64 bo, .int .i64 bt] 53)).heap.size := by simp
 obtain ⟨W5, hW5⟩ : ∃ W5, W4.alloc (.cells #[.int .i64 ba, .int .i64 bo, .int .i64 bt] 53) = W5 := ⟨_, rfl⟩
 dsimp only at T5
 rw [hW5] at I5 Z5 T5 hs5
 have HW5 : Hid _ := hW5
 obtain ⟨e0, e1, e2⟩ := T5
 have y5 := Z5.box.c2
 obtain ⟨f0, f1, f2⟩ := own_at Z5.own (i := i) (by omega) HB.out
 clear I2 I3 hb3 c0 c1 c2 c3 o1 o2 hbx hW4 hW5 hb5
 have s3 : (bt != t) = true := by simpa using s1
 have HS := steal_any W5 w2.heap.size w3.heap.size g (N + 1) (N + 1) k tn tn z ba bo bt t F L Z5 (by have := HL.out; omega) n1 ⟨o0, o4⟩ a1 HEnd.out hF hL hLn HAll.out htl
 have HF : Hid _ := hF
 have HL2 : Hid _ := hL
 clear hF hL
 go_wp2_with (first | rw [HW4.out] | rw [HW5.out])
 go_at_call 89
 refine HS.mono ?_
 rintro e W6 ⟨rfl, Z6, hU6⟩
 have HB6 : Hid ((z.free.map (stealB z.f F L t)).getD i .zero = ⟨ba, bo, t⟩) := HB6s z F L t HB.out (by rw [HL.out]; omega) HF.out HL2.out
 obtain ⟨f0, f1, f2⟩ := own_at Z6.own (i := i) (by omega) HB6.out
 have y6 := Z6.box.c2
 have hs6 := hU6.size
 have R6 := hU6.res I5.res (by omega) (by omega)
 have B6 : Below w.heap.size w W6 := I5.b.trans (hU6.below (by omega) (by omega) (by omega))
 clear I4 I5 Z4 Z5 HS HW4 HW5 hU6 d0 d1 d2 e0 e1 e2 y2 y5
 go_wp2_with fail
 have hb7 := below_box W6 (.cells #[.int .i64 ba, .int .i64 bo, .int .i64 t] 53)
 have Z7 := Z6.below hb7
 have R7 := R6.below hb7
 have B7 := B6.trans (hb7.mono B6.size)
 have T7 := tbox_new' W6 ⟨ba, bo, t⟩ 53
 have hs7 : W6.heap.size < (W6.alloc (.cells #[.int .i64 ba, .int .i64 bo, .int .i64 t] 53)).heap.size := by simp
 have gz7 := Z6.gz
 have kz7 := Z6.kz
 have gk7 := Z6.gk
 have hz7 := Z6.box.lt
 have hg7 := Z6.glt
 have hk7 := Z6.klt
 dsimp only at T7
 obtain ⟨W7, hW7⟩ : ∃ W7, W6.alloc (.cells #[.int .i64 ba, .int .i64 bo, .int .i64 t] 53) = W7 := ⟨_, rfl⟩
 rw [hW7] at Z7 R7 B7 T7 hs7 ⊢
 obtain ⟨g0, g1, g2⟩ := T7
 have S0 : TkF w3.heap.size W6.heap.size g (N + 1) (N + 1) ba bo t W7 := ⟨Z7.box.c2, g0, g1, g2⟩
 have S1 := S0.below (Below.refl W7.heap.size W7).drew
 have hBd := (Below.refl W7.heap.size W7).drew
 have m1 : ∀ wx, TkF w3.heap.size W6.heap.size g (N + 1) (N + 1) ba bo t wx → wx.cell? ⟨w3.heap.size, 2, none⟩ = some (.slice (some ⟨g, 0, none⟩) (N + 1) (N + 1)) := fun wx h => h.c
 have m2 : ∀ wx, TkF w3.heap.size W6.heap.size g (N + 1) (N + 1) ba bo t wx → wx.cell? ⟨W6.heap.size, 0, none⟩ = some (.int .i64 ba) := fun wx h => h.e0
 have m3 : ∀ wx, TkF w3.heap.size W6.heap.size g (N + 1) (N + 1) ba bo t wx → wx.cell? ⟨W6.heap.size, 1, none⟩ = some (.int .i64 bo) := fun wx h => h.e1
 have m4 : ∀ wx, TkF w3.heap.size W6.heap.size g (N + 1) (N + 1) ba bo t wx → wx.cell? ⟨W6.heap.size, 2, none⟩ = some (.int .i64 t) := fun wx h => h.e2
 have HH : Hid (∀ V, Below W7.heap.size W7 V → Calls Tryz.prog 91 #[.agg #[.int .i64 ba, .int .i64 bo, .int .i64 t], .int .i64 o] V fun e w' => ∃ v, e = .returned v ∧ w'.ownsRow W7.heap.size 53 3 v (bo - o).toNat (bvals (halvesL ba t o (bo - o).toNat)) ∧ Below W7.heap.size W7 w') := fun V hV => by
  refine (halves_any V ba bo t o ⟨o0, o4⟩ ho.1 hob (by omega) (by omega)).mono ?_
  rintro e w' ⟨v, rfl, ow, hb⟩
  exact ⟨v, rfl, owns_weaken ow hV.size, hV.trans (hb.mono hV.size)⟩
 have HR : Hid (∀ V vo vc, Below W7.heap.size W7 V → V.ownsRow W7.heap.size 53 3 (.slice vo (bo - o).toNat vc) (bo - o).toNat (bvals (halvesL ba t o (bo - o).toNat)) → Calls Tryz.prog 90 #[.slice (some ⟨g, 0, none⟩) (N + 1) (N + 1), .int .i64 i, .int .i64 ((i : Int) + 1), .slice vo (bo - o).toNat vc] V fun e w' => RetRow V w' w2.heap.size g (N + (bo - o).toNat) (repB (z.free.map (stealB z.f F L t)) i (halvesL ba t o (bo - o).toNat)) e) := fun V vo vc hV ov =>
  bRep_any V w2.heap.size g N (N + 1) i (bo - o).toNat vc W7.heap.size vo (z.free.map (stealB z.f F L t)) (halvesL ba t o (bo - o).toNat) hiN hN3 (by have := ho.1; omega) (owns_below Z7.own hV (Nat.le_refl _)) ov (by omega)
 go_wp2_with fail
 refine wp_region_peel (S := fun wx => TkF w3.heap.size W6.heap.size g (N + 1) (N + 1) ba bo t wx) 10 _ (by kernel_rfl) (by kernel_rfl) rfl ?_
 simp only [List.take_succ_cons, List.take_zero]
 refine tkH 0 (.pointer (some ⟨w3.heap.size, 2, none⟩)) S1 (h:=?_)
 refine tkH 1 (.slice (some ⟨g, 0, none⟩) (N + 1) (N + 1)) S1 (h:=?_)
 refine tkH 2 (.int .i64 (i : Int)) S1 (h:=?_)
 refine tkH 3 (.int .i64 (i : Int)) S1 (h:=?_)
 refine tkH 4 (.int .i64 ((i : Int) + 1)) S1 (h:=?_)
 refine tkH 5 (.agg #[.int .i64 ba, .int .i64 bo, .int .i64 t]) S1 (h:=?_)
 refine tkH 6 (.int .i64 o) S1 (h:=?_)
 refine oneH 7 (by kernel_rfl) rfl rfl (fun K1 hK1 => ?_)
 go_simp
 refine (HH.out _ hBd).mono ?_
 rintro e w8 ⟨v, rfl, ow8, hb8⟩
 obtain ⟨vo, vc, rfl⟩ := owns_shape ow8
 have hS8 := S0.below hb8
 refine hK1 _ _ hS8 ?_
 try simp only [Act.put, List.setIfInBounds_toArray, List.set_cons_zero, List.set_cons_succ]
 refine oneH 8 (by kernel_rfl) rfl rfl (fun K2 hK2 => ?_)
 go_simp
 refine (HR.out _ vo vc hb8 ow8).mono ?_
 rintro e w9 ⟨g', cap', rfl, ow9, hb9, hg9⟩
 have hS9 := hS8.but hb9 (by omega) (by omega)
 have X9 := (Z7.box.below hb8).but hb9 (by omega)
 refine hK2 _ _ hS9 ?_
 try simp only [Act.put, List.setIfInBounds_toArray, List.set_cons_zero, List.set_cons_succ]
 refine tkH 9 (.pointer (some ⟨w3.heap.size, 2, none⟩)) hS9 (h:=?_)
 refine wpAnyH_done (by kernel_rfl) ?_ _
 show Oper.wp _ _ _ _ _ _
 have x2 := X9.c2
 have x2z := X9.z2
 have hg9' : g' = g ∨ W7.heap.size ≤ g' := by rcases hg9 with q | q; exact .inl q; exact .inr (Nat.le_trans hb8.size q)
 have hbt : But w3.heap.size w9 (w9.setCell ⟨w3.heap.size, 2, none⟩ (.slice (some ⟨g', 0, none⟩) (N + (bo - o).toNat) cap')) := (But.refl _ _).setCell _
 have X10 := X9.set2 (.slice (some ⟨g', 0, none⟩) (N + (bo - o).toNat) cap')
 have R10 := ((R7.below hb8).but hb9 (by omega)).but hbt (by omega)
 have q0 := hbt.cell hS9.e0 (by omega)
 have ow10 := own_but ow9 hbt (by omega)
 have ty10 := own_but (own_but (owns_below Z7.typ hb8 (Nat.le_refl _)) hb9 (Ne.symm gk7)) hbt (by omega)
 have B10 : Below w.heap.size w (w9.setCell ⟨w3.heap.size, 2, none⟩ (.slice (some ⟨g', 0, none⟩) (N + (bo - o).toNat) cap')) := B7.trans ((hb8.mono (B7.size)).trans ((hb9.below (by omega) (Nat.le_trans B7.size hb8.size)).trans (hbt.below (by omega) (Nat.le_trans B7.size (Nat.le_trans hb8.size hb9.size)))))
 have hs9 : W7.heap.size ≤ (w9.setCell ⟨w3.heap.size, 2, none⟩ (.slice (some ⟨g', 0, none⟩) (N + (bo - o).toNat) cap')).heap.size := Nat.le_trans hb8.size (Nat.le_trans hb9.size hbt.size)
 obtain ⟨w10, hw10⟩ : ∃ w10, w9.setCell ⟨w3.heap.size, 2, none⟩ (.slice (some ⟨g', 0, none⟩) (N + (bo - o).toNat) cap') = w10 := ⟨_, rfl⟩
 rw [hw10] at X10 R10 q0 ow10 ty10 B10 hs9
 have HW10 : Hid _ := hw10
 obtain ⟨p0, p1, p2, p3, _, _, _, _⟩ := id X10
 obtain ⟨⟨u0, d0⟩, ⟨u1, d1⟩, ⟨u2, d2⟩, ⟨u3, d3⟩, z0, z1, z2, z3⟩ := id R10
 clear hw10 hbt HH HR m1 m2 m3 m4 S0 S1 hS8 hS9 X9 R7 Z7 hb8 hb9 ow8 ow9 B7 hBd g0 g1 g2
 go_wp2_with (rw [HW10.out])
 have ne1 : ¬ (W6.heap.size = w.heap.size + 1) := by omega
 have ne2 : ¬ (w.heap.size + 1 = W6.heap.size) := by omega
 have RD := R10.below (Below.refl w10.heap.size w10).drew
 obtain ⟨k0, k1, k2, k3⟩ := res4 R10 (.int .i64 z.f) (.int .i64 z.t) (.slice (some ⟨g', 0, none⟩) (N + (bo - o).toNat) cap') (.slice (some ⟨k, 0, none⟩) tn tn)
 have hbt := but4 w10.drew (w.heap.size + 1) (.int .i64 z.f) (.int .i64 z.t) (.slice (some ⟨g', 0, none⟩) (N + (bo - o).toNat) cap') (.slice (some ⟨k, 0, none⟩) tn tn)
 have Bl : Below w10.heap.size w10 w10.drew := (Below.refl w10.heap.size w10).drew
 have BF := blks_own (owns_below ow10 Bl (Nat.le_refl _)) (by have := ho.1; omega)
 have NF := nums_of_owns (owns_below ty10 Bl (Nat.le_refl _)) htr
 have BB := (B10.trans (Bl.mono B10.size)).trans (hbt.below (B := w.heap.size) (by omega) (Nat.le_trans B10.size Bl.size))
 have FIN : RetZone3 w.heap.size ((((w10.drew.setCell ⟨w.heap.size + 1, 0, none⟩ (.int .i64 z.f)).setCell ⟨w.heap.size + 1, 1, none⟩ (.int .i64 z.t)).setCell ⟨w.heap.size + 1, 2, none⟩ (.slice (some ⟨g', 0, none⟩) (N + (bo - o).toNat) cap')).setCell ⟨w.heap.size + 1, 3, none⟩ (.slice (some ⟨k, 0, none⟩) tn tn)) ⟨z.f, z.t, repB (z.free.map (stealB z.f F L t)) i (halvesL ba t o (bo - o).toNat), (setR z.types F t (L + 1 - F))⟩ ba (.returned (.tuple #[.agg #[.int .i64 z.f, .int .i64 z.t, .slice (some ⟨g', 0, none⟩) (N + (bo - o).toNat) cap', .slice (some ⟨k, 0, none⟩) tn tn], .int .i64 ba, .int .i64 0])) := ⟨_, _, _, _, _, _, rfl, hbt.zn ⟨BF, NF⟩ (fun a ha => by cases ha; dsimp only; omega) (fun a ha => by cases ha; dsimp only; omega), fun a ha => by cases ha; dsimp only; omega, fun a ha => by cases ha; dsimp only; omega⟩
 have HFIN : Hid _ := FIN
 have HBB : Hid _ := BB
 clear FIN BB BF NF X10 ow10 ty10 B10 R10 RD hbt Bl
 go_region
 all_goals
  try go_wp2_with fail
  exact bodyPost_ret (v := .tuple #[.agg #[.int .i64 z.f, .int .i64 z.t, .slice (some ⟨g', 0, none⟩) (N + (bo - o).toNat) cap', .slice (some ⟨k, 0, none⟩) tn tn], .int .i64 ba, .int .i64 0]) (by simp [results, Tryz.results63, go_sem, k0, k1, k2, k3]) rfl ⟨HFIN.out, HBB.out⟩
theorem zTake_ok (w : World) (fo : Option Addr) (fn fc : Nat) (to_ : Option Addr) (tn tc : Nat) (z : Zn) (o t : Int) (i : Nat) (h : ZnAt w fo fn to_ tn z) (hM : ZMay z) (hT : TabAt w) (ho : ordOk o) (ht : typeOk t) (hC : chooseI z.free o t = i) :
    Calls Tryz.prog 63 #[.agg #[.int .i64 z.f, .int .i64 z.t, .slice fo fn fc, .slice to_ tn tc], .int .i64 o, .int .i64 t] w fun e w' => RetZone3 w.heap.size w' (takeZ z o t i) (z.free.getD i .zero).a e ∧ Below w.heap.size w w' := by
 obtain ⟨j, e, hj, hob⟩ := choose_in (l := z.free) (o := o) (t := t) (by omega)
 obtain rfl : j = i := by omega
 have hlen := h.free.len
 have htl := h.types.len
 obtain ⟨N, rfl⟩ : ∃ N, fn = N + 1 := ⟨fn - 1, by omega⟩
 have hblk := freeOk_at hM.free hj rfl
 obtain ⟨⟨⟨b0, b4⟩, a1, a2, a3⟩, _⟩ := hblk
 obtain ⟨n1, n2, n3, n4, n5⟩ := hM.new
 have hl := hM.len
 unfold takeZ
 dsimp only
 generalize hb : z.free.getD j .zero = b at *
 obtain ⟨ba, bo, bt⟩ := b
 dsimp only at *
 have hend := blk_end (o := bo) ⟨b0, b4⟩ a2 a3 n5
 have hp := pw_pos bo
 by_cases hs : steals ⟨ba, bo, bt⟩ t
 ·rw [if_pos hs]
  have eF : ((grpF z ⟨ba, bo, bt⟩).toNat : Int) = (ba - z.f) / 8 := by unfold grpF; dsimp only; omega
  have eL : ((grpL z ⟨ba, bo, bt⟩).toNat : Int) = (ba + pw bo - 1 - z.f) / 8 := by unfold grpL; dsimp only; omega
  have := zTake_steal w fo N fc to_ tn tc z o t ba bo bt j h hM hT ho ht e (by omega) hb hob (grpF z ⟨ba, bo, bt⟩).toNat (grpL z ⟨ba, bo, bt⟩).toNat eF.symm eL.symm (by omega) (by simpa using hs.1) hs.2
  rw [eF, eL] at this
  exact this
 rw [if_neg hs]
 refine zTake_plain w fo N fc to_ tn tc z o t ba bo bt j h hM hT ho ht e (by omega) hb hob ?_
 unfold steals at hs
 by_cases q : bt = t
 ·left; simpa using q
 right; exact Int.not_le.1 (fun g => hs ⟨q, g⟩)
end Go.Proofs.YtbjlbmofdnkmiaaGreatDoor
namespace Go.Proofs.YtbjlbmofdnkmiaaGreatDoor.Kit
open Go Go.RowKit
section
variable {P : Program} {l : List Oper} {Q : Exit → Act → World → Prop} {S : World → Prop} {n N : Nat} {listed : Array Bool} {A : Act} {L : List (Nat × Value)} {o o' : Oper} {w : World}
theorem a_start {id : Nat} (S : World → Prop) (hm : P.follows .mixedOrders = true) (hn : l.length = n) (h : wpAnyH P .any l.toArray Q S n (Array.replicate n false) A { w with drawn := w.drawn + 1 }) : (Code.region id l.toArray true).wp P Q A w := by
 refine wp_region_held (S := S) hm ?_
 subst hn
 simpa using h
theorem a_do (k : Nat) {d : Nat} {v : Value} (f : Fr A N L) (hk : l[k]? = some o) (hc : (Region.noSelect l.toArray && Region.free .any l.toArray listed k && (Region.ready .any l.toArray listed).contains k) = true) (hQ : Blind Q) (hS : S w) (hd : o.dst = some d) (hN : Nat.blt d N = true) (hg : o.guard = none) (hy : YC P S L o v)
    (h : ∀ A', Fr A' N ((d, v) :: L) → wpAnyH P .any l.toArray Q S n (listed.setIfInBounds k true) A' w) : wpAnyH P .any l.toArray Q S (n + 1) listed A w := by
 simp only [Bool.and_eq_true] at hc
 refine wpAnyH_take (by simpa using hk) hc.1.1 hc.1.2 hc.2 (fun c a w => hQ c a w _ _) (.inl ⟨by simp [Region.wanted, hg], hy A.eval (fun x u hu => f.ev hu)⟩) hS ?_
 rw [hd]
 exact h _ (f.put d v (by simpa [Nat.blt_eq] using hN))
theorem a_one (k : Nat) (hk : l[k]? = some o) (hr : Region.ready .any l.toArray listed = [k]) (hg : o.guard = none)
    (h : o.wp P A w (fun a' w' => S w' ∧ wpAnyH P .any l.toArray Q S n (listed.setIfInBounds k true) a' w') Q) : wpAnyH P .any l.toArray Q S (n + 1) listed A w := by
 refine wpAnyH_all hr (by simp) ?_
 intro i hi
 obtain rfl : i = k := by simpa using hi
 unfold wpOp
 rw [show l.toArray[i]? = some o by simpa using hk]
 simp only [Region.wanted, hg, if_true]
 exact .inl h
theorem a_two (k j : Nat) (hk : l[k]? = some o) (hj : l[j]? = some o') (hr : Region.ready .any l.toArray listed = [k, j]) (hg : o.guard = none) (hg' : o'.guard = none)
    (h : o.wp P A w (fun a' w' => S w' ∧ wpAnyH P .any l.toArray Q S n (listed.setIfInBounds k true) a' w') Q)
    (h' : o'.wp P A w (fun a' w' => S w' ∧ wpAnyH P .any l.toArray Q S n (listed.setIfInBounds j true) a' w') Q) : wpAnyH P .any l.toArray Q S (n + 1) listed A w := by
 refine wpAnyH_all hr (by simp) ?_
 intro i hi
 unfold wpOp
 rcases (show i = k ∨ i = j by simpa using hi) with rfl | rfl
 ·rw [show l.toArray[i]? = some o by simpa using hk]
  simp only [Region.wanted, hg, if_true]
  exact .inl h
 rw [show l.toArray[i]? = some o' by simpa using hj]
 simp only [Region.wanted, hg', if_true]
 exact .inl h'
theorem a_put {d : Nat} {v : Value} (f : Fr A N L) (hd : o.dst = some d) (hN : Nat.blt d N = true) (h : ∀ A', Fr A' N ((d, v) :: L) → wpAnyH P .any l.toArray Q S n listed A' w) : wpAnyH P .any l.toArray Q S n listed (A.put o.dst v) w := by
 rw [hd]
 exact h _ (f.put d v (by simpa [Nat.blt_eq] using hN))
theorem x_put {d : Nat} {v : Value} (f : Fr A N L) (hd : o.dst = some d) (hN : Nat.blt d N = true) (h : ∀ A', Fr A' N ((d, v) :: L) → Q .normal A' w) : Q .normal (A.put o.dst v) w := by
 rw [hd]
 exact h _ (f.put d v (by simpa [Nat.blt_eq] using hN))
theorem a_end (hr : Region.ready .any l.toArray listed = []) (h : Q .normal A w) : wpAnyH P .any l.toArray Q S 0 listed A w := ⟨hr, h⟩
theorem x_cut {id : Nat} {ops : Array Oper} {d : Bool} (I : Act → World → Prop) (h : (Code.region id ops d).wp P (fun e A W => e = .normal ∧ I A W) A w) (k : ∀ A W, I A W → Q .normal A W) : (Code.region id ops d).wp P Q A w :=
 Code.wp_mono (fun _ a w ⟨he, hI⟩ => he ▸ k a w hI) h
theorem blind_cut {I : Act → World → Prop} : Blind (fun e A W => e = Exit.normal ∧ I A W) := fun _ _ _ _ _ h => nomatch h.1
theorem x_retc2 {fn : Func} {R : Ending → World → Prop} {t u s : Tmp} {ty tt : TypeId} {b n : Nat} {cs : List Value} {v v' : Value} (f : Fr A N L) (hr : fn.results = #[.cell t ty, .tmp u, .tmp s]) (hv : look L t = some (.pointer (some ⟨b, 0, none⟩))) (hu : look L u = some v) (hs' : look L s = some v') (ht : isAggB P ty = some (some n)) (hrow : w.heap[b]? = some (.cells cs.toArray tt (0, 0))) (hn : cs.length = n)
    (h : R (.returned (.tuple #[.agg cs.toArray, v, v'])) w) : bodyPost P fn R .ret A w := by
 refine ⟨f.defs, _, ?_, h⟩
 have e := f.at_ t _ hv
 rw [Array.getD_eq_getD_getElem?] at e
 have e' := f.at_ u _ hu
 rw [Array.getD_eq_getD_getElem?] at e'
 have e'' := f.at_ s _ hs'
 rw [Array.getD_eq_getD_getElem?] at e''
 have hl := cell_run ht hrow hn
 obtain ⟨q, hs⟩ : ∃ q, loadVar ty ⟨b, 0, none⟩ = q := ⟨_, rfl⟩
 rw [hs] at hl
 simp [results, hr, e, e', e'', asAddr, hs, hl]
end
end Go.Proofs.YtbjlbmofdnkmiaaGreatDoor.Kit
namespace Go.Proofs.YtbjlbmofdnkmiaaGreatDoor
open Go Go.RowKit Go.Proofs.YtbjlbmofdnkmiaaGreatDoor.Kit
def hpO (H : Hp) (r : Option (Hp × Int)) : Hp := (r.map (·.1)).getD H
def atO (r : Option (Hp × Int)) : Int := (r.map (·.2)).getD 0
theorem tab_row {w w' : World} (h : TabAt w) (hb : w'.heap[0]? = w.heap[0]?) : TabAt w' := by
 have e : ∀ o, w'.cell? ⟨0, o, none⟩ = w.cell? ⟨0, o, none⟩ := fun o => World.cell?_of_block (w := w) hb
 exact ⟨by rw [e]; exact h.a0, by rw [e]; exact h.a1, by rw [e]; exact h.a2, by rw [e]; exact h.a3, by rw [e]; exact h.a4, by rw [e]; exact h.a5⟩
theorem TabAt.pos {w : World} (h : TabAt w) : 0 < w.heap.size := World.block_lt_of_cell? w _ h.a0
theorem TabAt.but {w w' : World} {b : Nat} (h : TabAt w) (hb : But b w w') (h0 : 0 < b) : TabAt w' := tab_row h (hb.block 0 h.pos (by omega))
theorem TabAt.ex {w w' : World} {P : Nat → Prop} (h : TabAt w) (hb : Ex P w w') (h0 : ¬ P 0) : TabAt w' := tab_row h (hb.block 0 h.pos h0)
def TkR (B : Nat) (W : World) (z : Zn) (o t F T : Int) (fo : Option Addr) (fn : Nat) (to_ : Option Addr) (tn : Nat) (a c : Int) : Prop :=
 (chooseI z.free o t < 0 ∧ c = 6) ∨ (c = 0 ∧ ∃ i : Nat, chooseI z.free o t = i ∧ a = (z.free.getD i .zero).a ∧ F = (takeZ z o t i).f ∧ T = (takeZ z o t i).t ∧ ZnAt W fo fn to_ tn (takeZ z o t i) ∧ Fresh B fo ∧ Fresh B to_)
theorem TkR.below {B : Nat} {W W' : World} {z : Zn} {o t F T : Int} {fo : Option Addr} {fn : Nat} {to_ : Option Addr} {tn : Nat} {a c : Int} (h : TkR B W z o t F T fo fn to_ tn a c) (hb : Below W.heap.size W W') : TkR B W' z o t F T fo fn to_ tn a c := by
 rcases h with h | ⟨h1, i, h2, h3, h4, h5, h6, h7⟩
 ·exact .inl h
 exact .inr ⟨h1, i, h2, h3, h4, h5, h6.below hb, h7⟩
theorem TkR.weaken {B B' : Nat} {W : World} {z : Zn} {o t F T : Int} {fo : Option Addr} {fn : Nat} {to_ : Option Addr} {tn : Nat} {a c : Int} (h : TkR B W z o t F T fo fn to_ tn a c) (hb : B' ≤ B) : TkR B' W z o t F T fo fn to_ tn a c := by
 rcases h with h | ⟨h1, i, h2, h3, h4, h5, h6, h7, h8⟩
 ·exact .inl h
 exact .inr ⟨h1, i, h2, h3, h4, h5, h6, fun a ha => by have := h7 a ha; omega, fun a ha => by have := h8 a ha; omega⟩
theorem TkR.but {B b : Nat} {W W' : World} {z : Zn} {o t F T : Int} {fo : Option Addr} {fn : Nat} {to_ : Option Addr} {tn : Nat} {a c : Int} (h : TkR B W z o t F T fo fn to_ tn a c) (hb : But b W W') (hn : b < B) : TkR B W' z o t F T fo fn to_ tn a c := by
 rcases h with h | ⟨h1, i, h2, h3, h4, h5, h6, h7, h8⟩
 ·exact .inl h
 exact .inr ⟨h1, i, h2, h3, h4, h5, ⟨blks_but h6.free hb (fun _ a ha => by have := h7 a ha; omega), nums_but h6.types hb (fun _ a ha => by have := h8 a ha; omega)⟩, h7, h8⟩
theorem zTake_both (w : World) (fo : Option Addr) (fn fc : Nat) (to_ : Option Addr) (tn tc : Nat) (z : Zn) (o t : Int) (h : ZnAt w fo fn to_ tn z) (hM : ZMay z) (hT : TabAt w) (ho : ordOk o) (ht : typeOk t) :
    Calls Tryz.prog 63 #[.agg #[.int .i64 z.f, .int .i64 z.t, .slice fo fn fc, .slice to_ tn tc], .int .i64 o, .int .i64 t] w fun e w' => ∃ F T ko kn kc lo ln lc a c, e = .returned (.tuple #[.agg #[.int .i64 F, .int .i64 T, .slice ko kn kc, .slice lo ln lc], .int .i64 a, .int .i64 c]) ∧ TkR w.heap.size w' z o t F T ko kn lo ln a c ∧ Below w.heap.size w w' := by
 by_cases hC : chooseI z.free o t < 0
 ·refine (zTake_room w fo fn fc to_ tn tc z o t h hM hT ho ht hC).mono ?_
  rintro e w' ⟨rfl, hb⟩
  exact ⟨0, 0, none, 0, 0, none, 0, 0, 0, 6, rfl, .inl ⟨hC, rfl⟩, hb⟩
 obtain ⟨i, hi⟩ : ∃ i : Nat, chooseI z.free o t = i := ⟨_, (Int.toNat_of_nonneg (by omega)).symm⟩
 refine (zTake_ok w fo fn fc to_ tn tc z o t i h hM hT ho ht hi).mono ?_
 rintro e w' ⟨⟨ko, kn, kc, lo, ln, lc, rfl, h1, h2, h3⟩, hb⟩
 exact ⟨_, _, ko, kn, kc, lo, ln, lc, _, 0, rfl, .inr ⟨rfl, i, hi, rfl, rfl, rfl, h1, h2, h3⟩, hb⟩
theorem y_shl1 {C : World → Prop} {L : List (Nat × Value)} {o : Oper} {x y : Operand} {u : TypeId} {k : Int} (ho : o.op = .binOp .shl 3 x y u) (hx : ev L x = some (.int .i64 1)) (hy : ev L y = some (.int .i64 k)) (hk : ordOk k) : YC Tryz.prog C L o (.int .i64 (pw k)) := by
 intro ρ hρ wx _
 have e : (Op.shift .shl .i64 1 .i64 k).run Tryz.prog wx = .ok (.int .i64 (pw k)) wx := shl_one k hk wx
 simp [execOp, ho, hρ _ _ hx, hρ _ _ hy, e, eqGuard, go_sem]
theorem Kit.ZsOk.take {H : Hp} (h : ZsOk H) {z : Nat} (hz : z < 2) {o t : Int} (ho : ordOk o) (ht : typeOk t) {i : Nat} (hC : chooseI (H.zones.getD z ⟨0, 0, [], []⟩).free o t = i) :
    ZsOk { H with zones := H.zones.set z (takeZ (H.zones.getD z ⟨0, 0, [], []⟩) o t i) } := by
 have hm : ZMay (H.zones.getD z ⟨0, 0, [], []⟩) := by rcases (show z = 0 ∨ z = 1 by omega) with rfl | rfl; (exact h.m0); exact h.m1
 obtain ⟨j, e, hj, hob⟩ := choose_in (l := (H.zones.getD z ⟨0, 0, [], []⟩).free) (o := o) (t := t) (by omega)
 obtain rfl : j = i := by omega
 have hfi := (free_iff.1 hm.free).1 _ (getD_mem (d := Bk.zero) hj)
 have hN := takeZ_may hm ho.1 ht hj hfi.2 hfi.1.2.1
 have hf : (takeZ (H.zones.getD z ⟨0, 0, [], []⟩) o t j).f = (H.zones.getD z ⟨0, 0, [], []⟩).f ∧ (takeZ (H.zones.getD z ⟨0, 0, [], []⟩) o t j).t = (H.zones.getD z ⟨0, 0, [], []⟩).t := by
  unfold takeZ stolenZ
  dsimp only
  split <;> exact ⟨rfl, rfl⟩
 obtain ⟨zs, mins, cpus, ls, live⟩ := H
 have hn : zs.length = 2 := h.n
 match zs, hn with
 | [a, b], _ =>
  rcases (show z = 0 ∨ z = 1 by omega) with rfl | rfl
  ·exact ⟨rfl, hN, h.m1, hf.1.trans h.f0, h.f1.trans hf.2.symm, h.t1⟩
  exact ⟨rfl, h.m0, hN, h.f0, hf.1.trans h.f1, hf.2.trans h.t1⟩
theorem takeH_ok {H G : Hp} {z : Nat} {o fl p : Int} (hZ : ZsOk H) (hz : z < 2) (ho : ordOk o) (h : takeGH H z o fl = some (G, p)) :
    ZsOk G ∧ G.mins = H.mins ∧ G.lists = H.lists ∧ G.live = H.live ∧ G.cpus = H.cpus ∧ 0 ≤ p := by
 obtain ⟨_, i, hC, rfl, rfl⟩ := takeH_some h
 refine ⟨hZ.take hz ho (typeF_ok fl) hC, rfl, rfl, rfl, rfl, ?_⟩
 have hm : ZMay (H.zones.getD z ⟨0, 0, [], []⟩) := by rcases (show z = 0 ∨ z = 1 by omega) with rfl | rfl; (exact hZ.m0); exact hZ.m1
 obtain ⟨j, e, hj, _⟩ := choose_in (l := (H.zones.getD z ⟨0, 0, [], []⟩).free) (o := o) (t := typeF fl) (by omega)
 obtain rfl : j = i := by omega
 have hfi := ((free_iff.1 hm.free).1 _ (getD_mem (d := Bk.zero) hj)).1.2.1
 have hn := hm.new
 unfold newOk at hn
 omega
theorem moreH_some {n : Nat} {H G : Hp} {z : Nat} {fl p : Int} {l : List Int} (h : takeGH H z 0 fl = some (G, p)) : moreH (n + 1) H z fl l = moreH n G z fl (l ++ [p]) := by
 show (match takeGH H z 0 fl with | none => (H, l) | some (G, p) => moreH n G z fl (l ++ [p])) = _
 rw [h]
theorem moreH_none {n : Nat} {H : Hp} {z : Nat} {fl : Int} {l : List Int} (h : takeGH H z 0 fl = none) : moreH (n + 1) H z fl l = (H, l) := by
 show (match takeGH H z 0 fl with | none => (H, l) | some (G, p) => moreH n G z fl (l ++ [p])) = _
 rw [h]
structure AwayP (b : Nat) (y : Hx) : Prop where
 f : ∀ z ∈ y.zs, 0 < z.z.free.length → ∀ a, z.fo = some a → a.block ≠ b
 t : ∀ z ∈ y.zs, 0 < z.z.types.length → ∀ a, z.to_ = some a → a.block ≠ b
 m : 0 < y.mins.length → ∀ a, y.mo = some a → a.block ≠ b
 l : 0 < y.ls.length → ∀ a, y.lo = some a → a.block ≠ b
 p : ∀ l ∈ y.ls, 0 < l.l.pages.length → ∀ a, l.po = some a → a.block ≠ b
theorem awayP_F {b : Nat} {y : Hx} {zs : List Zc} (h : AwayP b y) (f : AwayF b (y.withZ zs)) : AwayP b (y.withZ zs) := ⟨f.f, f.t, h.m, h.l, h.p⟩
theorem awayP_withL {b : Nat} {y : Hx} {ls : List Lc} {lo : Option Addr} {ln lc : Nat} (h : AwayP b y) (hl : 0 < ls.length → ∀ a, lo = some a → a.block ≠ b) (hm : ∀ l ∈ ls, l ∈ y.ls ∨ ∀ a, l.po = some a → a.block ≠ b) : AwayP b (y.withL ls lo ln lc) :=
 ⟨h.f, h.t, h.m, hl, fun l hl' h0 => (hm l hl').elim (fun g => h.p l g h0) (fun g => g)⟩
def Got (w w' : World) (gz gl hbk : Nat) (y : Hx) (r : Option (Hp × Int)) : Prop :=
 (r = none ∧ Below w.heap.size w w') ∨ (r ≠ none ∧ ∃ zs ls lo ln lc, w'.heap[hbk]? = some (.cells #[.slice y.zo y.zn y.zc, .slice y.mo y.mn y.mc, .int .i64 y.cpus, .slice lo ln lc, .slice y.vo y.vn y.vc] 27 (0, 0)) ∧ ((y.withZ zs).withL ls lo ln lc).At w' ∧ ((y.withZ zs).withL ls lo ln lc).hp = hpO y.hp r ∧ Ex (fun k => k = gz ∨ k = gl ∨ k = hbk) w w' ∧ (∀ b, b < w.heap.size → b ≠ gl → AwayP b y → AwayP b ((y.withZ zs).withL ls lo ln lc)))
theorem heldBackR_c (w : World) (y : Hx) (fl : Int) (z : Nat) (hy : y.At w) (hMn : MnOk y.hp) (hZs : ZsOk y.hp) (hf : flag16 fl) (hz : z < 2) :
    Calls Tryz.prog 74 #[.agg #[.slice y.zo y.zn y.zc, .slice y.mo y.mn y.mc, .int .i64 y.cpus, .slice y.lo y.ln y.lc, .slice y.vo y.vn y.vc], .int .i64 (z : Nat), .int .i64 fl] w fun e w' => e = .returned (.int .i64 (heldH y.hp z fl)) ∧ Below w.heap.size w w' := by
 have hmr := hy.mins.reach
 have hml := hy.mins.len
 have hzl := hy.zones.len
 have hn2 : y.mins.length = 2 := hMn.n
 have hz2 : y.zs.length = 2 := by have := hZs.n; have e : y.hp.zones.length = y.zs.length := (by show (y.zs.map _).length = _; rw [List.length_map]); omega
 have hf1 := hf.1
 have hf2 := hf.2
 have B0 := Below.refl w.heap.size w
 refine sx_enter (args := [_, _, _]) 39 Tryz.func74 rfl rfl rfl ?_
 refine vS (vR ?_); intro A f
 refine l_box f rfl rfl rfl rfl rfl ?_; clear f A; intro b1 W2 eb1 hb3 rb1 A f; dsimp only [Value.cells] at rb1
 have z_B0_b1 := B0.size; rw [eb1] at z_B0_b1
 replace B0 := Below.next B0 hb3
 revert A; refine vla (h:=vW (vS (vR (vlf (h:=vl1 (rowq rb1) (h:=vlm (h:=?_)))))))
 obtain ⟨gm, om, vm, ham, c0m, hXm⟩ := hy.mins.at_.at (z) (by have := hy.mins.len; omega)
 replace c0m := St.of c0m
 intro A f
 rw [show om + z = om + z * 1 by omega] at c0m
 have hvm := mins_in hMn hz
 rw [show y.hp.mins = y.mins from rfl, hXm.out] at hvm
 revert A; refine vlx (h:=vld (y_load1 rfl rfl (ag rfl) (by first | assumption | exact St.q c0m B0)) (h:=vla (h:=vW (vS (vS (vR (vlm (h:=vlb (y_geq rfl rfl rfl) (h:=?_) (g:=?_)))))))))
 ·intro c4
  refine vW (vC (h:=vR (vlm (h:=vld (y_quo rfl rfl rfl (by decide) (Int.tdiv_eq_ediv_of_nonneg (by omega)) (by omega)) (h:=vla (h:=vW (vS (vS (vR (vlm (h:=vlb (y_eql rfl rfl rfl) (h:=?_) (g:=?_))))))))))))
  ·intro c5
   refine vlm (h:=vlm (h:=vld (y_rem rfl rfl rfl (by decide) (Int.tmod_eq_emod_of_nonneg (by omega))) (h:=vlb (y_eql rfl rfl rfl) (h:=?_) (g:=?_))))
   ·intro c6
    refine vlp (h:=vW (vC (h:=?_))); intro A f
    refine sx_quiet (by kernel_rfl) (by kernel_rfl) ?_
    revert A; refine vqm (h:=vqf (h:=vq1 (rowq rb1) (h:=?_)))
    obtain ⟨gn, on, zn, fon, fnn, fcn, ton, tnn, tcn, han, c0n, c1n, c2n, c3n, hatn, hXn⟩ := hy.zones.at (1) (by omega)
    replace c0n := St.of c0n; replace c1n := St.of c1n; replace c2n := St.of c2n; replace c3n := St.of c3n
    have hne : y.hp.zones.getD 1 ⟨0, 0, [], []⟩ = zn := by rw [zoneOf_hp, hXn.out]
    have hzn := hZs.m1.new
    intro A f
    rw [hne] at hzn
    unfold newOk at hzn
    revert A; refine vqx (j:=1) (h:=vqf (h:=vqd (y_load1 rfl rfl (ag rfl) (by first | assumption | exact St.q c0m B0 | exact St.q c0n B0 | exact St.q c1n B0 | exact St.q c2n B0 | exact St.q c3n B0)) (h:=vqf (h:=vq1 (rowq rb1) (h:=vqx (j:=1) (h:=vqf (h:=vqd (y_load1 rfl rfl (ag rfl) (by first | assumption | exact St.q c0m B0 | exact St.q c0n B0 | exact St.q c1n B0 | exact St.q c2n B0 | exact St.q c3n B0)) (h:=vqd (y_sub rfl rfl rfl rfl (by omega)) (h:=vqd (y_quo rfl rfl rfl (by decide) (Int.tdiv_eq_ediv_of_nonneg (by omega)) (by omega)) (h:=vqA (h:=vqa (h:=vQ ?_)))))))))))); intro W8 hb7; replace B0 := Below.next B0 hb7; replace rb1 := row_next rb1 hb7
    refine vT (vS (vR (vlm (h:=vla (h:=vW (vE ?_)))))); intro A f
    refine x_ret1 f rfl rfl ?_
    have e : y.hp.mins.getD z 0 = vm := hXm.out
    exact ⟨by unfold heldH; rw [e, if_pos c4, if_pos ⟨by omega, c6⟩]; rw [hne], B0⟩
   intro c6
   refine vlp (h:=vW (vD (h:=vK (vT (vS (vR (vlm (h:=vla (h:=vW (vE ?_)))))))))); intro A f
   refine x_ret1 f rfl rfl ?_
   have e : y.hp.mins.getD z 0 = vm := hXm.out
   exact ⟨by unfold heldH; rw [e, if_pos c4, if_neg (fun h => c6 h.2)]; rw [Int.add_zero], B0⟩
  intro c5
  refine vlm (h:=vlO 3 (h:=vlp (h:=vW (vD (h:=vK (vT (vS (vR (vlm (h:=vla (h:=vW (vE ?_)))))))))))); intro A f
  refine x_ret1 f rfl rfl ?_
  have e : y.hp.mins.getD z 0 = vm := hXm.out
  exact ⟨by unfold heldH; rw [e, if_pos c4, if_neg (fun h => c5 (by omega))]; rw [Int.add_zero], B0⟩
 intro c4
 refine vW (vD (h:=vK (vT (vS (vS (vR (vlm (h:=vlb (y_eql rfl rfl rfl) (h:=?_) (g:=?_)))))))))
 ·intro c9
  refine vlm (h:=vlm (h:=vld (y_rem rfl rfl rfl (by decide) (Int.tmod_eq_emod_of_nonneg (by omega))) (h:=vlb (y_eql rfl rfl rfl) (h:=?_) (g:=?_))))
  ·intro c10
   refine vlp (h:=vW (vC (h:=?_))); intro A f
   refine sx_quiet (by kernel_rfl) (by kernel_rfl) ?_
   revert A; refine vqm (h:=vqf (h:=vq1 (rowq rb1) (h:=?_)))
   obtain ⟨gn, on, zn, fon, fnn, fcn, ton, tnn, tcn, han, c0n, c1n, c2n, c3n, hatn, hXn⟩ := hy.zones.at (1) (by omega)
   replace c0n := St.of c0n; replace c1n := St.of c1n; replace c2n := St.of c2n; replace c3n := St.of c3n
   have hne : y.hp.zones.getD 1 ⟨0, 0, [], []⟩ = zn := by rw [zoneOf_hp, hXn.out]
   have hzn := hZs.m1.new
   intro A f
   rw [hne] at hzn
   unfold newOk at hzn
   revert A; refine vqx (j:=1) (h:=vqf (h:=vqd (y_load1 rfl rfl (ag rfl) (by first | assumption | exact St.q c0m B0 | exact St.q c0n B0 | exact St.q c1n B0 | exact St.q c2n B0 | exact St.q c3n B0)) (h:=vqf (h:=vq1 (rowq rb1) (h:=vqx (j:=1) (h:=vqf (h:=vqd (y_load1 rfl rfl (ag rfl) (by first | assumption | exact St.q c0m B0 | exact St.q c0n B0 | exact St.q c1n B0 | exact St.q c2n B0 | exact St.q c3n B0)) (h:=vqd (y_sub rfl rfl rfl rfl (by omega)) (h:=vqd (y_quo rfl rfl rfl (by decide) (Int.tdiv_eq_ediv_of_nonneg (by omega)) (by omega)) (h:=vqA (h:=vqa (h:=vQ ?_)))))))))))); intro W12 hb11; replace B0 := Below.next B0 hb11; replace rb1 := row_next rb1 hb11
   refine vT (vS (vR (vlm (h:=vla (h:=vW (vE ?_)))))); intro A f
   refine x_ret1 f rfl rfl ?_
   have e : y.hp.mins.getD z 0 = vm := hXm.out
   exact ⟨by unfold heldH; rw [e, if_neg (by omega), if_pos ⟨by omega, c10⟩]; rw [hne], B0⟩
  intro c10
  refine vlp (h:=vW (vD (h:=vK (vT (vS (vR (vlm (h:=vla (h:=vW (vE ?_)))))))))); intro A f
  refine x_ret1 f rfl rfl ?_
  have e : y.hp.mins.getD z 0 = vm := hXm.out
  exact ⟨by unfold heldH; rw [e, if_neg (by omega), if_neg (fun h => c10 h.2)]; rw [Int.add_zero], B0⟩
 intro c9
 refine vlm (h:=vlO 3 (h:=vlp (h:=vW (vD (h:=vK (vT (vS (vR (vlm (h:=vla (h:=vW (vE ?_)))))))))))); intro A f
 refine x_ret1 f rfl rfl ?_
 have e : y.hp.mins.getD z 0 = vm := hXm.out
 exact ⟨by unfold heldH; rw [e, if_neg (by omega), if_neg (fun h => c9 (by omega))]; rw [Int.add_zero], B0⟩
theorem power_nat (w : World) (n : Nat) (hn : n ≤ 8) :
    Calls Tryz.prog 47 #[.int .i64 n] w fun e w' => e = .returned (.int .i64 ((2 ^ n : Nat) : Int)) ∧ w = w' := by
 obtain ⟨P, hP⟩ : ∃ P : Nat, 2 ^ n = P := ⟨_, rfl⟩
 rw [hP]
 have HP : Hid (2 ^ n = P) := hP
 clear hP
 go_enter Tryz.func47, Tryz.ntmps47
 go_wp2
 go_loopw [0, 3] (fun nv pv wr => ∃ k q : Nat, k ≤ n ∧ q ≤ 256 ∧ nv = .int .i64 k ∧ pv = .int .i64 q ∧ Hid (q * 2 ^ k = P) ∧ w = wr) (fun nv _ _ => (intOf nv).toNat)
 case atStart => exact ⟨n, 1, Nat.le_refl _, by omega, rfl, rfl, by show _ = _; rw [Nat.one_mul]; exact HP.out, rfl⟩
 case round =>
  obtain ⟨k, q, hk, hq, rfl, rfl, hI, rfl⟩ := hrel
  cases k with
  | zero =>
   obtain rfl : q = P := by have := hI.out; simpa using this
   clear hI HP
   go_wp2
   go_ret
   exact ⟨rfl, rfl⟩
  | succ k =>
   have hI2 : Hid (2 * q * 2 ^ k = P) := by have := hI.out; show _ = _; rw [← this, Nat.pow_succ]; rw [Nat.mul_comm 2 q, Nat.mul_assoc, Nat.mul_comm 2]
   have hq3 : 2 * q ≤ 256 := by
    have h1 := hI2.out
    have h2 := HP.out
    have h3 : P ≤ 256 := by rw [← h2]; exact Nat.le_trans (Nat.pow_le_pow_right (by omega) hn) (by decide)
    have h4 := Nat.two_pow_pos k
    have h5 : 2 * q * 1 ≤ 2 * q * 2 ^ k := Nat.mul_le_mul_left _ h4
    omega
   have t1 : (0 : Int) < ((k + 1 : Nat) : Int) := by omega
   clear hI HP
   go_wp2
   go_roundw
   case rel => exact ⟨k, 2 * q, by omega, hq3, by go_num, by go_num, hI2, trivial⟩
   case measure => simp [intOf]
theorem power_any (w : World) (o : Int) (h0 : 0 ≤ o) (h : o ≤ 8) :
    Calls Tryz.prog 47 #[.int .i64 o] w fun e w' => e = .returned (.int .i64 (pw o)) ∧ w = w' := by
 obtain ⟨n, rfl⟩ : ∃ n : Nat, o = n := ⟨o.toNat, by omega⟩
 exact power_nat w n (by omega)
theorem power_q (o : Int) (h0 : 0 ≤ o) (h : o ≤ 8) (w : World) :
    Calls Tryz.prog 47 #[.int .i64 o] w fun e w' => e = .returned (.int .i64 (pw o)) ∧ w' = w :=
 (power_any w o h0 h).mono fun _ _ ⟨h1, h2⟩ => ⟨h1, h2.symm⟩
theorem power_v (o v : Int) (h0 : 0 ≤ o) (h : o ≤ 8) (hv : pw o = v) (w : World) :
    Calls Tryz.prog 47 #[.int .i64 o] w fun e w' => e = .returned (.int .i64 v) ∧ w' = w := by
 subst hv; exact power_q o h0 h w
theorem freeOf_any (w : World) (ao : Option Addr) (n cap : Nat) (l : List Bk) (h : Blks w ao n l) (ho : ∀ i, i < l.length → ordOk (l.getD i .zero).o) :
    Calls Tryz.prog 73 #[.slice ao n cap] w fun e w' => e = .returned (.int .i64 (freeN l)) ∧ ∃ d, w' = w.drewN d := by
 obtain ⟨hn, hr, hx⟩ := h
 go_enter Tryz.func73, Tryz.ntmps73
 go_wp2
 go_loopw [3, 4] (fun v i wr => ∃ (k d : Nat) (q : Int), k ≤ n ∧ i = .int .i64 k ∧ v = .int .i64 q ∧ Hid (freeN (l.take k) = q) ∧ 0 ≤ q ∧ q ≤ 16 * k ∧ wr = w.drewN d) (fun _ i _ => n - (intOf i).toNat)
 case atStart => exact ⟨0, 0, 0, Nat.zero_le _, rfl, rfl, rfl, by omega, by omega, rfl⟩
 case round =>
  obtain ⟨k, d, q, hk, rfl, rfl, hQ, q0, q1, rfl⟩ := hrel
  by_cases hlt : k < n
  ·obtain ⟨b, o, x, y, u, rfl, c1, c2, c3, hX⟩ := (hx.below (below_drawn d)).at k (by omega)
   have hy : ordOk y := by have := ho k (by omega); rw [hX.out] at this; exact this
   obtain ⟨P, hP⟩ : ∃ P, pw y = P := ⟨_, rfl⟩
   have HP : Hid (pw y = P) := hP
   have p1 := pw_pos y
   have p2 := pw_le hy
   have hQ' : Hid (freeN (l.take (k + 1)) = q + P) := by show _ = _; rw [take_getD l k (by omega) hX.out, freeN_snoc, hQ.out, ← hP]
   obtain ⟨y0, y4⟩ := hy
   rw [hP] at p1 p2
   clear hQ hP ho hx hX
   go_wp2_with fail
   go_at_call 47
   refine (power_v y P y0 (by omega) HP.out _).mono ?_
   rintro e w' ⟨rfl, rfl⟩
   go_wp2
   go_roundw
   case rel => exact ⟨k + 1, d, q + P, by omega, by go_num, by go_num, hQ', by omega, by omega, rfl⟩
   case measure => simp [intOf]; omega
  have hk2 : k = n := by omega
  have hQ2 : freeN l = q := by have := hQ.out; rw [List.take_of_length_le (by omega)] at this; exact this
  subst hQ2
  clear hQ
  go_wp2
  go_ret
  exact ⟨rfl, d, rfl⟩
def askF (f : Int) : Int := if flagsOk f then typeF f else -1
theorem askF_no {f : Int} (h : ¬ flag16 f) : askF f = -1 := if_neg (fun g => h g.1)
theorem askF_at {f : Int} (h : flag16 f) : askF f = if f / 2 % 4 = 0 then 0 else if f / 2 % 4 = 1 then 1 else if f / 2 % 4 = 2 then 2 else -1 := by
 refine f16 h (p := fun f => askF f = if f / 2 % 4 = 0 then 0 else if f / 2 % 4 = 1 then 1 else if f / 2 % 4 = 2 then 2 else -1) ?_ ?_ ?_ ?_ ?_ ?_ ?_ ?_ ?_ ?_ ?_ ?_ ?_ ?_ ?_ ?_ <;> decide
theorem typeAsked_c (w : World) (f0 : Int) :
    Calls Tryz.prog 22 #[.int .i64 f0] w fun e w' => e = .returned (.int .i64 (askF f0)) ∧ Below w.heap.size w w' := by
 have B0 := Below.refl w.heap.size w
 refine sx_enter (args := [_]) 15 Tryz.func22 rfl rfl rfl ?_
 refine vS (vR (vla (h:=vW (vS (vS (vR (vlm (h:=?_)))))))); intro A f
 refine l_callif _ f rfl rfl rfl (IsCall.mk' (cap := []) rfl rfl rfl) (pl rfl) (in_c _ _ _ _) ?_ ?_
 ·clear f A; intro c1 W3 hb2 A f
  replace B0 := Below.next B0 hb2
  revert A; refine vln (h:=vW (vD (h:=vK (vT (vS (vS (vR ?_)))))))
  have hf0 : 0 ≤ f0 ∧ f0 ≤ 15 := by omega
  refine vlm (h:=vld (y_quo rfl rfl rfl (by decide) (Int.tdiv_eq_ediv_of_nonneg (by omega)) (by omega)) (h:=vld (y_rem rfl rfl rfl (by decide) (Int.tmod_eq_emod_of_nonneg (by omega))) (h:=vW (vB (vS (vR (vlb (y_eql rfl rfl rfl) (h:=?_) (g:=?_))))))))
  ·intro c4
   refine vla (h:=vW (vC (h:=vS (vR (vla (h:=vW (vE (vG (vF ?_))))))))); intro A f
   refine x_ret1 f rfl rfl ?_
   have hf : flag16 f0 := c1
   exact ⟨by rw [askF_at hf, if_pos c4], B0⟩
  intro c4
  refine vla (h:=vW (vD (h:=vS (vR (vlb (y_eql rfl rfl rfl) (h:=?_) (g:=?_))))))
  ·intro c5
   refine vla (h:=vW (vC (h:=vS (vR (vla (h:=vW (vE (vG (vF ?_))))))))); intro A f
   refine x_ret1 f rfl rfl ?_
   have hf : flag16 f0 := c1
   exact ⟨by rw [askF_at hf, if_neg c4, if_pos c5], B0⟩
  intro c5
  refine vla (h:=vW (vD (h:=vS (vR (vlb (y_eql rfl rfl rfl) (h:=?_) (g:=?_))))))
  ·intro c6
   refine vla (h:=vW (vC (h:=vS (vR (vla (h:=vW (vE (vG (vF ?_))))))))); intro A f
   refine x_ret1 f rfl rfl ?_
   have hf : flag16 f0 := c1
   exact ⟨by rw [askF_at hf, if_neg c4, if_neg c5, if_pos c6], B0⟩
  intro c6
  refine vla (h:=vW (vD (h:=vK (vU (vT (vS (vR (vla (h:=vW (vE ?_)))))))))); intro A f
  refine x_ret1 f rfl rfl ?_
  have hf : flag16 f0 := c1
  exact ⟨by rw [askF_at hf, if_neg c4, if_neg c5, if_neg c6], B0⟩
 clear f A; intro c1 W3 hb2 A f
 replace B0 := Below.next B0 hb2
 revert A; refine vln (h:=vW (vC (h:=vS (vR (vla (h:=vW (vE (vF ?_)))))))); intro A f
 refine x_ret1 f rfl rfl ?_
 exact ⟨by rw [askF_no c1], B0⟩
theorem enough_c (w : World) (y : Hx) (o fl : Int) (z : Nat) (hy : y.At w) (hMn : MnOk y.hp) (hZs : ZsOk y.hp) (hf : flag16 fl) (hz : z < 2) (ho : ordOk o) :
    Calls Tryz.prog 52 #[.agg #[.slice y.zo y.zn y.zc, .slice y.mo y.mn y.mc, .int .i64 y.cpus, .slice y.lo y.ln y.lc, .slice y.vo y.vn y.vc], .int .i64 (z : Nat), .int .i64 o, .int .i64 fl] w fun e w' => e = .returned (.bool (decide (freeN (y.hp.zones.getD z ⟨0, 0, [], []⟩).free - pw o ≥ heldH y.hp z fl))) ∧ Below w.heap.size w w' := by
 have hzl := hy.zones.len
 have hzr := hy.zones.reach
 have hz2 : y.zs.length = 2 := by have := hZs.n; have e : y.hp.zones.length = y.zs.length := (by show (y.zs.map _).length = _; rw [List.length_map]); omega
 have B0 := Below.refl w.heap.size w
 refine sx_enter (args := [_, _, _, _]) 24 Tryz.func52 rfl rfl rfl ?_
 refine vS (vR ?_); intro A f
 refine l_box f rfl rfl rfl rfl rfl ?_; clear f A; intro b1 W2 eb1 hb3 rb1 A f; dsimp only [Value.cells] at rb1
 have z_B0_b1 := B0.size; rw [eb1] at z_B0_b1
 replace B0 := Below.next B0 hb3
 revert A; refine vla (h:=vW (vS ?_)); intro A f
 refine sx_quiet (by kernel_rfl) (by kernel_rfl) ?_
 revert A; refine vqf (h:=vq1 (rowq rb1) (h:=vqm (h:=?_)))
 obtain ⟨gz, oz, zz, foz, fnz, fcz, toz, tnz, tcz, haz, c0z, c1z, c2z, c3z, hatz, hXz⟩ := hy.zones.at (z) (by omega)
 replace c0z := St.of c0z; replace c1z := St.of c1z; replace c2z := St.of c2z; replace c3z := St.of c3z
 have hze : y.hp.zones.getD z ⟨0, 0, [], []⟩ = zz := by rw [zoneOf_hp, hXz.out]
 have hmz : ZMay zz := by rw [← hze]; rcases (show z = 0 ∨ z = 1 by omega) with rfl | rfl; (exact hZs.m0); exact hZs.m1
 have hoz := (free_iff.1 hmz.free).1
 have hnz := hmz.new
 intro A f
 unfold newOk at hnz
 have hfr := freeN_le hmz.free hnz.2.2.2.2 hnz.2.1
 have hpw := pw_pos o
 have hpl := pw_le ho
 revert A; refine vqx (h:=vqf (h:=vqd (y_load1 rfl rfl (ag rfl) (by first | assumption | exact St.q c0z B0 | exact St.q c1z B0 | exact St.q c2z B0 | exact St.q c3z B0)) (h:=vqc (fun wx hx => (freeOf_any wx foz fnz fcz zz.free (hatz.below (Below.next B0 hx)).free (fun i hi => (hoz _ (getD_mem hi)).1.1)).mono (fun e w1 h1 => ⟨h1.1, by obtain ⟨_, d, rfl⟩ := h1; exact Below.next hx (below_drawn d)⟩)) (h:=vqm (h:=vqc (fun wx hx => (power_any wx o ho.1 (by have := ho.2; omega)).mono (fun e w1 h1 => ⟨h1.1, by rw [← h1.2]; exact hx⟩)) (h:=vqd (y_sub rfl rfl rfl rfl (by omega)) (h:=vq5 (rowq rb1) (h:=vqm (h:=vqm (h:=vqc (fun wx hx => (heldBackR_c wx y fl z (hy.below (Below.next B0 hx)) hMn hZs hf hz).mono (fun e w1 h1 => ⟨h1.1, Below.next hx h1.2⟩)) (h:=vqd (y_geq rfl rfl rfl) (h:=vqa (h:=vQ ?_))))))))))))); intro W5 hb4; replace B0 := Below.next B0 hb4; replace rb1 := row_next rb1 hb4
 refine vT (vE ?_); intro A f
 refine x_ret1 f rfl rfl ?_
 exact ⟨by rw [hze], B0⟩
theorem HOwn.hz {w : World} {B gz gl gv : Nat} {y : Hx} (h : HOwn w B gz gl gv y) : HZ w B gz y :=
 ⟨h.oz, h.ez, h.at_, ⟨fun z hz _ a ha => ((h.zoff z hz).1 a ha).1, fun z hz _ a ha => ((h.zoff z hz).2.1 a ha).1, fun _ a ha => (h.moff a ha).1, fun _ a ha => by rw [h.el a ha]; exact Ne.symm h.zl, fun l hl _ a ha => ((h.loff l hl).1 a ha).1, fun _ a ha => by rw [h.ev a ha]; exact Ne.symm h.zv⟩, h.gzB⟩
theorem HOwn.away {w : World} {B gz gl gv b : Nat} {y : Hx} (h : HOwn w B gz gl gv y) (hb : b < B) : Away b y :=
 ⟨fun z hz _ a ha => (by have := (h.zoff z hz).2.2.1 a ha; omega), fun z hz _ a ha => (by have := (h.zoff z hz).2.2.2 a ha; omega), fun _ a ha => (by have := h.mfresh a ha; omega), fun _ a ha => (by rw [h.el a ha]; have := h.glB; omega), fun l hl _ a ha => (by have := (h.loff l hl).2.1 a ha; omega), fun _ a ha => (by rw [h.ev a ha]; have := h.gvB; omega)⟩
theorem at_butA {w w' : World} {b : Nat} {y : Hx} (h : y.At w) (hb : But b w w') (a : Away b y) (z : ∀ c, y.zo = some c → c.block ≠ b) : y.At w' := by
 refine ⟨zons_but h.zones hb (fun _ => z) a.f a.t, nums_but h.mins hb a.m, ⟨h.lists.len, h.lists.reach, ?_, fun l hl => nums_but (h.lists.at_ l hl) hb (a.p l hl)⟩, blks_but h.live hb a.v⟩
 by_cases e : 0 < y.ls.length
 ·exact h.lists.cells.but hb (a.l e)
 intro i hi; rw [List.length_map] at hi; omega
theorem Ex.belowB {P : Nat → Prop} {B : Nat} {w w' : World} (h : Ex P w w') (hP : ∀ k, P k → B ≤ k) (hB : B ≤ w.heap.size) : Below B w w' :=
 ⟨h.os, h.tape, h.output, h.size, fun k hk => h.block k (by omega) (fun hp => by have := hP k hp; omega)⟩
theorem HOwn.below {w w' : World} {B gz gl gv : Nat} {y : Hx} (h : HOwn w B gz gl gv y) (hb : Below w.heap.size w w') : HOwn w' B gz gl gv y :=
 ⟨owns_below h.oz hb (Nat.le_refl _), owns_below h.ol hb (Nat.le_refl _), owns_below h.ov hb (Nat.le_refl _), h.ez, h.el, h.ev, h.at_.below hb, h.zl, h.zv, h.lv, h.zoff, h.loff, h.moff, h.mfresh, h.gzB, h.glB, h.gvB⟩
theorem HOwn.awayGl {w : World} {B gz gl gv : Nat} {y : Hx} (h : HOwn w B gz gl gv y) : AwayL gl y :=
 ⟨fun _ a ha => by rw [h.ez] at ha; cases ha; exact h.zl, fun z hz _ a ha => ((h.zoff z hz).1 a ha).2.1, fun z hz _ a ha => ((h.zoff z hz).2.1 a ha).2.1, fun _ a ha => (h.moff a ha).2.1, fun l hl _ a ha => ((h.loff l hl).1 a ha).2.1, fun _ a ha => by rw [h.ev a ha]; exact Ne.symm h.lv⟩
theorem HOwn.awayLow {w : World} {B gz gl gv b : Nat} {y : Hx} (h : HOwn w B gz gl gv y) (hb : b < B) : AwayL b y :=
 ⟨fun _ a ha => by rw [h.ez] at ha; cases ha; have := h.gzB; dsimp only; omega, fun z hz _ a ha => by have := (h.zoff z hz).2.2.1 a ha; omega, fun z hz _ a ha => by have := (h.zoff z hz).2.2.2 a ha; omega, fun _ a ha => by have := h.mfresh a ha; omega, fun l hl _ a ha => by have := (h.loff l hl).2.1 a ha; omega, fun _ a ha => by rw [h.ev a ha]; have := h.gvB; omega⟩
theorem HOwn.rowL {w : World} {B gz gl gv c : Nat} {y : Hx} (h : HOwn w B gz gl gv y) (hc : c < B) (hw : B ≤ w.heap.size) :
    ∃ g, (∀ a, y.lo = some a → a.block = g) ∧ AwayL g y ∧ gz ≠ g ∧ g < w.heap.size ∧ ((g = gl ∧ ∃ a, y.lo = some a) ∨ g = c) := by
 cases e : y.lo with
 | none => exact ⟨c, (fun a ha => (by cases ha)), h.awayLow hc, (by have := h.gzB; omega), (by omega), .inr rfl⟩
 | some a =>
  have := (owns_blk h.ol a e).2.1
  exact ⟨gl, fun b hb => by rw [← e] at hb; exact h.el b hb, h.awayGl, h.zl, by rw [← h.el a e]; exact this, .inl ⟨rfl, a, rfl⟩⟩
theorem live_few {H : Hp} (h : LvsOk H.live) : H.live.length ≤ 256 := by
 have key : ∀ i, i < H.live.length → (i : Int) ≤ (H.live.getD i .zero).a := by
  intro i
  induction i with
  | zero => intro hi; exact (h.ok 0 hi).a.1
  | succ i ih =>
   intro hi
   have g := ih (by omega)
   have o := h.ord (i + 1) (by omega) hi
   rw [show i + 1 - 1 = i by omega] at o
   omega
 by_cases e : H.live.length ≤ 256
 ·exact e
 have k := key 256 (by omega)
 have m := (h.ok 256 (by omega)).a
 omega
def setStep (x : Ls) (s : List Ls × Bool) (a : Ls) : List Ls × Bool :=
 if a.c = x.c ∧ a.z = x.z ∧ a.t = x.t then
  (if (if s.2 = false ∧ aheadL x a then (s.1 ++ [x], true) else s).2 = false then ((if s.2 = false ∧ aheadL x a then (s.1 ++ [x], true) else s).1 ++ [x], true) else (if s.2 = false ∧ aheadL x a then (s.1 ++ [x], true) else s))
 else ((if s.2 = false ∧ aheadL x a then (s.1 ++ [x], true) else s).1 ++ [a], (if s.2 = false ∧ aheadL x a then (s.1 ++ [x], true) else s).2)
def setFold (x : Ls) (l : List Ls) : List Ls × Bool := l.foldl (setStep x) ([], decide (x.pages.length = 0))
theorem setFold_succ (x : Ls) (l : List Ls) (k : Nat) (h : k < l.length) {a : Ls} (e : l.getD k .zero = a) : setFold x (l.take (k + 1)) = setStep x (setFold x (l.take k)) a := by
 rw [List.getD_eq_getElem?_getD, List.getElem?_eq_getElem h] at e
 simp only [Option.getD_some] at e
 unfold setFold
 rw [List.take_succ_eq_append_getElem h, List.foldl_append, e]
 rfl
theorem setFold_inv {l : List Ls} (hr : RiseP l) (x : Ls) : ∀ k, k ≤ l.length →
    (setFold x (l.take k)).1 = (l.take k).filter (fun a => decide (aheadL a x)) ++ ((if (setFold x (l.take k)).2 = true ∧ x.pages.length ≠ 0 then [x] else []) ++ (l.take k).filter (fun a => decide (aheadL x a))) ∧
    ((setFold x (l.take k)).2 = false ↔ x.pages.length ≠ 0 ∧ ∀ a ∈ l.take k, aheadL a x) := by
 intro k
 induction k with
 | zero =>
  intro _
  refine ⟨?_, ?_⟩
  ·show ([] : List Ls) = _
   by_cases h : x.pages.length = 0 <;> simp [setFold, h]
  simp [setFold]
 | succ k ih =>
  intro hk
  obtain ⟨i1, i2⟩ := ih (by omega)
  obtain ⟨a, ea⟩ : ∃ a, l.getD k .zero = a := ⟨_, rfl⟩
  have hT : ∀ b ∈ l.take k, aheadL b a := fun b hb => by
   obtain ⟨j, hj, _, rfl⟩ := getD_take_mem hb
   rw [← ea]
   exact rise_lt hr hj (by omega)
  rw [setFold_succ x l k (by omega) ea]
  have et : l.take (k + 1) = l.take k ++ [a] := by
   rw [← ea, List.getD_eq_getElem?_getD, List.getElem?_eq_getElem (by omega : k < l.length), List.take_succ_eq_append_getElem (by omega : k < l.length)]
   rfl
  rw [et]
  obtain ⟨T, hTe⟩ : ∃ T, l.take k = T := ⟨_, rfl⟩
  obtain ⟨s, hs⟩ : ∃ s, setFold x (l.take k) = s := ⟨_, rfl⟩
  rw [hs] at i1 i2 ⊢
  rw [hTe] at i1 i2 hT ⊢
  clear hs hTe et
  obtain ⟨o, d⟩ := s
  dsimp only at i1 i2
  have hno : (∀ b ∈ T, aheadL b x) → T.filter (fun a => decide (aheadL x a)) = [] := fun g => filter_none (fun b hb => decide_eq_false (ahead_asymm (g b hb)))
  rw [List.filter_append, List.filter_append]
  rcases ahead_three a x with g | g | g
  ·have gT : ∀ b ∈ T, aheadL b x := fun b hb => ahead_trans (hT b hb) g
   have g1 := ahead_asymm g
   have g2 : ¬ (a.c = x.c ∧ a.z = x.z ∧ a.t = x.t) := fun h => by unfold aheadL at g; omega
   rw [hno gT] at i1 ⊢
   have i3 : d = false ↔ x.pages.length ≠ 0 := ⟨fun h => (i2.1 h).1, fun h => i2.2 ⟨h, gT⟩⟩
   have hite : ¬ (d = true ∧ x.pages.length ≠ 0) := fun h => by have := i3.2 h.2; rw [this] at h; cases h.1
   rw [if_neg hite] at i1
   unfold setStep
   rw [if_neg g2, if_neg (fun h => g1 h.2)]
   dsimp only
   rw [if_neg hite, i1]
   refine ⟨by simp [g, g1], ?_⟩
   rw [i3]
   simp only [List.mem_append, List.mem_singleton]
   constructor
   ·intro h
    refine ⟨h, fun b hb => ?_⟩
    rcases hb with hb | rfl
    ·exact gT b hb
    exact g
   exact fun h => h.1
  ·have g1 := ahead_asymm g
   have g2 : ¬ (a.c = x.c ∧ a.z = x.z ∧ a.t = x.t) := fun h => by unfold aheadL at g; omega
   have hr2 : ∀ d' : Bool, d' = true → (d' = false ↔ x.pages.length ≠ 0 ∧ ∀ b ∈ T ++ [a], aheadL b x) := fun d' h => by
    subst h
    simp only [Bool.true_eq_false, false_iff]
    exact fun h => g1 (h.2 a (by simp))
   unfold setStep
   rw [if_neg g2]
   by_cases hd : d = false
   ·obtain ⟨p1, p2⟩ := i2.1 hd
    subst hd
    rw [hno p2] at i1 ⊢
    rw [if_pos ⟨rfl, g⟩]
    refine ⟨?_, hr2 _ rfl⟩
    dsimp only
    rw [i1]
    simp [g, g1, p1]
   have hd' : d = true := by simpa using hd
   subst hd'
   rw [if_neg (fun h => hd h.1)]
   refine ⟨?_, hr2 _ rfl⟩
   dsimp only
   rw [i1]
   simp [g, g1]
  have g1 : ¬ aheadL a x := fun h => by unfold aheadL at h; omega
  have g2 : ¬ aheadL x a := fun h => by unfold aheadL at h; omega
  have hr2 : ∀ d' : Bool, d' = true → (d' = false ↔ x.pages.length ≠ 0 ∧ ∀ b ∈ T ++ [a], aheadL b x) := fun d' h => by
   subst h
   simp only [Bool.true_eq_false, false_iff]
   exact fun h => g1 (h.2 a (by simp))
  have hne : ¬ ((o, d).2 = false ∧ aheadL x a) := fun h => g2 h.2
  unfold setStep
  rw [if_pos g, if_neg hne]
  by_cases hd : d = false
  ·obtain ⟨p1, p2⟩ := i2.1 hd
   subst hd
   rw [hno p2] at i1 ⊢
   rw [if_pos rfl]
   refine ⟨?_, hr2 _ rfl⟩
   dsimp only
   rw [i1]
   simp [g1, g2, p1]
  have hd' : d = true := by simpa using hd
  subst hd'
  rw [if_neg hd]
  refine ⟨?_, hr2 _ rfl⟩
  dsimp only
  rw [i1]
  simp [g1, g2]
theorem setFold_eq {l : List Ls} (hr : RiseP l) (x : Ls) : (if (setFold x l).2 = false then (setFold x l).1 ++ [x] else (setFold x l).1) = setLs l x := by
 obtain ⟨i1, i2⟩ := setFold_inv hr x l.length (Nat.le_refl _)
 rw [List.take_of_length_le (Nat.le_refl _)] at i1 i2
 unfold setLs
 by_cases h : (setFold x l).2 = false
 ·obtain ⟨p1, p2⟩ := i2.1 h
  rw [if_pos h, i1, h, if_neg p1, filter_none (l := l) (p := fun a => decide (aheadL x a)) (fun b hb => decide_eq_false (ahead_asymm (p2 b hb)))]
  simp
 rw [if_neg h, i1]
 have h' : (setFold x l).2 = true := by simpa using h
 rw [h']
 by_cases hp : x.pages.length = 0
 ·rw [if_neg (fun g => g.2 hp), if_pos hp]
 rw [if_pos ⟨rfl, hp⟩, if_neg hp]
theorem appL_run (w : World) (ty : TypeId) (base : Nat) (uo : Option Addr) (un uc : Nat) (ls : List Lc) (z : Lc) (gv : Nat) (own : w.ownsRow base 40 4 (.slice uo un uc) un (c4 (ls.map Lc.q))) (hn : un ≤ 300) (hb : base ≤ w.heap.size)
    (hr : w.heap[gv]? = some (.cells #[z.q.a, z.q.b, z.q.c, z.q.d] 40 (0, 0))) :
    ∃ g' c' W, (Builtin.append_ #[24, 24] ty #[.slice uo un uc, .slice (some ⟨gv, 0, none⟩) 1 1]).run Tryz.prog w = .ok (.slice (some ⟨g', 0, none⟩) (un + 1) c') W ∧
     W.ownsRow base 40 4 (.slice (some ⟨g', 0, none⟩) (un + 1) c') (un + 1) (c4 ((ls ++ [z]).map Lc.q)) ∧ Below base w W := by
 obtain ⟨i1, hj, hy0, hy1, hy2⟩ := info_parts info_list
 have hnews : ∀ j v, ([z.q.a, z.q.b, z.q.c, z.q.d] : List Value)[j]? = some v → w.cell? ((⟨gv, 0, none⟩ : Addr).add j) = some v := by
  intro j v hjv
  rw [add_at, Nat.zero_add]
  simp only [World.cell?, hr]
  simpa using hjv
 obtain ⟨g', c', W, hrun, ow, hcs⟩ := append_row (P := Tryz.prog) w base 24 ty 40 i1 _ 4 Tryz.underlying24 hj hy0 hy1 rfl uo un uc (c4 (ls.map Lc.q)) own ⟨gv, 0, none⟩ 1 1 [z.q.a, z.q.b, z.q.c, z.q.d] rfl hnews (q4_one ⟨rfl, rfl, rfl, rfl⟩) (by omega) (by unfold maxLen; omega) (by rw [hy2]; omega) hb
 refine ⟨g', c', W, hrun, ?_, ?_⟩
 ·rw [List.map_append, c4_append]
  exact ow
 rcases hcs with ⟨_, h⟩ | ⟨_, h⟩
 ·have hg : base ≤ g' := (owns_blk ow _ rfl).1
  exact h.below hg hb
 exact h.mono hb
theorem l_bs4 {A : Act} {N d gv : Nat} {L : List (Nat × Value)} {l rest : List Oper} {o : Oper} {w : World} {Q : Exit → Act → World → Prop} {x : Operand} {a b c e : Value} (f : Fr A N L) (hg : gv = w.heap.size)
    (h : ∀ W, Below w.heap.size w W → W.heap[gv]? = some (.cells #[a, b, c, e] 40 (0, 0)) → ∀ A', Fr A' N ((d, .slice (some ⟨gv, 0, none⟩) 1 1) :: L) → wpList Tryz.prog l.toArray Q rest A' W)
    (ho : o.op = .buildSlice 24 1 [(0, x)].toArray := by exact rfl) (hx : ev L x = some (.agg #[a, b, c, e]) := by exact rfl) (hd : o.dst = some d := by exact rfl) (hN : Nat.blt d N = true := by exact rfl) (hw : wantB l L o = some true := by exact rfl) : wpList Tryz.prog l.toArray Q (o :: rest) A w := by
 subst hg
 refine l_opR (R := fun v W => v = .slice (some ⟨w.heap.size, 0, none⟩) 1 1 ∧ Below w.heap.size w W ∧ W.heap[w.heap.size]? = some (.cells #[a, b, c, e] 40 (0, 0))) f hd hN hw ⟨_, _, bs_exec (vs := [(0, .agg #[a, b, c, e])]) f ho (by simp [evp, hx]) (bs_listH _ _ _ _ _), rfl, (Below.refl _ _).alloc (Nat.le_refl _) _, by show (Array.push _ _)[_]? = _; rw [Array.getElem?_push, if_pos rfl]⟩ ?_
 rintro _ W ⟨rfl, hb, hr⟩ A' f'
 exact h W hb hr A' f'
theorem l_apL {A : Act} {N d : Nat} {L : List (Nat × Value)} {l rest : List Oper} {o : Oper} {w : World} {Q : Exit → Act → World → Prop} {x y : Operand} {base : Nat} {uo : Option Addr} {un uc : Nat} {ls : List Lc} (z : Lc) {gv : Nat} (f : Fr A N L) (own : w.ownsRow base 40 4 (.slice uo un uc) un (c4 (ls.map Lc.q))) (hn : un ≤ 300) (hb : base ≤ w.heap.size)
    (hr : w.heap[gv]? = some (.cells #[z.q.a, z.q.b, z.q.c, z.q.d] 40 (0, 0)))
    (h : ∀ v W, (∃ g2 c2, v = .slice (some ⟨g2, 0, none⟩) (un + 1) c2 ∧ W.ownsRow base 40 4 (.slice (some ⟨g2, 0, none⟩) (un + 1) c2) (un + 1) (c4 ((ls ++ [z]).map Lc.q)) ∧ Below base w W) → ∀ A', Fr A' N ((d, v) :: L) → wpList Tryz.prog l.toArray Q rest A' W)
    (ho : o.op = .call ⟨.builtin .append, #[x, y], #[24, 24]⟩ := by exact rfl) (hx : ev L x = some (.slice uo un uc) := by exact rfl) (hy : ev L y = some (.slice (some ⟨gv, 0, none⟩) 1 1) := by exact rfl) (hd : o.dst = some d := by exact rfl) (hN : Nat.blt d N = true := by exact rfl) (hw : wantB l L o = some true := by exact rfl) : wpList Tryz.prog l.toArray Q (o :: rest) A w :=
 l_opR f hd hN hw (by obtain ⟨g2, c2, W2, h1, h2, h3⟩ := appL_run w o.type base uo un uc ls z gv own hn hb hr; exact ⟨_, W2, append_exec f ho hx hy h1, g2, c2, rfl, h2, h3⟩) h
theorem overlaps_any (w : World) (ao : Option Addr) (n cap : Nat) (l : List Bk) (a o : Int) (h : Blks w ao n l) (ho : ∀ i, i < l.length → ordOk (l.getD i .zero).o ∧ 0 ≤ (l.getD i .zero).a ∧ (l.getD i .zero).a ≤ 256) (hoo : ordOk o) (h0 : 0 ≤ a) (h1 : a ≤ 256) :
    Calls Tryz.prog 46 #[.slice ao n cap, .int .i64 a, .int .i64 o] w fun e w' => RetIff e (∃ i, i < l.length ∧ (l.getD i .zero).a < a + pw o ∧ a < (l.getD i .zero).a + pw (l.getD i .zero).o) ∧ ∃ d, w' = w.drewN d := by
 obtain ⟨hn, hr, hx⟩ := h
 obtain ⟨P, hP⟩ : ∃ P, pw o = P := ⟨_, rfl⟩
 have HP : Hid (pw o = P) := hP
 have p1 := pw_pos o
 have p2 := pw_le hoo
 obtain ⟨o0, o4⟩ := hoo
 rw [hP] at p1 p2 ⊢
 clear hP
 go_enter Tryz.func46, Tryz.ntmps46
 go_wp2
 go_loopw [7] (fun i wr => ∃ k : Nat, k ≤ n ∧ i = .int .i64 k ∧ Hid (∀ i, i < k → ¬ ((l.getD i .zero).a < a + P ∧ a < (l.getD i .zero).a + pw (l.getD i .zero).o)) ∧ ∃ d, wr = w.drewN d) (fun i _ => n - (intOf i).toNat)
 case atStart => exact ⟨0, Nat.zero_le _, rfl, (fun i hi => absurd hi (Nat.not_lt_zero i)), 0, rfl⟩
 case round =>
  obtain ⟨k, hk, rfl, hN, hd⟩ := hrel
  have hbw : Below w.heap.size w wr := by obtain ⟨d, rfl⟩ := hd; exact below_drawn d
  by_cases hlt : k < n
  ·obtain ⟨b, bo, x, y, u, rfl, c1, c2, c3, hX⟩ := (hx.below hbw).at k (by omega)
   have hy : ordOk y ∧ 0 ≤ x ∧ x ≤ 256 := by have := ho k (by omega); rw [hX.out] at this; exact this
   obtain ⟨hy1, x0, x1⟩ := hy
   obtain ⟨P', hP'⟩ : ∃ P', pw y = P' := ⟨_, rfl⟩
   have HP' : Hid (pw y = P') := hP'
   have p1' := pw_pos y
   have p2' := pw_le hy1
   obtain ⟨y0, y4⟩ := hy1
   rw [hP'] at p1' p2'
   clear hP' c3
   by_cases g1 : x < a + P
   ·have g1b : decide (x < a + P) = true := decide_eq_true g1
    by_cases g2 : a < x + P'
    ·have g2b : decide (a < x + P') = true := decide_eq_true g2
     have HT : Hid (∃ i, i < l.length ∧ (l.getD i .zero).a < a + P ∧ a < (l.getD i .zero).a + pw (l.getD i .zero).o) := ⟨k, by omega, by rw [hX.out]; exact g1, by rw [hX.out]; dsimp only; rw [HP'.out]; exact g2⟩
     clear hN ho hx hX
     go_wp2
     go_quiet (first | (go_at_call_of 47 o; exact Calls.quiet_of_same (power_v o P o0 (by omega) HP.out _)) | (go_at_call_of 47 y; exact Calls.quiet_of_same (power_v y P' y0 (by omega) HP'.out _)))
     go_wp2
     go_ret
     exact ⟨⟨true, rfl, fun _ => HT.out, fun _ => rfl⟩, drawn_more hd _⟩
    have g2b : decide (a < x + P') = false := decide_eq_false g2
    have hN' : Hid (∀ i, i < k + 1 → ¬ ((l.getD i .zero).a < a + P ∧ a < (l.getD i .zero).a + pw (l.getD i .zero).o)) := fun i hi => by
     by_cases e : i = k
     ·rw [e, hX.out]; dsimp only; rw [HP'.out]; exact fun g => g2 g.2
     exact hN.out i (by omega)
    clear hN ho hX
    go_wp2
    go_quiet (first | (go_at_call_of 47 o; exact Calls.quiet_of_same (power_v o P o0 (by omega) HP.out _)) | (go_at_call_of 47 y; exact Calls.quiet_of_same (power_v y P' y0 (by omega) HP'.out _)))
    go_wp2
    go_roundw
    case rel => exact ⟨k + 1, by omega, by go_num, hN', drawn_more hd _⟩
    case measure => simp [intOf]; omega
   have g1b : decide (x < a + P) = false := decide_eq_false g1
   have hN' : Hid (∀ i, i < k + 1 → ¬ ((l.getD i .zero).a < a + P ∧ a < (l.getD i .zero).a + pw (l.getD i .zero).o)) := fun i hi => by
    by_cases e : i = k
    ·rw [e, hX.out]; exact fun g => g1 g.1
    exact hN.out i (by omega)
   clear hN ho hX
   go_wp2
   go_quiet (first | (go_at_call_of 47 o; exact Calls.quiet_of_same (power_v o P o0 (by omega) HP.out _)) | (go_at_call_of 47 y; exact Calls.quiet_of_same (power_v y P' y0 (by omega) HP'.out _)))
   go_wp2
   go_roundw
   case rel => exact ⟨k + 1, by omega, by go_num, hN', drawn_more hd _⟩
   case measure => simp [intOf]; omega
  have HF : Hid (¬ ∃ i, i < l.length ∧ (l.getD i .zero).a < a + P ∧ a < (l.getD i .zero).a + pw (l.getD i .zero).o) := fun ⟨i, hi, g⟩ => hN.out i (by omega) g
  clear hN ho
  go_wp2
  go_ret
  exact ⟨⟨false, rfl, fun g => (by cases g), fun g => absurd g HF.out⟩, hd⟩
structure AllI (w : World) (ab r : Nat) (P : List Bk) (ao : Option Addr) (cap : Nat) : Prop where
 c : w.cell? ⟨ab, 0, none⟩ = some (.slice ao P.length cap)
 z : w.frozen? ⟨ab, 0, none⟩ = false
 own : w.ownsRow (ab + 1) 53 3 (.slice ao P.length cap) P.length (bvals P)
 r : ∀ a, ao = some a → a.block = r
theorem AllI.lt {w : World} {ab r : Nat} {P : List Bk} {ao : Option Addr} {cap : Nat} (h : AllI w ab r P ao cap) : ab < w.heap.size := by
 have := World.block_lt_of_cell? w _ h.c
 exact this
theorem AllI.below {w w' : World} {ab r : Nat} {P : List Bk} {ao : Option Addr} {cap : Nat} (h : AllI w ab r P ao cap) (hb : Below w.heap.size w w') : AllI w' ab r P ao cap :=
 ⟨keep h.c hb, (hb.frozen (p := ⟨ab, 0, none⟩) h.lt).trans h.z, owns_below h.own hb (Nat.le_refl _), h.r⟩
theorem overlaps_b (w : World) (ao : Option Addr) (n cap : Nat) (l : List Bk) (a o : Int) (r : Bool) (h : Blks w ao n l) (ho : ∀ i, i < l.length → InP (l.getD i .zero)) (hb : ordOk o) (h0 : 0 ≤ a) (h1 : a ≤ 256) (hr : r = true ↔ ovlP l a o) :
    Calls Tryz.prog 46 #[.slice ao n cap, .int .i64 a, .int .i64 o] w fun e w' => e = .returned (.bool r) ∧ ∃ d, w' = w.drewN d := by
 refine (overlaps_any w ao n cap l a o h (fun i hi => ⟨(ho i hi).1, (ho i hi).2.1, by have := (ho i hi).2.2; have := pw_pos (l.getD i .zero).o; omega⟩) hb h0 h1).mono ?_
 rintro e w' ⟨⟨q, rfl, hq⟩, hd⟩
 refine ⟨?_, hd⟩
 have : q = r := by
  have e : (q = true) ↔ (r = true) := hq.trans hr.symm
  cases q <;> cases r <;> simp_all
 rw [this]
def AddR (w w' : World) (ab r : Nat) (P : List Bk) (b : Bk) (e : Ending) : Prop :=
 (e = .returned (.bool true) ∧ ¬ ovlP P b.a b.o ∧ ∃ r' ao cap, AllI w' ab r' (P ++ [b]) ao cap ∧ (r' = r ∨ w.heap.size ≤ r') ∧ Bu2 r ab w w') ∨ (e = .returned (.bool false) ∧ ovlP P b.a b.o ∧ Below w.heap.size w w')
theorem heapMayF_any (w : World) (ab r : Nat) (P : List Bk) (ao : Option Addr) (cap : Nat) (b : Bk) (hA : AllI w ab r P ao cap) (hP : ∀ i, i < P.length → InP (P.getD i .zero)) (hn : P.length ≤ 4096) (hb : InP b) :
    Calls Tryz.prog 45 #[.agg #[.int .i64 b.a, .int .i64 b.o, .int .i64 b.t], .pointer (some ⟨ab, 0, none⟩)] w fun e w' => AddR w w' ab r P b e := by
 obtain ⟨a, o, t⟩ := b
 obtain ⟨h1, h2, h3⟩ := hb
 dsimp only at h1 h2 h3 ⊢
 have hp := pw_pos o
 have hp16 := pw_le h1
 obtain ⟨i1, hj, hy0, hy1, hy2⟩ := info_parts info_block
 have hbb := below_box w (.cells #[.int .i64 a, .int .i64 o, .int .i64 t] 53)
 have y0 : (w.alloc (.cells #[.int .i64 a, .int .i64 o, .int .i64 t] 53)).cell? ⟨w.heap.size, 0, none⟩ = some (.int .i64 a) := by go_simp
 have y1 : (w.alloc (.cells #[.int .i64 a, .int .i64 o, .int .i64 t] 53)).cell? ⟨w.heap.size, 1, none⟩ = some (.int .i64 o) := by go_simp
 have y2 : (w.alloc (.cells #[.int .i64 a, .int .i64 o, .int .i64 t] 53)).cell? ⟨w.heap.size, 2, none⟩ = some (.int .i64 t) := by go_simp
 have hA0 := hA.below hbb
 obtain ⟨W0, hW0⟩ : ∃ W0, w.alloc (.cells #[.int .i64 a, .int .i64 o, .int .i64 t] 53) = W0 := ⟨_, rfl⟩
 rw [hW0] at hbb y0 y1 y2 hA0
 have HW0 : Hid _ := hW0
 clear hW0
 have c0 := hA0.c
 obtain ⟨PW, hPW⟩ : ∃ PW, pw o = PW := ⟨_, rfl⟩
 have HPW : Hid (pw o = PW) := hPW
 have HPow := fun W => power_v o PW (by unfold ordOk at h1; omega) (by unfold ordOk at h1; omega) hPW W
 rw [hPW] at hp hp16 h3
 have hBk : ∀ d, Blks (W0.drewN d) ao P.length P := fun d => (blks_own hA0.own (by omega)).below (below_drawn d)
 obtain ⟨n, hnn⟩ : ∃ n, P.length = n := ⟨_, rfl⟩
 have hab := hA.lt
 clear hPW
 by_cases hov : ovlP P a o
 ·have HO := fun d => overlaps_b (W0.drewN d) ao P.length cap P a o true (hBk d) hP h1 h2 (by omega) ⟨fun _ => hov, fun _ => rfl⟩
  have HV : Hid _ := hov
  clear hBk hov
  rw [hnn] at HO c0
  clear hnn
  go_enter Tryz.func45, Tryz.ntmps45
  go_wp2_with (rw [HW0.out])
  go_quiet (first | (go_at_call 46; exact Calls.quiet_of (HO _)) | (go_at_call 47; exact Calls.quiet_of_same (HPow _)))
  go_wp2
  go_ret
  exact .inr ⟨rfl, HV.out, hbb.trans ((below_drawn _).mono hbb.size)⟩
 have HO := fun d => overlaps_b (W0.drewN d) ao P.length cap P a o false (hBk d) hP h1 h2 (by omega) ⟨fun h => (by cases h), fun h => absurd h hov⟩
 have HV : Hid _ := hov
 have t1 : decide (a < 0) = false := decide_eq_false (by omega)
 have t2 : decide ((256 : Int) < a + PW) = false := decide_eq_false (by omega)
 have w1 : IntKind.i64.wrap (a + PW) = a + PW := IntWalk.i64_in _ (by omega)
 clear hBk hov
 have HNN : Hid _ := hnn
 rw [hnn] at HO c0
 clear hnn
 go_enter Tryz.func45, Tryz.ntmps45
 go_wp2_with (rw [HW0.out])
 go_quiet (first | (go_at_call 46; exact Calls.quiet_of (HO _)) | (go_at_call 47; exact Calls.quiet_of_same (HPow _)))
 have hB1 := hbb.trans ((below_drawn nq).mono hbb.size)
 have A1 := hA0.below (below_drawn nq)
 replace y0 := keep y0 (below_drawn nq)
 replace y1 := keep y1 (below_drawn nq)
 replace y2 := keep y2 (below_drawn nq)
 generalize W0.drewN nq = W1 at hB1 A1 y0 y1 y2 ⊢
 clear HO HPow c0 t1 t2 w1 hA0 HW0
 have A2 := A1.below (below_box W1 (.cells #[.int .i64 a, .int .i64 o, .int .i64 t] 53))
 have hs2 : ab + 1 ≤ (W1.alloc (.cells #[.int .i64 a, .int .i64 o, .int .i64 t] 53)).heap.size := by have := A2.lt; omega
 obtain ⟨g', cap', W6, hrun, o6, hc6⟩ := append_row (P := Tryz.prog) (W1.alloc (.cells #[.int .i64 a, .int .i64 o, .int .i64 t] 53)) (ab + 1) 25 25 53 i1 _ 3 Tryz.underlying25 hj hy0 hy1 rfl ao P.length cap (bvals P) A2.own ⟨W1.heap.size, 0, none⟩ 1 1 [.int .i64 a, .int .i64 o, .int .i64 t] rfl (cell_three_new _ _ _ _ _) (ints_oneCell .i64 [_, _, _]) (by omega) (by unfold maxLen; omega) (by rw [hy2]; omega) hs2
 have o6' : W6.ownsRow (ab + 1) 53 3 (.slice (some ⟨g', 0, none⟩) (P.length + 1) cap') (P.length + 1) (bvals (P ++ [⟨a, o, t⟩])) := by rw [bvals_append]; exact o6
 have hg6 : ab + 1 ≤ g' := (o6'.lt _ rfl).1
 have hB2 : Below w.heap.size w (W1.alloc (.cells #[.int .i64 a, .int .i64 o, .int .i64 t] 53)) := hB1.trans ((below_box _ _).mono hB1.size)
 have hU : Bu2 r ab w W6 ∧ (g' = r ∨ w.heap.size ≤ g') := by
  rcases hc6 with ⟨e, hbt⟩ | ⟨e, hbl⟩
  ·have : g' = r := A2.r _ e
   subst this
   exact ⟨(Bu2.of_below hB2).trans (Bu2.of_but_g hbt), .inl rfl⟩
  exact ⟨(Bu2.of_below hB2).trans (Bu2.of_below hbl), .inr (by have := hB2.size; omega)⟩
 have hcell : (∃ v, W6.cell? ⟨ab, 0, none⟩ = some v) ∧ W6.frozen? ⟨ab, 0, none⟩ = false := by
  rcases hc6 with ⟨e, hbt⟩ | ⟨e, hbl⟩
  ·exact ⟨⟨_, hbt.cell A2.c (by omega)⟩, (World.frozen?_of_block (a := ⟨ab, 0, none⟩) (hbt.block ab A2.lt (by omega))).trans A2.z⟩
  exact ⟨⟨_, keep A2.c hbl⟩, (hbl.frozen (p := ⟨ab, 0, none⟩) A2.lt).trans A2.z⟩
 obtain ⟨⟨v6, c6⟩, z6⟩ := hcell
 have hfin : AddR w (W6.setCell ⟨ab, 0, none⟩ (.slice (some ⟨g', 0, none⟩) (P.length + 1) cap')) ab r P ⟨a, o, t⟩ (.returned (.bool true)) := by
  have hbs : But ab W6 (W6.setCell ⟨ab, 0, none⟩ (.slice (some ⟨g', 0, none⟩) (P.length + 1) cap')) := (But.refl ab W6).setCell (o := 0) _
  have hl : (P ++ [(⟨a, o, t⟩ : Bk)]).length = P.length + 1 := by simp
  refine .inl ⟨rfl, HV.out, g', some ⟨g', 0, none⟩, cap', ⟨?_, by simpa using z6, ?_, fun a ha => by cases ha; rfl⟩, hU.2, hU.1.trans (Bu2.of_but_z hbs)⟩
  ·rw [hl]; exact World.cell?_setCell_same _ _ _ c6
  rw [hl]; exact own_but o6' hbs (by omega)
 have HF : Hid (∀ e, e = .returned (.bool true) → AddR w (W6.setCell ⟨ab, 0, none⟩ (.slice (some ⟨g', 0, none⟩) (P.length + 1) cap')) ab r P ⟨a, o, t⟩ e) := fun e he => he ▸ hfin
 have HR : Hid _ := hrun
 have c1 := A1.c
 rw [HNN.out] at c1 HR HF
 clear hfin hrun hc6 o6 o6' hU A2 A1 hB2
 go_wp2_with (at_builtin; refine Lib.wpList_append_run _ rfl (.tmp 24) (.tmp 26) 25 25 rfl _ _ rfl rfl _ _ HR.out ?_)
 go_ret
 exact HF.out _ rfl
theorem ahead_b (w : World) (a b : Ls) (po po' : Value) (r : Bool) (hr : r = true ↔ aheadL a b) :
    Calls Tryz.prog 48 #[.agg #[.int .i64 a.c, .int .i64 a.z, .int .i64 a.t, po], .agg #[.int .i64 b.c, .int .i64 b.z, .int .i64 b.t, po']] w fun e w' => e = .returned (.bool r) ∧ Below w.heap.size w w' := by
 have hb1 := below_box w (.cells #[.int .i64 a.c, .int .i64 a.z, .int .i64 a.t, po] 40)
 have hb2 := below_box (w.alloc (.cells #[.int .i64 a.c, .int .i64 a.z, .int .i64 a.t, po] 40)) (.cells #[.int .i64 b.c, .int .i64 b.z, .int .i64 b.t, po'] 40)
 have hb0 := hb1.trans (hb2.mono hb1.size)
 obtain ⟨ac, az, at', ap⟩ := a
 obtain ⟨bc, bz, bt, bp⟩ := b
 unfold aheadL at hr
 dsimp only at hr hb0 ⊢
 clear hb1 hb2
 rcases (show ac < bc ∨ bc < ac ∨ ac = bc by omega) with h | h | h
 ·obtain rfl : r = true := hr.2 (.inl h)
  have q : decide (ac < bc) = true := decide_eq_true h
  clear hr
  go_enter Tryz.func48, Tryz.ntmps48
  go_wp2
  go_ret
  exact ⟨rfl, hb0⟩
 ·obtain rfl : r = false := by cases r with
   | false => rfl
   | true => have := hr.1 rfl; omega
  have q : decide (ac < bc) = false := decide_eq_false (by omega)
  have q1 : (ac == bc) = false := by simp; omega
  clear hr
  go_enter Tryz.func48, Tryz.ntmps48
  go_wp2
  go_ret
  exact ⟨rfl, hb0⟩
 subst h
 have q : decide (ac < ac) = false := decide_eq_false (by omega)
 have q1 : (ac == ac) = true := by simp
 rcases (show az < bz ∨ bz < az ∨ az = bz by omega) with h | h | h
 ·obtain rfl : r = true := hr.2 (.inr ⟨rfl, .inl h⟩)
  have q2 : decide (az < bz) = true := decide_eq_true h
  clear hr
  go_enter Tryz.func48, Tryz.ntmps48
  go_wp2
  go_ret
  exact ⟨rfl, hb0⟩
 ·obtain rfl : r = false := by cases r with
   | false => rfl
   | true => have := hr.1 rfl; omega
  have q2 : decide (az < bz) = false := decide_eq_false (by omega)
  have q3 : (az == bz) = false := by simp; omega
  clear hr
  go_enter Tryz.func48, Tryz.ntmps48
  go_wp2
  go_ret
  exact ⟨rfl, hb0⟩
 subst h
 have q2 : decide (az < az) = false := decide_eq_false (by omega)
 have q3 : (az == az) = true := by simp
 by_cases h : at' < bt
 ·obtain rfl : r = true := hr.2 (.inr ⟨rfl, .inr ⟨rfl, h⟩⟩)
  have q4 : decide (at' < bt) = true := decide_eq_true h
  clear hr
  go_enter Tryz.func48, Tryz.ntmps48
  go_wp2
  go_ret
  exact ⟨rfl, hb0⟩
 obtain rfl : r = false := by cases r with
  | false => rfl
  | true => have := hr.1 rfl; omega
 have q4 : decide (at' < bt) = false := decide_eq_false h
 clear hr
 go_enter Tryz.func48, Tryz.ntmps48
 go_wp2
 go_ret
 exact ⟨rfl, hb0⟩
end Go.Proofs.YtbjlbmofdnkmiaaGreatDoor
