/-
  OWN TEXTS.
-/
import Derived.Test.YtbjlbmofdnkmiaaGreatDoorPagesAllocsPart11
set_option maxRecDepth 10000
set_option maxHeartbeats 4000000
namespace Go.Proofs.YtbjlbmofdnkmiaaGreatDoor
open Go Go.RowKit Go.Proofs.YtbjlbmofdnkmiaaGreatDoor.Kit
set_option maxHeartbeats 16000000 in
theorem takenOf_main (w : World) (fo : Option Addr) (fn fc : Nat) (to_ : Option Addr) (tn tc : Nat) (z : Zn) (o t : Int) (h : ZnAt w fo fn to_ tn z) (hM : ZMay z) (ho : ordOk o) (ht : typeOk t) :
    Calls Tryz.prog 53 #[.agg #[.int .i64 z.f, .int .i64 z.t, .slice fo fn fc, .slice to_ tn tc], .int .i64 o, .int .i64 t] w fun e w' => ((chooseI z.free o t < 0 ∧ RetNone3 6 e) ∨ ∃ i : Nat, chooseI z.free o t = i ∧ RetZone3 w.heap.size w' (takeZ z o t i) (z.free.getD i .zero).a e) ∧ Below w.heap.size w w' := by
 have I0 := cbI_first w fo fn fc to_ tn tc z h
 have c0 := I0.box.c0
 have c1 := I0.box.c1
 have c2 := I0.box.c2
 have c3 := I0.box.c3
 have HO : Hid (inB o 0 4 = true) := inB_t ho
 have HT : Hid (inB t 0 2 = true) := inB_t ht
 have hlen := h.free.len
 have hbl := may_len hM
 have hrise := rise_of hM
 obtain ⟨n1, n2, n3, n4, n5⟩ := hM.new
 have ho0 : 0 ≤ o := ho.1
 have ho4 : o ≤ 4 := ho.2
 clear h
 go_enter Tryz.func53, Tryz.ntmps53
 conv => arg 2; arg 2; arg 2; arg 2; arg 2; arg 2; arg 2; arg 2; arg 2; arg 2; change takenEnd
 go_wp2_with fail
 go_at_call 44
 refine (zoneMay_any _ fo fn fc to_ tn tc z I0.zn).mono ?_
 rintro e w1 ⟨⟨r, rfl, hr⟩, hb⟩
 obtain rfl : r = true := hr.2 hM
 have I1 := I0.step hb
 clear I0 hb hr c0 c1 c2 c3
 have c0 := I1.box.c0
 have c1 := I1.box.c1
 have c2 := I1.box.c2
 have c3 := I1.box.c3
 go_wp2_with fail
 go_at_call 21
 refine (in_any o 0 4 _).mono ?_
 rintro e wq ⟨rfl, rfl⟩
 rw [HO.out]
 go_wp2_with fail
 go_at_call 21
 refine (in_any t 0 2 _).mono ?_
 rintro e wq ⟨rfl, rfl⟩
 rw [HT.out]
 go_wp2_with fail
 go_at_call 10
 refine (zoneCopy_own _ fo fn fc to_ tn tc z I1.zn).mono ?_
 rintro e w3 ⟨⟨xo, xc, yo, yc, rfl, o1, o2, hap⟩, hb3⟩
 have I3 := I1.step hb3
 have hs1 := I1.size
 have hs3 := I3.size
 have hbx := below_box w3 (.cells #[.int .i64 z.f, .int .i64 z.t, .slice xo fn xc, .slice yo tn yc] 37)
 have BX := zbox_new w3 (.int .i64 z.f) (.int .i64 z.t) (.slice xo fn xc) (.slice yo tn yc) 37
 have I4 := I3.step hbx
 have ln : ∀ {e : TypeId} {k n c : Nat} {ao : Option Addr} {xs : List Value}, w3.ownsRow w1.heap.size e k (.slice ao n c) n xs → ∀ a, ao = some a → a.block < w3.heap.size := fun ho a ha => by
  rcases ho.2 with ⟨e1, _⟩ | ⟨g, cp, cur, e1, _, hg, _⟩
  ·simp only [Value.slice.injEq] at e1
   rw [e1.1] at ha
   cases ha
  simp only [Value.slice.injEq] at e1
  rw [e1.1] at ha
  cases ha
  exact (Array.getElem?_eq_some_iff.1 hg).1
 have lx := ln o1
 have ly := ln o2
 obtain ⟨W4, hW4⟩ : ∃ W4, w3.alloc (.cells #[.int .i64 z.f, .int .i64 z.t, .slice xo fn xc, .slice yo tn yc] 37) = W4 := ⟨_, rfl⟩
 have hs4 : w3.heap.size < (w3.alloc (.cells #[.int .i64 z.f, .int .i64 z.t, .slice xo fn xc, .slice yo tn yc] 37)).heap.size := by simp
 have o1' := owns_weaken (owns_below o1 hbx (Nat.le_refl _)) hs1
 have o2' := owns_weaken (owns_below o2 hbx (Nat.le_refl _)) hs1
 rw [hW4] at BX I4 hs4 o1' o2'
 have HW4 : Hid _ := hW4
 have hby := below_box W4 (.cells #[.int .i64 0, .int .i64 0, .int .i64 0] 53)
 have TB := tbox_new W4 Bk.zero 53
 have I5 := I4.step hby
 obtain ⟨W5, hW5⟩ : ∃ W5, W4.alloc (.cells #[.int .i64 0, .int .i64 0, .int .i64 0] 53) = W5 := ⟨_, rfl⟩
 have J0 : TkI w w3.heap.size W4.heap.size z.f z.t xo fn xc yo tn yc z.free z.types Bk.zero W5 := by
  rw [← hW5]
  exact ⟨hW5 ▸ I5.b, hW5 ▸ I5.box.c0, hW5 ▸ I5.res, BX.below hby, owns_below o1' hby (Nat.le_refl _), owns_below o2' hby (Nat.le_refl _), TB, by omega, by omega, by omega, fun a ha => by have := lx a ha; omega, fun a ha => by have := ly a ha; omega, hap⟩
 have HW5 : Hid _ := hW5
 have J1 := J0.setB Bk.zero
 obtain ⟨u0, u1, u2, v0, v1, v2⟩ := id J0.tb
 obtain ⟨W6, hW6⟩ : ∃ W6, ((W5.setCell ⟨W4.heap.size, 0, none⟩ (.int .i64 Bk.zero.a)).setCell ⟨W4.heap.size, 1, none⟩ (.int .i64 Bk.zero.o)).setCell ⟨W4.heap.size, 2, none⟩ (.int .i64 Bk.zero.t) = W6 := ⟨_, rfl⟩
 rw [hW6] at J1
 have HW6 : Hid (((W5.setCell ⟨W4.heap.size, 0, none⟩ (.int .i64 0)).setCell ⟨W4.heap.size, 1, none⟩ (.int .i64 0)).setCell ⟨W4.heap.size, 2, none⟩ (.int .i64 0) = W6) := hW6
 clear I1 I3 I4 I5 BX TB o1 o2 o1' o2' hbx hby hW4 hW5 hW6 hb3 c0 c1 c2 c3 lx ly ln hap hs1 hs3 hs4 J0
 go_wp2_with (first | rw [HW4.out] | rw [HW5.out] | rw [HW6.out])
 clear HW4 HW5 HW6 u0 u1 u2 v0 v1 v2
 generalize w3.heap.size = ob at *
 generalize W4.heap.size = bb at *
 go_loopw [11, 12] (fun fv ov wr => ∃ (fd : Bool) (O : Int) (q : Bk), fv = .bool fd ∧ ov = .int .i64 O ∧ o ≤ O ∧ O ≤ 5 ∧ UpF z.free t o fd O q ∧ TkI w ob bb z.f z.t xo fn xc yo tn yc z.free z.types q wr) (fun _ ov _ => (5 - intOf ov).toNat)
 case atStart => exact ⟨false, o, Bk.zero, rfl, rfl, Int.le_refl _, by have := ho.2; omega, rfl, J1⟩
 case round =>
  obtain ⟨fd, O, q, rfl, rfl, hO1, hO5, hU, J⟩ := hrel
  clear J1
  by_cases hgo : O ≤ 4 ∧ fd = false
  ·obtain ⟨h4, rfl⟩ := hgo
   have d2 := J.box.c2
   have hBl := blks_own J.own (by omega)
   go_wp2_with fail
   go_at_call 75
   refine (lowestOf_any wr xo fn xc z.free O t hBl hrise).mono ?_
   rintro e w2 ⟨⟨fd', q', rfl, hF⟩, hb2⟩
   have J2 := (J.below hb2).setB q'
   obtain ⟨u0, u1, u2, v0, v1, v2⟩ := (J.below hb2).tb
   obtain ⟨W7, hW7⟩ : ∃ W7, ((w2.setCell ⟨bb, 0, none⟩ (.int .i64 q'.a)).setCell ⟨bb, 1, none⟩ (.int .i64 q'.o)).setCell ⟨bb, 2, none⟩ (.int .i64 q'.t) = W7 := ⟨_, rfl⟩
   rw [hW7] at J2
   have HW7 : Hid _ := hW7
   have hU2 := upF_next hU h4 hF
   have hw1 : IntKind.i64.wrap (O + 1) = O + 1 := IntWalk.i64_in _ (by have := ho.1; omega)
   clear J hBl hF hU hW7 d2 hb2
   go_wp2_with (rw [HW7.out])
   clear HW7 u0 u1 u2 v0 v1 v2
   go_roundw
   case rel => exact ⟨fd', O + 1, q', rfl, by simp, by omega, by omega, hU2, J2⟩
   case measure => simp [intOf]; omega
  have hres : (fd = true ∧ upB z.free t (5 - o).toNat o = some q) ∨ (fd = false ∧ O = 5 ∧ upB z.free t (5 - o).toNat o = none) := by
   cases fd with
   | true => exact .inl ⟨rfl, hU⟩
   | false =>
    have h5 : O = 5 := by
     by_cases h4 : O ≤ 4
     ·exact absurd ⟨h4, rfl⟩ hgo
     omega
    refine .inr ⟨rfl, h5, ?_⟩
    have : upB z.free t (5 - o).toNat o = upB z.free t (5 - O).toNat O := hU
    rw [this, h5]
    rfl
  clear hU hgo
  rcases hres with ⟨rfl, hup⟩ | ⟨rfl, rfl, hup⟩
  ·have HUP : Hid _ := hup
   clear hup
   rcases (show O ≤ 4 ∨ O = 5 by omega) with h45 | rfl
   all_goals
    go_wp2_with fail
    go_loopw [11, 13] (fun fv ov wr => fv = .bool true ∧ ov = .int .i64 4 ∧ TkI w ob bb z.f z.t xo fn xc yo tn yc z.free z.types q wr) (fun _ _ _ => 0)
    case atStart => exact ⟨rfl, rfl, J⟩
    case round =>
     obtain ⟨rfl, rfl, J⟩ := hrel
     obtain ⟨hTK, g1, g2, g3, g4⟩ := up_done hM ho HUP.out
     have HTK : Hid _ := hTK
     have htn : z.types.length = tn := owns_len J.typ
     have hty8 := hM.len
     clear hTK
     go_wp2_with fail
     refine takenOf_end_t _ _ _ _ _ _ _ _ _ _ _ _ _ _ _ _ _ _ _ _ _ _ _ _ _ _ _ _ _ _ _ _ _ _ _ _ _ _ _ _ _ _ _ _ _ _ _ _ _ _ _ _ _ _ _ _ _ _ _ _ _ _ _ _ _ _ _ _ _ _ _ _ _ _ _ _ _ _ _ _ _ _ _ _ _ _ _ _ _ _ _ _ _ _ _ _ _ _ _ _ _ _ _ _ _ _ _ _ _ _ _ _ _ _ _ _ _ _ _ _ _ _ _ _ _ _ _ _ _ _ _ _ _ _ _ _ _ _ _ _ _ _ _ _ _ _ _ _ _ _ _ _ _ _ _ _ _ _ _ _ _ _ _ _ _ _ _ _ _ _ _ _ _ _ _ _ _ _ _ _ _ _ _ _ _ _ _ _ _ _ _ _ w wr ob bb z.f z.t xo fn xc yo tn yc z.free z.types q o _ J ho0 g1 g2 g3 g4 (by omega) (by omega) ?_
     intro e w' hR hB
     obtain ⟨i, h1, h2, h3⟩ := HTK.out
     exact ⟨.inr ⟨i, h1, by rw [h2, ← h3]; exact hR⟩, hB⟩
  have HUP : Hid _ := hup
  clear hup
  go_wp2_with fail
  go_loopw [11, 13] (fun fv ov wr => ∃ (fd : Bool) (O : Int) (q q0 : Bk) (fr : List Bk) (ty : List Int), fv = .bool fd ∧ ov = .int .i64 O ∧ o - 1 ≤ O ∧ O ≤ 4 ∧ DnF z.free (oth0 t) (oth1 t) o fd O q0 ∧ StF z t fd q0 q fr ty ∧ TkI w ob bb z.f z.t xo fn xc yo tn yc fr ty q wr) (fun _ ov _ => (intOf ov + 1).toNat)
  case atStart => exact ⟨false, 4, q, q, z.free, z.types, rfl, rfl, by have := ho.2; omega, by omega, rfl, ⟨rfl, rfl⟩, J⟩
  case round =>
   obtain ⟨fd, O, q, q0, fr, ty, rfl, rfl, hO1, hO4, hD, hSt, J⟩ := hrel
   by_cases hgo : o ≤ O ∧ fd = false
   ·obtain ⟨hoO, rfl⟩ := hgo
    obtain ⟨rfl, rfl⟩ := hSt
    go_wp2_with fail
    go_at_call 76
    refine (otherTypes_any _ t ht.1 ht.2).mono ?_
    rintro e w4 ⟨ub, rfl, hubn, s0, s1, hb4⟩
    have J4 := J.below hb4
    have hub0 : ub ≠ bb := by have := World.block_lt_of_cell? wr _ J.tb.c0; dsimp only at this; omega
    clear J hb4
    go_wp2_with fail
    have hIn0 : InF z.free (oth0 t) (oth1 t) O false 0 q := ⟨fun g => by omega, fun g => by omega⟩
    rename_i KS hKS
    conv at hKS => enter [a, w, 1, 2, 2, 2]; change takenSteal
    go_loopw [11, 15] (fun fv kv wr => ∃ (fd : Bool) (k : Nat) (q : Bk), fv = .bool fd ∧ kv = .int .i64 k ∧ k ≤ 2 ∧ InF z.free (oth0 t) (oth1 t) O fd k q ∧ wr.cell? ⟨ub, 0, none⟩ = some (.int .i64 (oth0 t)) ∧ wr.cell? ⟨ub, 1, none⟩ = some (.int .i64 (oth1 t)) ∧ ub ≠ bb ∧ TkI w ob bb z.f z.t xo fn xc yo tn yc z.free z.types q wr) (fun _ kv _ => 2 - (intOf kv).toNat)
    case atStart => exact ⟨false, 0, q, rfl, rfl, by omega, hIn0, s0, s1, hub0, J4⟩
    case round =>
     obtain ⟨fd, k, q, rfl, rfl, hk2, hI, s0, s1, hub, J⟩ := hrel
     clear J4 hIn0
     by_cases hgo : k < 2 ∧ fd = false
     ·obtain ⟨hk, rfl⟩ := hgo
      rcases (show k = 0 ∨ k = 1 by omega) with rfl | rfl
      ·have d2 := J.box.c2
       have hBl := blks_own J.own (by omega)
       have S1 : Below wr.heap.size wr { wr with drawn := wr.drawn + 1 } := (Below.refl wr.heap.size wr).drew
       have m0 : ∀ wx : World, (wx.cell? ⟨ob, 2, none⟩ = some (.slice xo fn xc) ∧ wx.cell? ⟨ub, 0, none⟩ = some (.int .i64 (oth0 t))) → wx.cell? ⟨ob, 2, none⟩ = some (.slice xo fn xc) := fun wx h => h.1
       have m1 : ∀ wx : World, (wx.cell? ⟨ob, 2, none⟩ = some (.slice xo fn xc) ∧ wx.cell? ⟨ub, 0, none⟩ = some (.int .i64 (oth0 t))) → wx.cell? ⟨ub, 0, none⟩ = some (.int .i64 (oth0 t)) := fun wx h => h.2
       have Q1 := And.intro (keep d2 S1) (keep s0 S1)
       go_wp2_with fail
       refine wp_region_peel (S := fun wx => wx.cell? ⟨ob, 2, none⟩ = some (.slice xo fn xc) ∧ wx.cell? ⟨ub, 0, none⟩ = some (.int .i64 (oth0 t))) 12 _ (by kernel_rfl) (by kernel_rfl) rfl ?_
       simp only [List.take_succ_cons, List.take_zero]
       refine tkH 0 (.pointer (some ⟨ob, 2, none⟩)) Q1 (h:=?_)
       refine tkH 1 (.slice xo fn xc) Q1 (h:=?_)
       refine tkH 2 (.int .i64 O) Q1 (h:=?_)
       refine tkH 3 (.slice (some ⟨ub, 0, none⟩) 2 2) Q1 (h:=?_)
       refine tkH 4 (.int .i64 0) Q1 (h:=?_)
       refine tkH 5 (.pointer (some ⟨ub, 0, none⟩)) Q1 (h:=?_)
       refine tkH 6 (.int .i64 (oth0 t)) Q1 (h:=?_)
       refine oneH 7 (by kernel_rfl) rfl rfl (fun K1 hK1 => ?_)
       go_simp
       refine (lowestOf_any _ xo fn xc z.free O (oth0 t) (hBl.below S1) hrise).mono ?_
       rintro e w5 ⟨⟨fd', q', rfl, hF⟩, hb5⟩
       have SA : Below wr.heap.size wr w5 := S1.trans (hb5.mono S1.size)
       have QA := And.intro (keep d2 SA) (keep s0 SA)
       refine hK1 _ _ QA ?_
       try simp only [Act.put, List.setIfInBounds_toArray, List.set_cons_zero, List.set_cons_succ]
       refine tkH 8 (.tuple #[.agg #[.int .i64 q'.a, .int .i64 q'.o, .int .i64 q'.t], .bool fd']) QA (h:=?_)
       refine tkH 9 (.agg #[.int .i64 q'.a, .int .i64 q'.o, .int .i64 q'.t]) QA (h:=?_)
       refine tkH 10 (.bool fd') QA (h:=?_)
       have J5 := J.below SA
       have J6 := J5.setB q'
       have t0 := keep s0 SA
       have t1 := keep s1 SA
       obtain ⟨u0, u1, u2, v0, v1, v2⟩ := J5.tb
       have hbt := but3 w5 bb (.int .i64 q'.a) (.int .i64 q'.o) (.int .i64 q'.t)
       have t0' := hbt.cell t0 hub
       have t1' := hbt.cell t1 hub
       obtain ⟨W6, hW6⟩ : ∃ W6, ((w5.setCell ⟨bb, 0, none⟩ (.int .i64 q'.a)).setCell ⟨bb, 1, none⟩ (.int .i64 q'.o)).setCell ⟨bb, 2, none⟩ (.int .i64 q'.t) = W6 := ⟨_, rfl⟩
       have J5obb := J5.obb
       rw [hW6] at J6 t0' t1' hbt
       have HW6 : Hid _ := hW6
       have hI2 := inF_0 hF hI
       clear hW6 J J5 hBl hI hF
       have Q6 := And.intro (hbt.cell QA.1 J5obb) (t0')
       clear hbt
       refine oneH 11 (by kernel_rfl) rfl rfl (fun K3 hK3 => ?_)
       go_simp
       rw [HW6.out]
       refine hK3 _ _ Q6 ?_
       try simp only [Act.put, List.setIfInBounds_toArray, List.set_cons_zero, List.set_cons_succ]
       refine wpAnyH_done (by kernel_rfl) ?_ _
       show Oper.wp _ _ _ _ _ _
       clear hK1 hK3 m0 m1 u0 u1 u2 v0 v1 v2 S1 SA Q1 QA Q6 t0 t1 s0 s1 HW6
       go_wp2_with fail
       go_roundw
       case rel => exact ⟨fd', 1, q', rfl, by simp, by omega, hI2, t0', t1', hub, J6⟩
       case measure => simp [intOf]
      have d2 := J.box.c2
      have hBl := blks_own J.own (by omega)
      have S1 : Below wr.heap.size wr { wr with drawn := wr.drawn + 1 } := (Below.refl wr.heap.size wr).drew
      have m0 : ∀ wx : World, (wx.cell? ⟨ob, 2, none⟩ = some (.slice xo fn xc) ∧ wx.cell? ⟨ub, 1, none⟩ = some (.int .i64 (oth1 t))) → wx.cell? ⟨ob, 2, none⟩ = some (.slice xo fn xc) := fun wx h => h.1
      have m1 : ∀ wx : World, (wx.cell? ⟨ob, 2, none⟩ = some (.slice xo fn xc) ∧ wx.cell? ⟨ub, 1, none⟩ = some (.int .i64 (oth1 t))) → wx.cell? ⟨ub, 1, none⟩ = some (.int .i64 (oth1 t)) := fun wx h => h.2
      have Q1 := And.intro (keep d2 S1) (keep s1 S1)
      go_wp2_with fail
      refine wp_region_peel (S := fun wx => wx.cell? ⟨ob, 2, none⟩ = some (.slice xo fn xc) ∧ wx.cell? ⟨ub, 1, none⟩ = some (.int .i64 (oth1 t))) 12 _ (by kernel_rfl) (by kernel_rfl) rfl ?_
      simp only [List.take_succ_cons, List.take_zero]
      refine tkH 0 (.pointer (some ⟨ob, 2, none⟩)) Q1 (h:=?_)
      refine tkH 1 (.slice xo fn xc) Q1 (h:=?_)
      refine tkH 2 (.int .i64 O) Q1 (h:=?_)
      refine tkH 3 (.slice (some ⟨ub, 0, none⟩) 2 2) Q1 (h:=?_)
      refine tkH 4 (.int .i64 1) Q1 (h:=?_)
      refine tkH 5 (.pointer (some ⟨ub, 1, none⟩)) Q1 (h:=?_)
      refine tkH 6 (.int .i64 (oth1 t)) Q1 (h:=?_)
      refine oneH 7 (by kernel_rfl) rfl rfl (fun K1 hK1 => ?_)
      go_simp
      refine (lowestOf_any _ xo fn xc z.free O (oth1 t) (hBl.below S1) hrise).mono ?_
      rintro e w5 ⟨⟨fd', q', rfl, hF⟩, hb5⟩
      have SA : Below wr.heap.size wr w5 := S1.trans (hb5.mono S1.size)
      have QA := And.intro (keep d2 SA) (keep s1 SA)
      refine hK1 _ _ QA ?_
      try simp only [Act.put, List.setIfInBounds_toArray, List.set_cons_zero, List.set_cons_succ]
      refine tkH 8 (.tuple #[.agg #[.int .i64 q'.a, .int .i64 q'.o, .int .i64 q'.t], .bool fd']) QA (h:=?_)
      refine tkH 9 (.agg #[.int .i64 q'.a, .int .i64 q'.o, .int .i64 q'.t]) QA (h:=?_)
      refine tkH 10 (.bool fd') QA (h:=?_)
      have J5 := J.below SA
      have J6 := J5.setB q'
      have t0 := keep s0 SA
      have t1 := keep s1 SA
      obtain ⟨u0, u1, u2, v0, v1, v2⟩ := J5.tb
      have hbt := but3 w5 bb (.int .i64 q'.a) (.int .i64 q'.o) (.int .i64 q'.t)
      have t0' := hbt.cell t0 hub
      have t1' := hbt.cell t1 hub
      obtain ⟨W6, hW6⟩ : ∃ W6, ((w5.setCell ⟨bb, 0, none⟩ (.int .i64 q'.a)).setCell ⟨bb, 1, none⟩ (.int .i64 q'.o)).setCell ⟨bb, 2, none⟩ (.int .i64 q'.t) = W6 := ⟨_, rfl⟩
      have J5obb := J5.obb
      rw [hW6] at J6 t0' t1' hbt
      have HW6 : Hid _ := hW6
      have hI2 := inF_1 hF hI
      clear hW6 J J5 hBl hI hF
      have Q6 := And.intro (hbt.cell QA.1 J5obb) (t1')
      clear hbt
      refine oneH 11 (by kernel_rfl) rfl rfl (fun K3 hK3 => ?_)
      go_simp
      rw [HW6.out]
      refine hK3 _ _ Q6 ?_
      try simp only [Act.put, List.setIfInBounds_toArray, List.set_cons_zero, List.set_cons_succ]
      refine wpAnyH_done (by kernel_rfl) ?_ _
      show Oper.wp _ _ _ _ _ _
      clear hK1 hK3 m0 m1 u0 u1 u2 v0 v1 v2 S1 SA Q1 QA Q6 t0 t1 s0 s1 HW6
      go_wp2_with fail
      go_roundw
      case rel => exact ⟨fd', 2, q', rfl, by simp, by omega, hI2, t0', t1', hub, J6⟩
      case measure => simp [intOf]
     have hw1 : IntKind.i64.wrap (O - 1) = O - 1 := IntWalk.i64_in _ (by omega)
     cases fd with
     | true =>
      obtain ⟨hqm, hqO⟩ := inF_in hI
      have HqO : Hid _ := hqO
      have hD2 := dnF_next hD hoO (fun h => by cases h) hI
      clear hgo hD
      by_cases h2 : 2 ≤ O
      ·have hs2 : StF z t true q ⟨q.a, q.o, t⟩ (stolenZ z q t).free (stolenZ z q t).types := by unfold StF; rw [if_pos rfl, if_pos (by omega)]; exact ⟨rfl, rfl, rfl⟩
       have hty8 := hM.len
       have htn : z.types.length = tn := owns_len J.typ
       have hfn : z.free.length = fn := bowns_len J.own
       have hf0 : 0 < fn := by have := List.length_pos_of_mem hqm; omega
       have ht0 : 0 < tn := by
        obtain ⟨⟨_, qa1, qa2, qa3⟩, _⟩ := (free_iff.1 hM.free).1 q hqm
        have := pw_pos q.o
        omega
       obtain ⟨g, hg⟩ : ∃ g, xo = some ⟨g, 0, none⟩ := by
        rcases J.own.2 with ⟨e1, _⟩ | ⟨g, cp, cur, e1, _⟩
        ·simp only [Value.slice.injEq] at e1
         omega
        simp only [Value.slice.injEq] at e1
        exact ⟨g, e1.1⟩
       obtain ⟨yg, hyg⟩ : ∃ yg, yo = some ⟨yg, 0, none⟩ := by
        rcases J.typ.2 with ⟨e1, _⟩ | ⟨g, cp, cur, e1, _⟩
        ·simp only [Value.slice.injEq] at e1
         omega
        simp only [Value.slice.injEq] at e1
        exact ⟨g, e1.1⟩
       subst hg hyg
       clear hqO hI hty8 htn hfn hf0 ht0
       rcases Int.lt_or_le (k : Int) 2 with hk | hk
       all_goals
        go_wp2_with fail
        refine takenOf_steal _ _ _ _ _ _ _ _ _ _ _ _ _ _ _ _ _ _ _ _ _ _ _ _ _ _ _ _ _ _ _ _ _ _ _ _ _ _ _ _ _ _ _ _ _ _ _ _ _ _ _ _ _ _ _ _ _ _ _ _ _ _ _ _ _ _ _ _ _ _ _ _ _ _ _ _ _ _ _ _ _ _ _ _ _ _ _ _ _ _ _ _ _ _ _ _ _ _ _ _ _ _ _ _ _ _ _ _ _ _ _ _ _ _ _ _ _ _ _ _ _ _ _ _ _ _ _ _ _ _ _ _ _ _ _ _ _ _ _ _ _ _ _ _ _ _ _ _ _ _ _ _ _ _ _ _ _ _ _ _ _ _ _ _ _ _ _ _ _ _ _ _ _ _ _ _ _ _ _ _ _ _ _ _ _ _ _ _ _ _ _ _ w wr ob bb z g fn xc yg tn yc q t O _ J hM hqm HqO h2 ?_
        clear J
        intro y16 y17 y18 y19 y88 y89 y90 y91 y92 y93 y94 y95 y96 y97 y98 y99 y100 y101 y102 y103 y104 y105 y106 y107 y108 y109 y110 y111 y112 y113 y114 y115 y116 y117 y118 y119 y120 y121 y122 y123 y124 y125 y126 y127 y128 y129 y130 y131 y132 y133 y134 y135 y136 y137 y138 y139 y140 y141 y142 y143 y144 y145 y146 y147 y148 y149 y150 y151 y152 y153 y154 y155 y156 y157 y158 W J2
        go_wp2_with fail
        go_roundw
        case rel => exact ⟨true, O - 1, ⟨q.a, q.o, t⟩, q, _, _, rfl, by simp, by omega, by omega, hD2, hs2, J2⟩
        case measure => simp [intOf]; omega
      have hs2 : StF z t true q q z.free z.types := by unfold StF; rw [if_pos rfl, if_neg (by omega)]; exact ⟨rfl, rfl, rfl⟩
      clear hqO hI
      rcases Int.lt_or_le (k : Int) 2 with hk | hk
      all_goals
       go_wp2_with fail
       go_roundw
       case rel => exact ⟨true, O - 1, q, q, _, _, rfl, by simp, by omega, by omega, hD2, hs2, J⟩
       case measure => simp [intOf]; omega
     | false =>
      have hk2' : k = 2 := by
       by_cases h : k < 2
       ·exact absurd ⟨h, rfl⟩ hgo
       omega
      have hD2 := dnF_next hD hoO (fun _ => hk2') hI
      have hs2 : StF z t false q q z.free z.types := ⟨rfl, rfl⟩
      have hk : ¬ ((k : Int) < 2) := by omega
      clear hgo hk2' hI hD
      go_wp2_with fail
      go_roundw
      case rel => exact ⟨false, O - 1, q, q, _, _, rfl, by simp, by omega, by omega, hD2, hs2, J⟩
      case measure => simp [intOf]; omega
   have htn : z.types.length = tn := by have := owns_len J.typ; have := StF_len hSt; omega
   have hty8 := hM.len
   cases fd with
   | true =>
    obtain ⟨hTK, g1, g2, g3, g4⟩ := dn_done hM ho ht HUP.out hD hSt
    have HTK : Hid _ := hTK
    clear hTK hSt hD hgo
    by_cases hoO : o ≤ O
    all_goals
     go_wp2_with fail
     refine takenOf_end_t _ _ _ _ _ _ _ _ _ _ _ _ _ _ _ _ _ _ _ _ _ _ _ _ _ _ _ _ _ _ _ _ _ _ _ _ _ _ _ _ _ _ _ _ _ _ _ _ _ _ _ _ _ _ _ _ _ _ _ _ _ _ _ _ _ _ _ _ _ _ _ _ _ _ _ _ _ _ _ _ _ _ _ _ _ _ _ _ _ _ _ _ _ _ _ _ _ _ _ _ _ _ _ _ _ _ _ _ _ _ _ _ _ _ _ _ _ _ _ _ _ _ _ _ _ _ _ _ _ _ _ _ _ _ _ _ _ _ _ _ _ _ _ _ _ _ _ _ _ _ _ _ _ _ _ _ _ _ _ _ _ _ _ _ _ _ _ _ _ _ _ _ _ _ _ _ _ _ _ _ _ _ _ _ _ _ _ _ _ _ _ _ w wr ob bb z.f z.t xo fn xc yo tn yc fr ty q o _ J ho0 g1 g2 g3 g4 (by omega) (by omega) ?_
     intro e w' hR hB
     obtain ⟨i, h1, h2, h3⟩ := HTK.out
     exact ⟨.inr ⟨i, h1, by rw [h2, ← h3]; exact hR⟩, hB⟩
   | false =>
    have hO' : O = o - 1 := by
     by_cases h : o ≤ O
     ·exact absurd ⟨h, rfl⟩ hgo
     omega
    have HN : Hid _ := dn_none HUP.out hD hO'
    have hlt : ¬ (o ≤ O) := by omega
    clear hO' hSt hD hgo
    go_wp2_with fail
    refine takenOf_end_f _ _ _ _ _ _ _ _ _ _ _ _ _ _ _ _ _ _ _ _ _ _ _ _ _ _ _ _ _ _ _ _ _ _ _ _ _ _ _ _ _ _ _ _ _ _ _ _ _ _ _ _ _ _ _ _ _ _ _ _ _ _ _ _ _ _ _ _ _ _ _ _ _ _ _ _ _ _ _ _ _ _ _ _ _ _ _ _ _ _ _ _ _ _ _ _ _ _ _ _ _ _ _ _ _ _ _ _ _ _ _ _ _ _ _ _ _ _ _ _ _ _ _ _ _ _ _ _ _ _ _ _ _ _ _ _ _ _ _ _ _ _ _ _ _ _ _ _ _ _ _ _ _ _ _ _ _ _ _ _ _ _ _ _ _ _ _ _ _ _ _ _ _ _ _ _ _ _ _ _ _ _ _ _ _ _ _ _ _ _ _ _ w wr ob bb o _ J.res J.b ?_
    intro e w' hR hB
    exact ⟨.inl ⟨HN.out, hR⟩, hB⟩
theorem takenOf_both (w : World) (fo : Option Addr) (fn fc : Nat) (to_ : Option Addr) (tn tc : Nat) (z : Zn) (o t : Int) (h : ZnAt w fo fn to_ tn z) (hM : ZMay z) (ho : ordOk o) (ht : typeOk t) :
    Calls Tryz.prog 53 #[.agg #[.int .i64 z.f, .int .i64 z.t, .slice fo fn fc, .slice to_ tn tc], .int .i64 o, .int .i64 t] w fun e w' => ∃ F T ko kn kc lo ln lc a c, e = .returned (.tuple #[.agg #[.int .i64 F, .int .i64 T, .slice ko kn kc, .slice lo ln lc], .int .i64 a, .int .i64 c]) ∧ TkR w.heap.size w' z o t F T ko kn lo ln a c ∧ Below w.heap.size w w' := by
 refine (takenOf_main w fo fn fc to_ tn tc z o t h hM ho ht).mono ?_
 rintro e w' ⟨⟨hC, rfl⟩ | ⟨i, hi, ko, kn, kc, lo, ln, lc, rfl, h1, h2, h3⟩, hb⟩
 ·exact ⟨0, 0, none, 0, 0, none, 0, 0, 0, 6, rfl, .inl ⟨hC, rfl⟩, hb⟩
 exact ⟨_, _, ko, kn, kc, lo, ln, lc, _, 0, rfl, .inr ⟨rfl, i, hi, rfl, rfl, rfl, h1, h2, h3⟩, hb⟩
theorem takeH_held {H : Hp} {z : Nat} {o fl : Int} {zz : Zn} (hz : H.zones.getD z ⟨0, 0, [], []⟩ = zz) (h : freeN zz.free - pw o < heldH H z fl) : takeGH H z o fl = none := by
 unfold takeGH; rw [hz, if_pos h]
theorem takeH_few {H : Hp} {z : Nat} {o fl : Int} {zz : Zn} (hz : H.zones.getD z ⟨0, 0, [], []⟩ = zz) (h : chooseI zz.free o (typeF fl) < 0) : takeGH H z o fl = none := by
 unfold takeGH; rw [hz, if_pos h]
 split <;> rfl
theorem takeH_yes {y : Hx} {zs : List Zc} {z i : Nat} {o fl : Int} {zz Y : Zn} {c : Zc} (hz : (y.withZ zs).hp.zones.getD z ⟨0, 0, [], []⟩ = zz) (h : freeN ((y.withZ zs).hp.zones.getD z ⟨0, 0, [], []⟩).free - pw o ≥ heldH (y.withZ zs).hp z fl) (hC : chooseI zz.free o (typeF fl) = (i : Nat)) (hY : takeZ zz o (typeF fl) i = Y) (hc : c.z = Y) :
    takeGH (y.withZ zs).hp z o fl = some ((y.withZ (zs.set z c)).hp, (zz.free.getD i .zero).a) := by
 rw [hz] at h
 unfold takeGH
 rw [hz, if_neg (by omega), if_neg (by omega), hC, Int.toNat_natCast, hY, ← hc]
 have e : (y.withZ (zs.set z c)).hp = { (y.withZ zs).hp with zones := (y.withZ zs).hp.zones.set z c.z } := by
  show Hp.mk ((zs.set z c).map (·.z)) _ _ _ _ = _
  rw [List.map_set]
  rfl
 rw [e]
theorem lsPages_few {H : Hp} (h : LssOk H) (x : Ls) : (lsPages H.lists x).length ≤ 8 := by
 unfold lsPages
 cases e : H.lists.find? (fun a => decide (a.c = x.c ∧ a.z = x.z ∧ a.t = x.t)) with
 | none => simp
 | some a => exact (lss_mem h (List.mem_of_find?_eq_some e)).n.2
theorem HZ.withL {w : World} {B gz : Nat} {y : Hx} {ls : List Lc} {lo : Option Addr} {ln lc : Nat} (h : HZ w B gz y) (hat : (y.withL ls lo ln lc).At w) (hlo : ∀ a, lo = some a → a.block ≠ gz) (hm : ∀ l ∈ ls, l ∈ y.ls ∨ ∀ a, l.po = some a → a.block ≠ gz) : HZ w B gz (y.withL ls lo ln lc) :=
 ⟨h.oz, h.ez, hat, away_withL h.aw (fun _ => hlo) hm, h.gB⟩
def Tried (w w' : World) (B gz : Nat) (y : Hx) (r : Option (Hp × Int)) (e : Ending) : Prop :=
 But gz w w' ∧ ((r = none ∧ e = .returned (.tuple #[.agg #[.slice y.zo y.zn y.zc, .slice y.mo y.mn y.mc, .int .i64 y.cpus, .slice y.lo y.ln y.lc, .slice y.vo y.vn y.vc], .int .i64 (-1)]) ∧ HZ w' B gz y) ∨ ∃ zs ls lo ln lc p, r = some (((y.withZ zs).withL ls lo ln lc).hp, p) ∧ e = .returned (.tuple #[.agg #[.slice y.zo y.zn y.zc, .slice y.mo y.mn y.mc, .int .i64 y.cpus, .slice lo ln lc, .slice y.vo y.vn y.vc], .int .i64 p]) ∧ HZ w' B gz ((y.withZ zs).withL ls lo ln lc) ∧ ∀ b, b < w.heap.size → Away b y → Away b ((y.withZ zs).withL ls lo ln lc))
theorem tried_c (w : World) (B gz : Nat) (y : Hx) (z : Nat) (cpu o fl : Int) (HY : HZ w B gz y) (hMn : MnOk y.hp) (hZs : ZsOk y.hp) (hls : LssOk y.hp) (hcp : y.hp.cpus ≤ 4) (hf : flag16 fl) (hz : z < 2) (ho : ordOk o) :
    Calls Tryz.prog 24 #[.agg #[.slice y.zo y.zn y.zc, .slice y.mo y.mn y.mc, .int .i64 y.cpus, .slice y.lo y.ln y.lc, .slice y.vo y.vn y.vc], .int .i64 cpu, .int .i64 (z : Nat), .int .i64 o, .int .i64 (typeF fl), .int .i64 fl] w fun e w' => Tried w w' B gz y (tryH y.hp cpu z o fl) e := by
 have HY0 := HY.at_
 have hz2 : y.zs.length = 2 := by have h1 := hZs.n; have h2 : (List.map (fun c : Zc => c.z) y.zs).length = 2 := h1; rw [List.length_map] at h2; exact h2
 have hgz : gz < w.heap.size := HY.lt (by have := HY0.zones.len; omega)
 have hzn : y.zn = 2 := by have := HY0.zones.len; omega
 have ho2 : 0 ≤ o ∧ o ≤ 4 := ho
 have hez := HY.ez
 have hord := riseL_of hls
 have hll : y.hp.lists.length = y.ln := by show (y.ls.map _).length = _; rw [List.length_map]; exact HY.at_.lists.len
 have hfew := lists_few hls hcp
 have hbt := But.refl gz w
 refine sx_enter (args := [_, _, _, _, _, _]) 117 Tryz.func24 rfl rfl rfl ?_
 refine vS (vR ?_); intro A f
 refine l_box f rfl rfl rfl rfl rfl ?_; clear f A; intro b1 W2 eb1 hb3 rb1 A f; dsimp only [Value.cells] at rb1
 replace HY := HY.below hb3; replace hbt := hbt.gr hb3
 refine l_alloc (z := .agg #[.slice none 0 0, .slice none 0 0, .int .i64 0, .slice none 0 0, .slice none 0 0]) f rfl rfl rfl rfl (by kernel_rfl) ?_; clear f A; intro b4 W5 eb4 hb6 rb4 A f; dsimp only [Value.cells] at rb4
 have o_b1_b4 : b1 < b4 := by have := row_lt rb1; omega
 replace HY := HY.below hb6; replace hbt := hbt.gr hb6; replace rb1 := row_next rb1 hb6
 have aw12 : Away b4 y := away_old HY0 (by omega)
 revert A; refine vla (h:=vW (vS (vS (vR (vlm (h:=vlb (y_eql rfl rfl rfl) (h:=?_) (g:=?_)))))))
 ·intro c7
  refine vW (vC (h:=vS (vR (vl5 (rowq rb1) (h:=vlm (h:=vlm (h:=vlm (h:=?_)))))))); intro A f
  refine l_call f rfl rfl rfl (IsCall.mk' (cap := []) rfl rfl rfl) (pl rfl) (listOf_any _ y ⟨cpu, (z : Nat), typeF fl, []⟩ HY.at_) ?_
  clear f A
  rintro _ W8 ⟨bo, nL, bc, rfl, ownL, hnL, hb9⟩
  refine ⟨_, rfl, ?_⟩
  intro A f
  obtain ⟨sL, hsL⟩ : ∃ n, n = W5.heap.size := ⟨_, rfl⟩
  rw [← hsL] at ownL
  obtain ⟨L, hL⟩ : ∃ L, lsPages y.hp.lists ⟨cpu, (z : Nat), typeF fl, []⟩ = L := ⟨_, rfl⟩
  rw [hL] at ownL hnL
  have ll_b1 := row_lt rb1
  have ll_b4 := row_lt rb4
  have hsw := hbt.size
  replace HY := HY.below hb9; replace hbt := hbt.gr hb9; replace rb1 := row_next rb1 hb9; replace rb4 := row_next rb4 hb9
  revert A; refine vla (h:=vW (vS (vR (vlm (h:=vlz (h:=vlb (y_gtr rfl rfl rfl) (h:=?_) (g:=?_)))))))
  ·intro c10
   refine vW (vC (h:=vS ?_))
   have hN := nums_of_owns ownL (by have := HY.at_.lists.reach; have := lsPages_few hls ⟨cpu, (z : Nat), typeF fl, []⟩; rw [hL] at this; omega)
   have hn8 : nL ≤ 8 := by have h1 := lsPages_few hls ⟨cpu, (z : Nat), typeF fl, []⟩; rw [hL] at h1; omega
   have hcL := owns_cap ownL
   have hgl0 := owns_blk ownL
   have l6 := row_lt rb1
   have l12 := row_lt rb4
   have hbt0 := hbt.size
   obtain ⟨gq, oq, vq, haq, c0q, hXq⟩ := hN.at_.at (nL - 1) (by have := hN.len; omega)
   intro A f
   rw [show oq + (nL - 1) = oq + (nL - 1) * 1 by omega] at c0q
   have hq0 := hgl0 _ haq
   dsimp only at hq0
   refine x_cut (fun A W => ∃ ls lo ln lc, Fr A 117 [(12, .pointer (some ⟨b4, 0, none⟩)), (13, .int .i64 vq)] ∧ W.heap[b4]? = some (.cells #[.slice y.zo y.zn y.zc, .slice y.mo y.mn y.mc, .int .i64 y.cpus, .slice lo ln lc, .slice y.vo y.vn y.vc] 27 (0, 0)) ∧ (y.withL ls lo ln lc).At W ∧ ls.map (·.l) = setLs y.hp.lists ⟨cpu, (z : Nat), typeF fl, L.take (nL - 1)⟩ ∧ But b4 W8 W ∧ (∀ a, lo = some a → W8.heap.size ≤ a.block) ∧ (∀ l ∈ ls, l ∈ y.ls ∨ l = ⟨⟨cpu, (z : Nat), typeF fl, L.take (nL - 1)⟩, bo, nL - 1, bc⟩)) ?_ ?_
   ·skip
    refine a_start (fun wx => But b4 W8 wx) (by kernel_rfl) rfl ?_
    generalize hWd : ({ W8 with drawn := W8.drawn + 1 } : World) = Wd
    have hS := but_start b4 hWd
    have hdr := drawn_b hWd
    clear hWd
    have rb1_0 := rb1
    replace HY := HY.below hdr; replace hN := hN.below hdr; replace rb1 := row_next rb1 hdr; replace rb4 := row_next rb4 hdr
    have hS6 : ∀ wx, But b4 W8 wx → wx.heap[b1]? = some (.cells #[.slice y.zo y.zn y.zc, .slice y.mo y.mn y.mc, .int .i64 y.cpus, .slice y.lo y.ln y.lc, .slice y.vo y.vn y.vc] 27 (0, 0)) := fun wx h => But.row h rb1_0 (by omega)
    refine a_do 0 f rfl (by kernel_rfl) blind_cut hS rfl rfl rfl (y_loadN (vs := [_, _, _, _, _]) rfl rfl (ag rfl) rfl (rowls hS6 _ _ ⟨rfl, rfl, rfl, rfl, rfl, trivial⟩)) ?_; clear f A; intro A f
    refine a_do 1 f rfl (by kernel_rfl) blind_cut hS rfl rfl rfl (y_move rfl rfl) ?_; clear f A; intro A f
    refine a_do 2 f rfl (by kernel_rfl) blind_cut hS rfl rfl rfl (y_move rfl rfl) ?_; clear f A; intro A f
    refine a_do 3 f rfl (by kernel_rfl) blind_cut hS rfl rfl rfl (y_move rfl rfl) ?_; clear f A; intro A f
    refine a_do 4 f rfl (by kernel_rfl) blind_cut hS rfl rfl rfl (y_move rfl rfl) ?_; clear f A; intro A f
    refine a_do 5 f rfl (by kernel_rfl) blind_cut hS rfl rfl rfl (y_move rfl rfl) ?_; clear f A; intro A f
    refine a_do 6 f rfl (by kernel_rfl) blind_cut hS rfl rfl rfl (y_len rfl rfl (sl rfl)) ?_; clear f A; intro A f
    refine a_do 7 f rfl (by kernel_rfl) blind_cut hS rfl rfl rfl (y_sub (c := ((nL - 1 : Nat) : Int)) rfl rfl rfl (by omega) (by omega)) ?_; clear f A; intro A f
    refine a_do 8 f rfl (by kernel_rfl) blind_cut hS rfl rfl rfl (y_sliceTo (H := nL - 1) rfl rfl rfl (by omega)) ?_; clear f A; intro A f
    refine a_do 10 f rfl (by kernel_rfl) blind_cut hS rfl rfl rfl (y_move rfl rfl) ?_; clear f A; intro A f
    refine a_do 11 f rfl (by kernel_rfl) blind_cut hS rfl rfl rfl (y_move rfl rfl) ?_; clear f A; intro A f
    refine a_do 12 f rfl (by kernel_rfl) blind_cut hS rfl rfl rfl (y_len rfl rfl (sl rfl)) ?_; clear f A; intro A f
    refine a_do 13 f rfl (by kernel_rfl) blind_cut hS rfl rfl rfl (y_sub (c := ((nL - 1 : Nat) : Int)) rfl rfl rfl (by omega) (by omega)) ?_; clear f A; intro A f
    refine a_do 14 f rfl (by kernel_rfl) blind_cut hS rfl rfl rfl (y_index rfl rfl (by first | rfl | assumption) rfl (es rfl) (by omega)) ?_; clear f A; intro A f
    refine a_do 15 f rfl (by kernel_rfl) blind_cut hS rfl rfl rfl (y_load1 rfl rfl (ag rfl) (fun wx h => But.cell h c0q (by omega))) ?_; clear f A; intro A f
    refine a_one 9 rfl (by kernel_rfl) rfl ?_
    refine g_call f (IsCall.mk' (cap := []) rfl rfl rfl) (pl rfl) (setList_any _ y ⟨cpu, (z : Nat), typeF fl, L.take (nL - 1)⟩ bo (nL - 1) bc HY.at_ hord (by omega) (nums_take hN (by omega))) ?_
    rintro _ We ⟨ls, lo, ln, lc, rfl, hAt, hls2, hbe, hlo, hmem⟩
    refine ⟨_, rfl, hS.trans (But.of_below hbe), a_put f rfl rfl ?_⟩; clear f A; intro A f
    have hse := hdr.size
    replace hS := hS.trans (But.of_below hbe)
    replace rb4 := row_next rb4 hbe
    refine a_one 16 rfl (by kernel_rfl) rfl ?_
    refine g_store f rfl rfl rfl rfl rb4 (sz rfl) rfl (Nat.le_of_ble_eq_true rfl) rfl ?_
    clear rb4; intro Wh hbh rb4; dsimp only [setL, over, Value.cells] at rb4
    refine ⟨hS.trans hbh, ?_⟩
    replace hS := hS.trans hbh
    replace hAt := at_butA hAt hbh (away_withL aw12 (fun _ a ha => by have := hlo a ha; omega) (fun l hl => by rcases hmem l hl with h | rfl; (exact .inl h); exact .inr (fun a ha => by have := (hgl0 a ha).1; omega))) (fun a ha => by have ha' : y.zo = some a := ha; rw [hez] at ha'; cases ha'; dsimp only; omega)
    refine a_do 17 f rfl (by kernel_rfl) blind_cut hS rfl rfl rfl (y_assign rfl rfl) ?_; clear f A; intro A f
    refine a_end (by kernel_rfl) ?_
    exact ⟨rfl, ls, lo, ln, lc, f.sub ⟨rfl, rfl, trivial⟩, rb4, hAt, hls2, hS, fun a ha => by have := hlo a ha; omega, hmem⟩
   skip
   clear f A; rintro A W11 ⟨ls, lo, ln, lc, f, rE, hAt, hls2, hbE, hlo, hmem⟩
   have HYE := (HY.but hbE (by omega) aw12).withL hAt (fun a ha => by have := hlo a ha; omega) (fun l hl => by rcases hmem l hl with h | rfl; (exact .inl h); exact .inr (fun a ha => by have := (hgl0 a ha).1; omega))
   have hbtE := But.then_new hbt hbE (by omega)
   revert A; refine vT (vE (vF ?_)); intro A f
   refine x_retc1 f rfl rfl rfl (ag rfl) rE rfl ?_
   have hr : tryH y.hp cpu z o fl = some ({ y.hp with lists := setLs y.hp.lists ⟨cpu, (z : Nat), typeF fl, L.take (nL - 1)⟩ }, vq) := by
    unfold tryH singleH
    rw [if_pos c7, hL, if_pos (by omega), ← hnL, hXq.out]
   rw [hr]
   refine ⟨hbtE, .inr ⟨y.zs, ls, lo, ln, lc, vq, ?_, rfl, HYE, fun b hb ha => away_withL ha (fun _ a h => by have := hlo a h; omega) (fun l hl => by rcases hmem l hl with h | rfl; (exact .inl h); exact .inr (fun a h => by have := (hgl0 a h).1; omega))⟩⟩
   have e : ((y.withZ y.zs).withL ls lo ln lc).hp = { y.hp with lists := ls.map (·.l) } := rfl
   rw [e, hls2]
  intro c10
  refine vW (vD (h:=vK (vT (vS (vS (vR (vl5 (rowq rb1) (h:=vlm (h:=vlm (h:=vlm (h:=?_))))))))))); intro A f
  refine l_callif _ f rfl rfl rfl (IsCall.mk' (cap := []) rfl rfl rfl) (pl rfl) (enough_c _ y o fl z HY.at_ hMn hZs hf hz ho) ?_ ?_
  ·clear f A; intro c12 W14 hb13 A f
   replace HY := HY.below hb13; replace hbt := hbt.gr hb13; replace rb1 := row_next rb1 hb13; replace rb4 := row_next rb4 hb13
   revert A; refine vln (h:=vW (vD (h:=vK (vT (vS (vR (vlf (h:=vl1 (rowq rb1) (h:=vlm (h:=?_))))))))))
   have BZ := Below.refl W14.heap.size W14
   obtain ⟨gu, ou, zu, fou, fnu, fcu, tou, tnu, tcu, hau, c0u, c1u, c2u, c3u, hatu, hXu⟩ := HY.at_.zones.at (z) (by have h1 : y.zs.length = 2 := hz2; have h2 := HY.at_.zones.len; omega)
   replace c0u := St.of c0u; replace c1u := St.of c1u; replace c2u := St.of c2u; replace c3u := St.of c3u
   have hze : y.hp.zones.getD z ⟨0, 0, [], []⟩ = zu := by rw [hp_zone, hXu.out]
   have hmz : ZMay zu := by rw [← hze]; rcases (show z = 0 ∨ z = 1 by omega) with rfl | rfl; (exact hZs.m0); exact hZs.m1
   have hhz := HY.ez
   have hhz' : y.zo = some ⟨gz, 0, none⟩ := hhz
   intro A f
   rw [hhz] at hau; simp only [Option.some.injEq, Addr.mk.injEq, and_true] at hau; obtain ⟨rfl, rfl⟩ := hau
   revert A; refine vlx (h:=vld (y_loadN (vs := [_, _, _, _]) rfl rfl (ag rfl) rfl ⟨(by first | assumption | exact St.q c0u BZ | exact St.q c1u BZ | exact St.q c2u BZ | exact St.q c3u BZ), (by first | assumption | exact St.q c0u BZ | exact St.q c1u BZ | exact St.q c2u BZ | exact St.q c3u BZ), (by first | assumption | exact St.q c0u BZ | exact St.q c1u BZ | exact St.q c2u BZ | exact St.q c3u BZ), (by first | assumption | exact St.q c0u BZ | exact St.q c1u BZ | exact St.q c2u BZ | exact St.q c3u BZ), trivial⟩) (h:=vlm (h:=vlm (h:=?_))))
   have lt_b1 := row_lt rb1
   have lt_b4 := row_lt rb4
   obtain ⟨sB, hsB⟩ : ∃ n, n = W14.heap.size := ⟨_, rfl⟩
   intro A f
   refine l_call f rfl rfl rfl (IsCall.mk' (cap := []) rfl rfl rfl) (pl rfl) (takenOf_both _ fou fnu fcu tou tnu tcu zu o (typeF fl) hatu hmz ho (typeF_ok fl)) ?_
   clear f A; rintro _ W15 ⟨F, T, ko, kn, kc, lo, ln, lc, a, c, rfl, hk, hb16⟩
   refine ⟨_, rfl, ?_⟩; intro A f
   rw [← hsB] at hk
   have hsz := hb16.size
   replace HY := HY.below hb16; replace hbt := hbt.gr hb16; replace rb1 := row_next rb1 hb16; replace rb4 := row_next rb4 hb16
   revert A; refine vlm (h:=vle (h:=vle (h:=vle (h:=?_)))); intro A f
   refine l_as (z := .agg #[.int .i64 0, .int .i64 0, .slice none 0 0, .slice none 0 0]) f rfl rfl rfl rfl (by kernel_rfl) rfl rfl (fun _ => rfl) (fun _ => rfl) rfl (by intro u hu; simp [Value.cells] at hu; rcases hu with rfl | rfl | rfl | rfl <;> rfl) ?_; clear f A; intro b17 W18 eb17 hb19 rb17 A f
   dsimp only [Value.cells] at rb17
   have hpb17 := hb19
   have o_b1_b17 : b1 < b17 := by have := row_lt rb1; omega
   have o_b4_b17 : b4 < b17 := by have := row_lt rb4; omega
   replace HY := HY.below hb19; replace hbt := hbt.gr hb19; replace hk := hk.below hb19; replace rb1 := row_next rb1 hb19; replace rb4 := row_next rb4 hb19
   revert A; refine vla (h:=vla (h:=vW (vS (vS (vR (vlm (h:=vlb (y_neq rfl rfl rfl) (h:=?_) (g:=?_))))))))
   ·intro c20
    refine vW (vC (h:=vS (vR (vl5 (rowq rb1) (h:=?_))))); intro A f
    refine vls f rb4 ?_
    clear rb4; intro W21 hb22 rb4; dsimp only [setL, over, Value.cells] at rb4; replace rb1 := But.row hb22 rb1 (by omega); replace rb17 := But.row hb22 rb17 (by omega); replace hbt := But.then_new hbt hb22 (by omega); replace HY := HY.but hb22 (by omega) aw12
    revert A; refine vla (h:=vW (vE (vF ?_))); intro A f
    refine x_retc1 f rfl rfl rfl (ag rfl) rb4 rfl ?_
    have hC : chooseI zu.free o (typeF fl) < 0 := by rcases hk with h | h; (exact h.1); exact absurd h.1 c20
    have hLE : L = [] := List.eq_nil_of_length_eq_zero (by omega)
    rw [hLE] at hL
    have hr : tryH y.hp cpu z o fl = none := by
     unfold tryH singleH
     have hz0 : o = 0 := c7
     subst hz0
     rw [if_pos rfl, hL, if_neg (by simp), takeH_few hze hC]
    rw [hr]
    exact ⟨hbt, .inl ⟨rfl, rfl, HY⟩⟩
   intro c20
   refine vW (vD (h:=vK (vT (vS (vR ?_))))); intro A f
   rcases hk with ⟨_, hc6⟩ | ⟨_, i, hCi, rfl, rfl, rfl, hz2r, hf2, ht2⟩
   ·exfalso; omega
   obtain ⟨Y, hY⟩ : ∃ Y, takeZ zu o (typeF fl) i = Y := ⟨_, rfl⟩
   rw [hY] at hz2r rb17
   revert A; refine vlf (h:=vl1 (rowq rb1) (h:=vlm (h:=vl4 (rowq rb17) (h:=vlx (h:=?_)))))
   have oz := HY.oz
   intro A f
   rw [HY.ez] at oz
   have hin : z < y.zn := by have h1 := hz2; have h2 := HY0.zones.len; omega
   refine l_storeR f rfl rfl rfl rfl rfl (own_set4 oz hin (Zc.q ⟨Y, ko, kn, kc, lo, ln, lc⟩) (Zc.one _) (sz rfl)) ?_
   rintro W23 ⟨hb24, ow⟩
   have HY2 : HZ W23 B gz (y.withZ (y.zs.set z ⟨Y, ko, kn, kc, lo, ln, lc⟩)) := HY.set (i := z) (z := ⟨Y, ko, kn, kc, lo, ln, lc⟩) hz2r (fun a ha e => by have := hf2 a ha; omega) (fun a ha e => by have := ht2 a ha; omega) hb24 (by rw [HY.ez]; exact ow)
   clear HY
   have aw2 : Away b4 (y.withZ (y.zs.set z ⟨Y, ko, kn, kc, lo, ln, lc⟩)) := Away.setZ (i := z) (z := ⟨Y, ko, kn, kc, lo, ln, lc⟩) aw12 (fun a ha => by have := hf2 a ha; omega) (fun a ha => by have := ht2 a ha; omega)
   have hbs := hbt.size
   have hA2 : ∀ b, b < w.heap.size → Away b y → Away b (y.withZ (y.zs.set z ⟨Y, ko, kn, kc, lo, ln, lc⟩)) := fun b hb ha => Away.setZ (i := z) (z := ⟨Y, ko, kn, kc, lo, ln, lc⟩) ha (fun a h => by have := hf2 a h; omega) (fun a h => by have := ht2 a h; omega)
   replace hbt := hbt.trans hb24
   replace rb1 := But.row hb24 rb1 (by omega); replace rb4 := But.row hb24 rb4 (by omega); replace rb17 := But.row hb24 rb17 (by omega)
   revert A; refine vW (vS (vS (vR (vlm (h:=vlb (y_gtr rfl rfl rfl) (h:=?_) (g:=?_))))))
   ·intro c25; exfalso; omega
   intro c25
   refine vW (vD (h:=vK (vT (vS (vR (vla (h:=vW (vS (vB ?_)))))))))
   have hr1 := takeH_yes (y := y) (zs := y.zs) hze c12 hCi hY (c := ⟨Y, ko, kn, kc, lo, ln, lc⟩) rfl
   obtain ⟨p1, hp1⟩ : ∃ p, p = (zu.free.getD i .zero).a := ⟨_, rfl⟩
   intro A f
   rw [← hp1] at hr1 f
   obtain ⟨G1, hG1⟩ : ∃ G, G = (y.withZ (y.zs.set z ⟨Y, ko, kn, kc, lo, ln, lc⟩)).hp := ⟨_, rfl⟩
   rw [← hG1] at hr1
   have hZ1 := (takeH_ok (H := y.hp) hZs hz ho hr1).1
   refine x_loop (fun n A W => ∃ (k : Nat) (zs : List Zc) (ps : List Int) (vo : Option Addr) (vc : Nat), n = 3 - k ∧ k ≤ 3 ∧ Fr A 117 [(1, .int .i64 cpu), (2, .int .i64 (z : Nat)), (4, .int .i64 (typeF fl)), (5, .int .i64 fl), (6, .pointer (some ⟨b1, 0, none⟩)), (12, .pointer (some ⟨b4, 0, none⟩)), (16, .int .i64 p1), (18, .slice vo k vc)] ∧ W.heap[b1]? = some (.cells #[.slice y.zo y.zn y.zc, .slice y.mo y.mn y.mc, .int .i64 y.cpus, .slice y.lo y.ln y.lc, .slice y.vo y.vn y.vc] 27 (0, 0)) ∧ W.heap[b4]? = some (.cells #[.slice none 0 0, .slice none 0 0, .int .i64 0, .slice none 0 0, .slice none 0 0] 27 (0, 0)) ∧ W.ownsRow (b4 + 1) 3 1 (.slice vo k vc) k (vals ps) ∧ moreH (3 - k) (y.withZ zs).hp z fl ps = moreH 3 G1 z fl [] ∧ ZsOk (y.withZ zs).hp ∧ HZ W B gz (y.withZ zs) ∧ But gz w W ∧ Away b4 (y.withZ zs) ∧ (∀ a, vo = some a → Away a.block (y.withZ zs)) ∧ (∀ b, b < w.heap.size → Away b y → Away b (y.withZ zs))) (n0 := 3) (⟨0, y.zs.set z ⟨Y, ko, kn, kc, lo, ln, lc⟩, [], none, 0, rfl, by omega, f.sub ⟨rfl, rfl, rfl, rfl, rfl, rfl, rfl, rfl, trivial⟩, rb1, rb4, World.ownsRow_nil _ _ _ _, by rw [hG1], by rw [← hG1]; exact hZ1, HY2, hbt, aw2, fun a ha => (by cases ha), hA2⟩) ?_
   clear f A
   clear HY2 aw2 hA2 rb1 rb4 hbt rb17
   rintro n A W26 ⟨k, zs, ps, vo, vc, hn, hk3, f, rb1, rb4, own, hmore, hZk, HYk, hbt, awk, hvo, hA⟩
   have own0 := own
   have hsk := hbt.size
   revert A; refine vS (vS (vR (vlm (h:=vlz (h:=vlb (y_lss rfl rfl rfl) (h:=?_) (g:=?_))))))
   ·intro c27
    refine vlm (h:=vl5 (rowq rb1) (h:=vlm (h:=vlm (h:=?_)))); intro A f
    refine l_callif _ f rfl rfl rfl (IsCall.mk' (cap := []) rfl rfl rfl) (pl rfl) (enough_c _ (y.withZ zs) 0 fl z HYk.at_ ⟨hMn.n, hMn.a, hMn.b⟩ hZk hf hz (by unfold ordOk; omega)) ?_ ?_
    ·clear f A; intro c28 W30 hb29 A f
     replace HYk := HYk.below hb29; replace hbt := hbt.gr hb29; replace rb1 := row_next rb1 hb29; replace rb4 := row_next rb4 hb29; replace own := owns_below own hb29 (Nat.le_refl _)
     revert A; refine vlp (h:=vW (vC (h:=vK (vT (vB (vS (vR (vlf (h:=vl1 (rowq rb1) (h:=vlm (h:=?_)))))))))))
     have BZ := Below.refl W30.heap.size W30
     obtain ⟨gu, ou, zu, fou, fnu, fcu, tou, tnu, tcu, hau, c0u, c1u, c2u, c3u, hatu, hXu⟩ := HYk.at_.zones.at (z) (by have h1 : (y.withZ zs).zs.length = 2 := (by have h3 := hZk.n; have h4 : (List.map (fun c : Zc => c.z) zs).length = 2 := h3; rw [List.length_map] at h4; exact h4); have h2 := HYk.at_.zones.len; omega)
     replace c0u := St.of c0u; replace c1u := St.of c1u; replace c2u := St.of c2u; replace c3u := St.of c3u
     have hze : (y.withZ zs).hp.zones.getD z ⟨0, 0, [], []⟩ = zu := by rw [hp_zone, hXu.out]
     have hmz : ZMay zu := by rw [← hze]; rcases (show z = 0 ∨ z = 1 by omega) with rfl | rfl; (exact hZk.m0); exact hZk.m1
     have hhz := HYk.ez
     have hhz' : y.zo = some ⟨gz, 0, none⟩ := hhz
     intro A f
     rw [hhz] at hau; simp only [Option.some.injEq, Addr.mk.injEq, and_true] at hau; obtain ⟨rfl, rfl⟩ := hau
     revert A; refine vlx (h:=vld (y_loadN (vs := [_, _, _, _]) rfl rfl (ag rfl) rfl ⟨(by first | assumption | exact St.q c0u BZ | exact St.q c1u BZ | exact St.q c2u BZ | exact St.q c3u BZ), (by first | assumption | exact St.q c0u BZ | exact St.q c1u BZ | exact St.q c2u BZ | exact St.q c3u BZ), (by first | assumption | exact St.q c0u BZ | exact St.q c1u BZ | exact St.q c2u BZ | exact St.q c3u BZ), (by first | assumption | exact St.q c0u BZ | exact St.q c1u BZ | exact St.q c2u BZ | exact St.q c3u BZ), trivial⟩) (h:=vlm (h:=?_)))
     have lt_b1 := row_lt rb1
     have lt_b4 := row_lt rb4
     obtain ⟨sB, hsB⟩ : ∃ n, n = W30.heap.size := ⟨_, rfl⟩
     replace own0 := own
     intro A f
     refine l_call f rfl rfl rfl (IsCall.mk' (cap := []) rfl rfl rfl) (pl rfl) (takenOf_both _ fou fnu fcu tou tnu tcu zu 0 (typeF fl) hatu hmz (by unfold ordOk; omega) (typeF_ok fl)) ?_
     clear f A; rintro _ W31 ⟨F, T, ko, kn, kc, lo, ln, lc, a, c, rfl, hk, hb32⟩
     refine ⟨_, rfl, ?_⟩; intro A f
     rw [← hsB] at hk
     have hsz := hb32.size
     replace HYk := HYk.below hb32; replace hbt := hbt.gr hb32; replace rb1 := row_next rb1 hb32; replace rb4 := row_next rb4 hb32; replace own := owns_below own hb32 (Nat.le_refl _)
     revert A; refine vlm (h:=vle (h:=vle (h:=vle (h:=?_)))); intro A f
     refine l_as (z := .agg #[.int .i64 0, .int .i64 0, .slice none 0 0, .slice none 0 0]) f rfl rfl rfl rfl (by kernel_rfl) rfl rfl (fun _ => rfl) (fun _ => rfl) rfl (by intro u hu; simp [Value.cells] at hu; rcases hu with rfl | rfl | rfl | rfl <;> rfl) ?_; clear f A; intro b33 W34 eb33 hb35 rb33 A f
     dsimp only [Value.cells] at rb33
     have hpb33 := hb35
     have o_b1_b33 : b1 < b33 := by have := row_lt rb1; omega
     have o_b4_b33 : b4 < b33 := by have := row_lt rb4; omega
     replace HYk := HYk.below hb35; replace hbt := hbt.gr hb35; replace hk := hk.below hb35; replace rb1 := row_next rb1 hb35; replace rb4 := row_next rb4 hb35; replace own := owns_below own hb35 (Nat.le_refl _)
     revert A; refine vla (h:=vla (h:=vW (vS (vS (vR (vlm (h:=vlb (y_neq rfl rfl rfl) (h:=?_) (g:=?_))))))))
     ·intro c36
      refine vW (vC (h:=vX (vH (vJ (h:=vH (vI (vT (vS (vR (vl5 (rowq rb1) (h:=vlm (h:=vlm (h:=vlm (h:=vlm (h:=?_)))))))))))))))
      have hN5 : Nums W34 vo k ps := nums_of_owns own (by omega)
      have hgp := owns_blk own
      have l12 := row_lt rb4
      have hsz5 := hbt.size
      obtain ⟨s5, hs5⟩ : ∃ n, n = W34.heap.size := ⟨_, rfl⟩
      intro A f
      refine l_call f rfl rfl rfl (IsCall.mk' (cap := []) rfl rfl rfl) (pl rfl) (setList_any _ (y.withZ zs) ⟨cpu, (z : Nat), typeF fl, ps⟩ vo k vc HYk.at_ hord (by show y.ln ≤ 100; omega) hN5) ?_
      clear f A
      rintro _ W37 ⟨ls5, lo5, ln5, lc5, rfl, hAt5, hls5, hb38, hlo5, hmem5⟩
      refine ⟨_, rfl, ?_⟩
      intro A f
      replace HYk := HYk.below hb38; replace hbt := hbt.gr hb38; replace hk := hk.below hb38; replace rb1 := row_next rb1 hb38; replace rb4 := row_next rb4 hb38; replace rb33 := row_next rb33 hb38; replace own := owns_below own hb38 (Nat.le_refl _)
      have aw5 : Away b4 ((y.withZ zs).withL ls5 lo5 ln5 lc5) := away_withL awk (fun _ a ha => by have := hlo5 a ha; omega) (fun l hl => by rcases hmem5 l hl with h | rfl; (exact .inl h); exact .inr (fun a ha => by have := (hgp a ha).1; omega))
      have HY5 : HZ W37 B gz ((y.withZ zs).withL ls5 lo5 ln5 lc5) := HYk.withL hAt5 (fun a ha => by have := hlo5 a ha; omega) (fun l hl => by rcases hmem5 l hl with h | rfl; (exact .inl h); exact .inr (fun a ha => by have := (hgp a ha).1; omega))
      clear HYk hAt5
      revert A; refine vlm (h:=?_); intro A f
      refine vls f rb4 ?_
      clear rb4; intro W39 hb40 rb4; dsimp only [setL, over, Value.cells] at rb4; replace rb1 := But.row hb40 rb1 (by omega); replace rb33 := But.row hb40 rb33 (by omega); replace hbt := But.then_new hbt hb40 (by omega); replace HY5 := HY5.but hb40 (by omega) aw5
      revert A; refine vla (h:=vW (vE ?_)); intro A f
      refine x_retc1 f rfl rfl rfl (ag rfl) rb4 rfl ?_
      have hLE : L = [] := List.eq_nil_of_length_eq_zero (by omega)
      rw [hLE] at hL
      have hmk : moreH 3 G1 z fl [] = ((y.withZ zs).hp, ps) := by rw [← hmore]; rw [show 3 - k = (2 - k) + 1 by omega, moreH_none (takeH_few hze (by rcases hk with h | h; (exact h.1); exact absurd h.1 c36))]
      have hr : tryH y.hp cpu z o fl = some ({ (y.withZ zs).hp with lists := setLs (y.withZ zs).hp.lists ⟨cpu, (z : Nat), typeF fl, ps⟩ }, p1) := by
       unfold tryH singleH
       have hz0 : o = 0 := c7
       rw [hz0] at hr1
       rw [if_pos hz0, hL, if_neg (by simp)]
       rw [show takeGH y.hp z 0 fl = some (G1, p1) from hr1]
       show some _ = _
       rw [hmk]
      rw [hr]
      refine ⟨hbt, .inr ⟨zs, ls5, lo5, ln5, lc5, p1, ?_, rfl, HY5, fun b hb ha => away_withL (hA b hb ha) (fun _ a h => by have := hlo5 a h; omega) (fun l hl => by rcases hmem5 l hl with h | rfl; (exact .inl h); exact .inr (fun a h => by have := (hgp a h).1; omega))⟩⟩
      have e : ((y.withZ zs).withL ls5 lo5 ln5 lc5).hp = { (y.withZ zs).hp with lists := ls5.map (·.l) } := rfl
      rw [e, hls5]
     intro c36
     refine vW (vD (h:=vK (vT (vS (vR ?_))))); intro A f
     rcases hk with ⟨_, hc6⟩ | ⟨_, i, hCi, rfl, rfl, rfl, hz2r, hf2, ht2⟩
     ·exfalso; omega
     obtain ⟨Y, hY⟩ : ∃ Y, takeZ zu 0 (typeF fl) i = Y := ⟨_, rfl⟩
     rw [hY] at hz2r rb33
     revert A; refine vlf (h:=vl1 (rowq rb1) (h:=vlm (h:=vl4 (rowq rb33) (h:=vlx (h:=?_)))))
     have oz := HYk.oz
     intro A f
     rw [HYk.ez] at oz
     have hin : z < y.zn := by have h1 := hz2; have h2 := HY0.zones.len; omega
     refine l_storeR f rfl rfl rfl rfl rfl (own_set4 oz hin (Zc.q ⟨Y, ko, kn, kc, lo, ln, lc⟩) (Zc.one _) (sz rfl)) ?_
     rintro W41 ⟨hb42, ow⟩
     have HY2 : HZ W41 B gz (y.withZ (zs.set z ⟨Y, ko, kn, kc, lo, ln, lc⟩)) := HYk.set (i := z) (z := ⟨Y, ko, kn, kc, lo, ln, lc⟩) hz2r (fun a ha e => by have := hf2 a ha; omega) (fun a ha e => by have := ht2 a ha; omega) hb42 (by rw [HYk.ez]; exact ow)
     clear HYk
     have aw2 : Away b4 (y.withZ (zs.set z ⟨Y, ko, kn, kc, lo, ln, lc⟩)) := Away.setZ (i := z) (z := ⟨Y, ko, kn, kc, lo, ln, lc⟩) awk (fun a ha => by have := hf2 a ha; omega) (fun a ha => by have := ht2 a ha; omega)
     have hbs := hbt.size
     have hA2 : ∀ b, b < w.heap.size → Away b y → Away b (y.withZ (zs.set z ⟨Y, ko, kn, kc, lo, ln, lc⟩)) := fun b hb ha => Away.setZ (i := z) (z := ⟨Y, ko, kn, kc, lo, ln, lc⟩) (hA b hb ha) (fun a h => by have := hf2 a h; omega) (fun a h => by have := ht2 a h; omega)
     have hvo2 : ∀ a, vo = some a → Away a.block (y.withZ (zs.set z ⟨Y, ko, kn, kc, lo, ln, lc⟩)) := fun a ha => Away.setZ (i := z) (z := ⟨Y, ko, kn, kc, lo, ln, lc⟩) (hvo a ha) (fun c hc => by have h1 := hf2 c hc; have h2 := (owns_blk own0 a ha).2.1; omega) (fun c hc => by have h1 := ht2 c hc; have h2 := (owns_blk own0 a ha).2.1; omega)
     replace own := owns_butN own hb42 (fun a ha => by have := (owns_blk own a ha).1; omega)
     replace hbt := hbt.trans hb42
     replace rb1 := But.row hb42 rb1 (by omega); replace rb4 := But.row hb42 rb4 (by omega); replace rb33 := But.row hb42 rb33 (by omega)
     revert A; refine vW (vR (vlm (h:=vlm (h:=?_))))
     obtain ⟨gb, hgb⟩ : ∃ g, g = W41.heap.size := ⟨_, rfl⟩
     intro A f
     refine l_opR (R := fun v W => v = .slice (some ⟨gb, 0, none⟩) 1 1 ∧ Below W41.heap.size W41 W ∧ W.heap[gb]? = some (.cells #[.int .i64 (zu.free.getD i .zero).a] 3 (0, 0))) f rfl rfl rfl ⟨_, _, bs_exec f rfl rfl (bs_int1 _ _), by rw [hgb], (Below.refl _ _).alloc (Nat.le_refl _) _, by rw [hgb]; show (Array.push _ _)[_]? = _; rw [Array.getElem?_push, if_pos rfl]⟩ ?_
     clear f A
     rintro _ W43 ⟨rfl, hb44, rgb⟩ A f
     replace hbt := hbt.gr hb44; replace HY2 := HY2.below hb44; replace rb1 := row_next rb1 hb44; replace rb4 := row_next rb4 hb44; replace rb33 := row_next rb33 hb44; replace own := owns_below own hb44 (Nat.le_refl _)
     have hsn := hbt.size
     have l6 := row_lt rb1
     have l12 := row_lt rb4
     refine l_opR (R := fun v W => ∃ g9 c9, v = .slice (some ⟨g9, 0, none⟩) (k + 1) c9 ∧ W.ownsRow (b4 + 1) 3 1 (.slice (some ⟨g9, 0, none⟩) (k + 1) c9) (k + 1) (vals (ps ++ [(zu.free.getD i .zero).a])) ∧ ((vo = some ⟨g9, 0, none⟩ ∧ But g9 W43 W) ∨ (g9 = W43.heap.size ∧ Below W43.heap.size W43 W))) f rfl rfl rfl (by obtain ⟨g1, c1, W1, h1, h2, h3⟩ := app_own1 W43 _ _ vo k vc ps _ gb own (by omega) rgb (by omega); exact ⟨_, W1, append_exec f rfl rfl rfl h1, g1, c1, rfl, h2, h3⟩) ?_
     clear f A
     rintro _ W45 ⟨g9, c9, rfl, own9, hcs⟩ A f
     have hall : W45.heap[b1]? = some (.cells #[.slice y.zo y.zn y.zc, .slice y.mo y.mn y.mc, .int .i64 y.cpus, .slice y.lo y.ln y.lc, .slice y.vo y.vn y.vc] 27 (0, 0)) ∧ W45.heap[b4]? = some (.cells #[.slice none 0 0, .slice none 0 0, .int .i64 0, .slice none 0 0, .slice none 0 0] 27 (0, 0)) ∧ HZ W45 B gz (y.withZ (zs.set z ⟨Y, ko, kn, kc, lo, ln, lc⟩)) ∧ But gz w W45 ∧ Away g9 (y.withZ (zs.set z ⟨Y, ko, kn, kc, lo, ln, lc⟩)) := by
      rcases hcs with ⟨e9, h9⟩ | ⟨e9, h9⟩
      ·have hg9 := (owns_blk own _ e9).1
       have hF9 := hvo2 _ e9
       dsimp only at hg9 hF9
       exact ⟨But.row h9 rb1 (by omega), But.row h9 rb4 (by omega), HY2.but h9 (by omega) hF9, But.then_new hbt h9 (by omega), hF9⟩
      exact ⟨row_next rb1 h9, row_next rb4 h9, HY2.below h9, hbt.gr h9, away_old HY2.at_ (by omega)⟩
     clear rb1 rb4 HY2 hbt
     obtain ⟨rb1, rb4, HY2, hbt, hgA⟩ := hall
     replace own := own9
     revert A; refine vla (h:=vN (vU (vT ?_)))
     have hr2 := takeH_yes (y := y) (zs := zs) hze c28 hCi hY (c := ⟨Y, ko, kn, kc, lo, ln, lc⟩) rfl
     intro A f
     exact ⟨2 - k, by omega, k + 1, zs.set z ⟨Y, ko, kn, kc, lo, ln, lc⟩, ps ++ [(zu.free.getD i .zero).a], _, _, by omega, by omega, f.sub ⟨rfl, rfl, rfl, rfl, rfl, rfl, rfl, rfl, trivial⟩, rb1, rb4, own, by rw [← hmore, show 3 - k = (2 - k) + 1 by omega, moreH_some hr2, show 3 - (k + 1) = 2 - k by omega], (takeH_ok hZk hz (by unfold ordOk; omega) hr2).1, HY2, hbt, aw2, fun a ha => (by cases ha; exact hgA), hA2⟩
    clear f A; intro c28 W30 hb29 A f
    replace HYk := HYk.below hb29; replace hbt := hbt.gr hb29; replace rb1 := row_next rb1 hb29; replace rb4 := row_next rb4 hb29; replace own := owns_below own hb29 (Nat.le_refl _)
    revert A; refine vlp (h:=vW (vD (h:=vX (vH (vH (vI (vT (vS (vR (vl5 (rowq rb1) (h:=vlm (h:=vlm (h:=vlm (h:=vlm (h:=?_)))))))))))))))
    have hN5 : Nums W30 vo k ps := nums_of_owns own (by omega)
    have hgp := owns_blk own
    have l12 := row_lt rb4
    have hsz5 := hbt.size
    obtain ⟨s5, hs5⟩ : ∃ n, n = W30.heap.size := ⟨_, rfl⟩
    intro A f
    refine l_call f rfl rfl rfl (IsCall.mk' (cap := []) rfl rfl rfl) (pl rfl) (setList_any _ (y.withZ zs) ⟨cpu, (z : Nat), typeF fl, ps⟩ vo k vc HYk.at_ hord (by show y.ln ≤ 100; omega) hN5) ?_
    clear f A
    rintro _ W46 ⟨ls5, lo5, ln5, lc5, rfl, hAt5, hls5, hb47, hlo5, hmem5⟩
    refine ⟨_, rfl, ?_⟩
    intro A f
    replace HYk := HYk.below hb47; replace hbt := hbt.gr hb47; replace rb1 := row_next rb1 hb47; replace rb4 := row_next rb4 hb47; replace own := owns_below own hb47 (Nat.le_refl _)
    have aw5 : Away b4 ((y.withZ zs).withL ls5 lo5 ln5 lc5) := away_withL awk (fun _ a ha => by have := hlo5 a ha; omega) (fun l hl => by rcases hmem5 l hl with h | rfl; (exact .inl h); exact .inr (fun a ha => by have := (hgp a ha).1; omega))
    have HY5 : HZ W46 B gz ((y.withZ zs).withL ls5 lo5 ln5 lc5) := HYk.withL hAt5 (fun a ha => by have := hlo5 a ha; omega) (fun l hl => by rcases hmem5 l hl with h | rfl; (exact .inl h); exact .inr (fun a ha => by have := (hgp a ha).1; omega))
    clear HYk hAt5
    revert A; refine vlm (h:=?_); intro A f
    refine vls f rb4 ?_
    clear rb4; intro W48 hb49 rb4; dsimp only [setL, over, Value.cells] at rb4; replace rb1 := But.row hb49 rb1 (by omega); replace hbt := But.then_new hbt hb49 (by omega); replace HY5 := HY5.but hb49 (by omega) aw5
    revert A; refine vla (h:=vW (vE ?_)); intro A f
    refine x_retc1 f rfl rfl rfl (ag rfl) rb4 rfl ?_
    have hLE : L = [] := List.eq_nil_of_length_eq_zero (by omega)
    rw [hLE] at hL
    have hmk : moreH 3 G1 z fl [] = ((y.withZ zs).hp, ps) := by rw [← hmore]; rw [show 3 - k = (2 - k) + 1 by omega, moreH_none (takeH_held rfl (Int.not_le.1 c28))]
    have hr : tryH y.hp cpu z o fl = some ({ (y.withZ zs).hp with lists := setLs (y.withZ zs).hp.lists ⟨cpu, (z : Nat), typeF fl, ps⟩ }, p1) := by
     unfold tryH singleH
     have hz0 : o = 0 := c7
     rw [hz0] at hr1
     rw [if_pos hz0, hL, if_neg (by simp)]
     rw [show takeGH y.hp z 0 fl = some (G1, p1) from hr1]
     show some _ = _
     rw [hmk]
    rw [hr]
    refine ⟨hbt, .inr ⟨zs, ls5, lo5, ln5, lc5, p1, ?_, rfl, HY5, fun b hb ha => away_withL (hA b hb ha) (fun _ a h => by have := hlo5 a h; omega) (fun l hl => by rcases hmem5 l hl with h | rfl; (exact .inl h); exact .inr (fun a h => by have := (hgp a h).1; omega))⟩⟩
    have e : ((y.withZ zs).withL ls5 lo5 ln5 lc5).hp = { (y.withZ zs).hp with lists := ls5.map (·.l) } := rfl
    rw [e, hls5]
   intro c27
   refine vlm (h:=vlO 4 (h:=vlp (h:=vW (vD (h:=vX (vH (vH (vI (vT (vS (vR (vl5 (rowq rb1) (h:=vlm (h:=vlm (h:=vlm (h:=vlm (h:=?_)))))))))))))))))
   have hN5 : Nums W26 vo k ps := nums_of_owns own (by omega)
   have hgp := owns_blk own
   have l12 := row_lt rb4
   have hsz5 := hbt.size
   obtain ⟨s5, hs5⟩ : ∃ n, n = W26.heap.size := ⟨_, rfl⟩
   intro A f
   refine l_call f rfl rfl rfl (IsCall.mk' (cap := []) rfl rfl rfl) (pl rfl) (setList_any _ (y.withZ zs) ⟨cpu, (z : Nat), typeF fl, ps⟩ vo k vc HYk.at_ hord (by show y.ln ≤ 100; omega) hN5) ?_
   clear f A
   rintro _ W50 ⟨ls5, lo5, ln5, lc5, rfl, hAt5, hls5, hb51, hlo5, hmem5⟩
   refine ⟨_, rfl, ?_⟩
   intro A f
   replace HYk := HYk.below hb51; replace hbt := hbt.gr hb51; replace rb1 := row_next rb1 hb51; replace rb4 := row_next rb4 hb51; replace own := owns_below own hb51 (Nat.le_refl _)
   have aw5 : Away b4 ((y.withZ zs).withL ls5 lo5 ln5 lc5) := away_withL awk (fun _ a ha => by have := hlo5 a ha; omega) (fun l hl => by rcases hmem5 l hl with h | rfl; (exact .inl h); exact .inr (fun a ha => by have := (hgp a ha).1; omega))
   have HY5 : HZ W50 B gz ((y.withZ zs).withL ls5 lo5 ln5 lc5) := HYk.withL hAt5 (fun a ha => by have := hlo5 a ha; omega) (fun l hl => by rcases hmem5 l hl with h | rfl; (exact .inl h); exact .inr (fun a ha => by have := (hgp a ha).1; omega))
   clear HYk hAt5
   revert A; refine vlm (h:=?_); intro A f
   refine vls f rb4 ?_
   clear rb4; intro W52 hb53 rb4; dsimp only [setL, over, Value.cells] at rb4; replace rb1 := But.row hb53 rb1 (by omega); replace hbt := But.then_new hbt hb53 (by omega); replace HY5 := HY5.but hb53 (by omega) aw5
   revert A; refine vla (h:=vW (vE ?_)); intro A f
   refine x_retc1 f rfl rfl rfl (ag rfl) rb4 rfl ?_
   have hLE : L = [] := List.eq_nil_of_length_eq_zero (by omega)
   rw [hLE] at hL
   have hmk : moreH 3 G1 z fl [] = ((y.withZ zs).hp, ps) := by rw [← hmore]; rw [show 3 - k = 0 by omega]; rfl
   have hr : tryH y.hp cpu z o fl = some ({ (y.withZ zs).hp with lists := setLs (y.withZ zs).hp.lists ⟨cpu, (z : Nat), typeF fl, ps⟩ }, p1) := by
    unfold tryH singleH
    have hz0 : o = 0 := c7
    rw [hz0] at hr1
    rw [if_pos hz0, hL, if_neg (by simp)]
    rw [show takeGH y.hp z 0 fl = some (G1, p1) from hr1]
    show some _ = _
    rw [hmk]
   rw [hr]
   refine ⟨hbt, .inr ⟨zs, ls5, lo5, ln5, lc5, p1, ?_, rfl, HY5, fun b hb ha => away_withL (hA b hb ha) (fun _ a h => by have := hlo5 a h; omega) (fun l hl => by rcases hmem5 l hl with h | rfl; (exact .inl h); exact .inr (fun a h => by have := (hgp a h).1; omega))⟩⟩
   have e : ((y.withZ zs).withL ls5 lo5 ln5 lc5).hp = { (y.withZ zs).hp with lists := ls5.map (·.l) } := rfl
   rw [e, hls5]
  clear f A; intro c12 W14 hb13 A f
  replace HY := HY.below hb13; replace hbt := hbt.gr hb13; replace rb1 := row_next rb1 hb13; replace rb4 := row_next rb4 hb13
  revert A; refine vln (h:=vW (vC (h:=vS (vR (vl5 (rowq rb1) (h:=?_)))))); intro A f
  refine vls f rb4 ?_
  clear rb4; intro W54 hb55 rb4; dsimp only [setL, over, Value.cells] at rb4; replace rb1 := But.row hb55 rb1 (by omega); replace hbt := But.then_new hbt hb55 (by omega); replace HY := HY.but hb55 (by omega) aw12
  revert A; refine vla (h:=vW (vE (vF ?_))); intro A f
  refine x_retc1 f rfl rfl rfl (ag rfl) rb4 rfl ?_
  have hLE : L = [] := List.eq_nil_of_length_eq_zero (by omega)
  rw [hLE] at hL
  have hr : tryH y.hp cpu z o fl = none := by
   unfold tryH singleH
   have hz0 : o = 0 := c7
   subst hz0
   rw [if_pos rfl, hL, if_neg (by simp), takeH_held rfl (Int.not_le.1 c12)]
  rw [hr]
  exact ⟨hbt, .inl ⟨rfl, rfl, HY⟩⟩
 intro c7
 refine vW (vD (h:=vK (vT (vS (vS (vR (vl5 (rowq rb1) (h:=vlm (h:=vlm (h:=vlm (h:=?_))))))))))); intro A f
 refine l_callif _ f rfl rfl rfl (IsCall.mk' (cap := []) rfl rfl rfl) (pl rfl) (enough_c _ y o fl z HY.at_ hMn hZs hf hz ho) ?_ ?_
 ·clear f A; intro c56 W58 hb57 A f
  replace HY := HY.below hb57; replace hbt := hbt.gr hb57; replace rb1 := row_next rb1 hb57; replace rb4 := row_next rb4 hb57
  revert A; refine vln (h:=vW (vD (h:=vK (vT (vS (vR (vlf (h:=vl1 (rowq rb1) (h:=vlm (h:=?_))))))))))
  have BZ := Below.refl W58.heap.size W58
  obtain ⟨gu, ou, zu, fou, fnu, fcu, tou, tnu, tcu, hau, c0u, c1u, c2u, c3u, hatu, hXu⟩ := HY.at_.zones.at (z) (by have h1 : y.zs.length = 2 := hz2; have h2 := HY.at_.zones.len; omega)
  replace c0u := St.of c0u; replace c1u := St.of c1u; replace c2u := St.of c2u; replace c3u := St.of c3u
  have hze : y.hp.zones.getD z ⟨0, 0, [], []⟩ = zu := by rw [hp_zone, hXu.out]
  have hmz : ZMay zu := by rw [← hze]; rcases (show z = 0 ∨ z = 1 by omega) with rfl | rfl; (exact hZs.m0); exact hZs.m1
  have hhz := HY.ez
  have hhz' : y.zo = some ⟨gz, 0, none⟩ := hhz
  intro A f
  rw [hhz] at hau; simp only [Option.some.injEq, Addr.mk.injEq, and_true] at hau; obtain ⟨rfl, rfl⟩ := hau
  revert A; refine vlx (h:=vld (y_loadN (vs := [_, _, _, _]) rfl rfl (ag rfl) rfl ⟨(by first | assumption | exact St.q c0u BZ | exact St.q c1u BZ | exact St.q c2u BZ | exact St.q c3u BZ), (by first | assumption | exact St.q c0u BZ | exact St.q c1u BZ | exact St.q c2u BZ | exact St.q c3u BZ), (by first | assumption | exact St.q c0u BZ | exact St.q c1u BZ | exact St.q c2u BZ | exact St.q c3u BZ), (by first | assumption | exact St.q c0u BZ | exact St.q c1u BZ | exact St.q c2u BZ | exact St.q c3u BZ), trivial⟩) (h:=vlm (h:=vlm (h:=?_))))
  have lt_b1 := row_lt rb1
  have lt_b4 := row_lt rb4
  obtain ⟨sB, hsB⟩ : ∃ n, n = W58.heap.size := ⟨_, rfl⟩
  intro A f
  refine l_call f rfl rfl rfl (IsCall.mk' (cap := []) rfl rfl rfl) (pl rfl) (takenOf_both _ fou fnu fcu tou tnu tcu zu o (typeF fl) hatu hmz ho (typeF_ok fl)) ?_
  clear f A; rintro _ W59 ⟨F, T, ko, kn, kc, lo, ln, lc, a, c, rfl, hk, hb60⟩
  refine ⟨_, rfl, ?_⟩; intro A f
  rw [← hsB] at hk
  have hsz := hb60.size
  replace HY := HY.below hb60; replace hbt := hbt.gr hb60; replace rb1 := row_next rb1 hb60; replace rb4 := row_next rb4 hb60
  revert A; refine vlm (h:=vle (h:=vle (h:=vle (h:=?_)))); intro A f
  refine l_as (z := .agg #[.int .i64 0, .int .i64 0, .slice none 0 0, .slice none 0 0]) f rfl rfl rfl rfl (by kernel_rfl) rfl rfl (fun _ => rfl) (fun _ => rfl) rfl (by intro u hu; simp [Value.cells] at hu; rcases hu with rfl | rfl | rfl | rfl <;> rfl) ?_; clear f A; intro b61 W62 eb61 hb63 rb61 A f
  dsimp only [Value.cells] at rb61
  have hpb61 := hb63
  have o_b1_b61 : b1 < b61 := by have := row_lt rb1; omega
  have o_b4_b61 : b4 < b61 := by have := row_lt rb4; omega
  replace HY := HY.below hb63; replace hbt := hbt.gr hb63; replace hk := hk.below hb63; replace rb1 := row_next rb1 hb63; replace rb4 := row_next rb4 hb63
  revert A; refine vla (h:=vla (h:=vW (vS (vS (vR (vlm (h:=vlb (y_neq rfl rfl rfl) (h:=?_) (g:=?_))))))))
  ·intro c64
   refine vW (vC (h:=vS (vR (vl5 (rowq rb1) (h:=?_))))); intro A f
   refine vls f rb4 ?_
   clear rb4; intro W65 hb66 rb4; dsimp only [setL, over, Value.cells] at rb4; replace rb1 := But.row hb66 rb1 (by omega); replace rb61 := But.row hb66 rb61 (by omega); replace hbt := But.then_new hbt hb66 (by omega); replace HY := HY.but hb66 (by omega) aw12
   revert A; refine vla (h:=vW (vE (vF ?_))); intro A f
   refine x_retc1 f rfl rfl rfl (ag rfl) rb4 rfl ?_
   have hC : chooseI zu.free o (typeF fl) < 0 := by rcases hk with h | h; (exact h.1); exact absurd h.1 c64
   have hr : tryH y.hp cpu z o fl = none := by
    unfold tryH
    rw [if_neg c7, takeH_few hze hC]
   rw [hr]
   exact ⟨hbt, .inl ⟨rfl, rfl, HY⟩⟩
  intro c64
  refine vW (vD (h:=vK (vT (vS (vR ?_))))); intro A f
  rcases hk with ⟨_, hc6⟩ | ⟨_, i, hCi, rfl, rfl, rfl, hz2r, hf2, ht2⟩
  ·exfalso; omega
  obtain ⟨Y, hY⟩ : ∃ Y, takeZ zu o (typeF fl) i = Y := ⟨_, rfl⟩
  rw [hY] at hz2r rb61
  revert A; refine vlf (h:=vl1 (rowq rb1) (h:=vlm (h:=vl4 (rowq rb61) (h:=vlx (h:=?_)))))
  have oz := HY.oz
  intro A f
  rw [HY.ez] at oz
  have hin : z < y.zn := by have h1 := hz2; have h2 := HY0.zones.len; omega
  refine l_storeR f rfl rfl rfl rfl rfl (own_set4 oz hin (Zc.q ⟨Y, ko, kn, kc, lo, ln, lc⟩) (Zc.one _) (sz rfl)) ?_
  rintro W67 ⟨hb68, ow⟩
  have HY2 : HZ W67 B gz (y.withZ (y.zs.set z ⟨Y, ko, kn, kc, lo, ln, lc⟩)) := HY.set (i := z) (z := ⟨Y, ko, kn, kc, lo, ln, lc⟩) hz2r (fun a ha e => by have := hf2 a ha; omega) (fun a ha e => by have := ht2 a ha; omega) hb68 (by rw [HY.ez]; exact ow)
  clear HY
  have aw2 : Away b4 (y.withZ (y.zs.set z ⟨Y, ko, kn, kc, lo, ln, lc⟩)) := Away.setZ (i := z) (z := ⟨Y, ko, kn, kc, lo, ln, lc⟩) aw12 (fun a ha => by have := hf2 a ha; omega) (fun a ha => by have := ht2 a ha; omega)
  have hbs := hbt.size
  have hA2 : ∀ b, b < w.heap.size → Away b y → Away b (y.withZ (y.zs.set z ⟨Y, ko, kn, kc, lo, ln, lc⟩)) := fun b hb ha => Away.setZ (i := z) (z := ⟨Y, ko, kn, kc, lo, ln, lc⟩) ha (fun a h => by have := hf2 a h; omega) (fun a h => by have := ht2 a h; omega)
  replace hbt := hbt.trans hb68
  replace rb1 := But.row hb68 rb1 (by omega); replace rb4 := But.row hb68 rb4 (by omega); replace rb61 := But.row hb68 rb61 (by omega)
  revert A; refine vW (vS (vS (vR (vlm (h:=vlb (y_gtr rfl rfl rfl) (h:=?_) (g:=?_))))))
  ·intro c69
   refine vW (vC (h:=vS (vR (vl5 (rowq rb1) (h:=vlm (h:=?_)))))); intro A f
   refine vls f rb4 ?_
   clear rb4; intro W70 hb71 rb4; dsimp only [setL, over, Value.cells] at rb4; replace rb1 := But.row hb71 rb1 (by omega); replace rb61 := But.row hb71 rb61 (by omega); replace hbt := But.then_new hbt hb71 (by omega); replace HY2 := HY2.but hb71 (by omega) aw2
   revert A; refine vla (h:=vW (vE (vF ?_))); intro A f
   refine x_retc1 f rfl rfl rfl (ag rfl) rb4 rfl ?_
   have hr1 := takeH_yes (y := y) (zs := y.zs) hze c56 hCi hY (c := ⟨Y, ko, kn, kc, lo, ln, lc⟩) rfl
   have hr : tryH y.hp cpu z o fl = _ := (if_neg c7).trans hr1
   rw [hr]
   exact ⟨hbt, .inr ⟨y.zs.set z ⟨Y, ko, kn, kc, lo, ln, lc⟩, y.ls, y.lo, y.ln, y.lc, _, rfl, rfl, HY2, fun b hb ha => hA2 b hb ha⟩⟩
  intro c69; exfalso; omega
 clear f A; intro c56 W58 hb57 A f
 replace HY := HY.below hb57; replace hbt := hbt.gr hb57; replace rb1 := row_next rb1 hb57; replace rb4 := row_next rb4 hb57
 revert A; refine vln (h:=vW (vC (h:=vS (vR (vl5 (rowq rb1) (h:=?_)))))); intro A f
 refine vls f rb4 ?_
 clear rb4; intro W72 hb73 rb4; dsimp only [setL, over, Value.cells] at rb4; replace rb1 := But.row hb73 rb1 (by omega); replace hbt := But.then_new hbt hb73 (by omega); replace HY := HY.but hb73 (by omega) aw12
 revert A; refine vla (h:=vW (vE (vF ?_))); intro A f
 refine x_retc1 f rfl rfl rfl (ag rfl) rb4 rfl ?_
 have hr : tryH y.hp cpu z o fl = none := by
  unfold tryH
  rw [if_neg c7, takeH_held rfl (Int.not_le.1 c56)]
 rw [hr]
 exact ⟨hbt, .inl ⟨rfl, rfl, HY⟩⟩
theorem blk_owns {w w' : World} {e : TypeId} {ao : Option Addr} {n cap size : Nat} {xs : List Value} (h : w'.ownsRow w.heap.size e size (.slice ao n cap) n xs) : ∀ b, blkOf (.slice ao n cap) = some b → w.heap.size ≤ b ∧ b < w'.heap.size := by
 intro b hb
 cases ao with
 | none => cases hb
 | some a =>
  cases hb
  have := owns_blk h a rfl
  exact ⟨this.1, this.2.1⟩
theorem tk_succ (l : List Zc) (k : Nat) (h : k < l.length) {z : Zc} (hx : l.getD k .zero = z) : (l.take (k + 1)).map (·.z) = (l.take k).map (·.z) ++ [z.z] := by
 rw [List.getD_eq_getElem?_getD, List.getElem?_eq_getElem h] at hx
 simp only [Option.getD_some] at hx
 rw [List.take_succ_eq_append_getElem h, List.map_append, hx]
 rfl
theorem tk_succL (l : List Lc) (k : Nat) (h : k < l.length) {z : Lc} (hx : l.getD k .zero = z) : (l.take (k + 1)).map (·.l) = (l.take k).map (·.l) ++ [z.l] := by
 rw [List.getD_eq_getElem?_getD, List.getElem?_eq_getElem h] at hx
 simp only [Option.getD_some] at hx
 rw [List.take_succ_eq_append_getElem h, List.map_append, hx]
 rfl
theorem bs_zone (a b c d : Value) (w : World) : (Instr.buildSlice 22 1 #[(0, .agg #[a, b, c, d])]).run Tryz.prog w = .ok (.slice (some ⟨w.heap.size, 0, none⟩) 1 1) (w.alloc (.cells #[a, b, c, d] 37)) := by
 simp [go_sem]
theorem bs_list (a b c d : Value) (w : World) : (Instr.buildSlice 24 1 #[(0, .agg #[a, b, c, d])]).run Tryz.prog w = .ok (.slice (some ⟨w.heap.size, 0, none⟩) 1 1) (w.alloc (.cells #[a, b, c, d] 40)) := by
 simp [go_sem]
theorem cells4_new {w : World} {b : Nat} {t : TypeId} {p q r s : Value} (h : w.heap[b]? = some (.cells #[p, q, r, s] t (0, 0))) : ∀ j v, [p, q, r, s][j]? = some v → w.cell? ((⟨b, 0, none⟩ : Addr).add j) = some v := by
 intro j v hj
 have hadd : (⟨b, 0, none⟩ : Addr).add j = ⟨b, j, none⟩ := by unfold Addr.add; split <;> simp_all
 rw [hadd, cell_of_row w b j _ t (0, 0) h]
 simpa using hj
theorem heapCopy_own (w : World) (x : Hx) (hx : x.At w) :
    Calls Tryz.prog 4 #[.agg #[.slice x.zo x.zn x.zc, .slice x.mo x.mn x.mc, .int .i64 x.cpus, .slice x.lo x.ln x.lc, .slice x.vo x.vn x.vc]] w fun e w' => (∃ y : Hx, e = .returned (.agg #[.slice y.zo y.zn y.zc, .slice y.mo y.mn y.mc, .int .i64 y.cpus, .slice y.lo y.ln y.lc, .slice y.vo y.vn y.vc]) ∧ y.hp = x.hp ∧ HcpI w' w.heap.size y ∧ ∀ b, b < w.heap.size → Away b y) ∧ Below w.heap.size w w' := by
 have B0 := Below.refl w.heap.size w
 refine sx_enter (args := [_]) 59 Tryz.func4 rfl rfl rfl ?_
 refine vS (vR ?_); intro A f
 refine l_box f rfl rfl rfl rfl rfl ?_; clear f A; intro b1 W2 eb1 hb3 rb1 A f; dsimp only [Value.cells] at rb1
 have z_B0_b1 := B0.size; rw [eb1] at z_B0_b1
 replace B0 := Below.next B0 hb3
 refine l_alloc (z := .agg #[.slice none 0 0, .slice none 0 0, .int .i64 0, .slice none 0 0, .slice none 0 0]) f rfl rfl rfl rfl (by kernel_rfl) ?_; clear f A; intro b4 W5 eb4 hb6 rb4 A f; dsimp only [Value.cells] at rb4
 have o_b1_b4 : b1 < b4 := by have := row_lt rb1; omega
 have z_B0_b4 := B0.size; rw [eb4] at z_B0_b4
 replace B0 := Below.next B0 hb6; replace rb1 := row_next rb1 hb6
 revert A; refine vW (vS ?_)
 obtain ⟨Wd, hWd0⟩ : ∃ Wd, Wd = W5 := ⟨_, rfl⟩
 obtain ⟨s0, hs0⟩ : ∃ n, n = W5.heap.size := ⟨_, rfl⟩
 intro A f
 refine sx_growl (n := 10) [fun v _ _ => v = .pointer (some ⟨b1, 0 + 1, none⟩), fun v _ _ => v = .slice x.mo x.mn x.mc, fun v _ w => ∃ bo c, v = .slice bo x.mn c ∧ w.ownsRow s0 3 1 (.slice bo x.mn c) x.mn (vals x.mins), fun v _ _ => v = .pointer (some ⟨b1, 0 + 2, none⟩), fun v _ _ => v = .int .i64 x.cpus, fun v _ _ => v = .pointer (some ⟨b1, 0 + 4, none⟩), fun v _ _ => v = .slice x.vo x.vn x.vc, fun v _ w => ∃ bo c, v = .slice bo x.vn c ∧ w.ownsRow s0 53 3 (.slice bo x.vn c) x.vn (bvals x.live), fun v vs _ => ∃ v1 v2 v3, vs = [v1, v2, v3] ∧ v = .agg #[.slice none 0 0, v1, v2, .slice none 0 0, v3], fun v _ w => ∃ b, v = .pointer (some ⟨b, 0, none⟩) ∧ w.heap[b]? = some (.cells #[.slice none 0 0, .slice none 0 0, .int .i64 0, .slice none 0 0, .slice none 0 0] 27 (0, 0)) ∧ s0 ≤ b] [2, 7, 9] (fun wx => Below W5.heap.size W5 wx) f (by kernel_rfl) (by kernel_rfl) rfl (by kernel_rfl) (fun _ _ h hb => Below.next h hb) (rs_all ?_) ((Below.refl _ _).drew) ?_ ?_
 ·intro r hr
  simp only [List.mem_cons, List.not_mem_nil, or_false] at hr
  rcases hr with rfl | rfl | rfl | rfl | rfl | rfl | rfl | rfl | rfl | rfl
  ·exact fun _ _ _ _ h _ => h
  ·exact fun _ _ _ _ h _ => h
  ·rintro v vs w1 w2 ⟨bo, c, e1, ho⟩ hb; exact ⟨bo, c, e1, owns_below ho hb (Nat.le_refl _)⟩
  ·exact fun _ _ _ _ h _ => h
  ·exact fun _ _ _ _ h _ => h
  ·exact fun _ _ _ _ h _ => h
  ·exact fun _ _ _ _ h _ => h
  ·rintro v vs w1 w2 ⟨bo, c, e1, ho⟩ hb; exact ⟨bo, c, e1, owns_below ho hb (Nat.le_refl _)⟩
  ·exact fun _ _ _ _ h _ => h
  rintro v vs w1 w2 ⟨b, e1, hr, hb0⟩ hb; exact ⟨b, e1, row_next hr hb, hb0⟩
 ·refine ⟨?_, ?_, ?_, ?_, ?_, ?_, ?_, ?_, ?_, ?_, trivial⟩
  ·intro a w1 hS g hd K hK
   exact g_val g (y_field rfl rfl (fo rfl)) (hK _ _ (Below.refl _ _) rfl (fun b hb => absurd (show none = some b from hb) (by simp)))
  ·intro a w1 hS g hd K hK
   obtain ⟨h0, -⟩ := hd
   replace g := g.more (d := 8) h0
   exact g_val g (y_load1 rfl rfl (ag rfl) (rowl (rowq (row_next rb1 hS)) rfl)) (hK _ _ (Below.refl _ _) rfl (fun b hb => absurd (show none = some b from hb) (by simp)))
  ·intro a w1 hS g hd K hK
   obtain ⟨h0, -⟩ := hd
   replace g := g.more (d := 9) h0
   refine g_call g (IsCall.mk' (cap := []) rfl rfl rfl) (pl rfl) (words_any w1 x.mo x.mn x.mc x.mins hx.mins.len hx.mins.reach ((hx.mins.below (Below.next B0 hS)).at_)) ?_
   rintro e w2 ⟨bo, c, rfl, ho, hb⟩
   exact ⟨_, rfl, hK _ _ hb ⟨bo, c, rfl, owns_weaken ho (by rw [hs0]; exact hS.size)⟩ (blk_owns ho)⟩
  ·intro a w1 hS g hd K hK
   exact g_val g (y_field rfl rfl (fo rfl)) (hK _ _ (Below.refl _ _) rfl (fun b hb => absurd (show none = some b from hb) (by simp)))
  ·intro a w1 hS g hd K hK
   obtain ⟨h0, -⟩ := hd
   replace g := g.more (d := 11) h0
   exact g_val g (y_load1 rfl rfl (ag rfl) (rowl (rowq (row_next rb1 hS)) rfl)) (hK _ _ (Below.refl _ _) rfl (fun b hb => absurd (show none = some b from hb) (by simp)))
  ·intro a w1 hS g hd K hK
   exact g_val g (y_field rfl rfl (fo rfl)) (hK _ _ (Below.refl _ _) rfl (fun b hb => absurd (show none = some b from hb) (by simp)))
  ·intro a w1 hS g hd K hK
   obtain ⟨h0, -⟩ := hd
   replace g := g.more (d := 13) h0
   exact g_val g (y_load1 rfl rfl (ag rfl) (rowl (rowq (row_next rb1 hS)) rfl)) (hK _ _ (Below.refl _ _) rfl (fun b hb => absurd (show none = some b from hb) (by simp)))
  ·intro a w1 hS g hd K hK
   obtain ⟨h0, -⟩ := hd
   replace g := g.more (d := 14) h0
   refine g_call g (IsCall.mk' (cap := []) rfl rfl rfl) (pl rfl) (blocksCopy_any w1 x.vo x.vn x.vc x.live (hx.live.below (Below.next B0 hS))) ?_
   rintro e w2 ⟨bo, c, rfl, ho, hb⟩
   exact ⟨_, rfl, hK _ _ hb ⟨bo, c, rfl, owns_weaken ho (by rw [hs0]; exact hS.size)⟩ (blk_owns ho)⟩
  ·intro a w1 hS g hd K hK
   obtain ⟨⟨m1, m2, h0, -⟩, h1, ⟨m3, m4, h2, -⟩, -⟩ := hd
   have g1 := ((g.more (d := 10) h0).more (d := 12) h1).more (d := 15) h2
   exact g_val g1 (y_build #[.slice none 0 0, .slice m1 x.mn m2, .int .i64 x.cpus, .slice none 0 0, .slice m3 x.vn m4] rfl rfl (by kernel_rfl)) (hK _ _ (Below.refl _ _) ⟨_, _, _, rfl, by first | rfl | (rw [h0, h1, h2])⟩ (fun b hb => absurd (show none = some b from hb) (by simp)))
  intro a w1 hS g hd K hK
  exact g_alloc (z := .agg #[.slice none 0 0, .slice none 0 0, .int .i64 0, .slice none 0 0, .slice none 0 0]) rfl (by kernel_rfl) (fun b W1 e1 hb hr => hK _ _ hb ⟨b, rfl, hr, by have := hS.size; omega⟩ (fun b' hb' => by cases hb'; exact ⟨Nat.le_of_eq e1, row_lt hr⟩))
 intro a w1 G
 have hS := G.s
 obtain ⟨mo, mc, em, om⟩ := G.r 2 rfl
 have ec := G.r 4 rfl
 obtain ⟨vo, vc, ev', ov⟩ := G.r 7 rfl
 obtain ⟨v1, v2, v3, e8, e8'⟩ := G.r 8 rfl
 obtain ⟨b3, eb, rb3, hb3⟩ := G.r 9 rfl
 have hm3 : ∀ a, mo = some a → a.block ≠ b3 := by
  intro a ha
  subst ha
  exact G.d 2 9 _ _ rfl rfl (by decide) (by show blkOf _ = _; rw [em]; rfl) (by show blkOf _ = _; rw [eb]; rfl)
 have hv3 : ∀ a, vo = some a → a.block ≠ b3 := by
  intro a ha
  subst ha
  exact G.d 7 9 _ _ rfl rfl (by decide) (by show blkOf _ = _; rw [ev']; rfl) (by show blkOf _ = _; rw [eb]; rfl)
 have e9 : [slotV _ a 2, slotV _ a 4, slotV _ a 7] = [v1, v2, v3] := e8
 simp only [List.cons.injEq, and_true] at e9
 obtain ⟨q1, q2, q3⟩ := e9
 rw [em] at q1
 have q2' : Value.int .i64 x.cpus = v2 := ec.symm.trans q2
 rw [ev'] at q3
 subst q1 q2' q3
 have g := (G.f.more (d := 3) eb).more (d := 16) e8'
 show Oper.wp _ _ _ _ _ _
 refine g_store g rfl rfl rfl rfl rb3 (sz rfl) rfl (Nat.le_of_ble_eq_true rfl) rfl ?_
 intro W7 hbt rb3'
 dsimp only [setL, over, Value.cells] at rb3'
 have hlt1 := row_lt rb1
 have hlt4 := row_lt rb4
 replace B0 : Below w.heap.size w W7 := Below.thenBut (Below.next B0 hS) hbt (by have := B0.size; omega)
 replace rb1 := But.row hbt (row_next rb1 hS) (by omega)
 replace rb4 := But.row hbt (row_next rb4 hS) (by omega)
 have hs1 : w.heap.size ≤ s0 := by rw [hs0]; exact Nat.le_trans (by omega) (Nat.le_of_lt hlt1)
 have HC : HcpI W7 w.heap.size ⟨[], none, 0, 0, x.mins, mo, x.mn, mc, x.cpus, [], none, 0, 0, x.live, vo, x.vn, vc⟩ := by
  have om' := owns_butN om hbt hm3
  have ov' := owns_butN ov hbt hv3
  exact ⟨⟨rfl, .inl ⟨rfl, rfl⟩⟩, ⟨rfl, .inl ⟨rfl, rfl⟩⟩, ⟨Zons.nil _, nums_of_owns om' hx.mins.reach, Lsts.nil _, ⟨bowns_len ov', hx.live.reach, blks_of_owns ov'⟩⟩, fun a ha => (by cases ha), fun a ha => (by cases ha), fun a b ha => (by cases ha)⟩
 have hb13 : b1 ≠ b3 := by omega
 have hb43 : b4 ≠ b3 := by omega
 have hm1 : ∀ a, mo = some a → s0 ≤ a.block := fun a ha => (owns_blk om a ha).1
 have hv1 : ∀ a, vo = some a → s0 ≤ a.block := fun a ha => (owns_blk ov a ha).1
 clear om ov rb3 hbt hS em q2 ec ev' e8 e8' eb G f
 clear A
 revert g
 revert a
 intro A f
 have HQ : HcQ w W7 b1 b4 b3 x ⟨[], none, 0, 0, x.mins, mo, x.mn, mc, x.cpus, [], none, 0, 0, x.live, vo, x.vn, vc⟩ :=
  ⟨B0, rb1, rb4, rb3', HC, fun a ha => (by cases ha), fun a ha => (by cases ha), ⟨fun z hz => (by cases hz), fun z hz => (by cases hz), fun _ => hm3, fun _ a ha => (by cases ha), fun l hl => (by cases hl), fun _ => hv3⟩ , ⟨fun z hz => (by cases hz), fun z hz => (by cases hz), fun _ a ha => (by have := hm1 a ha; omega), fun _ a ha => (by cases ha), fun l hl => (by cases hl), fun _ a ha => (by have := hv1 a ha; omega)⟩, fun b hb => ⟨fun z hz => (by cases hz), fun z hz => (by cases hz), fun _ a ha => (by have := hm1 a ha; omega), fun _ a ha => (by cases ha), fun l hl => (by cases hl), fun _ a ha => (by have := hv1 a ha; omega)⟩, rfl, rfl, rfl, ⟨by omega, by omega, by omega, hb13, hb43⟩⟩
 clear HC rb1 rb4 rb3' B0
 show Exit.then _ _ .normal A W7
 revert A; refine vT (vS (vS (vR (vla (h:=vW (vB ?_)))))); intro A f
 refine x_loop (fun n A W => ∃ (k : Nat) (y : Hx), n = x.zn - k ∧ k ≤ x.zn ∧ Fr A 59 [(1, .pointer (some ⟨b1, 0, none⟩)), (2, .pointer (some ⟨b4, 0, none⟩)), (3, .pointer (some ⟨b3, 0, none⟩)), (4, .int .i64 (k : Nat))] ∧ HcQ w W b1 b4 b3 x y ∧ y.zn = k ∧ y.zs.map (·.z) = (x.zs.take k).map (·.z) ∧ y.ls = [] ∧ y.ln = 0) (n0 := x.zn) (⟨0, _, rfl, Nat.zero_le _, f.sub ⟨rfl, rfl, rfl, rfl, trivial⟩, HQ, rfl, rfl, rfl, rfl⟩) ?_
 clear f A
 clear HQ
 rintro n A W7 ⟨k, y, hn, hk, f, HQ, hyn, hyz, hyl, hyn0⟩
 have B0 := HQ.B
 have rb1 := HQ.r1
 have rb4 := HQ.r4
 have rb3 := HQ.r3
 have zrch := hx.zones.reach
 revert A; refine vS (vS (vR (vlm (h:=vlf (h:=vl1 (rowq rb1) (h:=vlz (h:=vlb (y_lss rfl rfl rfl) (h:=?_) (g:=?_))))))))
 ·intro c8
  refine vW (vC (h:=vK (vT (vS (vB (vS (vR (vlf (h:=vl1 (rowq rb1) (h:=vlm (h:=?_)))))))))))
  obtain ⟨gi, oi, zi, foi, fni, fci, toi, tni, tci, hai, c0i, c1i, c2i, c3i, hati, hXi⟩ := hx.zones.at (k) (by omega)
  replace c0i := St.of c0i; replace c1i := St.of c1i; replace c2i := St.of c2i; replace c3i := St.of c3i
  refine vlx (h:=vld (y_loadN (vs := [_, _, _, _]) rfl rfl (ag rfl) rfl ⟨(by first | assumption | exact St.q c0i B0 | exact St.q c1i B0 | exact St.q c2i B0 | exact St.q c3i B0), (by first | assumption | exact St.q c0i B0 | exact St.q c1i B0 | exact St.q c2i B0 | exact St.q c3i B0), (by first | assumption | exact St.q c0i B0 | exact St.q c1i B0 | exact St.q c2i B0 | exact St.q c3i B0), (by first | assumption | exact St.q c0i B0 | exact St.q c1i B0 | exact St.q c2i B0 | exact St.q c3i B0), trivial⟩) (h:=?_))
  have hqs := HQ.lt
  have BQ := Below.refl W7.heap.size W7
  intro A f
  refine l_call f rfl rfl rfl (IsCall.mk' (cap := []) rfl rfl rfl) (pl rfl) (zoneCopy_any _ _ _ _ _ _ _ zi (hati.below B0)) ?_
  clear f A
  rintro _ W9 ⟨⟨fo2, fn2, fc2, to2, tn2, tc2, rfl, hz2, hf2, ht2⟩, hb10⟩
  refine ⟨_, rfl, ?_⟩
  intro A f
  replace B0 := Below.next B0 hb10; replace HQ := HQ.below hb10; replace BQ := Below.next BQ hb10; replace rb1 := row_next rb1 hb10; replace rb4 := row_next rb4 hb10; replace rb3 := row_next rb3 hb10
  refine l_as (z := .agg #[.int .i64 0, .int .i64 0, .slice none 0 0, .slice none 0 0]) f rfl rfl rfl rfl (by kernel_rfl) rfl rfl (fun _ => rfl) (fun _ => rfl) rfl (by intro u hu; simp [Value.cells] at hu; rcases hu with rfl | rfl | rfl | rfl <;> rfl) ?_; clear f A; intro b11 W12 eb11 hb13 rb11 A f
  dsimp only [Value.cells] at rb11
  have hpb11 := hb13
  have o_b1_b11 : b1 < b11 := by have := row_lt rb1; omega
  have o_b4_b11 : b4 < b11 := by have := row_lt rb4; omega
  have o_b3_b11 : b3 < b11 := by have := row_lt rb3; omega
  have z_B0_b11 := B0.size; rw [eb11] at z_B0_b11
  have z_BQ_b11 := BQ.size; rw [eb11] at z_BQ_b11
  replace B0 := Below.next B0 hb13; replace HQ := HQ.below hb13; replace BQ := Below.next BQ hb13; replace hz2 := hz2.below hb13; replace rb1 := row_next rb1 hb13; replace rb4 := row_next rb4 hb13; replace rb3 := row_next rb3 hb13
  revert A; refine vW (vR (vlf (h:=vl1 (rowq rb3) (h:=vl4 (rowq rb11) (h:=?_))))); intro A f
  refine l_opR (R := fun v W => v = .slice (some ⟨W12.heap.size, 0, none⟩) 1 1 ∧ Below W12.heap.size W12 W ∧ W.heap[W12.heap.size]? = some (.cells #[.int .i64 zi.f, .int .i64 zi.t, .slice fo2 fn2 fc2, .slice to2 tn2 tc2] 37 (0, 0))) f rfl rfl rfl ⟨_, _, bs_exec f rfl rfl (bs_zone _ _ _ _ _), rfl, (Below.refl _ _).alloc (Nat.le_refl _) _, by show (Array.push _ _)[_]? = _; rw [Array.getElem?_push, if_pos rfl]⟩ ?_
  clear f A
  rintro _ W14 ⟨rfl, hb15, rbn⟩ A f
  replace B0 := Below.next B0 hb15; replace HQ := HQ.below hb15; replace BQ := Below.next BQ hb15; replace hz2 := hz2.below hb15; replace rb1 := row_next rb1 hb15; replace rb4 := row_next rb4 hb15; replace rb3 := row_next rb3 hb15; replace rb11 := row_next rb11 hb15
  obtain ⟨i1, hj, hy0, hy1, hy2⟩ := info_parts info_zone
  have hsq := HQ.B.size
  obtain ⟨g', cap', W9, hrun, ow, hcs⟩ := append_row (P := Tryz.prog) W14 w.heap.size 22 22 37 i1 _ 4 Tryz.underlying22 hj hy0 hy1 rfl y.zo y.zn y.zc (c4 (y.zs.map Zc.q)) HQ.C.oz ⟨_, 0, none⟩ 1 1 [.int .i64 zi.f, .int .i64 zi.t, .slice fo2 fn2 fc2, .slice to2 tn2 tc2] rfl (cells4_new rbn) (by intro u hu; simp only [List.mem_cons, List.not_mem_nil, or_false] at hu; rcases hu with rfl | rfl | rfl | rfl <;> rfl) (by omega) (by unfold maxLen; omega) (by rw [hy2]; omega) hsq
  refine l_opR (R := fun v W => v = .slice (some ⟨g', 0, none⟩) (y.zn + 1) cap' ∧ W9 = W) f rfl rfl rfl ⟨_, _, append_exec f rfl rfl rfl hrun, rfl, rfl⟩ ?_
  clear f A
  rintro _ _ ⟨rfl, rfl⟩ A f
  have HQw := HQ
  clear HQ
  have hgg := (HQw.z3)
  have hg3 : g' ≠ b3 := by rcases hcs with ⟨e, _⟩ | ⟨e, _⟩; exact (HQw.z3 _ e).1; have := HQw.lt; omega
  have hrow : ∀ {u}, W14.heap[b3]? = some u → W9.heap[b3]? = some u := by intro u h; rcases hcs with ⟨_, e⟩ | ⟨_, e⟩; exact But.row e h (Ne.symm hg3); exact row_next h e
  replace rb3 := hrow rb3
  revert A; refine vlf (h:=?_); intro A f
  refine vls f rb3 ?_
  clear rb3; intro W17 hb18 rb3; dsimp only [setL, over, Value.cells] at rb3; have HQ2 := HcQ.addZ (z := ⟨zi, fo2, fn2, fc2, to2, tn2, tc2⟩) HQw (by omega) BQ.size ⟨hqs.1, hqs.2.1, hqs.2.2.1, hqs.2.2.2.1, hqs.2.2.2.2⟩ hz2 hf2 ht2 ow hcs hb18 rb3
  revert A; refine vN (vU (vT (vR (vlm (h:=vlA (h:=vla (h:=vW ?_))))))); intro A f
  exact ⟨x.zn - (k + 1), by omega, k + 1, _, rfl, by omega, f.sub ⟨rfl, rfl, rfl, rfl, trivial⟩, HQ2, by show y.zn + 1 = k + 1; omega, by show (y.zs ++ [_]).map _ = _; rw [List.map_append, hyz, tk_succ x.zs k (by have := hx.zones.len; omega) hXi.out]; rfl, hyl, hyn0⟩
 intro c8
 refine vW (vD (h:=vX (vH (vH (vI (vT (vS (vS (vR (vla (h:=vW (vB ?_))))))))))))
 have hk3 : k = x.zn := by omega
 have hyn8 : y.zn = x.zn := by omega
 have hyz8 : y.zs.map (·.z) = x.zs.map (·.z) := by rw [hyz, hk3, List.take_of_length_le (by have := hx.zones.len; omega)]
 intro A f
 refine x_loop (fun n A W => ∃ (k : Nat) (y : Hx), n = x.ln - k ∧ k ≤ x.ln ∧ Fr A 59 [(1, .pointer (some ⟨b1, 0, none⟩)), (2, .pointer (some ⟨b4, 0, none⟩)), (3, .pointer (some ⟨b3, 0, none⟩)), (6, .int .i64 (k : Nat))] ∧ HcQ w W b1 b4 b3 x y ∧ y.zn = x.zn ∧ y.zs.map (·.z) = x.zs.map (·.z) ∧ y.ln = k ∧ y.ls.map (·.l) = (x.ls.take k).map (·.l)) (n0 := x.ln) (⟨0, y, rfl, Nat.zero_le _, f.sub ⟨rfl, rfl, rfl, rfl, trivial⟩, HQ, hyn8, hyz8, hyn0, by rw [hyl]; rfl⟩) ?_
 clear f A
 clear HQ hyn8 hyz8 hyl hyn0 hyn hyz hn hk hk3 c8 B0 rb1 rb4 rb3
 rintro n A W19 ⟨k, y, hn, hk, f, HQ, hyn, hyz, hyl, hyls⟩
 have B0 := HQ.B
 have rb1 := HQ.r1
 have rb4 := HQ.r4
 have rb3 := HQ.r3
 have lrch := hx.lists.reach
 revert A; refine vS (vS (vR (vlm (h:=vlf (h:=vl1 (rowq rb1) (h:=vlz (h:=vlb (y_lss rfl rfl rfl) (h:=?_) (g:=?_))))))))
 ·intro c20
  refine vW (vC (h:=vK (vT (vS (vB (vS (vR (vlf (h:=vl1 (rowq rb1) (h:=vlm (h:=?_)))))))))))
  have hqs := HQ.lt
  have BQ := Below.refl W19.heap.size W19
  obtain ⟨gi, oi, lci, lzi, lti, lpi, poi, pni, pci, hai, c0i, c1i, c2i, c3i, hati, hXi⟩ := hx.lists.at (k) (by omega)
  replace c0i := St.of c0i; replace c1i := St.of c1i; replace c2i := St.of c2i; replace c3i := St.of c3i
  refine vlx (h:=vld (y_loadN (vs := [_, _, _, _]) rfl rfl (ag rfl) rfl ⟨(by first | assumption | exact St.q c0i B0 | exact St.q c1i B0 | exact St.q c2i B0 | exact St.q c3i B0), (by first | assumption | exact St.q c0i B0 | exact St.q c1i B0 | exact St.q c2i B0 | exact St.q c3i B0), (by first | assumption | exact St.q c0i B0 | exact St.q c1i B0 | exact St.q c2i B0 | exact St.q c3i B0), (by first | assumption | exact St.q c0i B0 | exact St.q c1i B0 | exact St.q c2i B0 | exact St.q c3i B0), trivial⟩) (h:=?_)); intro A f
  refine l_as (z := .agg #[.int .i64 0, .int .i64 0, .int .i64 0, .slice none 0 0]) f rfl rfl rfl rfl (by kernel_rfl) rfl rfl (fun _ => rfl) (fun _ => rfl) rfl (by intro u hu; simp [Value.cells] at hu; rcases hu with rfl | rfl | rfl | rfl <;> rfl) ?_; clear f A; intro b21 W22 eb21 hb23 rb21 A f
  dsimp only [Value.cells] at rb21
  have hpb21 := hb23
  have o_b1_b21 : b1 < b21 := by have := row_lt rb1; omega
  have o_b4_b21 : b4 < b21 := by have := row_lt rb4; omega
  have o_b3_b21 : b3 < b21 := by have := row_lt rb3; omega
  have z_B0_b21 := B0.size; rw [eb21] at z_B0_b21
  have z_BQ_b21 := BQ.size; rw [eb21] at z_BQ_b21
  replace B0 := Below.next B0 hb23; replace BQ := Below.next BQ hb23; replace rb1 := row_next rb1 hb23; replace rb4 := row_next rb4 hb23; replace rb3 := row_next rb3 hb23
  revert A; refine vW (vS (vR (vlf (h:=vl1 (rowq rb21) (h:=?_)))))
  have hb7 := row_lt rb21
  have hbq7 := BQ.size
  intro A f
  refine l_call f rfl rfl rfl (IsCall.mk' (cap := []) rfl rfl rfl) (pl rfl) (words_any _ _ _ _ lpi hati.len hati.reach (hati.below B0).at_) ?_
  clear f A
  rintro _ W24 ⟨po2, pc2, rfl, ow2, hb25⟩
  refine ⟨_, rfl, ?_⟩
  intro A f
  replace B0 := Below.next B0 hb25; replace BQ := Below.next BQ hb25; replace rb1 := row_next rb1 hb25; replace rb4 := row_next rb4 hb25; replace rb3 := row_next rb3 hb25; replace rb21 := row_next rb21 hb25
  revert A; refine vlf (h:=?_); intro A f
  refine vls f rb21 ?_
  clear rb21; intro W26 hb27 rb21; dsimp only [setL, over, Value.cells] at rb21; replace B0 := Below.thenBut B0 hb27 (by omega); replace BQ := Below.thenBut BQ hb27 (by omega); replace rb1 := But.row hb27 rb1 (by omega); replace rb4 := But.row hb27 rb4 (by omega); replace rb3 := But.row hb27 rb3 (by omega); have ow3 := owns_butN ow2 hb27 (fun a ha => by have := (owns_blk ow2 a ha).1; omega); have hz2 := nums_of_owns ow3 hati.reach; have hq2 : ∀ a, po2 = some a → _ ≤ a.block := fun a ha => Nat.le_trans hbq7 (owns_blk ow2 a ha).1
  revert A; refine vW (vR (vlf (h:=vl1 (rowq rb3) (h:=vl4 (rowq rb21) (h:=?_))))); intro A f
  refine l_opR (R := fun v W => v = .slice (some ⟨W26.heap.size, 0, none⟩) 1 1 ∧ Below W26.heap.size W26 W ∧ W.heap[W26.heap.size]? = some (.cells #[.int .i64 lci, .int .i64 lzi, .int .i64 lti, .slice po2 pni pc2] 40 (0, 0))) f rfl rfl rfl ⟨_, _, bs_exec f rfl rfl (bs_list _ _ _ _ _), rfl, (Below.refl _ _).alloc (Nat.le_refl _) _, by show (Array.push _ _)[_]? = _; rw [Array.getElem?_push, if_pos rfl]⟩ ?_
  clear f A
  rintro _ W28 ⟨rfl, hb29, rbn⟩ A f
  replace B0 := Below.next B0 hb29; replace BQ := Below.next BQ hb29; replace hz2 := hz2.below hb29; replace rb1 := row_next rb1 hb29; replace rb4 := row_next rb4 hb29; replace rb3 := row_next rb3 hb29; replace rb21 := row_next rb21 hb29
  obtain ⟨i1, hj, hy0, hy1, hy2⟩ := info_parts info_list
  have HQw := HQ.below BQ
  have hsq := HQw.B.size
  obtain ⟨g', cap', W9, hrun, ow, hcs⟩ := append_row (P := Tryz.prog) W28 w.heap.size 24 24 40 i1 _ 4 Tryz.underlying24 hj hy0 hy1 rfl y.lo y.ln y.lc (c4 (y.ls.map Lc.q)) HQw.C.ol ⟨_, 0, none⟩ 1 1 [.int .i64 lci, .int .i64 lzi, .int .i64 lti, .slice po2 pni pc2] rfl (cells4_new rbn) (by intro u hu; simp only [List.mem_cons, List.not_mem_nil, or_false] at hu; rcases hu with rfl | rfl | rfl | rfl <;> rfl) (by omega) (by unfold maxLen; omega) (by rw [hy2]; omega) hsq
  refine l_opR (R := fun v W => v = .slice (some ⟨g', 0, none⟩) (y.ln + 1) cap' ∧ W9 = W) f rfl rfl rfl ⟨_, _, append_exec f rfl rfl rfl hrun, rfl, rfl⟩ ?_
  clear f A
  rintro _ _ ⟨rfl, rfl⟩ A f
  have hg3 : g' ≠ b3 := by rcases hcs with ⟨e, _⟩ | ⟨e, _⟩; exact (HQw.l3 _ e).1; have := HQw.lt; omega
  have hrow : ∀ {u}, W28.heap[b3]? = some u → W9.heap[b3]? = some u := by intro u h; rcases hcs with ⟨_, e⟩ | ⟨_, e⟩; exact But.row e h (Ne.symm hg3); exact row_next h e
  replace rb3 := hrow rb3
  revert A; refine vlf (h:=?_); intro A f
  refine vls f rb3 ?_
  clear rb3; intro W30 hb31 rb3; dsimp only [setL, over, Value.cells] at rb3; have HQ2 := HcQ.addL (l := ⟨⟨lci, lzi, lti, lpi⟩, po2, pni, pc2⟩) HQw (by omega) BQ.size ⟨hqs.1, hqs.2.1, hqs.2.2.1, hqs.2.2.2.1, hqs.2.2.2.2⟩ hz2 hq2 ow hcs hb31 rb3
  revert A; refine vN (vU (vT (vR (vlm (h:=vlA (h:=vla (h:=vW ?_))))))); intro A f
  exact ⟨x.ln - (k + 1), by omega, k + 1, _, rfl, by omega, f.sub ⟨rfl, rfl, rfl, rfl, trivial⟩, HQ2, hyn, hyz, by show y.ln + 1 = k + 1; omega, by show (y.ls ++ [_]).map _ = _; rw [List.map_append, hyls, tk_succL x.ls k (by have := hx.lists.len; omega) hXi.out]; rfl⟩
 intro c20
 refine vW (vD (h:=vX (vH (vH (vI (vT (vS (vR (vl5 (rowq rb3) (h:=?_)))))))))); intro A f
 refine vls f rb4 ?_
 clear rb4; intro W32 hb33 rb4; dsimp only [setL, over, Value.cells] at rb4; replace B0 := Below.thenBut B0 hb33 (by omega); replace rb1 := But.row hb33 rb1 (by omega); replace rb3 := But.row hb33 rb3 (by omega); have HC9 := HQ.C.but hb33 (fun a ha => (HQ.z3 a ha).2.2) (fun a ha => (HQ.l3 a ha).2.2) HQ.a4; have he1 := HQ.e1; have he2 := HQ.e2; have he3 := HQ.e3; have ha5 := HQ.a5
 revert A; refine vW (vE ?_); intro A f
 refine x_retc f rfl rfl (ag rfl) rb4 rfl ?_
 exact ⟨⟨y, rfl, by show (⟨y.zs.map (·.z), y.mins, y.cpus, y.ls.map (·.l), y.live⟩ : Kit.Hp) = ⟨x.zs.map (·.z), x.mins, x.cpus, x.ls.map (·.l), x.live⟩; rw [he1, he2, he3, hyz, hyls, List.take_of_length_le (by have := hx.lists.len; omega)], HC9, ha5⟩, B0⟩
theorem zoneAt_c (w : World) (x : Hx) (p : Int) (hx : x.At w) (hz : x.zn = 2) (h1 : (x.zs.getD 1 .zero).z.f = (x.zs.getD 0 .zero).z.t) :
    Calls Tryz.prog 71 #[.agg #[.slice x.zo x.zn x.zc, .slice x.mo x.mn x.mc, .int .i64 x.cpus, .slice x.lo x.ln x.lc, .slice x.vo x.vn x.vc], .int .i64 p] w fun e w' => e = .returned (.int .i64 (zIdx x.hp p : Nat)) ∧ Below w.heap.size w w' := by
 have B0 := Below.refl w.heap.size w
 refine sx_enter (args := [_, _]) 12 Tryz.func71 rfl rfl rfl ?_
 refine vS (vR ?_); intro A f
 refine l_box f rfl rfl rfl rfl rfl ?_; clear f A; intro b1 W2 eb1 hb3 rb1 A f; dsimp only [Value.cells] at rb1
 have z_B0_b1 := B0.size; rw [eb1] at z_B0_b1
 replace B0 := Below.next B0 hb3
 revert A; refine vla (h:=vW (vS (vS (vR (vlm (h:=vlf (h:=vl1 (rowq rb1) (h:=?_))))))))
 obtain ⟨g0, o0, z0, fo0, fn0, fc0, to0, tn0, tc0, ha0, c00, c10, c20, c30, hat0, hX0⟩ := hx.zones.at (1) (by omega)
 replace c00 := St.of c00; replace c10 := St.of c10; replace c20 := St.of c20; replace c30 := St.of c30
 refine vlx (j:=1) (h:=vlf (h:=vld (y_load1 rfl rfl (ag rfl) (by first | assumption | exact St.q c00 B0 | exact St.q c10 B0 | exact St.q c20 B0 | exact St.q c30 B0)) (h:=vlb (y_geq rfl rfl rfl) (h:=?_) (g:=?_))))
 ·intro c4
  refine vW (vC (h:=vS (vR (vla (h:=vW (vE (vF ?_))))))); intro A f
  refine x_ret1 f rfl rfl ?_
  have hi : zIdx x.hp p = 1 := by
   unfold zIdx
   rw [zoneOf_hp]
   exact if_neg (by rw [← h1, hX0.out]; dsimp only; omega)
  exact ⟨by rw [hi]; rfl, B0⟩
 intro c4
 refine vW (vD (h:=vK (vT (vS (vR (vla (h:=vW (vE ?_)))))))); intro A f
 refine x_ret1 f rfl rfl ?_
 have hi : zIdx x.hp p = 0 := by
  unfold zIdx
  rw [zoneOf_hp]
  exact if_pos (by rw [← h1, hX0.out]; dsimp only; omega)
 exact ⟨by rw [hi]; rfl, B0⟩
structure BaInv (w : World) (fo : Option Addr) (fn fc : Nat) (to_ : Option Addr) (tn tc : Nat) (z : Zn) (W : World) : Prop where
 size : w.heap.size + 2 ≤ W.heap.size
 b : Below w.heap.size w W
 box : ZBox W w.heap.size (.int .i64 z.f) (.int .i64 z.t) (.slice fo fn fc) (.slice to_ tn tc)
 res : Res4 W (w.heap.size + 1)
 zn : ZnAt W fo fn to_ tn z
theorem BaInv.step {w : World} {fo : Option Addr} {fn fc : Nat} {to_ : Option Addr} {tn tc : Nat} {z : Zn} {W W' : World} (h : BaInv w fo fn fc to_ tn tc z W) (hb : Below W.heap.size W W') : BaInv w fo fn fc to_ tn tc z W' :=
 ⟨Nat.le_trans h.size hb.size, h.b.trans (hb.mono h.b.size), h.box.below hb, h.res.below hb, h.zn.below hb⟩
theorem baInv_first (w : World) (fo : Option Addr) (fn fc : Nat) (to_ : Option Addr) (tn tc : Nat) (z : Zn) (h : ZnAt w fo fn to_ tn z) :
    BaInv w fo fn fc to_ tn tc z ((w.alloc (.cells #[.int .i64 z.f, .int .i64 z.t, .slice fo fn fc, .slice to_ tn tc] 37)).alloc (.cells #[.int .i64 0, .int .i64 0, .slice none 0 0, .slice none 0 0] 37)) := by
 have hb2 : Below w.heap.size w ((w.alloc (.cells #[.int .i64 z.f, .int .i64 z.t, .slice fo fn fc, .slice to_ tn tc] 37)).alloc (.cells #[.int .i64 0, .int .i64 0, .slice none 0 0, .slice none 0 0] 37)) := ((Below.refl _ _).alloc (Nat.le_refl _) _).alloc (by simp) _
 have R0 : Res4 ((w.alloc (.cells #[.int .i64 z.f, .int .i64 z.t, .slice fo fn fc, .slice to_ tn tc] 37)).alloc (.cells #[.int .i64 0, .int .i64 0, .slice none 0 0, .slice none 0 0] 37)) (w.heap.size + 1) := by
  have := zbox_new (w.alloc (.cells #[.int .i64 z.f, .int .i64 z.t, .slice fo fn fc, .slice to_ tn tc] 37)) (.int .i64 0) (.int .i64 0) (.slice none 0 0) (.slice none 0 0) 37
  have h2 := this.res
  simpa using h2
 exact ⟨by simp, hb2, (zbox_new w _ _ _ _ _).below (below_box _ _), R0, h.below hb2⟩
theorem may_nums {z : Zn} (h : ZMay z) : ∀ i, i < z.free.length → ordOk (z.free.getD i .zero).o ∧ 0 ≤ (z.free.getD i .zero).a ∧ (z.free.getD i .zero).a ≤ 256 := fun i hi => by
 obtain ⟨⟨h1, h2, h3, h4⟩, _⟩ := freeOk_at h.free hi rfl
 obtain ⟨g1, g2, g3, g4, g5⟩ := h.new
 exact ⟨h1, by omega, by omega⟩
end Go.Proofs.YtbjlbmofdnkmiaaGreatDoor
