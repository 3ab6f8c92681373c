/-
  OWN TEXTS, bundled: RefTk2, SameI, SameZ, WBuddyTakes.
-/
import Derived.Test.YtpfafhgllabhbaaDoorBuddyTakesPart12
import Derived.Test.YtpfafhgllabhbaaDoorBuddyTakesPart11
import Derived.Test.YtpfafhgllabhbaaDoorBuddyTakesPart1
import Derived.Test.YtpfafhgllabhbaaDoorBuddyTakesPart2
import Derived.Test.YtpfafhgllabhbaaDoorBuddyTakesPart8

/-
  OWN TEXT. Contract of the document's answer: TakenOf, where it takes, or has no room.
-/
namespace Go.Proofs.YtpfafhgllabhbaaDoor
open Go Go.RowKit Go.Proofs.YtpfafhgllabhbaaDoor.Kit

set_option maxRecDepth 10000 in
set_option maxHeartbeats 16000000 in
theorem takenOf_main (w : World) (fo : Option Addr) (fn fc : Nat) (to_ : Option Addr) (tn tc : Nat) (z : Zn) (o t : Int) (h : ZnAt w fo fn to_ tn z) (hM : ZMay z) (ho : ordOk o) (ht : typeOk t) :
    Calls Tryd.prog 7 #[.agg #[.int .i64 z.f, .int .i64 z.t, .slice fo fn fc, .slice to_ tn tc], .int .i64 o, .int .i64 t] w fun e w' => ((chooseI z.free o t < 0 ∧ RetNone3 6 e) ∨ ∃ i : Nat, chooseI z.free o t = i ∧ RetZone3 w.heap.size w' (takeZ z o t i) (z.free.getD i .zero).a e) ∧ Below w.heap.size w w' := by
  have I0 := cbI_first w fo fn fc to_ tn tc z h
  have c0 := I0.box.c0
  have c1 := I0.box.c1
  have c2 := I0.box.c2
  have c3 := I0.box.c3
  have HO : Hid (inB o 0 4 = true) := inB_t ho
  have HT : Hid (inB t 0 2 = true) := inB_t ht
  have hlen := h.free.len
  have hbl := may_len hM
  have hrise := rise_of hM
  obtain ⟨n1, n2, n3, n4, n5⟩ := hM.new
  have ho0 : 0 ≤ o := ho.1
  have ho4 : o ≤ 4 := ho.2
  clear h
  go_enter Tryd.func7, Tryd.ntmps7
  conv => arg 2; arg 2; arg 2; arg 2; arg 2; arg 2; arg 2; arg 2; arg 2; arg 2; change takenEnd
  go_wp2_with fail
  go_at_call 20
  refine (zoneMay_any _ fo fn fc to_ tn tc z I0.zn).mono ?_
  rintro e w1 ⟨⟨r, rfl, hr⟩, hb⟩
  obtain rfl : r = true := hr.2 hM
  have I1 := I0.step hb
  clear I0 hb hr c0 c1 c2 c3
  have c0 := I1.box.c0
  have c1 := I1.box.c1
  have c2 := I1.box.c2
  have c3 := I1.box.c3
  go_wp2_with fail
  go_at_call 21
  refine (in_any o 0 4 _).mono ?_
  rintro e wq ⟨rfl, rfl⟩
  rw [HO.out]
  go_wp2_with fail
  go_at_call 21
  refine (in_any t 0 2 _).mono ?_
  rintro e wq ⟨rfl, rfl⟩
  rw [HT.out]
  go_wp2_with fail
  go_at_call 5
  refine (zoneCopy_own _ fo fn fc to_ tn tc z I1.zn).mono ?_
  rintro e w3 ⟨⟨xo, xc, yo, yc, rfl, o1, o2, hap⟩, hb3⟩
  have I3 := I1.step hb3
  have hs1 := I1.size
  have hs3 := I3.size
  have hbx := below_box w3 (.cells #[.int .i64 z.f, .int .i64 z.t, .slice xo fn xc, .slice yo tn yc] 25)
  have BX := zbox_new w3 (.int .i64 z.f) (.int .i64 z.t) (.slice xo fn xc) (.slice yo tn yc) 25
  have I4 := I3.step hbx
  have ln : ∀ {e : TypeId} {k n c : Nat} {ao : Option Addr} {xs : List Value}, w3.ownsRow w1.heap.size e k (.slice ao n c) n xs → ∀ a, ao = some a → a.block < w3.heap.size := fun ho a ha => by
    rcases ho.2 with ⟨e1, _⟩ | ⟨g, cp, cur, e1, _, hg, _⟩
    · simp only [Value.slice.injEq] at e1
      rw [e1.1] at ha
      cases ha
    · simp only [Value.slice.injEq] at e1
      rw [e1.1] at ha
      cases ha
      exact (Array.getElem?_eq_some_iff.1 hg).1
  have lx := ln o1
  have ly := ln o2
  obtain ⟨W4, hW4⟩ : ∃ W4, w3.alloc (.cells #[.int .i64 z.f, .int .i64 z.t, .slice xo fn xc, .slice yo tn yc] 25) = W4 := ⟨_, rfl⟩
  have hs4 : w3.heap.size < (w3.alloc (.cells #[.int .i64 z.f, .int .i64 z.t, .slice xo fn xc, .slice yo tn yc] 25)).heap.size := by simp
  have o1' := owns_weaken (owns_below o1 hbx (Nat.le_refl _)) hs1
  have o2' := owns_weaken (owns_below o2 hbx (Nat.le_refl _)) hs1
  rw [hW4] at BX I4 hs4 o1' o2'
  have HW4 : Hid _ := hW4
  have hby := below_box W4 (.cells #[.int .i64 0, .int .i64 0, .int .i64 0] 42)
  have TB := tbox_new W4 Bk.zero 42
  have I5 := I4.step hby
  obtain ⟨W5, hW5⟩ : ∃ W5, W4.alloc (.cells #[.int .i64 0, .int .i64 0, .int .i64 0] 42) = W5 := ⟨_, rfl⟩
  have J0 : TkI w w3.heap.size W4.heap.size z.f z.t xo fn xc yo tn yc z.free z.types Bk.zero W5 := by
    rw [← hW5]
    exact ⟨hW5 ▸ I5.b, hW5 ▸ I5.box.c0, hW5 ▸ I5.res, BX.below hby, owns_below o1' hby (Nat.le_refl _), owns_below o2' hby (Nat.le_refl _), TB, by omega, by omega, by omega, fun a ha => by have := lx a ha; omega, fun a ha => by have := ly a ha; omega, hap⟩
  have HW5 : Hid _ := hW5
  have J1 := J0.setB Bk.zero
  obtain ⟨u0, u1, u2, v0, v1, v2⟩ := id J0.tb
  obtain ⟨W6, hW6⟩ : ∃ W6, ((W5.setCell ⟨W4.heap.size, 0, none⟩ (.int .i64 Bk.zero.a)).setCell ⟨W4.heap.size, 1, none⟩ (.int .i64 Bk.zero.o)).setCell ⟨W4.heap.size, 2, none⟩ (.int .i64 Bk.zero.t) = W6 := ⟨_, rfl⟩
  rw [hW6] at J1
  have HW6 : Hid (((W5.setCell ⟨W4.heap.size, 0, none⟩ (.int .i64 0)).setCell ⟨W4.heap.size, 1, none⟩ (.int .i64 0)).setCell ⟨W4.heap.size, 2, none⟩ (.int .i64 0) = W6) := hW6
  clear I1 I3 I4 I5 BX TB o1 o2 o1' o2' hbx hby hW4 hW5 hW6 hb3 c0 c1 c2 c3 lx ly ln hap hs1 hs3 hs4 J0
  go_wp2_with (first | rw [HW4.out] | rw [HW5.out] | rw [HW6.out])
  clear HW4 HW5 HW6 u0 u1 u2 v0 v1 v2
  generalize w3.heap.size = ob at *
  generalize W4.heap.size = bb at *
  go_loopw [11, 12] (fun fv ov wr => ∃ (fd : Bool) (O : Int) (q : Bk), fv = .bool fd ∧ ov = .int .i64 O ∧ o ≤ O ∧ O ≤ 5 ∧ UpF z.free t o fd O q ∧ TkI w ob bb z.f z.t xo fn xc yo tn yc z.free z.types q wr) (fun _ ov _ => (5 - intOf ov).toNat)
  case atStart => exact ⟨false, o, Bk.zero, rfl, rfl, Int.le_refl _, by have := ho.2; omega, rfl, J1⟩
  case round =>
    obtain ⟨fd, O, q, rfl, rfl, hO1, hO5, hU, J⟩ := hrel
    clear J1
    by_cases hgo : O ≤ 4 ∧ fd = false
    · obtain ⟨h4, rfl⟩ := hgo
      have d2 := J.box.c2
      have hBl := blks_own J.own (by omega)
      go_wp2_with fail
      go_at_call 22
      refine (lowestOf_any wr xo fn xc z.free O t hBl hrise).mono ?_
      rintro e w2 ⟨⟨fd', q', rfl, hF⟩, hb2⟩
      have J2 := (J.below hb2).setB q'
      obtain ⟨u0, u1, u2, v0, v1, v2⟩ := (J.below hb2).tb
      obtain ⟨W7, hW7⟩ : ∃ W7, ((w2.setCell ⟨bb, 0, none⟩ (.int .i64 q'.a)).setCell ⟨bb, 1, none⟩ (.int .i64 q'.o)).setCell ⟨bb, 2, none⟩ (.int .i64 q'.t) = W7 := ⟨_, rfl⟩
      rw [hW7] at J2
      have HW7 : Hid _ := hW7
      have hU2 := upF_next hU h4 hF
      have hw1 : IntKind.i64.wrap (O + 1) = O + 1 := IntWalk.i64_in _ (by have := ho.1; omega)
      clear J hBl hF hU hW7 d2 hb2
      go_wp2_with (rw [HW7.out])
      clear HW7 u0 u1 u2 v0 v1 v2
      go_roundw
      case rel => exact ⟨fd', O + 1, q', rfl, by simp, by omega, by omega, hU2, J2⟩
      case measure => simp [intOf]; omega
    · have hres : (fd = true ∧ upB z.free t (5 - o).toNat o = some q) ∨ (fd = false ∧ O = 5 ∧ upB z.free t (5 - o).toNat o = none) := by
        cases fd with
        | true => exact .inl ⟨rfl, hU⟩
        | false =>
          have h5 : O = 5 := by
            by_cases h4 : O ≤ 4
            · exact absurd ⟨h4, rfl⟩ hgo
            · omega
          refine .inr ⟨rfl, h5, ?_⟩
          have : upB z.free t (5 - o).toNat o = upB z.free t (5 - O).toNat O := hU
          rw [this, h5]
          rfl
      clear hU hgo
      rcases hres with ⟨rfl, hup⟩ | ⟨rfl, rfl, hup⟩
      · have HUP : Hid _ := hup
        clear hup
        rcases (show O ≤ 4 ∨ O = 5 by omega) with h45 | rfl
        all_goals
          go_wp2_with fail
          go_loopw [11, 13] (fun fv ov wr => fv = .bool true ∧ ov = .int .i64 4 ∧ TkI w ob bb z.f z.t xo fn xc yo tn yc z.free z.types q wr) (fun _ _ _ => 0)
          case atStart => exact ⟨rfl, rfl, J⟩
          case round =>
            obtain ⟨rfl, rfl, J⟩ := hrel
            obtain ⟨hTK, g1, g2, g3, g4⟩ := up_done hM ho HUP.out
            have HTK : Hid _ := hTK
            have htn : z.types.length = tn := owns_len J.typ
            have hty8 := hM.len
            clear hTK
            go_wp2_with fail
            refine takenOf_end_t _ _ _ _ _ _ _ _ _ _ _ _ _ _ _ _ _ _ _ _ _ _ _ _ _ _ _ _ _ _ _ _ _ _ _ _ _ _ _ _ _ _ _ _ _ _ _ _ _ _ _ _ _ _ _ _ _ _ _ _ _ _ _ _ _ _ _ _ _ _ _ _ _ _ _ _ _ _ _ _ _ _ _ _ _ _ _ _ _ _ _ _ _ _ _ _ _ _ _ _ _ _ _ _ _ _ _ _ _ _ _ _ _ _ _ _ _ _ _ _ _ _ _ _ _ _ _ _ _ _ _ _ _ _ _ _ _ _ _ _ _ _ _ _ _ _ _ _ _ _ _ _ _ _ _ _ _ _ _ _ _ _ _ _ _ _ _ _ _ _ _ _ _ _ _ _ _ _ _ _ _ _ _ _ _ _ _ _ _ _ _ _ w wr ob bb z.f z.t xo fn xc yo tn yc z.free z.types q o _ J ho0 g1 g2 g3 g4 (by omega) (by omega) ?_
            intro e w' hR hB
            obtain ⟨i, h1, h2, h3⟩ := HTK.out
            exact ⟨.inr ⟨i, h1, by rw [h2, ← h3]; exact hR⟩, hB⟩
      · have HUP : Hid _ := hup
        clear hup
        go_wp2_with fail
        go_loopw [11, 13] (fun fv ov wr => ∃ (fd : Bool) (O : Int) (q q0 : Bk) (fr : List Bk) (ty : List Int), fv = .bool fd ∧ ov = .int .i64 O ∧ o - 1 ≤ O ∧ O ≤ 4 ∧ DnF z.free (oth0 t) (oth1 t) o fd O q0 ∧ StF z t fd q0 q fr ty ∧ TkI w ob bb z.f z.t xo fn xc yo tn yc fr ty q wr) (fun _ ov _ => (intOf ov + 1).toNat)
        case atStart => exact ⟨false, 4, q, q, z.free, z.types, rfl, rfl, by have := ho.2; omega, by omega, rfl, ⟨rfl, rfl⟩, J⟩
        case round =>
          obtain ⟨fd, O, q, q0, fr, ty, rfl, rfl, hO1, hO4, hD, hSt, J⟩ := hrel
          by_cases hgo : o ≤ O ∧ fd = false
          · obtain ⟨hoO, rfl⟩ := hgo
            obtain ⟨rfl, rfl⟩ := hSt
            go_wp2_with fail
            go_at_call 23
            refine (otherTypes_any _ t ht.1 ht.2).mono ?_
            rintro e w4 ⟨ub, rfl, hubn, s0, s1, hb4⟩
            have J4 := J.below hb4
            have hub0 : ub ≠ bb := by have := World.block_lt_of_cell? wr _ J.tb.c0; dsimp only at this; omega
            clear J hb4
            go_wp2_with fail
            have hIn0 : InF z.free (oth0 t) (oth1 t) O false 0 q := ⟨fun g => by omega, fun g => by omega⟩
            rename_i KS hKS
            conv at hKS => enter [a, w, 1, 2, 2, 2]; change takenSteal
            go_loopw [11, 15] (fun fv kv wr => ∃ (fd : Bool) (k : Nat) (q : Bk), fv = .bool fd ∧ kv = .int .i64 k ∧ k ≤ 2 ∧ InF z.free (oth0 t) (oth1 t) O fd k q ∧ wr.cell? ⟨ub, 0, none⟩ = some (.int .i64 (oth0 t)) ∧ wr.cell? ⟨ub, 1, none⟩ = some (.int .i64 (oth1 t)) ∧ ub ≠ bb ∧ TkI w ob bb z.f z.t xo fn xc yo tn yc z.free z.types q wr) (fun _ kv _ => 2 - (intOf kv).toNat)
            case atStart => exact ⟨false, 0, q, rfl, rfl, by omega, hIn0, s0, s1, hub0, J4⟩
            case round =>
              obtain ⟨fd, k, q, rfl, rfl, hk2, hI, s0, s1, hub, J⟩ := hrel
              clear J4 hIn0
              by_cases hgo : k < 2 ∧ fd = false
              · obtain ⟨hk, rfl⟩ := hgo
                rcases (show k = 0 ∨ k = 1 by omega) with rfl | rfl
                · have d2 := J.box.c2
                  have hBl := blks_own J.own (by omega)
                  have S1 : Below wr.heap.size wr { wr with drawn := wr.drawn + 1 } := (Below.refl wr.heap.size wr).drew
                  have m0 : ∀ wx : World, (wx.cell? ⟨ob, 2, none⟩ = some (.slice xo fn xc) ∧ wx.cell? ⟨ub, 0, none⟩ = some (.int .i64 (oth0 t))) → wx.cell? ⟨ob, 2, none⟩ = some (.slice xo fn xc) := fun wx h => h.1
                  have m1 : ∀ wx : World, (wx.cell? ⟨ob, 2, none⟩ = some (.slice xo fn xc) ∧ wx.cell? ⟨ub, 0, none⟩ = some (.int .i64 (oth0 t))) → wx.cell? ⟨ub, 0, none⟩ = some (.int .i64 (oth0 t)) := fun wx h => h.2
                  have Q1 := And.intro (keep d2 S1) (keep s0 S1)
                  go_wp2_with fail
                  refine wp_region_peel (S := fun wx => wx.cell? ⟨ob, 2, none⟩ = some (.slice xo fn xc) ∧ wx.cell? ⟨ub, 0, none⟩ = some (.int .i64 (oth0 t))) 12 _ (by kernel_rfl) (by kernel_rfl) rfl ?_
                  simp only [List.take_succ_cons, List.take_zero]
                  refine takeH 0 (v := .pointer (some ⟨ob, 2, none⟩)) rfl (by kernel_rfl) (by kernel_rfl) (by kernel_rfl) (fun _ _ _ h => h) rfl (fun wx hSx => ?_) Q1 ?_
                  · go_simp
                  try simp only [Act.put, List.setIfInBounds_toArray, List.set_cons_zero, List.set_cons_succ]
                  refine takeH 1 (v := .slice xo fn xc) rfl (by kernel_rfl) (by kernel_rfl) (by kernel_rfl) (fun _ _ _ h => h) rfl (fun wx hSx => ?_) Q1 ?_
                  · go_simp
                  try simp only [Act.put, List.setIfInBounds_toArray, List.set_cons_zero, List.set_cons_succ]
                  refine takeH 2 (v := .int .i64 O) rfl (by kernel_rfl) (by kernel_rfl) (by kernel_rfl) (fun _ _ _ h => h) rfl (fun wx hSx => ?_) Q1 ?_
                  · go_simp
                  try simp only [Act.put, List.setIfInBounds_toArray, List.set_cons_zero, List.set_cons_succ]
                  refine takeH 3 (v := .slice (some ⟨ub, 0, none⟩) 2 2) rfl (by kernel_rfl) (by kernel_rfl) (by kernel_rfl) (fun _ _ _ h => h) rfl (fun wx hSx => ?_) Q1 ?_
                  · go_simp
                  try simp only [Act.put, List.setIfInBounds_toArray, List.set_cons_zero, List.set_cons_succ]
                  refine takeH 4 (v := .int .i64 0) rfl (by kernel_rfl) (by kernel_rfl) (by kernel_rfl) (fun _ _ _ h => h) rfl (fun wx hSx => ?_) Q1 ?_
                  · go_simp
                  try simp only [Act.put, List.setIfInBounds_toArray, List.set_cons_zero, List.set_cons_succ]
                  refine takeH 5 (v := .pointer (some ⟨ub, 0, none⟩)) rfl (by kernel_rfl) (by kernel_rfl) (by kernel_rfl) (fun _ _ _ h => h) rfl (fun wx hSx => ?_) Q1 ?_
                  · go_simp
                  try simp only [Act.put, List.setIfInBounds_toArray, List.set_cons_zero, List.set_cons_succ]
                  refine takeH 6 (v := .int .i64 (oth0 t)) rfl (by kernel_rfl) (by kernel_rfl) (by kernel_rfl) (fun _ _ _ h => h) rfl (fun wx hSx => ?_) Q1 ?_
                  · go_simp
                  try simp only [Act.put, List.setIfInBounds_toArray, List.set_cons_zero, List.set_cons_succ]
                  refine oneH 7 (by kernel_rfl) rfl rfl (fun K1 hK1 => ?_)
                  go_simp
                  refine (lowestOf_any _ xo fn xc z.free O (oth0 t) (hBl.below S1) hrise).mono ?_
                  rintro e w5 ⟨⟨fd', q', rfl, hF⟩, hb5⟩
                  have SA : Below wr.heap.size wr w5 := S1.trans (hb5.mono S1.size)
                  have QA := And.intro (keep d2 SA) (keep s0 SA)
                  refine hK1 _ _ QA ?_
                  try simp only [Act.put, List.setIfInBounds_toArray, List.set_cons_zero, List.set_cons_succ]
                  refine takeH 8 (v := .tuple #[.agg #[.int .i64 q'.a, .int .i64 q'.o, .int .i64 q'.t], .bool fd']) rfl (by kernel_rfl) (by kernel_rfl) (by kernel_rfl) (fun _ _ _ h => h) rfl (fun wx hSx => ?_) QA ?_
                  · go_simp
                  try simp only [Act.put, List.setIfInBounds_toArray, List.set_cons_zero, List.set_cons_succ]
                  refine takeH 9 (v := .agg #[.int .i64 q'.a, .int .i64 q'.o, .int .i64 q'.t]) rfl (by kernel_rfl) (by kernel_rfl) (by kernel_rfl) (fun _ _ _ h => h) rfl (fun wx hSx => ?_) QA ?_
                  · go_simp
                  try simp only [Act.put, List.setIfInBounds_toArray, List.set_cons_zero, List.set_cons_succ]
                  refine takeH 10 (v := .bool fd') rfl (by kernel_rfl) (by kernel_rfl) (by kernel_rfl) (fun _ _ _ h => h) rfl (fun wx hSx => ?_) QA ?_
                  · go_simp
                  try simp only [Act.put, List.setIfInBounds_toArray, List.set_cons_zero, List.set_cons_succ]
                  have J5 := J.below SA
                  have J6 := J5.setB q'
                  have t0 := keep s0 SA
                  have t1 := keep s1 SA
                  obtain ⟨u0, u1, u2, v0, v1, v2⟩ := J5.tb
                  have hbt := but3 w5 bb (.int .i64 q'.a) (.int .i64 q'.o) (.int .i64 q'.t)
                  have t0' := hbt.cell t0 hub
                  have t1' := hbt.cell t1 hub
                  obtain ⟨W6, hW6⟩ : ∃ W6, ((w5.setCell ⟨bb, 0, none⟩ (.int .i64 q'.a)).setCell ⟨bb, 1, none⟩ (.int .i64 q'.o)).setCell ⟨bb, 2, none⟩ (.int .i64 q'.t) = W6 := ⟨_, rfl⟩
                  have J5obb := J5.obb
                  rw [hW6] at J6 t0' t1' hbt
                  have HW6 : Hid _ := hW6
                  have hI2 := inF_0 hF hI
                  clear hW6 J J5 hBl hI hF
                  have Q6 := And.intro (hbt.cell QA.1 J5obb) (t0')
                  clear hbt
                  refine oneH 11 (by kernel_rfl) rfl rfl (fun K3 hK3 => ?_)
                  go_simp
                  rw [HW6.out]
                  refine hK3 _ _ Q6 ?_
                  try simp only [Act.put, List.setIfInBounds_toArray, List.set_cons_zero, List.set_cons_succ]
                  refine wpAnyH_done (by kernel_rfl) ?_ _
                  show Oper.wp _ _ _ _ _ _
                  clear hK1 hK3 m0 m1 u0 u1 u2 v0 v1 v2 S1 SA Q1 QA Q6 t0 t1 s0 s1 HW6
                  go_wp2_with fail
                  go_roundw
                  case rel => exact ⟨fd', 1, q', rfl, by simp, by omega, hI2, t0', t1', hub, J6⟩
                  case measure => simp [intOf]
                · have d2 := J.box.c2
                  have hBl := blks_own J.own (by omega)
                  have S1 : Below wr.heap.size wr { wr with drawn := wr.drawn + 1 } := (Below.refl wr.heap.size wr).drew
                  have m0 : ∀ wx : World, (wx.cell? ⟨ob, 2, none⟩ = some (.slice xo fn xc) ∧ wx.cell? ⟨ub, 1, none⟩ = some (.int .i64 (oth1 t))) → wx.cell? ⟨ob, 2, none⟩ = some (.slice xo fn xc) := fun wx h => h.1
                  have m1 : ∀ wx : World, (wx.cell? ⟨ob, 2, none⟩ = some (.slice xo fn xc) ∧ wx.cell? ⟨ub, 1, none⟩ = some (.int .i64 (oth1 t))) → wx.cell? ⟨ub, 1, none⟩ = some (.int .i64 (oth1 t)) := fun wx h => h.2
                  have Q1 := And.intro (keep d2 S1) (keep s1 S1)
                  go_wp2_with fail
                  refine wp_region_peel (S := fun wx => wx.cell? ⟨ob, 2, none⟩ = some (.slice xo fn xc) ∧ wx.cell? ⟨ub, 1, none⟩ = some (.int .i64 (oth1 t))) 12 _ (by kernel_rfl) (by kernel_rfl) rfl ?_
                  simp only [List.take_succ_cons, List.take_zero]
                  refine takeH 0 (v := .pointer (some ⟨ob, 2, none⟩)) rfl (by kernel_rfl) (by kernel_rfl) (by kernel_rfl) (fun _ _ _ h => h) rfl (fun wx hSx => ?_) Q1 ?_
                  · go_simp
                  try simp only [Act.put, List.setIfInBounds_toArray, List.set_cons_zero, List.set_cons_succ]
                  refine takeH 1 (v := .slice xo fn xc) rfl (by kernel_rfl) (by kernel_rfl) (by kernel_rfl) (fun _ _ _ h => h) rfl (fun wx hSx => ?_) Q1 ?_
                  · go_simp
                  try simp only [Act.put, List.setIfInBounds_toArray, List.set_cons_zero, List.set_cons_succ]
                  refine takeH 2 (v := .int .i64 O) rfl (by kernel_rfl) (by kernel_rfl) (by kernel_rfl) (fun _ _ _ h => h) rfl (fun wx hSx => ?_) Q1 ?_
                  · go_simp
                  try simp only [Act.put, List.setIfInBounds_toArray, List.set_cons_zero, List.set_cons_succ]
                  refine takeH 3 (v := .slice (some ⟨ub, 0, none⟩) 2 2) rfl (by kernel_rfl) (by kernel_rfl) (by kernel_rfl) (fun _ _ _ h => h) rfl (fun wx hSx => ?_) Q1 ?_
                  · go_simp
                  try simp only [Act.put, List.setIfInBounds_toArray, List.set_cons_zero, List.set_cons_succ]
                  refine takeH 4 (v := .int .i64 1) rfl (by kernel_rfl) (by kernel_rfl) (by kernel_rfl) (fun _ _ _ h => h) rfl (fun wx hSx => ?_) Q1 ?_
                  · go_simp
                  try simp only [Act.put, List.setIfInBounds_toArray, List.set_cons_zero, List.set_cons_succ]
                  refine takeH 5 (v := .pointer (some ⟨ub, 1, none⟩)) rfl (by kernel_rfl) (by kernel_rfl) (by kernel_rfl) (fun _ _ _ h => h) rfl (fun wx hSx => ?_) Q1 ?_
                  · go_simp
                  try simp only [Act.put, List.setIfInBounds_toArray, List.set_cons_zero, List.set_cons_succ]
                  refine takeH 6 (v := .int .i64 (oth1 t)) rfl (by kernel_rfl) (by kernel_rfl) (by kernel_rfl) (fun _ _ _ h => h) rfl (fun wx hSx => ?_) Q1 ?_
                  · go_simp
                  try simp only [Act.put, List.setIfInBounds_toArray, List.set_cons_zero, List.set_cons_succ]
                  refine oneH 7 (by kernel_rfl) rfl rfl (fun K1 hK1 => ?_)
                  go_simp
                  refine (lowestOf_any _ xo fn xc z.free O (oth1 t) (hBl.below S1) hrise).mono ?_
                  rintro e w5 ⟨⟨fd', q', rfl, hF⟩, hb5⟩
                  have SA : Below wr.heap.size wr w5 := S1.trans (hb5.mono S1.size)
                  have QA := And.intro (keep d2 SA) (keep s1 SA)
                  refine hK1 _ _ QA ?_
                  try simp only [Act.put, List.setIfInBounds_toArray, List.set_cons_zero, List.set_cons_succ]
                  refine takeH 8 (v := .tuple #[.agg #[.int .i64 q'.a, .int .i64 q'.o, .int .i64 q'.t], .bool fd']) rfl (by kernel_rfl) (by kernel_rfl) (by kernel_rfl) (fun _ _ _ h => h) rfl (fun wx hSx => ?_) QA ?_
                  · go_simp
                  try simp only [Act.put, List.setIfInBounds_toArray, List.set_cons_zero, List.set_cons_succ]
                  refine takeH 9 (v := .agg #[.int .i64 q'.a, .int .i64 q'.o, .int .i64 q'.t]) rfl (by kernel_rfl) (by kernel_rfl) (by kernel_rfl) (fun _ _ _ h => h) rfl (fun wx hSx => ?_) QA ?_
                  · go_simp
                  try simp only [Act.put, List.setIfInBounds_toArray, List.set_cons_zero, List.set_cons_succ]
                  refine takeH 10 (v := .bool fd') rfl (by kernel_rfl) (by kernel_rfl) (by kernel_rfl) (fun _ _ _ h => h) rfl (fun wx hSx => ?_) QA ?_
                  · go_simp
                  try simp only [Act.put, List.setIfInBounds_toArray, List.set_cons_zero, List.set_cons_succ]
                  have J5 := J.below SA
                  have J6 := J5.setB q'
                  have t0 := keep s0 SA
                  have t1 := keep s1 SA
                  obtain ⟨u0, u1, u2, v0, v1, v2⟩ := J5.tb
                  have hbt := but3 w5 bb (.int .i64 q'.a) (.int .i64 q'.o) (.int .i64 q'.t)
                  have t0' := hbt.cell t0 hub
                  have t1' := hbt.cell t1 hub
                  obtain ⟨W6, hW6⟩ : ∃ W6, ((w5.setCell ⟨bb, 0, none⟩ (.int .i64 q'.a)).setCell ⟨bb, 1, none⟩ (.int .i64 q'.o)).setCell ⟨bb, 2, none⟩ (.int .i64 q'.t) = W6 := ⟨_, rfl⟩
                  have J5obb := J5.obb
                  rw [hW6] at J6 t0' t1' hbt
                  have HW6 : Hid _ := hW6
                  have hI2 := inF_1 hF hI
                  clear hW6 J J5 hBl hI hF
                  have Q6 := And.intro (hbt.cell QA.1 J5obb) (t1')
                  clear hbt
                  refine oneH 11 (by kernel_rfl) rfl rfl (fun K3 hK3 => ?_)
                  go_simp
                  rw [HW6.out]
                  refine hK3 _ _ Q6 ?_
                  try simp only [Act.put, List.setIfInBounds_toArray, List.set_cons_zero, List.set_cons_succ]
                  refine wpAnyH_done (by kernel_rfl) ?_ _
                  show Oper.wp _ _ _ _ _ _
                  clear hK1 hK3 m0 m1 u0 u1 u2 v0 v1 v2 S1 SA Q1 QA Q6 t0 t1 s0 s1 HW6
                  go_wp2_with fail
                  go_roundw
                  case rel => exact ⟨fd', 2, q', rfl, by simp, by omega, hI2, t0', t1', hub, J6⟩
                  case measure => simp [intOf]
              · have hw1 : IntKind.i64.wrap (O - 1) = O - 1 := IntWalk.i64_in _ (by omega)
                cases fd with
                | true =>
                  obtain ⟨hqm, hqO⟩ := inF_in hI
                  have HqO : Hid _ := hqO
                  have hD2 := dnF_next hD hoO (fun h => by cases h) hI
                  clear hgo hD
                  by_cases h2 : 2 ≤ O
                  · have hs2 : StF z t true q ⟨q.a, q.o, t⟩ (stolenZ z q t).free (stolenZ z q t).types := by unfold StF; rw [if_pos rfl, if_pos (by omega)]; exact ⟨rfl, rfl, rfl⟩
                    have hty8 := hM.len
                    have htn : z.types.length = tn := owns_len J.typ
                    have hfn : z.free.length = fn := bowns_len J.own
                    have hf0 : 0 < fn := by have := List.length_pos_of_mem hqm; omega
                    have ht0 : 0 < tn := by
                      obtain ⟨⟨_, qa1, qa2, qa3⟩, _⟩ := (free_iff.1 hM.free).1 q hqm
                      have := pw_pos q.o
                      omega
                    obtain ⟨g, hg⟩ : ∃ g, xo = some ⟨g, 0, none⟩ := by
                      rcases J.own.2 with ⟨e1, _⟩ | ⟨g, cp, cur, e1, _⟩
                      · simp only [Value.slice.injEq] at e1
                        omega
                      · simp only [Value.slice.injEq] at e1
                        exact ⟨g, e1.1⟩
                    obtain ⟨yg, hyg⟩ : ∃ yg, yo = some ⟨yg, 0, none⟩ := by
                      rcases J.typ.2 with ⟨e1, _⟩ | ⟨g, cp, cur, e1, _⟩
                      · simp only [Value.slice.injEq] at e1
                        omega
                      · simp only [Value.slice.injEq] at e1
                        exact ⟨g, e1.1⟩
                    subst hg hyg
                    clear hqO hI hty8 htn hfn hf0 ht0
                    rcases Int.lt_or_le (k : Int) 2 with hk | hk
                    all_goals
                      go_wp2_with fail
                      refine takenOf_steal _ _ _ _ _ _ _ _ _ _ _ _ _ _ _ _ _ _ _ _ _ _ _ _ _ _ _ _ _ _ _ _ _ _ _ _ _ _ _ _ _ _ _ _ _ _ _ _ _ _ _ _ _ _ _ _ _ _ _ _ _ _ _ _ _ _ _ _ _ _ _ _ _ _ _ _ _ _ _ _ _ _ _ _ _ _ _ _ _ _ _ _ _ _ _ _ _ _ _ _ _ _ _ _ _ _ _ _ _ _ _ _ _ _ _ _ _ _ _ _ _ _ _ _ _ _ _ _ _ _ _ _ _ _ _ _ _ _ _ _ _ _ _ _ _ _ _ _ _ _ _ _ _ _ _ _ _ _ _ _ _ _ _ _ _ _ _ _ _ _ _ _ _ _ _ _ _ _ _ _ _ _ _ _ _ _ _ _ _ _ _ _ w wr ob bb z g fn xc yg tn yc q t O _ J hM hqm HqO h2 ?_
                      clear J
                      intro y16 y17 y18 y19 y88 y89 y90 y91 y92 y93 y94 y95 y96 y97 y98 y99 y100 y101 y102 y103 y104 y105 y106 y107 y108 y109 y110 y111 y112 y113 y114 y115 y116 y117 y118 y119 y120 y121 y122 y123 y124 y125 y126 y127 y128 y129 y130 y131 y132 y133 y134 y135 y136 y137 y138 y139 y140 y141 y142 y143 y144 y145 y146 y147 y148 y149 y150 y151 y152 y153 y154 y155 y156 y157 y158 W J2
                      go_wp2_with fail
                      go_roundw
                      case rel => exact ⟨true, O - 1, ⟨q.a, q.o, t⟩, q, _, _, rfl, by simp, by omega, by omega, hD2, hs2, J2⟩
                      case measure => simp [intOf]; omega
                  · have hs2 : StF z t true q q z.free z.types := by unfold StF; rw [if_pos rfl, if_neg (by omega)]; exact ⟨rfl, rfl, rfl⟩
                    clear hqO hI
                    rcases Int.lt_or_le (k : Int) 2 with hk | hk
                    all_goals
                      go_wp2_with fail
                      go_roundw
                      case rel => exact ⟨true, O - 1, q, q, _, _, rfl, by simp, by omega, by omega, hD2, hs2, J⟩
                      case measure => simp [intOf]; omega
                | false =>
                  have hk2' : k = 2 := by
                    by_cases h : k < 2
                    · exact absurd ⟨h, rfl⟩ hgo
                    · omega
                  have hD2 := dnF_next hD hoO (fun _ => hk2') hI
                  have hs2 : StF z t false q q z.free z.types := ⟨rfl, rfl⟩
                  have hk : ¬ ((k : Int) < 2) := by omega
                  clear hgo hk2' hI hD
                  go_wp2_with fail
                  go_roundw
                  case rel => exact ⟨false, O - 1, q, q, _, _, rfl, by simp, by omega, by omega, hD2, hs2, J⟩
                  case measure => simp [intOf]; omega
          · have htn : z.types.length = tn := by have := owns_len J.typ; have := StF_len hSt; omega
            have hty8 := hM.len
            cases fd with
            | true =>
              obtain ⟨hTK, g1, g2, g3, g4⟩ := dn_done hM ho ht HUP.out hD hSt
              have HTK : Hid _ := hTK
              clear hTK hSt hD hgo
              by_cases hoO : o ≤ O
              all_goals
                go_wp2_with fail
                refine takenOf_end_t _ _ _ _ _ _ _ _ _ _ _ _ _ _ _ _ _ _ _ _ _ _ _ _ _ _ _ _ _ _ _ _ _ _ _ _ _ _ _ _ _ _ _ _ _ _ _ _ _ _ _ _ _ _ _ _ _ _ _ _ _ _ _ _ _ _ _ _ _ _ _ _ _ _ _ _ _ _ _ _ _ _ _ _ _ _ _ _ _ _ _ _ _ _ _ _ _ _ _ _ _ _ _ _ _ _ _ _ _ _ _ _ _ _ _ _ _ _ _ _ _ _ _ _ _ _ _ _ _ _ _ _ _ _ _ _ _ _ _ _ _ _ _ _ _ _ _ _ _ _ _ _ _ _ _ _ _ _ _ _ _ _ _ _ _ _ _ _ _ _ _ _ _ _ _ _ _ _ _ _ _ _ _ _ _ _ _ _ _ _ _ _ w wr ob bb z.f z.t xo fn xc yo tn yc fr ty q o _ J ho0 g1 g2 g3 g4 (by omega) (by omega) ?_
                intro e w' hR hB
                obtain ⟨i, h1, h2, h3⟩ := HTK.out
                exact ⟨.inr ⟨i, h1, by rw [h2, ← h3]; exact hR⟩, hB⟩
            | false =>
              have hO' : O = o - 1 := by
                by_cases h : o ≤ O
                · exact absurd ⟨h, rfl⟩ hgo
                · omega
              have HN : Hid _ := dn_none HUP.out hD hO'
              have hlt : ¬ (o ≤ O) := by omega
              clear hO' hSt hD hgo
              go_wp2_with fail
              refine takenOf_end_f _ _ _ _ _ _ _ _ _ _ _ _ _ _ _ _ _ _ _ _ _ _ _ _ _ _ _ _ _ _ _ _ _ _ _ _ _ _ _ _ _ _ _ _ _ _ _ _ _ _ _ _ _ _ _ _ _ _ _ _ _ _ _ _ _ _ _ _ _ _ _ _ _ _ _ _ _ _ _ _ _ _ _ _ _ _ _ _ _ _ _ _ _ _ _ _ _ _ _ _ _ _ _ _ _ _ _ _ _ _ _ _ _ _ _ _ _ _ _ _ _ _ _ _ _ _ _ _ _ _ _ _ _ _ _ _ _ _ _ _ _ _ _ _ _ _ _ _ _ _ _ _ _ _ _ _ _ _ _ _ _ _ _ _ _ _ _ _ _ _ _ _ _ _ _ _ _ _ _ _ _ _ _ _ _ _ _ _ _ _ _ _ w wr ob bb o _ J.res J.b ?_
              intro e w' hR hB
              exact ⟨.inl ⟨HN.out, hR⟩, hB⟩

end Go.Proofs.YtpfafhgllabhbaaDoor

/-
  OWN TEXT. Contract of the laws' own sameInts at two that hold the same.
-/
namespace Go.Proofs.YtpfafhgllabhbaaDoor
open Go Go.RowKit Go.Proofs.YtpfafhgllabhbaaDoor.Kit

set_option maxHeartbeats 400000 in
theorem same_eq (w : World) (ao bo : Option Addr) (n ca cb : Nat) (xs : List Int) (hn : xs.length = n) (hr : n * 8 ≤ 140737488351232) (ha : IntsAt w ao xs) (hb : IntsAt w bo xs) :
    Calls Tryd.prog 28 #[.slice ao n ca, .slice bo n cb] w fun e w' => e = .returned (.bool true) ∧ ∃ d, w' = w.drewN d := by
  go_enter Tryd.func28, Tryd.ntmps28
  go_wp2
  go_loopw [5] (fun i wr => ∃ k d : Nat, k ≤ n ∧ i = .int .i64 k ∧ wr = w.drewN d) (fun i _ => n - (intOf i).toNat)
  case atStart => exact ⟨0, 0, Nat.zero_le _, rfl, rfl⟩
  case round =>
    obtain ⟨k, d, hk, rfl, rfl⟩ := hrel
    by_cases hlt : k < n
    · obtain ⟨b1, o1, rfl, c1⟩ := ha k (by omega)
      obtain ⟨b2, o2, rfl, c2⟩ := hb k (by omega)
      clear ha hb
      go_wp2
      go_quiet (fail)
      go_wp2
      go_roundw
      case rel => exact ⟨k + 1, _, by omega, by go_num, rfl⟩
      case measure => simp [intOf]; omega
    · go_wp2
      go_ret
      exact ⟨rfl, d, rfl⟩

end Go.Proofs.YtpfafhgllabhbaaDoor

/-
  OWN TEXT. Contracts of the laws' own: sameBlocks, sameZone at two that hold the same.
-/
namespace Go.Proofs.YtpfafhgllabhbaaDoor
open Go Go.RowKit Go.Proofs.YtpfafhgllabhbaaDoor.Kit

set_option maxHeartbeats 1000000 in
theorem sameBlocks_eq (w : World) (ao bo : Option Addr) (n ca cb : Nat) (l : List Bk) (ha : Blks w ao n l) (hb : Blks w bo n l) :
    Calls Tryd.prog 27 #[.slice ao n ca, .slice bo n cb] w fun e w' => e = .returned (.bool true) ∧ ∃ d, w' = w.drewN d := by
  have hn := ha.len
  have hr := ha.reach
  have xa := ha.at_
  have xb := hb.at_
  clear ha hb
  go_enter Tryd.func27, Tryd.ntmps27
  go_wp2
  go_loopw [5] (fun i wr => ∃ k d : Nat, k ≤ n ∧ i = .int .i64 k ∧ wr = w.drewN d) (fun i _ => n - (intOf i).toNat)
  case atStart => exact ⟨0, 0, Nat.zero_le _, rfl, rfl⟩
  case round =>
    obtain ⟨k, d, hk, rfl, rfl⟩ := hrel
    by_cases hlt : k < n
    · obtain ⟨b1, o1, x, y, u, rfl, c1, c2, c3, hX⟩ := xa.at k (by omega)
      obtain ⟨b2, o2, x', y', u', rfl, d1, d2, d3, hX'⟩ := xb.at k (by omega)
      have hxy : (⟨x, y, u⟩ : Bk) = ⟨x', y', u'⟩ := hX.out.symm.trans hX'.out
      cases hxy
      clear xa xb hX hX'
      go_wp2
      go_quiet (fail)
      go_wp2
      go_roundw
      case rel => exact ⟨k + 1, _, by omega, by go_num, rfl⟩
      case measure => simp [intOf]; omega
    · go_wp2
      go_ret
      exact ⟨rfl, d, rfl⟩

set_option maxHeartbeats 1000000 in
theorem sameZone_eq (w : World) (f t : Int) (f1 f2 t1 t2 : Option Addr) (fn fc1 fc2 tn tc1 tc2 : Nat) (z : Zn) (h1 : ZnAt w f1 fn t1 tn z) (h2 : ZnAt w f2 fn t2 tn z) :
    Calls Tryd.prog 8 #[.agg #[.int .i64 f, .int .i64 t, .slice f1 fn fc1, .slice t1 tn tc1], .agg #[.int .i64 f, .int .i64 t, .slice f2 fn fc2, .slice t2 tn tc2]] w fun e w' => e = .returned (.bool true) ∧ Below w.heap.size w w' := by
  have hb1 : Below w.heap.size w ((w.alloc (.cells #[.int .i64 f, .int .i64 t, .slice f1 fn fc1, .slice t1 tn tc1] 25)).alloc (.cells #[.int .i64 f, .int .i64 t, .slice f2 fn fc2, .slice t2 tn tc2] 25)) := ((Below.refl _ _).alloc (Nat.le_refl _) _).alloc (by simp) _
  have g1 := h1.below hb1
  have g2 := h2.below hb1
  clear h1 h2
  go_enter Tryd.func8, Tryd.ntmps8
  go_wp2_with fail
  go_at_call 27
  refine (sameBlocks_eq _ f1 f2 fn fc1 fc2 z.free g1.free g2.free).mono ?_
  rintro e w1 ⟨rfl, d, rfl⟩
  go_wp2_with fail
  go_at_call 28
  refine (same_eq _ t1 t2 tn tc1 tc2 z.types g1.types.len g1.types.reach (g1.types.at_.below (below_drawn d)) (g2.types.at_.below (below_drawn d))).mono ?_
  rintro e w2 ⟨rfl, d2, rfl⟩
  go_wp2
  go_ret
  exact ⟨rfl, hb1.trans (below_drewN (Below.refl _ _) _)⟩

end Go.Proofs.YtpfafhgllabhbaaDoor

/-
  OWN TEXT. The walk of the law BuddyTakes: it returns true and writes nothing that was there.
-/
namespace Go.Proofs.YtpfafhgllabhbaaDoor
open Go Go.RowKit Go.Proofs.YtpfafhgllabhbaaDoor.Kit

/-- A zone is returned, a place, and a code. -/
def RetAny3 (w' : World) (Z : Zn) (a c : Int) (e : Ending) : Prop :=
  ∃ fo fn fc to_ tn tc, e = .returned (.tuple #[.agg #[.int .i64 Z.f, .int .i64 Z.t, .slice fo fn fc, .slice to_ tn tc], .int .i64 a, .int .i64 c]) ∧ ZnAt w' fo fn to_ tn Z
theorem RetZone3.any {B : Nat} {w' : World} {Z : Zn} {a : Int} {e : Ending} (h : RetZone3 B w' Z a e) : RetAny3 w' Z a 0 e := by
  obtain ⟨fo, fn, fc, to_, tn, tc, he, hz, _, _⟩ := h
  exact ⟨fo, fn, fc, to_, tn, tc, he, hz⟩
theorem RetNone3.any {c : Int} {w' : World} {e : Ending} (h : RetNone3 c e) : RetAny3 w' ⟨0, 0, [], []⟩ 0 c e :=
  ⟨none, 0, 0, none, 0, 0, h, ⟨Blks.nil _, Nums.nil _⟩⟩

set_option maxHeartbeats 4000000 in
theorem buddyTakes_both (z : Zn) (fo : Option Addr) (fn fc : Nat) (to_ : Option Addr) (tn tc : Nat) (a o : Int) (w : World) (h : ZnAt w fo fn to_ tn z) (hT : TabAt w) (Z : Zn) (A c : Int)
    (HC : ∀ W ko kn kc lo ln lc, ZnAt W ko kn lo ln z → TabAt W → Calls Tryd.prog 6 #[.agg #[.int .i64 z.f, .int .i64 z.t, .slice ko kn kc, .slice lo ln lc], .int .i64 a, .int .i64 o] W fun e w' => RetAny3 w' Z A c e ∧ Below W.heap.size W w')
    (HR : ∀ W ko kn kc lo ln lc, ZnAt W ko kn lo ln z → Calls Tryd.prog 7 #[.agg #[.int .i64 z.f, .int .i64 z.t, .slice ko kn kc, .slice lo ln lc], .int .i64 a, .int .i64 o] W fun e w' => RetAny3 w' Z A c e ∧ Below W.heap.size W w') :
    Calls Tryd.prog 3 #[.agg #[.int .i64 z.f, .int .i64 z.t, .slice fo fn fc, .slice to_ tn tc], .int .i64 a, .int .i64 o] w fun e w' => e = .returned (.bool true) ∧ Below w.heap.size w w' := by
  have hb0 := below_box w (.cells #[.int .i64 z.f, .int .i64 z.t, .slice fo fn fc, .slice to_ tn tc] 25)
  have P := zbox_new w (.int .i64 z.f) (.int .i64 z.t) (.slice fo fn fc) (.slice to_ tn tc) 25
  replace h := h.below hb0
  have HC' : Hid _ := HC
  have HR' : Hid _ := HR
  have HK := zoneCopy_any _ fo fn fc to_ tn tc z h
  have p0 := P.c0
  have p1 := P.c1
  have p2 := P.c2
  have p3 := P.c3
  clear HC HR
  go_enter Tryd.func3, Tryd.ntmps3
  go_wp2_with fail
  go_at_call 5
  refine HK.mono ?_
  rintro e w1 ⟨⟨ko, kn, kc, lo, ln, lc, rfl, hk, _, _⟩, hb1⟩
  obtain rfl : kn = fn := hk.free.len.symm.trans (h.below hb1).free.len
  obtain rfl : ln = tn := hk.types.len.symm.trans (h.below hb1).types.len
  have hbk := below_box w1 (.cells #[.int .i64 z.f, .int .i64 z.t, .slice ko kn kc, .slice lo ln lc] 25)
  have K := zbox_new w1 (.int .i64 z.f) (.int .i64 z.t) (.slice ko kn kc) (.slice lo ln lc) 25
  have hB1 := hb0.trans ((hb1.mono hb0.size).trans (hbk.mono (Nat.le_trans hb0.size hb1.size)))
  replace h := (h.below hb1).below hbk
  replace hk := hk.below hbk
  replace P := (P.below hb1).below hbk
  have HC2 := HC'.out _ ko kn kc lo ln lc hk (hT.below hB1)
  clear hT
  replace p0 := P.c0
  replace p1 := P.c1
  replace p2 := P.c2
  replace p3 := P.c3
  have k0 := K.c0
  have k1 := K.c1
  have k2 := K.c2
  have k3 := K.c3
  clear HK HC' hb0 hb1 hbk
  go_wp2_with fail
  go_at_call 6
  refine HC2.mono ?_
  rintro e w2 ⟨⟨xo, xn, xc, yo, yn, yc, rfl, hx⟩, hb2⟩
  have hbx := below_box w2 (.cells #[.int .i64 Z.f, .int .i64 Z.t, .slice xo xn xc, .slice yo yn yc] 25)
  have X := zbox_new w2 (.int .i64 Z.f) (.int .i64 Z.t) (.slice xo xn xc) (.slice yo yn yc) 25
  have hB2 := hB1.trans ((hb2.mono hB1.size).trans (hbx.mono (Nat.le_trans hB1.size hb2.size)))
  replace h := (h.below hb2).below hbx
  replace hk := (hk.below hb2).below hbx
  replace hx := hx.below hbx
  replace P := (P.below hb2).below hbx
  replace K := (K.below hb2).below hbx
  have HR2 := HR'.out _ fo kn fc to_ ln tc h
  replace p0 := P.c0
  replace p1 := P.c1
  replace p2 := P.c2
  replace p3 := P.c3
  clear HC2 HR' hB1 hb2 hbx k0 k1 k2 k3
  go_wp2_with fail
  go_at_call 7
  refine HR2.mono ?_
  rintro e w3 ⟨⟨go, gn, gc, uo, un, uc, rfl, hy⟩, hb3⟩
  obtain rfl : gn = xn := hy.free.len.symm.trans (hx.below hb3).free.len
  obtain rfl : un = yn := hy.types.len.symm.trans (hx.below hb3).types.len
  have hby := below_box w3 (.cells #[.int .i64 Z.f, .int .i64 Z.t, .slice go gn gc, .slice uo un uc] 25)
  have Y := zbox_new w3 (.int .i64 Z.f) (.int .i64 Z.t) (.slice go gn gc) (.slice uo un uc) 25
  have hB3 := hB2.trans ((hb3.mono hB2.size).trans (hby.mono (Nat.le_trans hB2.size hb3.size)))
  replace h := (h.below hb3).below hby
  replace hk := (hk.below hb3).below hby
  replace hx := (hx.below hb3).below hby
  replace hy := hy.below hby
  replace P := (P.below hb3).below hby
  replace K := (K.below hb3).below hby
  replace X := (X.below hb3).below hby
  have x0 := X.c0
  have x1 := X.c1
  have x2 := X.c2
  have x3 := X.c3
  have y0 := Y.c0
  have y1 := Y.c1
  have y2 := Y.c2
  have y3 := Y.c3
  clear HR2 hB2 hb3 hby p0 p1 p2 p3
  go_wp2_with fail
  go_at_call 8
  refine (sameZone_eq _ Z.f Z.t xo go yo uo gn xc gc un yc uc Z hx hy).mono ?_
  rintro e w4 ⟨rfl, hb4⟩
  have hB4 := hB3.trans (hb4.mono hB3.size)
  replace h := h.below hb4
  replace hk := hk.below hb4
  replace P := P.below hb4
  replace K := K.below hb4
  have p0 := P.c0
  have p1 := P.c1
  have p2 := P.c2
  have p3 := P.c3
  have k0 := K.c0
  have k1 := K.c1
  have k2 := K.c2
  have k3 := K.c3
  clear hb4 hB3 x0 x1 x2 x3 y0 y1 y2 y3 X Y
  go_wp2_with fail
  go_at_call 8
  refine (sameZone_eq _ z.f z.t ko fo lo to_ kn kc fc ln lc tc z hk h).mono ?_
  rintro e w5 ⟨rfl, hb5⟩
  go_wp2
  go_ret
  exact ⟨rfl, hB4.trans (hb5.mono hB4.size)⟩

theorem buddyTakes_walk (f t : Int) (fo : Option Addr) (fn fc : Nat) (to_ : Option Addr) (tn tc : Nat) (fr : List Bk) (ty : List Int) (o u : Int) (w : World) (h : IsZone w fo fn fc to_ tn tc ⟨f, t, fr, ty⟩) (_wo : (Lit.int .i64 o).wf = true) (_wu : (Lit.int .i64 u).wf = true) (hT : TabAt w) :
    Calls Tryd.prog 3 #[.agg #[.int .i64 f, .int .i64 t, .slice fo fn fc, .slice to_ tn tc], .int .i64 o, .int .i64 u] w fun e w' => e = .returned (.bool true) ∧ Below w.heap.size w w' := by
  by_cases hM : ZMay ⟨f, t, fr, ty⟩
  · by_cases ho : ordOk o
    · by_cases hu : typeOk u
      · by_cases hC : 0 ≤ chooseI fr o u
        · obtain ⟨i, hi⟩ : ∃ i : Nat, chooseI fr o u = i := ⟨(chooseI fr o u).toNat, by omega⟩
          exact buddyTakes_both ⟨f, t, fr, ty⟩ fo fn fc to_ tn tc o u w h.zn hT (takeZ ⟨f, t, fr, ty⟩ o u i) (fr.getD i .zero).a 0 (fun W ko kn kc lo ln lc hz hTW => (zTake_ok W ko kn kc lo ln lc ⟨f, t, fr, ty⟩ o u i hz hM hTW ho hu hi).mono fun e w' g => ⟨g.1.any, g.2⟩) (fun W ko kn kc lo ln lc hz => (takenOf_main W ko kn kc lo ln lc ⟨f, t, fr, ty⟩ o u hz hM ho hu).mono fun e w' g => ⟨(by rcases g.1 with ⟨g1, _⟩ | ⟨j, g1, g2⟩; exact absurd g1 (by show ¬ chooseI fr o u < 0; omega); have hj : j = i := (by have g1' : chooseI fr o u = j := g1; omega); rw [hj] at g2; exact g2.any), g.2⟩)
        · exact buddyTakes_both ⟨f, t, fr, ty⟩ fo fn fc to_ tn tc o u w h.zn hT ⟨0, 0, [], []⟩ 0 6 (fun W ko kn kc lo ln lc hz hTW => (zTake_room W ko kn kc lo ln lc ⟨f, t, fr, ty⟩ o u hz hM hTW ho hu (by show chooseI fr o u < 0; omega)).mono fun e w' g => ⟨g.1.any, g.2⟩) (fun W ko kn kc lo ln lc hz => (takenOf_main W ko kn kc lo ln lc ⟨f, t, fr, ty⟩ o u hz hM ho hu).mono fun e w' g => ⟨(by rcases g.1 with ⟨_, g2⟩ | ⟨j, g1, _⟩; exact g2.any; exact absurd (show chooseI fr o u = j from g1) (by omega)), g.2⟩)
      · exact buddyTakes_both ⟨f, t, fr, ty⟩ fo fn fc to_ tn tc o u w h.zn hT ⟨0, 0, [], []⟩ 0 2 (fun W ko kn kc lo ln lc hz hTW => (zTake_kind W ko kn kc lo ln lc ⟨f, t, fr, ty⟩ o u hz hM ho hu).mono fun e w' g => ⟨g.1.any, g.2⟩) (fun W ko kn kc lo ln lc hz => (takenOf_kind W ko kn kc lo ln lc ⟨f, t, fr, ty⟩ o u hz hM ho hu).mono fun e w' g => ⟨g.1.any, g.2⟩)
    · exact buddyTakes_both ⟨f, t, fr, ty⟩ fo fn fc to_ tn tc o u w h.zn hT ⟨0, 0, [], []⟩ 0 1 (fun W ko kn kc lo ln lc hz hTW => (zTake_range W ko kn kc lo ln lc ⟨f, t, fr, ty⟩ o u hz hM ho).mono fun e w' g => ⟨g.1.any, g.2⟩) (fun W ko kn kc lo ln lc hz => (takenOf_range W ko kn kc lo ln lc ⟨f, t, fr, ty⟩ o u hz hM ho).mono fun e w' g => ⟨g.1.any, g.2⟩)
  · exact buddyTakes_both ⟨f, t, fr, ty⟩ fo fn fc to_ tn tc o u w h.zn hT ⟨0, 0, [], []⟩ 0 8 (fun W ko kn kc lo ln lc hz hTW => (zTake_no W ko kn kc lo ln lc ⟨f, t, fr, ty⟩ o u hz h.fits hM).mono fun e w' g => ⟨g.1.any, g.2⟩) (fun W ko kn kc lo ln lc hz => (takenOf_no W ko kn kc lo ln lc ⟨f, t, fr, ty⟩ o u hz hM).mono fun e w' g => ⟨g.1.any, g.2⟩)

end Go.Proofs.YtpfafhgllabhbaaDoor
