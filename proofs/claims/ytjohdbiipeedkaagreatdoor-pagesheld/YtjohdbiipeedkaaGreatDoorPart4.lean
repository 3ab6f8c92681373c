/-
  OWN TEXTS.
-/
import Derived.Test.YtjohdbiipeedkaaGreatDoorPart3
import Derived.Deep.RegionWith
import Derived.Laws.AppendOwn
import Derived.Deep.RegionLaw
import Derived.OwnWalk
import Derived.Lib.AppendZerosOnto
import Derived.Lib.AppendZeros
import Derived.Lib.Overlaps
import Derived.Laws.Externs
import Derived.Laws.MakeOwn
set_option maxRecDepth 10000
set_option maxHeartbeats 4000000
namespace Go.Proofs.YtjohdbiipeedkaaGreatDoor
open Go Go.RowKit Go.Proofs.YtjohdbiipeedkaaGreatDoor.Kit
structure CkInv (w : World) (fo : Option Addr) (fn fc : Nat) (to_ : Option Addr) (tn tc : Nat) (z : Zn) (W : World) : Prop where
 b : Below w.heap.size w W
 box : ZBox W w.heap.size (.int .i64 z.f) (.int .i64 z.t) (.slice fo fn fc) (.slice to_ tn tc)
 zn : ZnAt W fo fn to_ tn z
theorem CkInv.step {w : World} {fo : Option Addr} {fn fc : Nat} {to_ : Option Addr} {tn tc : Nat} {z : Zn} {W W' : World} (h : CkInv w fo fn fc to_ tn tc z W) (hb : Below W.heap.size W W') : CkInv w fo fn fc to_ tn tc z W' :=
 ⟨h.b.trans (hb.mono h.b.size), h.box.below hb, h.zn.below hb⟩
theorem ckInv_first (w : World) (fo : Option Addr) (fn fc : Nat) (to_ : Option Addr) (tn tc : Nat) (z : Zn) (h : ZnAt w fo fn to_ tn z) : CkInv w fo fn fc to_ tn tc z (w.alloc (.cells #[.int .i64 z.f, .int .i64 z.t, .slice fo fn fc, .slice to_ tn tc] 54)) :=
 ⟨below_box _ _, zbox_new _ _ _ _ _ _, h.below (below_box _ _)⟩
def TypesP (z : Zn) : Prop := 8 * (z.types.length : Int) = z.t - z.f ∧ ∀ i, i < z.types.length → typeOk (z.types.getD i 0)
theorem typesMay_any (w : World) (fo : Option Addr) (fn fc : Nat) (to_ : Option Addr) (tn tc : Nat) (z : Zn) (h : ZnAt w fo fn to_ tn z) (hN : newOk z.f z.t) :
    Calls Tryz.prog 71 #[.agg #[.int .i64 z.f, .int .i64 z.t, .slice fo fn fc, .slice to_ tn tc]] w fun e w' => RetIff e (TypesP z) ∧ Below w.heap.size w w' := by
 have I0 := ckInv_first w fo fn fc to_ tn tc z h
 obtain ⟨n1, n2, n3, n4, n5⟩ := hN
 have c0 := I0.box.c0
 have c1 := I0.box.c1
 have c3 := I0.box.c3
 have htl := h.types.len
 have hrc := h.types.reach
 obtain ⟨D, hD⟩ : ∃ D : Nat, z.t - z.f = (D : Int) := ⟨(z.t - z.f).toNat, by omega⟩
 obtain ⟨N, hq⟩ : ∃ N : Nat, (D : Int) / 8 = (N : Int) := ⟨D / 8, by omega⟩
 clear h
 by_cases hlen : tn = N
 ·subst hlen
  have hL : Hid (8 * (z.types.length : Int) = z.t - z.f) := by show _ = _; omega
  obtain ⟨W0, hW0⟩ : ∃ W0, w.alloc (.cells #[.int .i64 z.f, .int .i64 z.t, .slice fo fn fc, .slice to_ tn tc] 54) = W0 := ⟨_, rfl⟩
  have HW0 : Hid _ := hW0
  rw [hW0] at I0 c0 c1 c3
  clear hW0
  have htd : ((tn : Int) == (tn : Int)) = true := by simp
  go_enter Tryz.func71, Tryz.ntmps71
  go_wp2_with (rw [HW0.out])
  clear HW0 c0 c1 c3 htd hD hq
  go_loopw [18] (fun iv wr => ∃ k : Nat, k ≤ tn ∧ iv = .int .i64 k ∧ Hid (∀ i, i < k → typeOk (z.types.getD i 0)) ∧ W0 = wr) (fun iv _ => tn - (intOf iv).toNat)
  case atStart => exact ⟨0, Nat.zero_le _, rfl, (fun i hi => absurd hi (Nat.not_lt_zero i)), rfl⟩
  case round =>
   obtain ⟨k, hk, rfl, hT, rfl⟩ := hrel
   by_cases hlt : k < tn
   ·obtain ⟨b, o, x, rfl, cx, hX⟩ := I0.zn.types.at_.at k (by omega)
    by_cases hx : 0 ≤ x ∧ x ≤ 2
    ·have e1 : Hid (inB x 0 2 = true) := inB_t hx
     have hT' : Hid (∀ i, i < k + 1 → typeOk (z.types.getD i 0)) := fun i hi => by
      by_cases e : i = k
      ·rw [e, hX.out]; exact hx
      exact hT.out i (by omega)
     clear hT hx
     go_wp2_with fail
     go_at_call 93
     refine (isType_any _ _).mono ?_
     rintro e w' ⟨rfl, rfl⟩
     rw [e1.out]
     go_wp2
     go_roundw
     case rel => exact ⟨k + 1, by omega, by go_num, hT', trivial⟩
     case measure => simp [intOf]; omega
    have e1 : Hid (inB x 0 2 = false) := inB_f hx
    have HF : Hid (¬ TypesP z) := fun g => hx (by have := g.2 k (by omega); rw [hX.out] at this; exact this)
    have hbb := I0.b
    clear hT hx I0
    go_wp2_with fail
    go_at_call 93
    refine (isType_any _ _).mono ?_
    rintro e w' ⟨rfl, rfl⟩
    rw [e1.out]
    go_wp2
    go_ret
    exact ⟨⟨false, rfl, fun g => (by cases g), fun g => absurd g HF.out⟩, hbb⟩
   have HM : Hid (TypesP z) := ⟨hL.out, fun i hi => hT.out i (by omega)⟩
   have hbb := I0.b
   clear hT I0 hL
   go_wp2
   go_ret
   exact ⟨⟨true, rfl, fun _ => HM.out, fun _ => rfl⟩, hbb⟩
 have HF : Hid (¬ TypesP z) := fun g => hlen (by have := g.1; omega)
 have hlen' : ((tn : Int) == N) = false := by simp; omega
 go_enter Tryz.func71, Tryz.ntmps71
 go_wp2
 go_ret
 exact ⟨⟨false, rfl, fun g => (by cases g), fun g => absurd g HF.out⟩, I0.b⟩
theorem freeMay_any (w : World) (fo : Option Addr) (fn fc : Nat) (to_ : Option Addr) (tn tc : Nat) (z : Zn) (h : ZnAt w fo fn to_ tn z) (hN : newOk z.f z.t) :
    Calls Tryz.prog 72 #[.agg #[.int .i64 z.f, .int .i64 z.t, .slice fo fn fc, .slice to_ tn tc]] w fun e w' => RetIff e (FreeOk z.f z.t z.f none z.free) ∧ Below w.heap.size w w' := by
 have I0 := ckInv_first w fo fn fc to_ tn tc z h
 have c2 := I0.box.c2
 have hfl := h.free.len
 have hfr := h.free.reach
 clear h
 obtain ⟨W0, hW0⟩ : ∃ W0, w.alloc (.cells #[.int .i64 z.f, .int .i64 z.t, .slice fo fn fc, .slice to_ tn tc] 54) = W0 := ⟨_, rfl⟩
 have HW0 : Hid _ := hW0
 rw [hW0] at I0 c2
 clear hW0
 obtain ⟨n1, n2, n3, n4, n5⟩ := id hN
 go_enter Tryz.func72, Tryz.ntmps72
 go_wp2_with (rw [HW0.out])
 clear HW0 c2
 go_loopw [9] (fun iv wr => ∃ k : Nat, k ≤ fn ∧ iv = .int .i64 k ∧ Hid (FreeOk z.f z.t z.f none (z.free.take k)) ∧ CkInv w fo fn fc to_ tn tc z wr) (fun iv _ => fn - (intOf iv).toNat)
 case atStart => exact ⟨0, Nat.zero_le _, rfl, trivial, I0⟩
 case round =>
  obtain ⟨k, hk, rfl, hF, I⟩ := hrel
  clear I0
  by_cases hlt : k < fn
  ·obtain ⟨bb, bf, x, y, u, rfl, x0, x1, x2, hX⟩ := I.zn.free.at_.at k (by omega)
   have htk := take_getD z.free k (by omega) hX.out
   have hbx := below_box wr (.cells #[.int .i64 x, .int .i64 y, .int .i64 u] 40)
   have I3 := I.step hbx
   have y0 : (wr.alloc (.cells #[.int .i64 x, .int .i64 y, .int .i64 u] 40)).cell? ⟨wr.heap.size, 0, none⟩ = some (.int .i64 x) := by go_simp
   have y1 : (wr.alloc (.cells #[.int .i64 x, .int .i64 y, .int .i64 u] 40)).cell? ⟨wr.heap.size, 1, none⟩ = some (.int .i64 y) := by go_simp
   have y2 : (wr.alloc (.cells #[.int .i64 x, .int .i64 y, .int .i64 u] 40)).cell? ⟨wr.heap.size, 2, none⟩ = some (.int .i64 u) := by go_simp
   have b0 := I3.box.c0
   have b1 := I3.box.c1
   have b2 := I3.box.c2
   have b3 := I3.box.c3
   go_wp2_with fail
   go_at_call 94
   refine (blkMay_any _ z.f z.t _ to_ fn fc tn tc x y hN).mono ?_
   rintro e w4 ⟨rfl, hb4⟩
   have I4 := I3.step hb4
   replace y0 := keep y0 hb4
   replace y1 := keep y1 hb4
   replace y2 := keep y2 hb4
   clear I I3 hbx b0 b1 b2 b3 x0 x1 x2 hb4
   have hbb := I4.b
   by_cases hB : blkIn z.f z.t x y
   ·have hB2 := (blkB_iff z.f z.t x y).2 hB
    rw [hB2]
    clear hB2
    obtain ⟨o1, o2, o3, o4⟩ := id hB
    by_cases hU : 0 ≤ u ∧ u ≤ 2
    ·have e1 : Hid (inB u 0 2 = true) := inB_t hU
     go_wp2_with fail
     go_at_call 93
     refine (isType_any _ _).mono ?_
     rintro e w' ⟨rfl, rfl⟩
     rw [e1.out]
     by_cases hk0 : k = 0
     ·subst hk0
      have hF' : Hid (FreeOk z.f z.t z.f none (z.free.take (0 + 1))) := by
       show FreeOk _ _ _ _ _
       rw [htk, freeOk_snoc]
       exact ⟨hF.out, hB, hU, o2, fun p hp => by cases hp⟩
      clear hF htk
      go_wp2
      go_roundw
      case rel => exact ⟨0 + 1, by omega, by go_num, hF', I4⟩
      case measure => simp [intOf]; omega
     obtain ⟨j, rfl⟩ : ∃ j, k = j + 1 := ⟨k - 1, by omega⟩
     obtain ⟨bb', bf', x', y', u', he, p0, p1, p2, hX'⟩ := I4.zn.free.at_.at j (by omega)
     cases he
     have hpv := freeOk_at hF.out (k := j) (by simp; omega) (b := ⟨x', y', u'⟩) (by
      have := hX'.out
      rw [List.getD_eq_getElem?_getD, List.getElem?_take, if_pos (by omega), ← List.getD_eq_getElem?_getD]
      exact this)
     obtain ⟨⟨v1, v2, v3, v4⟩, _, _, _⟩ := hpv
     dsimp only at v1 v2 v3 v4
     have htj := take_getD z.free j (by omega) hX'.out
     have hlast : lastOf none (z.free.take (j + 1)) = some ⟨x', y', u'⟩ := by rw [htj, lastOf_snoc]
     have hlow : lowOf z.f (z.free.take (j + 1)) = x' + pw y' := by rw [htj, lowOf_snoc]
     have c2 := I4.box.c2
     have hji : ((j + 1 : Nat) : Int) - 1 = (j : Int) := by omega
     have hjj : ((j + 1 : Nat) : Int) = (j : Int) + 1 := by simp
     have hj1 : (j : Int) < fn := by omega
     have hj2 : j < fn := by omega
     have hj0 : ((j : Int) + 1 == 0) = false := by simp; omega
     clear hbb
     go_wp2_with fail
     have hbx5 := below_box w4 (.cells #[.int .i64 x', .int .i64 y', .int .i64 u'] 40)
     have I5 := I4.step hbx5
     have l0 : (w4.alloc (.cells #[.int .i64 x', .int .i64 y', .int .i64 u'] 40)).cell? ⟨w4.heap.size, 0, none⟩ = some (.int .i64 x') := by go_simp
     have l1 : (w4.alloc (.cells #[.int .i64 x', .int .i64 y', .int .i64 u'] 40)).cell? ⟨w4.heap.size, 1, none⟩ = some (.int .i64 y') := by go_simp
     have l2 : (w4.alloc (.cells #[.int .i64 x', .int .i64 y', .int .i64 u'] 40)).cell? ⟨w4.heap.size, 2, none⟩ = some (.int .i64 u') := by go_simp
     replace y0 := keep y0 hbx5
     replace y1 := keep y1 hbx5
     replace y2 := keep y2 hbx5
     obtain ⟨W5, hW5⟩ : ∃ W5, w4.alloc (.cells #[.int .i64 x', .int .i64 y', .int .i64 u'] 40) = W5 := ⟨_, rfl⟩
     rw [hW5] at I5 l0 l1 l2 y0 y1 y2 ⊢
     clear hW5 hbx5 I4 c2 p0 p1 p2
     have m0 : ∀ wx, Below W5.heap.size W5 wx → wx.cell? ⟨wr.heap.size, 0, none⟩ = some (.int .i64 x) := fun wx h => keep y0 h
     have m1 : ∀ wx, Below W5.heap.size W5 wx → wx.cell? ⟨wr.heap.size, 1, none⟩ = some (.int .i64 y) := fun wx h => keep y1 h
     have m2 : ∀ wx, Below W5.heap.size W5 wx → wx.cell? ⟨wr.heap.size, 2, none⟩ = some (.int .i64 u) := fun wx h => keep y2 h
     have r0 : ∀ wx, Below W5.heap.size W5 wx → wx.cell? ⟨w4.heap.size, 0, none⟩ = some (.int .i64 x') := fun wx h => keep l0 h
     have r1 : ∀ wx, Below W5.heap.size W5 wx → wx.cell? ⟨w4.heap.size, 1, none⟩ = some (.int .i64 y') := fun wx h => keep l1 h
     have r2 : ∀ wx, Below W5.heap.size W5 wx → wx.cell? ⟨w4.heap.size, 2, none⟩ = some (.int .i64 u') := fun wx h => keep l2 h
     obtain ⟨E, hE⟩ : ∃ E, x' + pw y' = E := ⟨_, rfl⟩
     have HBeh : Hid (∀ W, Below W5.heap.size W5 W → Calls Tryz.prog 95 #[.agg #[.int .i64 x', .int .i64 y', .int .i64 u']] W fun e w' => e = .returned (.int .i64 E) ∧ Below W5.heap.size W5 w') := fun W hS => by
      rw [← hE]
      refine (behind_any W x' y' u' v1 (by omega) (by omega)).mono ?_
      rintro e w' ⟨rfl, hb⟩
      exact ⟨rfl, hS.trans (hb.mono hS.size)⟩
     obtain ⟨R, hR⟩ : ∃ R, areB ⟨x', y', u'⟩ ⟨x, y, u⟩ = R := ⟨_, rfl⟩
     have HAre : Hid (∀ W, Below W5.heap.size W5 W → Calls Tryz.prog 96 #[.agg #[.int .i64 x', .int .i64 y', .int .i64 u'], .agg #[.int .i64 x, .int .i64 y, .int .i64 u]] W fun e w' => e = .returned (.bool R) ∧ Below W5.heap.size W5 w') := fun W hS => by
      rw [← hR]
      refine (areBeside_any W ⟨x', y', u'⟩ ⟨x, y, u⟩ v1 (by dsimp only; omega) (by dsimp only; omega) v4).mono ?_
      rintro e w' ⟨rfl, hb⟩
      exact ⟨rfl, hS.trans (hb.mono hS.size)⟩
     have S0 : Below W5.heap.size W5 W5 := Below.refl _ _
     rw [hE] at hlow
     by_cases hlw : x < E
     ·have HF : Hid (¬ FreeOk z.f z.t z.f none z.free) := fun g => by have := (freeOk_at g (by omega) hX.out).2.2.1; rw [hlow] at this; dsimp only at this; omega
      have hlw' : decide (x < E) = true := decide_eq_true hlw
      clear hF htk htj hX hX' hlast hlow hE hR
      go_region_with (first | (go_at_call 95; refine (HBeh.out _ ?_).mono ?_; (first | exact Below.drew S0 | assumption); rintro e w6 ⟨rfl, hS6⟩; have a0 := m0 _ hS6; have a1 := m1 _ hS6; have a2 := m2 _ hS6; have a3 := r0 _ hS6; have a4 := r1 _ hS6; have a5 := r2 _ hS6) | (go_at_call 96; refine (HAre.out _ ?_).mono ?_; (first | assumption | exact Below.drew (by assumption)); rintro e w7 ⟨rfl, hS7⟩))
      all_goals
       have hbb := I5.b.trans (hS6.mono I5.b.size)
       clear I5 HBeh HAre m0 m1 m2 r0 r1 r2 S0
       go_wp2
       go_ret
       exact ⟨⟨false, rfl, fun g => (by cases g), fun g => absurd g HF.out⟩, hbb⟩
     have hlw' : decide (x < E) = false := decide_eq_false hlw
     cases R with
     | true =>
      have HF : Hid (¬ FreeOk z.f z.t z.f none z.free) := fun g => (freeOk_at g (by omega) hX.out).2.2.2 _ hlast ((areB_iff (by dsimp only; omega)).1 hR)
      clear hF htk htj hX hX' hlast hlow hE hR
      go_region_with (first | (go_at_call 95; refine (HBeh.out _ ?_).mono ?_; (first | exact Below.drew S0 | assumption); rintro e w6 ⟨rfl, hS6⟩; have a0 := m0 _ hS6; have a1 := m1 _ hS6; have a2 := m2 _ hS6; have a3 := r0 _ hS6; have a4 := r1 _ hS6; have a5 := r2 _ hS6) | (go_at_call 96; refine (HAre.out _ ?_).mono ?_; (first | assumption | exact Below.drew (by assumption)); rintro e w7 ⟨rfl, hS7⟩))
      all_goals
       have hbb := I5.b.trans (hS7.mono I5.b.size)
       clear I5 HBeh HAre m0 m1 m2 r0 r1 r2 S0
       go_wp2
       go_ret
       exact ⟨⟨false, rfl, fun g => (by cases g), fun g => absurd g HF.out⟩, hbb⟩
     | false =>
      have hF' : Hid (FreeOk z.f z.t z.f none (z.free.take (j + 1 + 1))) := by
       show FreeOk _ _ _ _ _
       rw [htk, freeOk_snoc]
       refine ⟨hF.out, hB, hU, by rw [hlow]; dsimp only; omega, fun p hp => ?_⟩
       rw [hlast] at hp
       cases hp
       intro g
       have := (areB_iff (by dsimp only; omega)).2 g
       rw [hR] at this
       cases this
      clear hF htk htj hX hX' hlast hlow hE hR
      go_region_with (first | (go_at_call 95; refine (HBeh.out _ ?_).mono ?_; (first | exact Below.drew S0 | assumption); rintro e w6 ⟨rfl, hS6⟩; have a0 := m0 _ hS6; have a1 := m1 _ hS6; have a2 := m2 _ hS6; have a3 := r0 _ hS6; have a4 := r1 _ hS6; have a5 := r2 _ hS6) | (go_at_call 96; refine (HAre.out _ ?_).mono ?_; (first | assumption | exact Below.drew (by assumption)); rintro e w7 ⟨rfl, hS7⟩))
      all_goals
       have I7 := I5.step hS7
       clear I5 HBeh HAre m0 m1 m2 r0 r1 r2 S0
       go_wp2
       go_roundw
       case rel => exact ⟨(j + 1) + 1, by omega, by go_num, hF', I7⟩
       case measure => simp [intOf]; omega
    have e1 : Hid (inB u 0 2 = false) := inB_f hU
    have HF : Hid (¬ FreeOk z.f z.t z.f none z.free) := fun g => hU (freeOk_at g (by omega) hX.out).2.1
    clear hF htk
    go_wp2_with fail
    go_at_call 93
    refine (isType_any _ _).mono ?_
    rintro e w' ⟨rfl, rfl⟩
    rw [e1.out]
    go_wp2
    go_ret
    exact ⟨⟨false, rfl, fun g => (by cases g), fun g => absurd g HF.out⟩, hbb⟩
   have hB2 : blkB z.f z.t x y = false := by
    cases hb : blkB z.f z.t x y with
    | false => rfl
    | true => exact absurd ((blkB_iff z.f z.t x y).1 hb) hB
   rw [hB2]
   have HF : Hid (¬ FreeOk z.f z.t z.f none z.free) := fun g => hB (freeOk_at g (by omega) hX.out).1
   clear hF htk
   go_wp2
   go_ret
   exact ⟨⟨false, rfl, fun g => (by cases g), fun g => absurd g HF.out⟩, hbb⟩
  have HM : Hid (FreeOk z.f z.t z.f none z.free) := by have := hF.out; rw [List.take_of_length_le (by omega)] at this; exact this
  have hbb := I.b
  clear hF
  go_wp2
  go_ret
  exact ⟨⟨true, rfl, fun _ => HM.out, fun _ => rfl⟩, hbb⟩
theorem zMay_iff (z : Zn) : ZMay z ↔ newOk z.f z.t ∧ TypesP z ∧ FreeOk z.f z.t z.f none z.free :=
 ⟨fun h => ⟨h.new, ⟨h.len, h.ty⟩, h.free⟩, fun ⟨h1, h2, h3⟩ => ⟨h1, h2.1, h2.2, h3⟩⟩
theorem zCheck_any (w : World) (fo : Option Addr) (fn fc : Nat) (to_ : Option Addr) (tn tc : Nat) (z : Zn) (h : ZnAt w fo fn to_ tn z) :
    Calls Tryz.prog 49 #[.agg #[.int .i64 z.f, .int .i64 z.t, .slice fo fn fc, .slice to_ tn tc]] w fun e w' => (∃ c, e = .returned (.int .i64 c) ∧ (c = 0 ∧ ZMay z ∨ c = 8 ∧ ¬ ZMay z)) ∧ Below w.heap.size w w' := by
 have I0 := ckInv_first w fo fn fc to_ tn tc z h
 have c0 := I0.box.c0
 have c1 := I0.box.c1
 have c2 := I0.box.c2
 have c3 := I0.box.c3
 clear h
 by_cases hn : newOk z.f z.t
 ·have HB : Hid (newB z.f z.t = true) := newB_t hn
  go_enter Tryz.func49, Tryz.ntmps49
  go_wp2_with fail
  go_at_call 70
  refine (bounds_any _ _ _).mono ?_
  rintro e w' ⟨rfl, rfl⟩
  rw [HB.out]
  go_wp2_with fail
  go_at_call 71
  refine (typesMay_any _ fo fn fc to_ tn tc z I0.zn hn).mono ?_
  rintro e w1 ⟨⟨r, rfl, hr⟩, hb1⟩
  have I1 := I0.step hb1
  clear I0 c0 c1 c2 c3 hb1
  have c0 := I1.box.c0
  have c1 := I1.box.c1
  have c2 := I1.box.c2
  have c3 := I1.box.c3
  cases r with
  | false =>
   have HF : Hid (¬ ZMay z) := fun g => by have := hr.2 ((zMay_iff z).1 g).2.1; cases this
   have hbb := I1.b
   clear hr I1 c0 c1 c2 c3
   go_wp2
   go_ret
   exact ⟨⟨8, rfl, .inr ⟨rfl, HF.out⟩⟩, hbb⟩
  | true =>
   have HT : Hid (TypesP z) := hr.1 rfl
   clear hr
   go_wp2_with fail
   go_at_call 72
   refine (freeMay_any _ fo fn fc to_ tn tc z I1.zn hn).mono ?_
   rintro e w2 ⟨⟨r, rfl, hr⟩, hb2⟩
   have hbb := (I1.step hb2).b
   clear I1 c0 c1 c2 c3 hb2
   cases r with
   | false =>
    have HF : Hid (¬ ZMay z) := fun g => by have := hr.2 ((zMay_iff z).1 g).2.2; cases this
    clear hr
    go_wp2
    go_ret
    exact ⟨⟨8, rfl, .inr ⟨rfl, HF.out⟩⟩, hbb⟩
   | true =>
    have HM : Hid (ZMay z) := (zMay_iff z).2 ⟨hn, HT.out, hr.1 rfl⟩
    clear hr
    go_wp2
    go_ret
    exact ⟨⟨0, rfl, .inl ⟨rfl, HM.out⟩⟩, hbb⟩
 have HB : Hid (newB z.f z.t = false) := newB_f hn
 have HF : Hid (¬ ZMay z) := fun g => hn g.new
 have hbb := I0.b
 clear hn
 go_enter Tryz.func49, Tryz.ntmps49
 go_wp2_with fail
 go_at_call 70
 refine (bounds_any _ _ _).mono ?_
 rintro e w' ⟨rfl, rfl⟩
 rw [HB.out]
 clear I0 c0 c1 c2 c3
 go_wp2
 go_ret
 exact ⟨⟨8, rfl, .inr ⟨rfl, HF.out⟩⟩, hbb⟩
theorem zCheck_ok (w : World) (fo : Option Addr) (fn fc : Nat) (to_ : Option Addr) (tn tc : Nat) (z : Zn) (h : ZnAt w fo fn to_ tn z) (hM : ZMay z) :
    Calls Tryz.prog 49 #[.agg #[.int .i64 z.f, .int .i64 z.t, .slice fo fn fc, .slice to_ tn tc]] w fun e w' => e = .returned (.int .i64 0) ∧ Below w.heap.size w w' := by
 refine (zCheck_any w fo fn fc to_ tn tc z h).mono ?_
 rintro e w1 ⟨⟨c, rfl, hc⟩, hb⟩
 rcases hc with ⟨rfl, _⟩ | ⟨_, g⟩
 ·exact ⟨rfl, hb⟩
 exact absurd hM g
theorem zoneOf_hp (x : Hx) (i : Nat) : x.hp.zones.getD i ⟨0, 0, [], []⟩ = (x.zs.getD i .zero).z := by
 show (x.zs.map (·.z)).getD i _ = _
 rw [List.getD_eq_getElem?_getD, List.getD_eq_getElem?_getD, List.getElem?_map]
 cases x.zs[i]? <;> rfl
theorem listOf_hp (x : Hx) (i : Nat) : x.hp.lists.getD i .zero = (x.ls.getD i .zero).l := by
 show (x.ls.map (·.l)).getD i _ = _
 rw [List.getD_eq_getElem?_getD, List.getD_eq_getElem?_getD, List.getElem?_map]
 cases x.ls[i]? <;> rfl
theorem pZonesMay_any (w : World) (x : Hx) (hx : x.At w) :
    Calls Tryz.prog 31 #[.slice x.zo x.zn x.zc] w fun e w' => RetIff e (ZsOk x.hp) ∧ Below w.heap.size w w' := by
 have hlen : x.hp.zones.length = x.zn := by show (x.zs.map _).length = _; rw [List.length_map]; exact hx.zones.len
 have HNo : Hid (∀ e, (e = Ending.returned (.bool false)) → ¬ ZsOk x.hp → RetIff e (ZsOk x.hp)) := fun e he hn => ⟨false, he, by simp [hn]⟩
 have hZ := hx.zones
 obtain ⟨zo, hzo⟩ : ∃ zo, x.zo = zo := ⟨_, rfl⟩
 rw [hzo] at hZ ⊢
 clear hzo
 have rz := hZ.reach
 obtain ⟨zn, hzn⟩ : ∃ zn, x.zn = zn := ⟨_, rfl⟩
 rw [hzn] at hZ rz hlen ⊢
 clear hzn
 by_cases h2 : zn = 2
 ·subst h2
  obtain ⟨g, off, z, fo, fn, fc, to_, tn, tc, ha, c0, c1, c2, c3, hat, hX⟩ := hZ.at 0 (by omega)
  obtain ⟨g', off', z', fo', fn', fc', to', tn', tc', ha', d0, d1, d2, d3, hat', hX'⟩ := hZ.at 1 (by omega)
  subst ha
  simp only [Option.some.injEq, Addr.mk.injEq, and_true] at ha'
  obtain ⟨rfl, rfl⟩ := ha'
  have e0 : x.hp.zones.getD 0 ⟨0, 0, [], []⟩ = z := by rw [zoneOf_hp, hX.out]
  have e1 : x.hp.zones.getD 1 ⟨0, 0, [], []⟩ = z' := by rw [zoneOf_hp, hX'.out]
  have HZ : Hid (ZsOk x.hp ↔ ZMay z ∧ ZMay z' ∧ z.f = 0 ∧ z'.f = z.t ∧ z'.t = 256) := by
   show _ ↔ _
   constructor
   ·rintro ⟨_, b, c, d, e, f⟩
    rw [e0] at b d e
    rw [e1] at c e f
    exact ⟨b, c, d, e, f⟩
   rintro ⟨b, c, d, e, f⟩
   exact ⟨hlen, by rw [e0]; exact b, by rw [e1]; exact c, by rw [e0]; exact d, by rw [e0, e1]; exact e, by rw [e1]; exact f⟩
  have HC0 := zCheck_any w fo fn fc to_ tn tc z hat
  have HC1 := fun W (hb : Below w.heap.size w W) => zCheck_any W fo' fn' fc' to' tn' tc' z' (hat'.below hb)
  have HC1' : Hid _ := HC1
  have cc0 : w.cell? ⟨g, off + 0 * 4, none⟩ = some (.int .i64 z.f) := c0
  simp only [Nat.zero_mul, Nat.add_zero, Nat.one_mul] at c0 c1 c2 c3 d0 d1 d2 d3
  clear HC1 e0 e1 hX hX' hlen hat hat' cc0
  go_enter Tryz.func31, Tryz.ntmps31
  go_wp2_with fail
  go_at_call 49
  refine HC0.mono ?_
  rintro e W1 ⟨⟨c, rfl, hc⟩, hb1⟩
  rcases hc with ⟨rfl, hM⟩ | ⟨rfl, hM⟩
  ·replace d0 := keep d0 hb1
   replace d1 := keep d1 hb1
   replace d2 := keep d2 hb1
   replace d3 := keep d3 hb1
   replace c0 := keep c0 hb1
   replace c1 := keep c1 hb1
   have HC := HC1'.out W1 hb1
   clear HC0 HC1'
   go_wp2_with fail
   go_at_call 49
   refine HC.mono ?_
   rintro e W2 ⟨⟨c, rfl, hc⟩, hb2⟩
   have hB2 := hb1.trans (hb2.mono hb1.size)
   rcases hc with ⟨rfl, hM'⟩ | ⟨rfl, hM'⟩
   ·replace c0 := keep c0 hb2
    replace c1 := keep c1 hb2
    replace d0 := keep d0 hb2
    replace d1 := keep d1 hb2
    have HZ2 : Hid (ZsOk x.hp ↔ z.f = 0 ∧ z'.f = z.t ∧ z'.t = 256) := by show _ ↔ _; rw [HZ.out]; exact ⟨fun h => h.2.2, fun h => ⟨hM, hM', h⟩⟩
    obtain ⟨F, hF⟩ : ∃ F, z.f = F := ⟨_, rfl⟩
    obtain ⟨T, hT⟩ : ∃ F, z.t = F := ⟨_, rfl⟩
    obtain ⟨F', hF'⟩ : ∃ F, z'.f = F := ⟨_, rfl⟩
    obtain ⟨T', hT'⟩ : ∃ F, z'.t = F := ⟨_, rfl⟩
    rw [hF, hT, hF', hT'] at HZ2
    rw [hF] at c0
    rw [hT] at c1
    rw [hF'] at d0
    rw [hT'] at d1
    clear HC d2 d3 c2 c3 hM hM' HZ
    clear hF hT hF' hT'
    go_wp2_with fail
    have fin : ∀ (r : Bool) (W : World), ((r = true) ↔ (F = 0 ∧ F' = T ∧ T' = 256)) → Below w.heap.size w W → RetIff (.returned (.bool r)) (ZsOk x.hp) ∧ Below w.heap.size w W := fun r W h hB => ⟨⟨r, rfl, by rw [HZ2.out]; exact h⟩, hB⟩
    have fin' : Hid _ := fin
    clear fin
    by_cases q1 : F = 0
    ·have p1 : (F == 0) = true := by simp [q1]
     by_cases q2 : F' = T
     ·have p2 : (F' == T) = true := by simp [q2]
      have H2 : Hid (F = 0 ∧ F' = T) := ⟨q1, q2⟩
      by_cases q3 : T' = 256
      ·have p3 : (T' == 256) = true := by simp [q3]
       have H3 : Hid (T' = 256) := q3
       clear q1 q2 q3
       go_quiet (fail)
       go_wp2
       go_ret
       exact fin'.out _ _ ⟨fun _ => ⟨H2.out.1, H2.out.2, H3.out⟩, fun _ => by simp⟩ (hB2.trans ((below_drawn _).mono hB2.size))
      have p3 : (T' == 256) = false := by simpa using q3
      have H3 : Hid (¬ T' = 256) := q3
      clear q1 q2 q3
      go_quiet (fail)
      go_wp2
      go_ret
      exact fin'.out _ _ ⟨fun h => by simp at h, fun h => absurd h.2.2 H3.out⟩ (hB2.trans ((below_drawn _).mono hB2.size))
     have p2 : (F' == T) = false := by simpa using q2
     have H3 : Hid (¬ F' = T) := q2
     clear q1 q2
     go_quiet (fail)
     go_wp2
     go_ret
     exact fin'.out _ _ ⟨fun h => by simp at h, fun h => absurd h.2.1 H3.out⟩ (hB2.trans ((below_drawn _).mono hB2.size))
    have p1 : (F == 0) = false := by simpa using q1
    have H3 : Hid (¬ F = 0) := q1
    clear q1
    go_quiet (fail)
    go_wp2
    go_ret
    exact fin'.out _ _ ⟨fun h => by simp at h, fun h => absurd h.1 H3.out⟩ (hB2.trans ((below_drawn _).mono hB2.size))
   have hn : Hid (¬ ZsOk x.hp) := fun h => hM' (HZ.out.1 h).2.1
   clear HC HZ d0 d1 d2 d3 c0 c1 c2 c3
   go_wp2
   go_ret
   exact ⟨HNo.out _ rfl hn.out, hB2⟩
  have hn : Hid (¬ ZsOk x.hp) := fun h => hM (HZ.out.1 h).1
  clear HC0 HC1' HZ d0 d1 d2 d3 c0 c1 c2 c3
  go_wp2
  go_ret
  exact ⟨HNo.out _ rfl hn.out, hb1⟩
 have hn : Hid (¬ ZsOk x.hp) := fun h => h2 (by have := h.n; omega)
 obtain ⟨N, hN⟩ : ∃ N : Int, (zn : Int) = N := ⟨_, rfl⟩
 have q2 : (N == 2) = false := by simp; omega
 go_enter Tryz.func31, Tryz.ntmps31
 go_wp2
 go_ret
 exact ⟨HNo.out _ rfl hn.out, Below.refl _ _⟩
theorem pMinsMay_any (w : World) (x : Hx) (hx : x.At w) :
    Calls Tryz.prog 32 #[.slice x.mo x.mn x.mc] w fun e w' => RetIff e (MnOk x.hp) ∧ Below w.heap.size w w' := by
 have hM := hx.mins
 have HNo : Hid (∀ e, (e = Ending.returned (.bool false)) → ¬ MnOk x.hp → RetIff e (MnOk x.hp)) := fun e he hn => ⟨false, he, by simp [hn]⟩
 have hlen : x.hp.mins.length = x.mn := hM.len
 obtain ⟨mo, hmo⟩ : ∃ zo, x.mo = zo := ⟨_, rfl⟩
 rw [hmo] at hM ⊢
 clear hmo
 have rz := hM.reach
 obtain ⟨mn, hmn⟩ : ∃ zn, x.mn = zn := ⟨_, rfl⟩
 rw [hmn] at hM rz hlen ⊢
 clear hmn
 by_cases h2 : mn = 2
 ·subst h2
  obtain ⟨g, off, a, ha, c0, hA⟩ := hM.at_.at 0 (by have := hM.len; omega)
  obtain ⟨g', off', b, ha', d0, hB⟩ := hM.at_.at 1 (by have := hM.len; omega)
  subst ha
  simp only [Option.some.injEq, Addr.mk.injEq, and_true] at ha'
  obtain ⟨rfl, rfl⟩ := ha'
  have HZ : Hid (MnOk x.hp ↔ (0 ≤ a ∧ a ≤ 256) ∧ (0 ≤ b ∧ b ≤ 256)) := by
   show _ ↔ _
   have e0 : x.hp.mins.getD 0 0 = a := hA.out
   have e1 : x.hp.mins.getD 1 0 = b := hB.out
   constructor
   ·rintro ⟨_, p, q⟩
    rw [e0] at p
    rw [e1] at q
    exact ⟨p, q⟩
   rintro ⟨p, q⟩
   exact ⟨hlen, by rw [e0]; exact p, by rw [e1]; exact q⟩
  have H0 := pIsMin_any w a
  have H1 := pIsMin_any w b
  simp only [Nat.add_zero] at c0
  clear hA hB hM hlen
  go_enter Tryz.func32, Tryz.ntmps32
  go_wp2_with fail
  go_at_call 54
  refine H0.mono ?_
  rintro e W1 ⟨rfl, rfl⟩
  by_cases q1 : 0 ≤ a ∧ a ≤ 256
  ·rw [inB_t q1]
   go_wp2_with fail
   go_at_call 54
   refine H1.mono ?_
   rintro e W1 ⟨rfl, rfl⟩
   by_cases q2 : 0 ≤ b ∧ b ≤ 256
   ·rw [inB_t q2]
    have hy : Hid (MnOk x.hp) := HZ.out.2 ⟨q1, q2⟩
    clear HZ H0 H1
    go_wp2
    go_ret
    exact ⟨⟨true, rfl, fun _ => hy.out, fun _ => rfl⟩, Below.refl _ _⟩
   rw [inB_f q2]
   have hn : Hid (¬ MnOk x.hp) := fun h => q2 (HZ.out.1 h).2
   clear HZ H0 H1
   go_wp2
   go_ret
   exact ⟨HNo.out _ rfl hn.out, Below.refl _ _⟩
  rw [inB_f q1]
  have hn : Hid (¬ MnOk x.hp) := fun h => q1 (HZ.out.1 h).1
  clear HZ H0 H1
  go_wp2
  go_ret
  exact ⟨HNo.out _ rfl hn.out, Below.refl _ _⟩
 have hn : Hid (¬ MnOk x.hp) := fun h => h2 (by have := h.n; omega)
 have q2 : ((mn : Int) == 2) = false := by simp; omega
 clear h2
 go_enter Tryz.func32, Tryz.ntmps32
 go_wp2
 go_ret
 exact ⟨HNo.out _ rfl hn.out, Below.refl _ _⟩
def heldH (H : Hp) (z : Nat) (fl : Int) : Int :=
 (if 8 ≤ fl then H.mins.getD z 0 / 2 else H.mins.getD z 0) + (if z = 0 ∧ fl % 2 = 0 then ((H.zones.getD 1 ⟨0, 0, [], []⟩).t - (H.zones.getD 1 ⟨0, 0, [], []⟩).f) / 32 else 0)
theorem mins_in {H : Hp} (h : MnOk H) {z : Nat} (hz : z < 2) : 0 ≤ H.mins.getD z 0 ∧ H.mins.getD z 0 ≤ 256 := by
 rcases (show z = 0 ∨ z = 1 by omega) with rfl | rfl
 ·exact h.a
 exact h.b
theorem rqHeld_c (w : World) (y : Hx) (cpu o fl : Int) (z : Nat) (hy : y.At w) (hMn : MnOk y.hp) (hZs : ZsOk y.hp) (hf : flag16 fl) (hz : z < 2) :
    Calls Tryz.prog 89 #[.agg #[.int .i64 cpu, .int .i64 o, .int .i64 fl], .agg #[.slice y.zo y.zn y.zc, .slice y.mo y.mn y.mc, .int .i64 y.cpus, .slice y.lo y.ln y.lc, .slice y.vo y.vn y.vc], .int .i64 (z : Nat)] w fun e w' => e = .returned (.int .i64 (heldH y.hp z fl)) ∧ Below w.heap.size w w' := by
 have hmr := hy.mins.reach
 have hml := hy.mins.len
 have hzl := hy.zones.len
 have hn2 : y.mins.length = 2 := hMn.n
 have hz2 : y.zs.length = 2 := by have := hZs.n; have e : y.hp.zones.length = y.zs.length := (by show (y.zs.map _).length = _; rw [List.length_map]); omega
 have B0 := Below.refl w.heap.size w
 refine sx_enter (args := [_, _, _]) 39 Tryz.func89 rfl rfl rfl ?_
 refine vS (vR ?_); intro A f
 refine l_box f rfl rfl rfl rfl rfl ?_; clear f A; intro b1 W2 eb1 hb3 rb1 A f; dsimp only [Value.cells] at rb1
 have z_B0_b1 := B0.size; rw [eb1] at z_B0_b1
 replace B0 := Below.next B0 hb3
 refine l_box f rfl rfl rfl rfl rfl ?_; clear f A; intro b4 W5 eb4 hb6 rb4 A f; dsimp only [Value.cells] at rb4
 have o_b1_b4 : b1 < b4 := by have := row_lt rb1; omega
 have z_B0_b4 := B0.size; rw [eb4] at z_B0_b4
 replace B0 := Below.next B0 hb6; replace rb1 := row_next rb1 hb6
 revert A; refine vla (h:=vW (vS (vR (vlf (h:=vl1 (rowq rb4) (h:=vlm (h:=?_)))))))
 obtain ⟨gm, om, vm, ham, c0m, hXm⟩ := hy.mins.at_.at (z) (by have := hy.mins.len; omega)
 replace c0m := St.of c0m
 intro A f
 rw [show om + z = om + z * 1 by omega] at c0m
 have hvm := mins_in hMn hz
 rw [show y.hp.mins = y.mins from rfl, hXm.out] at hvm
 revert A; refine vlx (h:=vld (y_load1 rfl rfl (ag rfl) (by first | assumption | exact St.q c0m B0)) (h:=vla (h:=vW (vS (vS (vR (vl3 (rowq rb1) (h:=?_)))))))); intro A f
 refine l_callif _ f rfl rfl rfl (IsCall.mk' (cap := []) rfl rfl rfl) (pl rfl) (rqHas_c _ _ _ _ _) ?_ ?_
 ·clear f A; intro c7 W9 hb8 A f
  replace B0 := Below.next B0 hb8; replace rb1 := row_next rb1 hb8; replace rb4 := row_next rb4 hb8
  revert A; refine vW (vC (h:=vR (vlm (h:=vld (y_quo rfl rfl rfl (by decide) (Int.tdiv_eq_ediv_of_nonneg (by omega)) (by omega)) (h:=vla (h:=vW (vS (vS (vR (vlm (h:=vlb (y_eql rfl rfl rfl) (h:=?_) (g:=?_))))))))))))
  ·intro c10
   refine vlm (h:=vl3 (rowq rb1) (h:=?_)); intro A f
   refine l_callif _ f rfl rfl rfl (IsCall.mk' (cap := []) rfl rfl rfl) (pl rfl) (rqHas_c _ _ _ _ _) ?_ ?_
   ·clear f A; intro c11 W13 hb12 A f
    replace B0 := Below.next B0 hb12; replace rb1 := row_next rb1 hb12; replace rb4 := row_next rb4 hb12
    revert A; refine vln (h:=vlp (h:=vW (vD (h:=vK (vT (vS (vR (vlm (h:=vla (h:=vW (vE ?_))))))))))); intro A f
    refine x_ret1 f rfl rfl ?_
    have e : y.hp.mins.getD z 0 = vm := hXm.out
    exact ⟨by unfold heldH; rw [e, if_pos ((and_low hf).2.2.2.1.1 c7), if_neg (fun h => by have g := (and_low hf).1.1 c11; omega)]; rw [Int.add_zero], B0⟩
   clear f A; intro c11 W13 hb12 A f
   replace B0 := Below.next B0 hb12; replace rb1 := row_next rb1 hb12; replace rb4 := row_next rb4 hb12
   revert A; refine vln (h:=vlp (h:=vW (vC (h:=?_)))); intro A f
   refine sx_quiet (by kernel_rfl) (by kernel_rfl) ?_
   revert A; refine vqm (h:=vqf (h:=vq1 (rowq rb4) (h:=?_)))
   obtain ⟨gn, on, zn, fon, fnn, fcn, ton, tnn, tcn, han, c0n, c1n, c2n, c3n, hatn, hXn⟩ := hy.zones.at (1) (by omega)
   replace c0n := St.of c0n; replace c1n := St.of c1n; replace c2n := St.of c2n; replace c3n := St.of c3n
   have hne : y.hp.zones.getD 1 ⟨0, 0, [], []⟩ = zn := by rw [zoneOf_hp, hXn.out]
   have hzn := hZs.m1.new
   intro A f
   rw [hne] at hzn
   unfold newOk at hzn
   revert A; refine vqx (j:=1) (h:=vqf (h:=vqd (y_load1 rfl rfl (ag rfl) (by first | assumption | exact St.q c0m B0 | exact St.q c0n B0 | exact St.q c1n B0 | exact St.q c2n B0 | exact St.q c3n B0)) (h:=vqf (h:=vq1 (rowq rb4) (h:=vqx (j:=1) (h:=vqf (h:=vqd (y_load1 rfl rfl (ag rfl) (by first | assumption | exact St.q c0m B0 | exact St.q c0n B0 | exact St.q c1n B0 | exact St.q c2n B0 | exact St.q c3n B0)) (h:=vqd (y_sub rfl rfl rfl rfl (by omega)) (h:=vqd (y_quo rfl rfl rfl (by decide) (Int.tdiv_eq_ediv_of_nonneg (by omega)) (by omega)) (h:=vqA (h:=vqa (h:=vQ ?_)))))))))))); intro W15 hb14; replace B0 := Below.next B0 hb14; replace rb1 := row_next rb1 hb14; replace rb4 := row_next rb4 hb14
   refine vT (vS (vR (vlm (h:=vla (h:=vW (vE ?_)))))); intro A f
   refine x_ret1 f rfl rfl ?_
   have e : y.hp.mins.getD z 0 = vm := hXm.out
   exact ⟨by unfold heldH; rw [e, if_pos ((and_low hf).2.2.2.1.1 c7), if_pos ⟨by omega, by have g : ¬ fl % 2 = 1 := fun h => c11 ((and_low hf).1.2 h); have g2 := hf.1; omega⟩]; rw [hne], B0⟩
  intro c10
  refine vlm (h:=vlO 3 (h:=vlp (h:=vW (vD (h:=vK (vT (vS (vR (vlm (h:=vla (h:=vW (vE ?_)))))))))))); intro A f
  refine x_ret1 f rfl rfl ?_
  have e : y.hp.mins.getD z 0 = vm := hXm.out
  exact ⟨by unfold heldH; rw [e, if_pos ((and_low hf).2.2.2.1.1 c7), if_neg (fun h => c10 (by omega))]; rw [Int.add_zero], B0⟩
 clear f A; intro c7 W9 hb8 A f
 replace B0 := Below.next B0 hb8; replace rb1 := row_next rb1 hb8; replace rb4 := row_next rb4 hb8
 revert A; refine vW (vD (h:=vK (vT (vS (vS (vR (vlm (h:=vlb (y_eql rfl rfl rfl) (h:=?_) (g:=?_)))))))))
 ·intro c16
  refine vlm (h:=vl3 (rowq rb1) (h:=?_)); intro A f
  refine l_callif _ f rfl rfl rfl (IsCall.mk' (cap := []) rfl rfl rfl) (pl rfl) (rqHas_c _ _ _ _ _) ?_ ?_
  ·clear f A; intro c17 W19 hb18 A f
   replace B0 := Below.next B0 hb18; replace rb1 := row_next rb1 hb18; replace rb4 := row_next rb4 hb18
   revert A; refine vln (h:=vlp (h:=vW (vD (h:=vK (vT (vS (vR (vlm (h:=vla (h:=vW (vE ?_))))))))))); intro A f
   refine x_ret1 f rfl rfl ?_
   have e : y.hp.mins.getD z 0 = vm := hXm.out
   exact ⟨by unfold heldH; rw [e, if_neg (fun h => c7 ((and_low hf).2.2.2.1.2 h)), if_neg (fun h => by have g := (and_low hf).1.1 c17; omega)]; rw [Int.add_zero], B0⟩
  clear f A; intro c17 W19 hb18 A f
  replace B0 := Below.next B0 hb18; replace rb1 := row_next rb1 hb18; replace rb4 := row_next rb4 hb18
  revert A; refine vln (h:=vlp (h:=vW (vC (h:=?_)))); intro A f
  refine sx_quiet (by kernel_rfl) (by kernel_rfl) ?_
  revert A; refine vqm (h:=vqf (h:=vq1 (rowq rb4) (h:=?_)))
  obtain ⟨gn, on, zn, fon, fnn, fcn, ton, tnn, tcn, han, c0n, c1n, c2n, c3n, hatn, hXn⟩ := hy.zones.at (1) (by omega)
  replace c0n := St.of c0n; replace c1n := St.of c1n; replace c2n := St.of c2n; replace c3n := St.of c3n
  have hne : y.hp.zones.getD 1 ⟨0, 0, [], []⟩ = zn := by rw [zoneOf_hp, hXn.out]
  have hzn := hZs.m1.new
  intro A f
  rw [hne] at hzn
  unfold newOk at hzn
  revert A; refine vqx (j:=1) (h:=vqf (h:=vqd (y_load1 rfl rfl (ag rfl) (by first | assumption | exact St.q c0m B0 | exact St.q c0n B0 | exact St.q c1n B0 | exact St.q c2n B0 | exact St.q c3n B0)) (h:=vqf (h:=vq1 (rowq rb4) (h:=vqx (j:=1) (h:=vqf (h:=vqd (y_load1 rfl rfl (ag rfl) (by first | assumption | exact St.q c0m B0 | exact St.q c0n B0 | exact St.q c1n B0 | exact St.q c2n B0 | exact St.q c3n B0)) (h:=vqd (y_sub rfl rfl rfl rfl (by omega)) (h:=vqd (y_quo rfl rfl rfl (by decide) (Int.tdiv_eq_ediv_of_nonneg (by omega)) (by omega)) (h:=vqA (h:=vqa (h:=vQ ?_)))))))))))); intro W21 hb20; replace B0 := Below.next B0 hb20; replace rb1 := row_next rb1 hb20; replace rb4 := row_next rb4 hb20
  refine vT (vS (vR (vlm (h:=vla (h:=vW (vE ?_)))))); intro A f
  refine x_ret1 f rfl rfl ?_
  have e : y.hp.mins.getD z 0 = vm := hXm.out
  exact ⟨by unfold heldH; rw [e, if_neg (fun h => c7 ((and_low hf).2.2.2.1.2 h)), if_pos ⟨by omega, by have g : ¬ fl % 2 = 1 := fun h => c17 ((and_low hf).1.2 h); have g2 := hf.1; omega⟩]; rw [hne], B0⟩
 intro c16
 refine vlm (h:=vlO 3 (h:=vlp (h:=vW (vD (h:=vK (vT (vS (vR (vlm (h:=vla (h:=vW (vE ?_)))))))))))); intro A f
 refine x_ret1 f rfl rfl ?_
 have e : y.hp.mins.getD z 0 = vm := hXm.out
 exact ⟨by unfold heldH; rw [e, if_neg (fun h => c7 ((and_low hf).2.2.2.1.2 h)), if_neg (fun h => c16 (by omega))]; rw [Int.add_zero], B0⟩
end Go.Proofs.YtjohdbiipeedkaaGreatDoor
namespace Go.Proofs.YtjohdbiipeedkaaGreatDoor.Kit
open Go Go.RowKit
theorem but_setRow (w : World) (g : Nat) (cs : Array Value) : But g w (w.setRow g cs) :=
 ⟨rfl, rfl, rfl, by simp [World.setRow], fun k _ hne => setRow_other w g k cs (by omega)⟩
theorem run_copy_row_k {P : Program} (w : World) (dT sT ty elem : TypeId) (k g o dLen dCap : Nat) (a : Addr) (sLen sCap : Nat) (cur : Array Value) (t : TypeId) (cs : List Value)
    (hu : P.underlying dT = some (.slice elem)) (hs : (P.info? elem).map (·.size) = some k)
    (hg : w.heap[g]? = some (.cells cur t (0, 0))) (hn : cs.length = Nat.min sLen dLen * k)
    (hsrc : ∀ j v, cs[j]? = some v → w.cell? (a.add j) = some v) (hfit : o + cs.length ≤ cur.size) (h1 : ∀ v ∈ cs, v.oneCell' = true) :
    (Builtin.copy_ #[dT, sT] ty #[.slice (some ⟨g, o, none⟩) dLen dCap, .slice (some a) sLen sCap]).run P w =
     .ok (goInt (Nat.min sLen dLen)) (w.setRow g (cur.toList.take o ++ cs ++ cur.toList.drop (o + cs.length)).toArray) := by
 have hl := run_loadCells_list (P := P) w a cs hsrc
 have hst := run_storeCells_at P g o t cs 0 cur w hg (by simpa using hfit) h1
 cases hq : P.info? elem with
 | none => simp [hq] at hs
 | some i =>
  have hi : i.size = k := by simpa [hq] using hs
  simp [Builtin.copy_, run_underlying hu, Builtin.lenOf, Builtin.firstCells, sizeOf, typeInfo, hq, hi, ← hn, hl, hst]
theorem run_copy_none_k {P : Program} (w : World) (dT sT ty elem : TypeId) (k : Nat) (d a : Option Addr) (dLen dCap sLen sCap : Nat) (hu : P.underlying dT = some (.slice elem)) (hs : (P.info? elem).map (·.size) = some k) (hn : Nat.min sLen dLen = 0) :
    (Builtin.copy_ #[dT, sT] ty #[.slice d dLen dCap, .slice a sLen sCap]).run P w = .ok (goInt 0) w := by
 cases hq : P.info? elem with
 | none => simp [hq] at hs
 | some i =>
  cases d <;> cases a <;> simp [Builtin.copy_, run_underlying hu, Builtin.lenOf, Builtin.firstCells, sizeOf, typeInfo, hq, hn, storeCells, loadCells, loadCellsFrom]
theorem wpList_copy_k {P : Program} {w : World} {ops : Array Oper} {rest : List Oper} {o : Oper} {a : Act} {Q : Exit → Act → World → Prop} (hgd : o.guard = none) (d s : Operand) (dT sT : TypeId)
    (ho : o.op = .call { callee := .builtin .copy, args := #[d, s], argTypes := #[dT, sT] }) (elem : TypeId) (k : Nat) (hu : P.underlying dT = some (.slice elem)) (hsz : (P.info? elem).map (·.size) = some k)
    (dp sp : Option Addr) (dLen dCap sLen sCap : Nat) (hd : a.eval d = .slice dp dLen dCap) (hs : a.eval s = .slice sp sLen sCap)
    (g off : Nat) (cur : List Value) (t : TypeId) (hg : w.heap[g]? = some (.cells cur.toArray t (0, 0))) (cs : List Value) (m : Nat) (hm : Nat.min sLen dLen = m) (hn : cs.length = m * k)
    (hpos : 0 < m → dp = some ⟨g, off, none⟩ ∧ ∃ ad, sp = some ad ∧ ∀ j v, cs[j]? = some v → w.cell? (ad.add j) = some v)
    (hfit : off + cs.length ≤ cur.length) (h1 : ∀ v ∈ cs, v.oneCell' = true)
    (h : ∀ w', Hid (w'.heap[g]? = some (.cells (splice cur off cs).toArray t (0, 0))) → But g w w' → wpList P ops Q rest (a.put o.dst (goInt m)) w') :
    wpList P ops Q (o :: rest) a w := by
 by_cases h0 : m = 0
 ·subst h0
  obtain rfl : cs = [] := List.eq_nil_of_length_eq_zero (by simpa using hn)
  refine wpList_plain hgd fun K hK => ?_
  have hrun := run_copy_none_k (P := P) w dT sT o.type elem k dp sp dLen dCap sLen sCap hu hsz hm
  unfold Oper.wp
  simp [execOp, ho, resolve, invoke, builtin, hd, hs, hrun, Result.andThen]
  exact hK _ _ (h w (show _ = _ by simpa [splice] using hg) (But.refl _ _))
 obtain ⟨rfl, ad, rfl, hsrc⟩ := hpos (by omega)
 refine wpList_plain hgd fun K hK => ?_
 have hrun := run_copy_row_k (P := P) w dT sT o.type elem k g off dLen dCap ad sLen sCap cur.toArray t cs hu hsz hg (by rw [hm]; exact hn) hsrc (by simpa using hfit) h1
 rw [hm] at hrun
 unfold Oper.wp
 simp [execOp, ho, resolve, invoke, builtin, hd, hs, hrun, Result.andThen]
 refine hK _ _ (h _ (show _ = _ by simpa [splice] using setRow_heap w g _ _ t _ hg) (by simpa using but_setRow w g _))
structure Row (w : World) (e : TypeId) (size g cap : Nat) (cur : List Value) : Prop where
 h : w.heap[g]? = some (.cells cur.toArray e (0, 0))
 len : cur.length = cap * size
 m : cap ≤ maxLen
theorem Row.lt {w : World} {e : TypeId} {size g cap : Nat} {cur : List Value} (h : Row w e size g cap cur) : g < w.heap.size := (Array.getElem?_eq_some_iff.1 h.h).1
theorem Row.but {w w' : World} {e : TypeId} {size g cap c : Nat} {cur : List Value} (h : Row w e size g cap cur) (hb : But c w w') (hne : g ≠ c) : Row w' e size g cap cur :=
 ⟨(hb.block g h.lt hne).trans h.h, h.len, h.m⟩
theorem Row.below {w w' : World} {e : TypeId} {size g cap : Nat} {cur : List Value} (h : Row w e size g cap cur) (hb : Below w.heap.size w w') : Row w' e size g cap cur :=
 ⟨(hb.block g h.lt).trans h.h, h.len, h.m⟩
theorem Row.cell {w : World} {e : TypeId} {size g cap : Nat} {cur : List Value} (h : Row w e size g cap cur) (j : Nat) : w.cell? ⟨g, j, none⟩ = cur[j]? := by
 simp [World.cell?, h.h]
theorem Row.fz {w : World} {e : TypeId} {size g cap : Nat} {cur : List Value} (h : Row w e size g cap cur) (j : Nat) : w.frozen? ⟨g, j, none⟩ = false := by
 simp [World.frozen?, h.h]
theorem add_at (g o j : Nat) : (⟨g, o, none⟩ : Addr).add j = ⟨g, o + j, none⟩ := by unfold Addr.add; split <;> simp_all
theorem Row.of {w : World} {base : Nat} {e : TypeId} {size g n cap : Nat} {xs : List Value} (h : w.ownsRow base e size (.slice (some ⟨g, 0, none⟩) n cap) n xs) :
    base ≤ g ∧ n ≤ cap ∧ ∃ cur, Row w e size g cap cur ∧ cur.take (n * size) = xs := by
 rcases h.2 with ⟨h', _⟩ | ⟨g', cap', cur, h', hb, hg, hn, hm, hs, htake⟩
 ·cases h'
 simp only [Value.slice.injEq, Option.some.injEq, Addr.mk.injEq, and_true, true_and] at h'
 obtain ⟨rfl, rfl⟩ := h'
 exact ⟨hb, hn, cur.toList, ⟨by simpa using hg, by simpa using hs, hm⟩, htake⟩
theorem Row.owns {w : World} {base : Nat} {e : TypeId} {size g n cap : Nat} {cur xs : List Value} (h : Row w e size g cap cur) (hb : base ≤ g) (hn : n ≤ cap) (ht : cur.take (n * size) = xs) :
    w.ownsRow base e size (.slice (some ⟨g, 0, none⟩) n cap) n xs := by
 refine ⟨?_, .inr ⟨g, cap, cur.toArray, rfl, hb, h.h, hn, h.m, by simpa using h.len, by simpa using ht⟩⟩
 rw [← ht, List.length_take, h.len, Nat.min_eq_left (Nat.mul_le_mul_right _ hn)]
theorem splice_take {α : Type} {L cs : List α} {off n : Nat} (h : n ≤ off) (hl : off ≤ L.length) : (splice L off cs).take n = L.take n := by
 unfold splice
 rw [List.take_append_of_le_length (by simp; omega), List.take_take, Nat.min_eq_left h]
theorem step_append_fits {P : Program} {ops : Array Oper} {o : Oper} {a : Act} {w : World} {K : Act → World → Prop} {Q : Exit → Act → World → Prop} {E : Prop}
    (hg : o.guard = none) (s x : Operand) (t : TypeId) (hop : o.op = Op.call { callee := Callee.builtin Builtin.append, args := #[s, x], argTypes := #[t, t] })
    (e : TypeId) (i : TypeInfo) (size : Nat) (h1 : P.underlying t = some (.slice e)) (h2 : P.info? e = some i) (h4 : i.size = size)
    (base g n cap : Nat) (xs : List Value) (hs : a.eval s = .slice (some ⟨g, 0, none⟩) n cap) (hown : w.ownsRow base e size (.slice (some ⟨g, 0, none⟩) n cap) n xs)
    (xo : Option Addr) (m c : Nat) (news : List Value) (hx : a.eval x = .slice xo m c) (hn : news.length = m * size) (hxo : ∃ ad, xo = some ad ∧ ∀ j u, news[j]? = some u → w.cell? (ad.add j) = some u) (h1c : ∀ u ∈ news, u.oneCell' = true)
    (N : Nat) (hN : n + m = N) (hroom : N ≤ cap)
    (hK : ∀ w', w'.ownsRow base e size (.slice (some ⟨g, 0, none⟩) N cap) N (xs ++ news) → But g w w' → K (a.put o.dst (.slice (some ⟨g, 0, none⟩) N cap)) w') :
    if Region.wanted o (yielded ops a.tmps) = true then Oper.wp P o a w K Q else E := by
 have hw : Region.wanted o (yielded ops a.tmps) = true := by simp [Region.wanted, hg]
 rw [if_pos hw]
 subst hN
 obtain ⟨ad, rfl, hc⟩ := hxo
 obtain ⟨w', hrun, r1, r2⟩ := run_append_fits (P := P) w base t o.type e i size h1 h2 h4 g n cap xs hown ad m c news hn hc h1c hroom
 unfold Oper.wp
 simp [execOp, hop, resolve, invoke, builtin, hs, hx, hrun, Result.andThen]
 exact hK w' r1 ⟨r2.os, r2.tape, r2.output, r2.size, fun k hk hne => r2.block k hk (by intro g; exact hne (by simpa using g))⟩
theorem step_copy_k {P : Program} {ops : Array Oper} {o : Oper} {a : Act} {w : World} {K : Act → World → Prop} {Q : Exit → Act → World → Prop} {E : Prop} (hgd : o.guard = none) (d s : Operand) (dT sT : TypeId)
    (ho : o.op = .call { callee := .builtin .copy, args := #[d, s], argTypes := #[dT, sT] }) (elem : TypeId) (k : Nat) (hu : P.underlying dT = some (.slice elem)) (hsz : (P.info? elem).map (·.size) = some k)
    (dp sp : Option Addr) (dLen dCap sLen sCap : Nat) (hd : a.eval d = .slice dp dLen dCap) (hs : a.eval s = .slice sp sLen sCap)
    (g off : Nat) (cur : List Value) (t : TypeId) (hg : w.heap[g]? = some (.cells cur.toArray t (0, 0))) (cs : List Value) (m : Nat) (hm : Nat.min sLen dLen = m) (hn : cs.length = m * k)
    (hpos : 0 < m → dp = some ⟨g, off, none⟩ ∧ ∃ ad, sp = some ad ∧ ∀ j v, cs[j]? = some v → w.cell? (ad.add j) = some v)
    (hfit : off + cs.length ≤ cur.length) (h1 : ∀ v ∈ cs, v.oneCell' = true)
    (h : ∀ w', Hid (w'.heap[g]? = some (.cells (splice cur off cs).toArray t (0, 0))) → But g w w' → K (a.put o.dst (goInt m)) w') :
    if Region.wanted o (yielded ops a.tmps) = true then Oper.wp P o a w K Q else E := by
 have hw : Region.wanted o (yielded ops a.tmps) = true := by simp [Region.wanted, hgd]
 rw [if_pos hw]
 by_cases h0 : m = 0
 ·subst h0
  obtain rfl : cs = [] := List.eq_nil_of_length_eq_zero (by simpa using hn)
  have hrun := run_copy_none_k (P := P) w dT sT o.type elem k dp sp dLen dCap sLen sCap hu hsz hm
  unfold Oper.wp
  simp [execOp, ho, resolve, invoke, builtin, hd, hs, hrun, Result.andThen]
  exact h w (show _ = _ by simpa [splice] using hg) (But.refl _ _)
 obtain ⟨rfl, ad, rfl, hsrc⟩ := hpos (by omega)
 have hrun := run_copy_row_k (P := P) w dT sT o.type elem k g off dLen dCap ad sLen sCap cur.toArray t cs hu hsz hg (by rw [hm]; exact hn) hsrc (by simpa using hfit) h1
 rw [hm] at hrun
 unfold Oper.wp
 simp [execOp, ho, resolve, invoke, builtin, hd, hs, hrun, Result.andThen]
 exact h _ (show _ = _ by simpa [splice] using setRow_heap w g _ _ t _ hg) (by simpa using but_setRow w g _)
theorem wpList_clear_k {P : Program} {w : World} {ops : Array Oper} {rest : List Oper} {o : Oper} {a : Act} {Q : Exit → Act → World → Prop} (hgd : o.guard = none) (s : Operand) (t : TypeId)
    (ho : o.op = .call { callee := .builtin .clear, args := #[s], argTypes := #[t] }) (e : TypeId) (z : Value) (k : Nat) (hu : P.underlying t = some (.slice e)) (hv : ∀ w, (zeroValue e).run P w = .ok z w) (hz : z.cells.size = k) (h1 : ∀ v ∈ z.cells, v.oneCell' = true)
    (sp : Option Addr) (n c : Nat) (hs : a.eval s = .slice sp n c) (g off : Nat) (cur : List Value) (hg : w.heap[g]? = some (.cells cur.toArray e (0, 0))) (hpos : 0 < n → sp = some ⟨g, off, none⟩) (hfit : off + n * k ≤ cur.length)
    (h : ∀ (w' : World) (cur' : List Value), Hid (w'.heap[g]? = some (.cells cur'.toArray e (0, 0)) ∧ cur'.length = cur.length ∧ cur'.take off = cur.take off) → But g w w' → wpList P ops Q rest (a.put o.dst (.tuple #[])) w') :
    wpList P ops Q (o :: rest) a w := by
 by_cases h0 : n = 0
 ·subst h0
  refine wpList_plain hgd fun K hK => ?_
  have hrun : (Builtin.clear_ #[t] o.type #[.slice sp 0 c]).run P w = .ok (.tuple #[]) w := by
   cases sp <;> simp [Builtin.clear_, run_underlying hu]
  unfold Oper.wp
  simp [execOp, ho, resolve, invoke, builtin, hs, hrun, Result.andThen]
  exact hK _ _ (h w cur ⟨hg, rfl, rfl⟩ (But.refl _ _))
 obtain rfl := hpos (by omega)
 refine wpList_plain hgd fun K hK => ?_
 obtain ⟨zs, hzs⟩ : ∃ zs, (Builtin.zeroCells z.cells n).toList = zs := ⟨_, rfl⟩
 have hzl : zs.length = n * k := by rw [← hzs, Array.length_toList, size_zeroCells, hz]
 have hz1 : ∀ v ∈ zs, v.oneCell' = true := by
  intro v hv'
  rw [← hzs] at hv'
  obtain ⟨j, hj, rfl⟩ := List.getElem_of_mem hv'
  have hk : 0 < z.cells.size := by
   rcases Nat.eq_zero_or_pos z.cells.size with g | g
   ·rw [Array.length_toList, size_zeroCells, g] at hj; omega
   exact g
  simp only [Array.getElem_toList, Builtin.zeroCells, Array.getElem_map, Array.getElem_range]
  rw [getElem!_pos z.cells _ (Nat.mod_lt _ hk)]
  exact h1 _ (Array.getElem_mem _)
 have hst := run_storeCells_at P g off e zs 0 cur.toArray w hg (by simp; omega) hz1
 have hrun : (Builtin.clear_ #[t] o.type #[.slice (some ⟨g, off, none⟩) n c]).run P w = .ok (.tuple #[]) (w.setRow g (cur.take off ++ zs ++ cur.drop (off + zs.length)).toArray) := by
  obtain ⟨m, rfl⟩ : ∃ m, n = m + 1 := ⟨n - 1, by omega⟩
  simp only [Nat.add_zero] at hst
  simp [Builtin.clear_, run_underlying hu, hv, hzs, hst]
 unfold Oper.wp
 simp [execOp, ho, resolve, invoke, builtin, hs, hrun, Result.andThen]
 refine hK _ _ (h _ (cur.take off ++ zs ++ cur.drop (off + zs.length)) ⟨?_, ?_, ?_⟩ ?_)
 ·simpa using setRow_heap w g _ _ e _ hg
 ·simp; omega
 ·rw [List.append_assoc, List.take_append_of_le_length (by simp; omega), List.take_take, Nat.min_self]
 simpa using but_setRow w g _
end Go.Proofs.YtjohdbiipeedkaaGreatDoor.Kit
namespace Go.Proofs.YtjohdbiipeedkaaGreatDoor
open Go Go.RowKit Go.Proofs.YtjohdbiipeedkaaGreatDoor.Kit
theorem zero_block : ∀ w, (zeroValue 40).run Tryz.prog w = .ok (.agg #[.int .i64 0, .int .i64 0, .int .i64 0]) w := fun w => by
 have h := info_block
 cases hq : Tryz.prog.info? 40 with
 | none => simp [hq] at h
 | some i =>
  simp [hq] at h
  simp [zeroValue, typeInfo, hq, h.1]
theorem zero_one : ∀ v ∈ (Value.agg #[.int .i64 0, .int .i64 0, .int .i64 0]).cells, v.oneCell' = true := by
 intro v hv
 have h : v ∈ (#[.int .i64 0, .int .i64 0, .int .i64 0] : Array Value) := hv
 simp at h
 subst h
 rfl
theorem bvals_take (l : List Bk) (i : Nat) : (bvals l).take (i * 3) = bvals (l.take i) := by
 induction l generalizing i with
 | nil => simp [bvals]
 | cons b l ih =>
  cases i with
  | zero => simp [bvals]
  | succ i => rw [Nat.succ_mul]; simp only [bvals, List.take_succ_cons, ih]
theorem bvals_drop (l : List Bk) (i : Nat) : (bvals l).drop (i * 3) = bvals (l.drop i) := by
 induction l generalizing i with
 | nil => simp [bvals]
 | cons b l ih =>
  cases i with
  | zero => simp [bvals]
  | succ i => rw [Nat.succ_mul]; simp only [bvals, List.drop_succ_cons, ih]
theorem take_cut {L X : List Value} {n m : Nat} (h : L.take n = X) (hm : m ≤ n) : L.take m = X.take m := by rw [← h, List.take_take, Nat.min_eq_left hm]
theorem bDel_any (w : World) (base g N cap i : Nat) (l : List Bk) (hi : i ≤ N) (hn : N ≤ 300) (own : w.ownsRow base 40 3 (.slice (some ⟨g, 0, none⟩) (N + 1) cap) (N + 1) (bvals l)) :
    Calls Tryz.prog 30 #[.slice (some ⟨g, 0, none⟩) (N + 1) cap, .int .i64 i, .int .i64 ((i : Int) + 1)] w fun e w' => e = .returned (.slice (some ⟨g, 0, none⟩) N cap) ∧
     w'.ownsRow base 40 3 (.slice (some ⟨g, 0, none⟩) N cap) N (bvals (l.eraseIdx i)) ∧ But g w w' := by
 obtain ⟨i1, hj, hy0, hy1, hy2⟩ := info_parts info_block
 have hll := bowns_len own
 obtain ⟨hbg, hnc, cur, R, hcur⟩ := Row.of own
 have hm := R.m
 unfold maxLen at hm
 have own1 : w.drew.ownsRow base 40 3 (.slice (some ⟨g, 0, none⟩) i cap) i (bvals (l.take i)) :=
  (R.below (Below.refl _ _).drew).owns hbg (by omega) (by rw [take_cut hcur (by omega), bvals_take])
 obtain ⟨news, hnews⟩ : ∃ news, news = bvals (l.drop (i + 1)) := ⟨_, rfl⟩
 have hnl : news.length = (N - i) * 3 := by rw [hnews, length_bvals, List.length_drop, hll]; omega
 have hn1 : ∀ u ∈ news, u.oneCell' = true := by rw [hnews]; exact bvals_oneCell _
 have hcell : ∀ j u, news[j]? = some u → w.drew.cell? ((⟨g, (i + 1) * 3, none⟩ : Addr).add j) = some u := by
  intro j u hu
  rw [add_at, (R.below (Below.refl _ _).drew).cell]
  rw [hnews, ← bvals_drop, List.getElem?_drop] at hu
  rw [← hcur, List.getElem?_take] at hu
  split at hu
  ·exact hu
  cases hu
 have HE : Hid (bvals (l.take i) ++ news = bvals (l.eraseIdx i)) := by
  show _ = _
  rw [hnews, ← bvals_append, List.eraseIdx_eq_take_drop_succ]
 have hsum : i + (N - i) = N := by omega
 have Hcell : Hid _ := hcell
 have Hnl : Hid _ := hnl
 clear hnews hcur own hcell hnl
 have h1 : (i : Int) + 1 ≤ N + 1 := by omega
 have h2 : i ≤ N + 1 := by omega
 have h3 : ((i : Int) == (i : Int) + 1) = false := by simp; omega
 have h4 : ((i : Int) + 1).toNat = i + 1 := by omega
 have h5 : i ≤ cap := by omega
 have h6 : ¬ (cap = N) := by omega
 have h7 : N + 1 - N = 1 := by omega
 have h8 : (i : Int) ≤ (cap : Int) := by omega
 have h9 : (i : Int) + 1 ≤ (cap : Int) := by omega
 have h10 : (i : Int) ≤ (N : Int) + 1 := by omega
 have h11 : (N : Int) ≤ (N : Int) + 1 := by omega
 have h12 : (N : Int) + 1 ≤ (cap : Int) := by omega
 have h13 : ((N : Int) + 1).toNat = N + 1 := by omega
 have h14 : ¬ (cap = i) := by omega
 have h15 : (0 : Int) ≤ (i : Int) + 1 := by omega
 by_cases hc' : cap = i + 1
 ·have hc : (cap = i + 1) = True := eq_true hc'
  have HC : Hid (cap = i + 1) := hc'
  clear hc'
  go_enter Tryz.func30, Tryz.ntmps30
  go_wp2
  go_region_law (refine step_append_fits rfl (.tmp 22) (.tmp 25) 32 rfl 40 i1 3 Tryz.underlying32 hj hy1 base g i cap (bvals (l.take i)) (by simp [Act.eval, Act.put]) own1 (some ⟨g, 0, none⟩) (N - i) (cap - (i + 1)) news (by simp [Act.eval, Act.put]) Hnl.out ⟨_, rfl, fun j u hu => by have := Hnl.out; have hc' := HC.out; have h0 : news = [] := List.eq_nil_of_length_eq_zero (by omega); rw [h0] at hu; cases hu⟩ hn1 N hsum (by omega) ?_; intro w1 ho1 hb1)
  all_goals
   obtain ⟨_, _, cur1, R1, hcur1⟩ := Row.of ho1
   have hl1 := R1.len
   clear own1 Hcell Hnl hn1 ho1 R
   go_wp2_with (refine wpList_clear_k rfl (.tmp 31) 32 rfl 40 _ 3 Tryz.underlying32 zero_block rfl zero_one _ _ _ rfl g (N * 3) cur1 R1.h (fun _ => rfl) (by omega) ?_; intro w2 cur2 hg2 hb2)
   go_ret
   obtain ⟨g1, g2, g3⟩ := hg2.out
   have R2 : Row w2 40 3 g cap cur2 := ⟨g1, by rw [g2]; exact hl1, R1.m⟩
   exact ⟨rfl, R2.owns hbg (by omega) (by rw [g3, hcur1, HE.out]), ((But.of_below (Below.refl _ _).drew).trans hb1).trans hb2⟩
 go_enter Tryz.func30, Tryz.ntmps30
 go_wp2
 go_region_law (refine step_append_fits rfl (.tmp 22) (.tmp 25) 32 rfl 40 i1 3 Tryz.underlying32 hj hy1 base g i cap (bvals (l.take i)) (by simp [Act.eval, Act.put]) own1 (some ⟨g, (i + 1) * 3, none⟩) (N - i) (cap - (i + 1)) news (by simp [Act.eval, Act.put]) Hnl.out ⟨_, rfl, Hcell.out⟩ hn1 N hsum (by omega) ?_; intro w1 ho1 hb1)
 all_goals
  obtain ⟨_, _, cur1, R1, hcur1⟩ := Row.of ho1
  have hl1 := R1.len
  clear own1 Hcell Hnl hn1 ho1 R
  go_wp2_with (refine wpList_clear_k rfl (.tmp 31) 32 rfl 40 _ 3 Tryz.underlying32 zero_block rfl zero_one _ _ _ rfl g (N * 3) cur1 R1.h (fun _ => rfl) (by omega) ?_; intro w2 cur2 hg2 hb2)
  go_ret
  obtain ⟨g1, g2, g3⟩ := hg2.out
  have R2 : Row w2 40 3 g cap cur2 := ⟨g1, by rw [g2]; exact hl1, R1.m⟩
  exact ⟨rfl, R2.owns hbg (by omega) (by rw [g3, hcur1, HE.out]), ((But.of_below (Below.refl _ _).drew).trans hb1).trans hb2⟩
theorem made_b {P : Program} {t e : TypeId} {i : TypeInfo} {z : Value} (ht : P.underlying t = some (.slice e)) (hi : P.info? e = some i) (hz : i.zero = some z) (n : Nat) (hb : i.bytes * n ≤ 281474976710656) (hm : n ≤ maxLen) :
    ∃ M : Array Value, M.size = n * i.size ∧ ∀ W : World, (Instr.makeSlice t (.int .i64 (n : Int)) (.int .i64 (n : Int))).run P W = .ok (.slice (some ⟨W.heap.size, 0, none⟩) n n) (W.alloc (.cells M e)) := by
 refine ⟨madeCells z.cells (n * i.size), size_madeCells _ _, fun W => ?_⟩
 have hr := run_make (P := P) W t e i z ht hi hz .i64 .i64 n n (by omega) (Int.le_refl _) (by
  have h : ((i.bytes * n : Nat) : Int) ≤ 281474976710656 := by omega
  rwa [Int.natCast_mul] at h) (by have h := hm; simp [maxLen] at h; omega)
 simpa using hr
theorem owns_of_row {w : World} {base : Nat} {e : TypeId} {g n size : Nat} {xs : List Value} (h : w.heap[g]? = some (.cells xs.toArray e (0, 0))) (hb : base ≤ g) (hl : xs.length = n * size) (hm : n ≤ maxLen) :
    w.ownsRow base e size (.slice (some ⟨g, 0, none⟩) n n) n xs :=
 ⟨hl, .inr ⟨g, n, _, rfl, hb, h, Nat.le_refl _, hm, by simpa using hl, by simpa using List.take_of_length_le (by omega)⟩⟩
theorem owns_but {w w' : World} {base : Nat} {e : TypeId} {g n cap size c : Nat} {xs : List Value} (h : w.ownsRow base e size (.slice (some ⟨g, 0, none⟩) n cap) n xs) (hb : But c w w') (hne : g ≠ c) :
    w'.ownsRow base e size (.slice (some ⟨g, 0, none⟩) n cap) n xs :=
 h.kept (row := some c) ⟨hb.os, hb.tape, hb.output, hb.size, fun k hk hne => hb.block k hk (by intro g; exact hne (by rw [g]))⟩ (.inr (by simp [Value.ownBlock]; exact hne))
structure CpI (W0 : World) (zb : Nat) (f t : Int) (fo : Option Addr) (fn fc : Nat) (to_ : Option Addr) (tn tc : Nat) (x g k : Nat) (MB MT : Array Value) (W : World) : Prop where
 b : Below W0.heap.size W0 W
 zin : ZBox W zb (.int .i64 f) (.int .i64 t) (.slice fo fn fc) (.slice to_ tn tc)
 res : Res4 W (zb + 1)
 box : ZBox W x (.int .i64 f) (.int .i64 t) (.slice (some ⟨g, 0, none⟩) fn fn) (.slice (some ⟨k, 0, none⟩) tn tn)
 rg : W.heap[g]? = some (.cells MB 40 (0, 0))
 rk : W.heap[k]? = some (.cells MT 3 (0, 0))
 xg : x ≠ g
 xk : x ≠ k
 gk : g ≠ k
 x2 : zb + 2 ≤ x
 g2 : zb + 2 ≤ g
 k2 : zb + 2 ≤ k
theorem zbox_of_row {W : World} {x : Nat} {a b c d : Value} {t : TypeId} (h : W.heap[x]? = some (.cells #[a, b, c, d] t (0, 0))) : ZBox W x a b c d := by
 have hc : ∀ i : Nat, W.cell? ⟨x, i, none⟩ = (#[a, b, c, d] : Array Value)[i]? := fun i => by simp [World.cell?, h]
 have hf : ∀ i : Nat, W.frozen? ⟨x, i, none⟩ = false := fun i => by simp [World.frozen?, h]
 exact ⟨by rw [hc]; rfl, by rw [hc]; rfl, by rw [hc]; rfl, by rw [hc]; rfl, hf 0, hf 1, hf 2, hf 3⟩
theorem heap3 {W : World} {A B C : Obj} {n : Nat} (hs : W.heap.size = n) : ((((W.alloc A).alloc B).alloc C).drew).heap[n]? = some A ∧ ((((W.alloc A).alloc B).alloc C).drew).heap[n + 1]? = some B ∧ ((((W.alloc A).alloc B).alloc C).drew).heap[n + 1 + 1]? = some C := by
 subst hs
 show (((W.heap.push A).push B).push C)[W.heap.size]? = _ ∧ (((W.heap.push A).push B).push C)[W.heap.size + 1]? = _ ∧ (((W.heap.push A).push B).push C)[W.heap.size + 1 + 1]? = _
 refine ⟨?_, ?_, ?_⟩
 ·rw [Array.getElem?_push, if_neg (by simp; omega), Array.getElem?_push, if_neg (by simp), Array.getElem?_push, if_pos rfl]
 ·rw [Array.getElem?_push, if_neg (by simp), Array.getElem?_push, if_pos (by simp)]
 rw [Array.getElem?_push, if_pos (by simp)]
section
variable {W0 : World} {b : Nat} {f t : Int} {fo : Option Addr} {fn fc : Nat} {to_ : Option Addr} {tn tc : Nat} {x g k : Nat} {MB MT : Array Value} {W W' : World}
theorem cpI_of (Z0 : ZBox W0 b (.int .i64 f) (.int .i64 t) (.slice fo fn fc) (.slice to_ tn tc)) (R0 : Res4 W0 (b + 1)) (hb : Below W0.heap.size W0 W)
    (hx : W.heap[x]? = some (.cells #[.int .i64 f, .int .i64 t, .slice (some ⟨g, 0, none⟩) fn fn, .slice (some ⟨k, 0, none⟩) tn tn] 54 (0, 0)))
    (hg : W.heap[g]? = some (.cells MB 40 (0, 0))) (hk : W.heap[k]? = some (.cells MT 3 (0, 0))) (xg : x ≠ g) (xk : x ≠ k) (gk : g ≠ k) (x2 : b + 2 ≤ x) (g2 : b + 2 ≤ g) (k2 : b + 2 ≤ k) : CpI W0 b f t fo fn fc to_ tn tc x g k MB MT W :=
 ⟨hb, Z0.below hb, R0.below hb, zbox_of_row hx, hg, hk, xg, xk, gk, x2, g2, k2⟩
theorem cpI_423 (Z0 : ZBox W0 b (.int .i64 f) (.int .i64 t) (.slice fo fn fc) (.slice to_ tn tc)) (R0 : Res4 W0 (b + 1)) (hs : W0.heap.size = b + 2) :
    CpI W0 b f t fo fn fc to_ tn tc (b + 2 + 1 + 1) (b + 2) (b + 2 + 1) MB MT ((((W0.alloc (.cells MB 40)).alloc (.cells MT 3)).alloc (.cells #[.int .i64 f, .int .i64 t, .slice (some ⟨b + 2, 0, none⟩) fn fn, .slice (some ⟨b + 2 + 1, 0, none⟩) tn tn] 54)).drew) :=
 cpI_of Z0 R0 (((((Below.refl _ _).alloc (Nat.le_refl _) _).alloc (by simp) _).alloc (by simp; omega) _).drew) (heap3 hs).2.2 (heap3 hs).1 (heap3 hs).2.1 (by omega) (by omega) (by omega) (by omega) (by omega) (by omega)
theorem cpI_324 (Z0 : ZBox W0 b (.int .i64 f) (.int .i64 t) (.slice fo fn fc) (.slice to_ tn tc)) (R0 : Res4 W0 (b + 1)) (hs : W0.heap.size = b + 2) :
    CpI W0 b f t fo fn fc to_ tn tc (b + 2 + 1) (b + 2) (b + 2 + 1 + 1) MB MT ((((W0.alloc (.cells MB 40)).alloc (.cells #[.int .i64 f, .int .i64 t, .slice (some ⟨b + 2, 0, none⟩) fn fn, .slice (some ⟨b + 2 + 1 + 1, 0, none⟩) tn tn] 54)).alloc (.cells MT 3)).drew) :=
 cpI_of Z0 R0 (((((Below.refl _ _).alloc (Nat.le_refl _) _).alloc (by simp) _).alloc (by simp; omega) _).drew) (heap3 hs).2.1 (heap3 hs).1 (heap3 hs).2.2 (by omega) (by omega) (by omega) (by omega) (by omega) (by omega)
theorem cpI_432 (Z0 : ZBox W0 b (.int .i64 f) (.int .i64 t) (.slice fo fn fc) (.slice to_ tn tc)) (R0 : Res4 W0 (b + 1)) (hs : W0.heap.size = b + 2) :
    CpI W0 b f t fo fn fc to_ tn tc (b + 2 + 1 + 1) (b + 2 + 1) (b + 2) MB MT ((((W0.alloc (.cells MT 3)).alloc (.cells MB 40)).alloc (.cells #[.int .i64 f, .int .i64 t, .slice (some ⟨b + 2 + 1, 0, none⟩) fn fn, .slice (some ⟨b + 2, 0, none⟩) tn tn] 54)).drew) :=
 cpI_of Z0 R0 (((((Below.refl _ _).alloc (Nat.le_refl _) _).alloc (by simp) _).alloc (by simp; omega) _).drew) (heap3 hs).2.2 (heap3 hs).2.1 (heap3 hs).1 (by omega) (by omega) (by omega) (by omega) (by omega) (by omega)
theorem cpI_342 (Z0 : ZBox W0 b (.int .i64 f) (.int .i64 t) (.slice fo fn fc) (.slice to_ tn tc)) (R0 : Res4 W0 (b + 1)) (hs : W0.heap.size = b + 2) :
    CpI W0 b f t fo fn fc to_ tn tc (b + 2 + 1) (b + 2 + 1 + 1) (b + 2) MB MT ((((W0.alloc (.cells MT 3)).alloc (.cells #[.int .i64 f, .int .i64 t, .slice (some ⟨b + 2 + 1 + 1, 0, none⟩) fn fn, .slice (some ⟨b + 2, 0, none⟩) tn tn] 54)).alloc (.cells MB 40)).drew) :=
 cpI_of Z0 R0 (((((Below.refl _ _).alloc (Nat.le_refl _) _).alloc (by simp) _).alloc (by simp; omega) _).drew) (heap3 hs).2.1 (heap3 hs).2.2 (heap3 hs).1 (by omega) (by omega) (by omega) (by omega) (by omega) (by omega)
theorem cpI_234 (Z0 : ZBox W0 b (.int .i64 f) (.int .i64 t) (.slice fo fn fc) (.slice to_ tn tc)) (R0 : Res4 W0 (b + 1)) (hs : W0.heap.size = b + 2) :
    CpI W0 b f t fo fn fc to_ tn tc (b + 2) (b + 2 + 1) (b + 2 + 1 + 1) MB MT ((((W0.alloc (.cells #[.int .i64 f, .int .i64 t, .slice (some ⟨b + 2 + 1, 0, none⟩) fn fn, .slice (some ⟨b + 2 + 1 + 1, 0, none⟩) tn tn] 54)).alloc (.cells MB 40)).alloc (.cells MT 3)).drew) :=
 cpI_of Z0 R0 (((((Below.refl _ _).alloc (Nat.le_refl _) _).alloc (by simp) _).alloc (by simp; omega) _).drew) (heap3 hs).1 (heap3 hs).2.1 (heap3 hs).2.2 (by omega) (by omega) (by omega) (by omega) (by omega) (by omega)
theorem cpI_243 (Z0 : ZBox W0 b (.int .i64 f) (.int .i64 t) (.slice fo fn fc) (.slice to_ tn tc)) (R0 : Res4 W0 (b + 1)) (hs : W0.heap.size = b + 2) :
    CpI W0 b f t fo fn fc to_ tn tc (b + 2) (b + 2 + 1 + 1) (b + 2 + 1) MB MT ((((W0.alloc (.cells #[.int .i64 f, .int .i64 t, .slice (some ⟨b + 2 + 1 + 1, 0, none⟩) fn fn, .slice (some ⟨b + 2 + 1, 0, none⟩) tn tn] 54)).alloc (.cells MT 3)).alloc (.cells MB 40)).drew) :=
 cpI_of Z0 R0 (((((Below.refl _ _).alloc (Nat.le_refl _) _).alloc (by simp) _).alloc (by simp; omega) _).drew) (heap3 hs).1 (heap3 hs).2.2 (heap3 hs).2.1 (by omega) (by omega) (by omega) (by omega) (by omega) (by omega)
theorem CpI.copied (h : CpI W0 b f t fo fn fc to_ tn tc x g k MB MT W) (hb : But g W W') {M : Array Value} (hg : W'.heap[g]? = some (.cells M 40 (0, 0))) (hs : W0.heap.size ≤ g) : CpI W0 b f t fo fn fc to_ tn tc x g k M MT W' :=
 ⟨h.b.trans (hb.below hs h.b.size), h.zin.but hb (by have := h.g2; omega), h.res.but hb (by have := h.g2; omega), h.box.but hb h.xg, hg, (hb.block k (Array.getElem?_eq_some_iff.1 h.rk).1 (fun e => h.gk e.symm)).trans h.rk, h.xg, h.xk, h.gk, h.x2, h.g2, h.k2⟩
theorem CpI.copied2 (h : CpI W0 b f t fo fn fc to_ tn tc x g k MB MT W) (hb : But k W W') {M : Array Value} (hg : W'.heap[k]? = some (.cells M 3 (0, 0))) (hs : W0.heap.size ≤ k) : CpI W0 b f t fo fn fc to_ tn tc x g k MB M W' :=
 ⟨h.b.trans (hb.below hs h.b.size), h.zin.but hb (by have := h.k2; omega), h.res.but hb (by have := h.k2; omega), h.box.but hb h.xk, (hb.block g (Array.getElem?_eq_some_iff.1 h.rg).1 h.gk).trans h.rg, hg, h.xg, h.xk, h.gk, h.x2, h.g2, h.k2⟩
theorem CpI.last {LB LT CB CT : List Value} {free : List Bk} {types : List Int} (h : CpI W0 b f t fo fn fc to_ tn tc x g k (splice LB 0 CB).toArray (splice LT 0 CT).toArray W) (eB : CB = bvals free) (eT : CT = vals types) (lB : CB.length = fn * 3) (lT : CT.length = tn * 1) (mB : LB.length = fn * 3) (mT : LT.length = tn * 1) (hmf : fn ≤ maxLen) (hmt : tn ≤ maxLen) :
    W.ownsRow b 40 3 (.slice (some ⟨g, 0, none⟩) fn fn) fn (bvals free) ∧ W.ownsRow b 3 1 (.slice (some ⟨k, 0, none⟩) tn tn) tn (vals types) ∧ g ≠ k := by
 have hg := h.rg
 have hk := h.rk
 rw [splice_all (by omega)] at hg hk
 exact ⟨by rw [← eB]; exact owns_of_row hg (by have := h.g2; omega) lB hmf, by rw [← eT]; exact owns_of_row hk (by have := h.k2; omega) lT hmt, h.gk⟩
end
theorem zCopy_own (w : World) (fo : Option Addr) (fn fc : Nat) (to_ : Option Addr) (tn tc : Nat) (z : Zn) (h : ZnAt w fo fn to_ tn z) :
    Calls Tryz.prog 60 #[.agg #[.int .i64 z.f, .int .i64 z.t, .slice fo fn fc, .slice to_ tn tc]] w fun e w' => ∃ g k, e = .returned (.agg #[.int .i64 z.f, .int .i64 z.t, .slice (some ⟨g, 0, none⟩) fn fn, .slice (some ⟨k, 0, none⟩) tn tn]) ∧
     w'.ownsRow w.heap.size 40 3 (.slice (some ⟨g, 0, none⟩) fn fn) fn (bvals z.free) ∧ w'.ownsRow w.heap.size 3 1 (.slice (some ⟨k, 0, none⟩) tn tn) tn (vals z.types) ∧ g ≠ k ∧ Below w.heap.size w w' := by
 obtain ⟨f, t, free, types⟩ := z
 obtain ⟨hf, ht⟩ := h
 dsimp only at hf ht ⊢
 obtain ⟨i0, hi, hz0, hz1, hz2⟩ := info_parts info_int
 obtain ⟨i1, hj, hy0, hy1, hy2⟩ := info_parts info_block
 have hfr := hf.reach
 have htr := ht.reach
 have hmf : fn ≤ maxLen := by unfold maxLen; omega
 have hmt : tn ≤ maxLen := by unfold maxLen; omega
 obtain ⟨MB, sB, hB⟩ := made_b (P := Tryz.prog) Tryz.underlying32 hj hy0 fn (by rw [hy2]; omega) hmf
 obtain ⟨MT, sT, hT⟩ := made_b (P := Tryz.prog) Tryz.underlying30 hi hz0 tn (by rw [hz2]; omega) hmt
 rw [hy1] at sB
 rw [hz1] at sT
 obtain ⟨W0, hW0⟩ : ∃ W0, (w.alloc (.cells #[.int .i64 f, .int .i64 t, .slice fo fn fc, .slice to_ tn tc] 54)).alloc (.cells #[.int .i64 0, .int .i64 0, .slice none 0 0, .slice none 0 0] 54) = W0 := ⟨_, rfl⟩
 have hb0 : Below w.heap.size w W0 := by rw [← hW0]; exact ((Below.refl _ _).alloc (Nat.le_refl _) _).alloc (by simp) _
 have Z0 : ZBox W0 w.heap.size (.int .i64 f) (.int .i64 t) (.slice fo fn fc) (.slice to_ tn tc) := by rw [← hW0]; exact (zbox_new w _ _ _ _ _).below (below_box _ _)
 have R0 : Res4 W0 (w.heap.size + 1) := by
  rw [← hW0]
  have := zbox_new (w.alloc (.cells #[.int .i64 f, .int .i64 t, .slice fo fn fc, .slice to_ tn tc] 54)) (.int .i64 0) (.int .i64 0) (.slice none 0 0) (.slice none 0 0) 54
  have h2 := this.res
  simpa using h2
 have hs0 : W0.heap.size = w.heap.size + 2 := by rw [← hW0]; simp
 have HW0 : Hid _ := hW0
 have Z1 := Z0
 have R1 := R0
 obtain ⟨CB, hCB⟩ : ∃ CB, CB = bvals free := ⟨_, rfl⟩
 obtain ⟨CT, hCT⟩ : ∃ CT, CT = vals types := ⟨_, rfl⟩
 have lB : CB.length = fn * 3 := by rw [hCB, length_bvals, hf.len]
 have lT : CT.length = tn * 1 := by rw [hCT, length_vals, ht.len, Nat.mul_one]
 have oB : ∀ v ∈ CB, v.oneCell' = true := by rw [hCB]; exact bvals_oneCell _
 have oT : ∀ v ∈ CT, v.oneCell' = true := by rw [hCT]; exact vals_oneCell _
 have HSB : Hid (∀ W, Below W0.heap.size W0 W → 0 < fn → ∃ ad, fo = some ad ∧ ∀ j v, CB[j]? = some v → W.cell? (ad.add j) = some v) := fun W hW h0 => by
  rw [hCB]
  exact bsrc_of ((hf.below hb0).below hW).at_ (by have := hf.len; omega)
 have HST : Hid (∀ W, Below W0.heap.size W0 W → 0 < tn → ∃ ad, to_ = some ad ∧ ∀ j v, CT[j]? = some v → W.cell? (ad.add j) = some v) := fun W hW h0 => by
  rw [hCT]
  exact src_of ((ht.below hb0).below hW).at_ (by have := ht.len; omega)
 have HCB : Hid _ := hCB
 have HCT : Hid _ := hCT
 clear hCB hCT
 have c0 := Z0.c0
 have c1 := Z0.c1
 have c2 := Z0.c2
 have c3 := Z0.c3
 have hsB : Hid (MB.size = fn * 3) := sB
 have hsT : Hid (MT.size = tn * 1) := sT
 clear hW0 sB sT
 go_enter Tryz.func60, Tryz.ntmps60
 go_wp2_with (rw [HW0.out])
 clear HW0
 go_region
 clear Z0 R0 c0 c1 c2 c3 hB hT hf ht
 ·have I1 : CpI W0 w.heap.size f t fo fn fc to_ tn tc (w.heap.size + 2 + 1 + 1) (w.heap.size + 2) (w.heap.size + 2 + 1) MB MT _ := cpI_423 Z1 R1 hs0
  generalize World.drew _ = W1 at I1 ⊢
  generalize w.heap.size + 2 + 1 + 1 = n4 at I1 ⊢
  generalize w.heap.size + 2 + 1 = n3 at I1 ⊢
  generalize hn2 : w.heap.size + 2 = n2 at I1 ⊢
  have hx2 := I1.x2
  have hg2 := I1.g2
  have hk2 := I1.k2
  have y2 := I1.box.c2
  have y3 := I1.box.c3
  have q2 := I1.zin.c2
  have q3 := I1.zin.c3
  go_wp2_with (first
   | (refine wpList_copy_k rfl (.tmp 18) (.tmp 20) 32 32 rfl 40 3 Tryz.underlying32 size_block _ _ _ _ _ _ rfl rfl n2 0 MB.toList 40 (by simpa using I1.rg) CB fn (Nat.min_self _) lB (fun h0 => ⟨rfl, HSB.out _ I1.b h0⟩) (by simp only [Array.length_toList]; rw [lB, hsB.out]; omega) oB ?_; intro w2 hg2 hb2; have I2 := I1.copied hb2 hg2.out (by omega); have a3 := I2.box.c3; have b3 := I2.zin.c3)
   | (refine wpList_copy_k rfl (.tmp 23) (.tmp 25) 30 30 rfl 3 1 Tryz.underlying30 size_int _ _ _ _ _ _ rfl rfl n3 0 MT.toList 3 (by simpa using I2.rk) CT tn (Nat.min_self _) lT (fun h0 => ⟨rfl, HST.out _ I2.b h0⟩) (by simp only [Array.length_toList]; rw [lT, hsT.out]; omega) oT ?_; intro w3 hg3 hb3; have I3 := I2.copied2 hb3 hg3.out (by omega); have e0 := I3.box.c0; have e1 := I3.box.c1; have e2 := I3.box.c2; have e3 := I3.box.c3; have R3 := I3.res; obtain ⟨⟨x0, d0⟩, ⟨x1, d1⟩, ⟨x2, d2⟩, ⟨x3, d3⟩, z0, z1, z2, z3⟩ := id R3))
  obtain ⟨o1, o2, o3⟩ := I3.last HCB.out HCT.out lB lT (by rw [Array.length_toList, hsB.out]) (by rw [Array.length_toList, hsT.out]) hmf hmt
  have hB3 := hb0.trans (I3.b.mono (by omega))
  obtain ⟨k0, k1, k2, k3⟩ := res4 R3 (.int .i64 f) (.int .i64 t) (.slice (some ⟨n2, 0, none⟩) fn fn) (.slice (some ⟨n3, 0, none⟩) tn tn)
  have hbt := but4 w3 (w.heap.size + 1) (.int .i64 f) (.int .i64 t) (.slice (some ⟨n2, 0, none⟩) fn fn) (.slice (some ⟨n3, 0, none⟩) tn tn)
  exact bodyPost_ret (v := .agg #[.int .i64 f, .int .i64 t, .slice (some ⟨n2, 0, none⟩) fn fn, .slice (some ⟨n3, 0, none⟩) tn tn]) (by simp [results, Tryz.results60, go_sem, k0, k1, k2, k3]) rfl ⟨n2, n3, rfl, owns_but o1 hbt (by omega), owns_but o2 hbt (by omega), o3, hB3.trans (hbt.below (by omega) hB3.size)⟩
 ·have I1 : CpI W0 w.heap.size f t fo fn fc to_ tn tc (w.heap.size + 2 + 1) (w.heap.size + 2) (w.heap.size + 2 + 1 + 1) MB MT _ := cpI_324 Z1 R1 hs0
  generalize World.drew _ = W1 at I1 ⊢
  generalize w.heap.size + 2 + 1 + 1 = n4 at I1 ⊢
  generalize w.heap.size + 2 + 1 = n3 at I1 ⊢
  generalize hn2 : w.heap.size + 2 = n2 at I1 ⊢
  have hx2 := I1.x2
  have hg2 := I1.g2
  have hk2 := I1.k2
  have y2 := I1.box.c2
  have y3 := I1.box.c3
  have q2 := I1.zin.c2
  have q3 := I1.zin.c3
  go_wp2_with (first
   | (refine wpList_copy_k rfl (.tmp 18) (.tmp 20) 32 32 rfl 40 3 Tryz.underlying32 size_block _ _ _ _ _ _ rfl rfl n2 0 MB.toList 40 (by simpa using I1.rg) CB fn (Nat.min_self _) lB (fun h0 => ⟨rfl, HSB.out _ I1.b h0⟩) (by simp only [Array.length_toList]; rw [lB, hsB.out]; omega) oB ?_; intro w2 hg2 hb2; have I2 := I1.copied hb2 hg2.out (by omega); have a3 := I2.box.c3; have b3 := I2.zin.c3)
   | (refine wpList_copy_k rfl (.tmp 23) (.tmp 25) 30 30 rfl 3 1 Tryz.underlying30 size_int _ _ _ _ _ _ rfl rfl n4 0 MT.toList 3 (by simpa using I2.rk) CT tn (Nat.min_self _) lT (fun h0 => ⟨rfl, HST.out _ I2.b h0⟩) (by simp only [Array.length_toList]; rw [lT, hsT.out]; omega) oT ?_; intro w3 hg3 hb3; have I3 := I2.copied2 hb3 hg3.out (by omega); have e0 := I3.box.c0; have e1 := I3.box.c1; have e2 := I3.box.c2; have e3 := I3.box.c3; have R3 := I3.res; obtain ⟨⟨x0, d0⟩, ⟨x1, d1⟩, ⟨x2, d2⟩, ⟨x3, d3⟩, z0, z1, z2, z3⟩ := id R3))
  obtain ⟨o1, o2, o3⟩ := I3.last HCB.out HCT.out lB lT (by rw [Array.length_toList, hsB.out]) (by rw [Array.length_toList, hsT.out]) hmf hmt
  have hB3 := hb0.trans (I3.b.mono (by omega))
  obtain ⟨k0, k1, k2, k3⟩ := res4 R3 (.int .i64 f) (.int .i64 t) (.slice (some ⟨n2, 0, none⟩) fn fn) (.slice (some ⟨n4, 0, none⟩) tn tn)
  have hbt := but4 w3 (w.heap.size + 1) (.int .i64 f) (.int .i64 t) (.slice (some ⟨n2, 0, none⟩) fn fn) (.slice (some ⟨n4, 0, none⟩) tn tn)
  exact bodyPost_ret (v := .agg #[.int .i64 f, .int .i64 t, .slice (some ⟨n2, 0, none⟩) fn fn, .slice (some ⟨n4, 0, none⟩) tn tn]) (by simp [results, Tryz.results60, go_sem, k0, k1, k2, k3]) rfl ⟨n2, n4, rfl, owns_but o1 hbt (by omega), owns_but o2 hbt (by omega), o3, hB3.trans (hbt.below (by omega) hB3.size)⟩
 ·have I1 : CpI W0 w.heap.size f t fo fn fc to_ tn tc (w.heap.size + 2 + 1 + 1) (w.heap.size + 2 + 1) (w.heap.size + 2) MB MT _ := cpI_432 Z1 R1 hs0
  generalize World.drew _ = W1 at I1 ⊢
  generalize w.heap.size + 2 + 1 + 1 = n4 at I1 ⊢
  generalize w.heap.size + 2 + 1 = n3 at I1 ⊢
  generalize hn2 : w.heap.size + 2 = n2 at I1 ⊢
  have hx2 := I1.x2
  have hg2 := I1.g2
  have hk2 := I1.k2
  have y2 := I1.box.c2
  have y3 := I1.box.c3
  have q2 := I1.zin.c2
  have q3 := I1.zin.c3
  go_wp2_with (first
   | (refine wpList_copy_k rfl (.tmp 18) (.tmp 20) 32 32 rfl 40 3 Tryz.underlying32 size_block _ _ _ _ _ _ rfl rfl n3 0 MB.toList 40 (by simpa using I1.rg) CB fn (Nat.min_self _) lB (fun h0 => ⟨rfl, HSB.out _ I1.b h0⟩) (by simp only [Array.length_toList]; rw [lB, hsB.out]; omega) oB ?_; intro w2 hg2 hb2; have I2 := I1.copied hb2 hg2.out (by omega); have a3 := I2.box.c3; have b3 := I2.zin.c3)
   | (refine wpList_copy_k rfl (.tmp 23) (.tmp 25) 30 30 rfl 3 1 Tryz.underlying30 size_int _ _ _ _ _ _ rfl rfl n2 0 MT.toList 3 (by simpa using I2.rk) CT tn (Nat.min_self _) lT (fun h0 => ⟨rfl, HST.out _ I2.b h0⟩) (by simp only [Array.length_toList]; rw [lT, hsT.out]; omega) oT ?_; intro w3 hg3 hb3; have I3 := I2.copied2 hb3 hg3.out (by omega); have e0 := I3.box.c0; have e1 := I3.box.c1; have e2 := I3.box.c2; have e3 := I3.box.c3; have R3 := I3.res; obtain ⟨⟨x0, d0⟩, ⟨x1, d1⟩, ⟨x2, d2⟩, ⟨x3, d3⟩, z0, z1, z2, z3⟩ := id R3))
  obtain ⟨o1, o2, o3⟩ := I3.last HCB.out HCT.out lB lT (by rw [Array.length_toList, hsB.out]) (by rw [Array.length_toList, hsT.out]) hmf hmt
  have hB3 := hb0.trans (I3.b.mono (by omega))
  obtain ⟨k0, k1, k2, k3⟩ := res4 R3 (.int .i64 f) (.int .i64 t) (.slice (some ⟨n3, 0, none⟩) fn fn) (.slice (some ⟨n2, 0, none⟩) tn tn)
  have hbt := but4 w3 (w.heap.size + 1) (.int .i64 f) (.int .i64 t) (.slice (some ⟨n3, 0, none⟩) fn fn) (.slice (some ⟨n2, 0, none⟩) tn tn)
  exact bodyPost_ret (v := .agg #[.int .i64 f, .int .i64 t, .slice (some ⟨n3, 0, none⟩) fn fn, .slice (some ⟨n2, 0, none⟩) tn tn]) (by simp [results, Tryz.results60, go_sem, k0, k1, k2, k3]) rfl ⟨n3, n2, rfl, owns_but o1 hbt (by omega), owns_but o2 hbt (by omega), o3, hB3.trans (hbt.below (by omega) hB3.size)⟩
 ·have I1 : CpI W0 w.heap.size f t fo fn fc to_ tn tc (w.heap.size + 2 + 1) (w.heap.size + 2 + 1 + 1) (w.heap.size + 2) MB MT _ := cpI_342 Z1 R1 hs0
  generalize World.drew _ = W1 at I1 ⊢
  generalize w.heap.size + 2 + 1 + 1 = n4 at I1 ⊢
  generalize w.heap.size + 2 + 1 = n3 at I1 ⊢
  generalize hn2 : w.heap.size + 2 = n2 at I1 ⊢
  have hx2 := I1.x2
  have hg2 := I1.g2
  have hk2 := I1.k2
  have y2 := I1.box.c2
  have y3 := I1.box.c3
  have q2 := I1.zin.c2
  have q3 := I1.zin.c3
  go_wp2_with (first
   | (refine wpList_copy_k rfl (.tmp 18) (.tmp 20) 32 32 rfl 40 3 Tryz.underlying32 size_block _ _ _ _ _ _ rfl rfl n4 0 MB.toList 40 (by simpa using I1.rg) CB fn (Nat.min_self _) lB (fun h0 => ⟨rfl, HSB.out _ I1.b h0⟩) (by simp only [Array.length_toList]; rw [lB, hsB.out]; omega) oB ?_; intro w2 hg2 hb2; have I2 := I1.copied hb2 hg2.out (by omega); have a3 := I2.box.c3; have b3 := I2.zin.c3)
   | (refine wpList_copy_k rfl (.tmp 23) (.tmp 25) 30 30 rfl 3 1 Tryz.underlying30 size_int _ _ _ _ _ _ rfl rfl n2 0 MT.toList 3 (by simpa using I2.rk) CT tn (Nat.min_self _) lT (fun h0 => ⟨rfl, HST.out _ I2.b h0⟩) (by simp only [Array.length_toList]; rw [lT, hsT.out]; omega) oT ?_; intro w3 hg3 hb3; have I3 := I2.copied2 hb3 hg3.out (by omega); have e0 := I3.box.c0; have e1 := I3.box.c1; have e2 := I3.box.c2; have e3 := I3.box.c3; have R3 := I3.res; obtain ⟨⟨x0, d0⟩, ⟨x1, d1⟩, ⟨x2, d2⟩, ⟨x3, d3⟩, z0, z1, z2, z3⟩ := id R3))
  obtain ⟨o1, o2, o3⟩ := I3.last HCB.out HCT.out lB lT (by rw [Array.length_toList, hsB.out]) (by rw [Array.length_toList, hsT.out]) hmf hmt
  have hB3 := hb0.trans (I3.b.mono (by omega))
  obtain ⟨k0, k1, k2, k3⟩ := res4 R3 (.int .i64 f) (.int .i64 t) (.slice (some ⟨n4, 0, none⟩) fn fn) (.slice (some ⟨n2, 0, none⟩) tn tn)
  have hbt := but4 w3 (w.heap.size + 1) (.int .i64 f) (.int .i64 t) (.slice (some ⟨n4, 0, none⟩) fn fn) (.slice (some ⟨n2, 0, none⟩) tn tn)
  exact bodyPost_ret (v := .agg #[.int .i64 f, .int .i64 t, .slice (some ⟨n4, 0, none⟩) fn fn, .slice (some ⟨n2, 0, none⟩) tn tn]) (by simp [results, Tryz.results60, go_sem, k0, k1, k2, k3]) rfl ⟨n4, n2, rfl, owns_but o1 hbt (by omega), owns_but o2 hbt (by omega), o3, hB3.trans (hbt.below (by omega) hB3.size)⟩
 ·have I1 : CpI W0 w.heap.size f t fo fn fc to_ tn tc (w.heap.size + 2) (w.heap.size + 2 + 1) (w.heap.size + 2 + 1 + 1) MB MT _ := cpI_234 Z1 R1 hs0
  generalize World.drew _ = W1 at I1 ⊢
  generalize w.heap.size + 2 + 1 + 1 = n4 at I1 ⊢
  generalize w.heap.size + 2 + 1 = n3 at I1 ⊢
  generalize hn2 : w.heap.size + 2 = n2 at I1 ⊢
  have hx2 := I1.x2
  have hg2 := I1.g2
  have hk2 := I1.k2
  have y2 := I1.box.c2
  have y3 := I1.box.c3
  have q2 := I1.zin.c2
  have q3 := I1.zin.c3
  go_wp2_with (first
   | (refine wpList_copy_k rfl (.tmp 18) (.tmp 20) 32 32 rfl 40 3 Tryz.underlying32 size_block _ _ _ _ _ _ rfl rfl n3 0 MB.toList 40 (by simpa using I1.rg) CB fn (Nat.min_self _) lB (fun h0 => ⟨rfl, HSB.out _ I1.b h0⟩) (by simp only [Array.length_toList]; rw [lB, hsB.out]; omega) oB ?_; intro w2 hg2 hb2; have I2 := I1.copied hb2 hg2.out (by omega); have a3 := I2.box.c3; have b3 := I2.zin.c3)
   | (refine wpList_copy_k rfl (.tmp 23) (.tmp 25) 30 30 rfl 3 1 Tryz.underlying30 size_int _ _ _ _ _ _ rfl rfl n4 0 MT.toList 3 (by simpa using I2.rk) CT tn (Nat.min_self _) lT (fun h0 => ⟨rfl, HST.out _ I2.b h0⟩) (by simp only [Array.length_toList]; rw [lT, hsT.out]; omega) oT ?_; intro w3 hg3 hb3; have I3 := I2.copied2 hb3 hg3.out (by omega); have e0 := I3.box.c0; have e1 := I3.box.c1; have e2 := I3.box.c2; have e3 := I3.box.c3; have R3 := I3.res; obtain ⟨⟨x0, d0⟩, ⟨x1, d1⟩, ⟨x2, d2⟩, ⟨x3, d3⟩, z0, z1, z2, z3⟩ := id R3))
  obtain ⟨o1, o2, o3⟩ := I3.last HCB.out HCT.out lB lT (by rw [Array.length_toList, hsB.out]) (by rw [Array.length_toList, hsT.out]) hmf hmt
  have hB3 := hb0.trans (I3.b.mono (by omega))
  obtain ⟨k0, k1, k2, k3⟩ := res4 R3 (.int .i64 f) (.int .i64 t) (.slice (some ⟨n3, 0, none⟩) fn fn) (.slice (some ⟨n4, 0, none⟩) tn tn)
  have hbt := but4 w3 (w.heap.size + 1) (.int .i64 f) (.int .i64 t) (.slice (some ⟨n3, 0, none⟩) fn fn) (.slice (some ⟨n4, 0, none⟩) tn tn)
  exact bodyPost_ret (v := .agg #[.int .i64 f, .int .i64 t, .slice (some ⟨n3, 0, none⟩) fn fn, .slice (some ⟨n4, 0, none⟩) tn tn]) (by simp [results, Tryz.results60, go_sem, k0, k1, k2, k3]) rfl ⟨n3, n4, rfl, owns_but o1 hbt (by omega), owns_but o2 hbt (by omega), o3, hB3.trans (hbt.below (by omega) hB3.size)⟩
 have I1 : CpI W0 w.heap.size f t fo fn fc to_ tn tc (w.heap.size + 2) (w.heap.size + 2 + 1 + 1) (w.heap.size + 2 + 1) MB MT _ := cpI_243 Z1 R1 hs0
 generalize World.drew _ = W1 at I1 ⊢
 generalize w.heap.size + 2 + 1 + 1 = n4 at I1 ⊢
 generalize w.heap.size + 2 + 1 = n3 at I1 ⊢
 generalize hn2 : w.heap.size + 2 = n2 at I1 ⊢
 have hx2 := I1.x2
 have hg2 := I1.g2
 have hk2 := I1.k2
 have y2 := I1.box.c2
 have y3 := I1.box.c3
 have q2 := I1.zin.c2
 have q3 := I1.zin.c3
 go_wp2_with (first
  | (refine wpList_copy_k rfl (.tmp 18) (.tmp 20) 32 32 rfl 40 3 Tryz.underlying32 size_block _ _ _ _ _ _ rfl rfl n4 0 MB.toList 40 (by simpa using I1.rg) CB fn (Nat.min_self _) lB (fun h0 => ⟨rfl, HSB.out _ I1.b h0⟩) (by simp only [Array.length_toList]; rw [lB, hsB.out]; omega) oB ?_; intro w2 hg2 hb2; have I2 := I1.copied hb2 hg2.out (by omega); have a3 := I2.box.c3; have b3 := I2.zin.c3)
  | (refine wpList_copy_k rfl (.tmp 23) (.tmp 25) 30 30 rfl 3 1 Tryz.underlying30 size_int _ _ _ _ _ _ rfl rfl n3 0 MT.toList 3 (by simpa using I2.rk) CT tn (Nat.min_self _) lT (fun h0 => ⟨rfl, HST.out _ I2.b h0⟩) (by simp only [Array.length_toList]; rw [lT, hsT.out]; omega) oT ?_; intro w3 hg3 hb3; have I3 := I2.copied2 hb3 hg3.out (by omega); have e0 := I3.box.c0; have e1 := I3.box.c1; have e2 := I3.box.c2; have e3 := I3.box.c3; have R3 := I3.res; obtain ⟨⟨x0, d0⟩, ⟨x1, d1⟩, ⟨x2, d2⟩, ⟨x3, d3⟩, z0, z1, z2, z3⟩ := id R3))
 obtain ⟨o1, o2, o3⟩ := I3.last HCB.out HCT.out lB lT (by rw [Array.length_toList, hsB.out]) (by rw [Array.length_toList, hsT.out]) hmf hmt
 have hB3 := hb0.trans (I3.b.mono (by omega))
 obtain ⟨k0, k1, k2, k3⟩ := res4 R3 (.int .i64 f) (.int .i64 t) (.slice (some ⟨n4, 0, none⟩) fn fn) (.slice (some ⟨n3, 0, none⟩) tn tn)
 have hbt := but4 w3 (w.heap.size + 1) (.int .i64 f) (.int .i64 t) (.slice (some ⟨n4, 0, none⟩) fn fn) (.slice (some ⟨n3, 0, none⟩) tn tn)
 exact bodyPost_ret (v := .agg #[.int .i64 f, .int .i64 t, .slice (some ⟨n4, 0, none⟩) fn fn, .slice (some ⟨n3, 0, none⟩) tn tn]) (by simp [results, Tryz.results60, go_sem, k0, k1, k2, k3]) rfl ⟨n4, n3, rfl, owns_but o1 hbt (by omega), owns_but o2 hbt (by omega), o3, hB3.trans (hbt.below (by omega) hB3.size)⟩
end Go.Proofs.YtjohdbiipeedkaaGreatDoor
