/-
  OWN TEXTS, bundled: ZcCheck, HcZs, HcCheck, HcZi, ZMayB.
-/
import Derived.Test.YtbjlbmofdnkmiaaPagesNewPart8
import Derived.Test.YtbjlbmofdnkmiaaPagesNewPart6
import Derived.Deep.RegionHeld3
import Derived.Deep.RegionWith
import Derived.Test.YtbjlbmofdnkmiaaPagesNewPart7
import Derived.Test.YtbjlbmofdnkmiaaPagesNewPart4
import Derived.Test.YtbjlbmofdnkmiaaPagesNewPart5

/-
  OWN TEXT. Contracts of the code: buddy.typesMayBe, buddy.freeMayBe, buddy.Check.
-/
namespace Go.Proofs.Ytbjlbmofdnkmiaa
open Go Go.RowKit Go.Proofs.Ytbjlbmofdnkmiaa.Kit

/-- What a function knows of the zone that it was handed: its box, its lists. -/
structure CkInv (w : World) (fo : Option Addr) (fn fc : Nat) (to_ : Option Addr) (tn tc : Nat) (z : Zn) (W : World) : Prop where
  b : Below w.heap.size w W
  box : ZBox W w.heap.size (.int .i64 z.f) (.int .i64 z.t) (.slice fo fn fc) (.slice to_ tn tc)
  zn : ZnAt W fo fn to_ tn z

theorem CkInv.step {w : World} {fo : Option Addr} {fn fc : Nat} {to_ : Option Addr} {tn tc : Nat} {z : Zn} {W W' : World} (h : CkInv w fo fn fc to_ tn tc z W) (hb : Below W.heap.size W W') : CkInv w fo fn fc to_ tn tc z W' :=
  ⟨h.b.trans (hb.mono h.b.size), h.box.below hb, h.zn.below hb⟩
theorem ckInv_first (w : World) (fo : Option Addr) (fn fc : Nat) (to_ : Option Addr) (tn tc : Nat) (z : Zn) (h : ZnAt w fo fn to_ tn z) : CkInv w fo fn fc to_ tn tc z (w.alloc (.cells #[.int .i64 z.f, .int .i64 z.t, .slice fo fn fc, .slice to_ tn tc] 44)) :=
  ⟨below_box _ _, zbox_new _ _ _ _ _ _, h.below (below_box _ _)⟩

/-- One of its types for each group. -/
def TypesP (z : Zn) : Prop := 8 * (z.types.length : Int) = z.t - z.f ∧ ∀ i, i < z.types.length → typeOk (z.types.getD i 0)

set_option maxHeartbeats 2000000 in
theorem typesMay_any (w : World) (fo : Option Addr) (fn fc : Nat) (to_ : Option Addr) (tn tc : Nat) (z : Zn) (h : ZnAt w fo fn to_ tn z) (hN : newOk z.f z.t) :
    Calls Try.prog 76 #[.agg #[.int .i64 z.f, .int .i64 z.t, .slice fo fn fc, .slice to_ tn tc]] w fun e w' => RetIff e (TypesP z) ∧ Below w.heap.size w w' := by
  have I0 := ckInv_first w fo fn fc to_ tn tc z h
  obtain ⟨n1, n2, n3, n4, n5⟩ := hN
  have c0 := I0.box.c0
  have c1 := I0.box.c1
  have c3 := I0.box.c3
  have htl := h.types.len
  have hrc := h.types.reach
  obtain ⟨D, hD⟩ : ∃ D : Nat, z.t - z.f = (D : Int) := ⟨(z.t - z.f).toNat, by omega⟩
  obtain ⟨N, hq⟩ : ∃ N : Nat, (D : Int) / 8 = (N : Int) := ⟨D / 8, by omega⟩
  clear h
  by_cases hlen : tn = N
  · subst hlen
    have hL : Hid (8 * (z.types.length : Int) = z.t - z.f) := by show _ = _; omega
    obtain ⟨W0, hW0⟩ : ∃ W0, w.alloc (.cells #[.int .i64 z.f, .int .i64 z.t, .slice fo fn fc, .slice to_ tn tc] 44) = W0 := ⟨_, rfl⟩
    have HW0 : Hid _ := hW0
    rw [hW0] at I0 c0 c1 c3
    clear hW0
    have htd : ((tn : Int) == (tn : Int)) = true := by simp
    go_enter Try.func76, Try.ntmps76
    go_wp2_with (rw [HW0.out])
    clear HW0 c0 c1 c3 htd hD hq
    go_loopw [18] (fun iv wr => ∃ k : Nat, k ≤ tn ∧ iv = .int .i64 k ∧ Hid (∀ i, i < k → typeOk (z.types.getD i 0)) ∧ W0 = wr) (fun iv _ => tn - (intOf iv).toNat)
    case atStart => exact ⟨0, Nat.zero_le _, rfl, (fun i hi => absurd hi (Nat.not_lt_zero i)), rfl⟩
    case round =>
      obtain ⟨k, hk, rfl, hT, rfl⟩ := hrel
      by_cases hlt : k < tn
      · obtain ⟨b, o, x, rfl, cx, hX⟩ := I0.zn.types.at_.at k (by omega)
        by_cases hx : 0 ≤ x ∧ x ≤ 2
        · have e1 : Hid (inB x 0 2 = true) := inB_t hx
          have hT' : Hid (∀ i, i < k + 1 → typeOk (z.types.getD i 0)) := fun i hi => by
            by_cases e : i = k
            · rw [e, hX.out]; exact hx
            · exact hT.out i (by omega)
          clear hT hx
          go_wp2_with fail
          go_at_call 96
          refine (isType_any _ _).mono ?_
          rintro e w' ⟨rfl, rfl⟩
          rw [e1.out]
          go_wp2
          go_roundw
          case rel => exact ⟨k + 1, by omega, by go_num, hT', trivial⟩
          case measure => simp [intOf]; omega
        · have e1 : Hid (inB x 0 2 = false) := inB_f hx
          have HF : Hid (¬ TypesP z) := fun g => hx (by have := g.2 k (by omega); rw [hX.out] at this; exact this)
          have hbb := I0.b
          clear hT hx I0
          go_wp2_with fail
          go_at_call 96
          refine (isType_any _ _).mono ?_
          rintro e w' ⟨rfl, rfl⟩
          rw [e1.out]
          go_wp2
          go_ret
          exact ⟨⟨false, rfl, fun g => (by cases g), fun g => absurd g HF.out⟩, hbb⟩
      · have HM : Hid (TypesP z) := ⟨hL.out, fun i hi => hT.out i (by omega)⟩
        have hbb := I0.b
        clear hT I0 hL
        go_wp2
        go_ret
        exact ⟨⟨true, rfl, fun _ => HM.out, fun _ => rfl⟩, hbb⟩
  · have HF : Hid (¬ TypesP z) := fun g => hlen (by have := g.1; omega)
    have hlen' : ((tn : Int) == N) = false := by simp; omega
    go_enter Try.func76, Try.ntmps76
    go_wp2
    go_ret
    exact ⟨⟨false, rfl, fun g => (by cases g), fun g => absurd g HF.out⟩, I0.b⟩

set_option maxHeartbeats 4000000 in
theorem freeMay_any (w : World) (fo : Option Addr) (fn fc : Nat) (to_ : Option Addr) (tn tc : Nat) (z : Zn) (h : ZnAt w fo fn to_ tn z) (hN : newOk z.f z.t) :
    Calls Try.prog 77 #[.agg #[.int .i64 z.f, .int .i64 z.t, .slice fo fn fc, .slice to_ tn tc]] w fun e w' => RetIff e (FreeOk z.f z.t z.f none z.free) ∧ Below w.heap.size w w' := by
  have I0 := ckInv_first w fo fn fc to_ tn tc z h
  have c2 := I0.box.c2
  have hfl := h.free.len
  have hfr := h.free.reach
  clear h
  obtain ⟨W0, hW0⟩ : ∃ W0, w.alloc (.cells #[.int .i64 z.f, .int .i64 z.t, .slice fo fn fc, .slice to_ tn tc] 44) = W0 := ⟨_, rfl⟩
  have HW0 : Hid _ := hW0
  rw [hW0] at I0 c2
  clear hW0
  obtain ⟨n1, n2, n3, n4, n5⟩ := id hN
  go_enter Try.func77, Try.ntmps77
  go_wp2_with (rw [HW0.out])
  clear HW0 c2
  go_loopw [9] (fun iv wr => ∃ k : Nat, k ≤ fn ∧ iv = .int .i64 k ∧ Hid (FreeOk z.f z.t z.f none (z.free.take k)) ∧ CkInv w fo fn fc to_ tn tc z wr) (fun iv _ => fn - (intOf iv).toNat)
  case atStart => exact ⟨0, Nat.zero_le _, rfl, trivial, I0⟩
  case round =>
    obtain ⟨k, hk, rfl, hF, I⟩ := hrel
    clear I0
    by_cases hlt : k < fn
    · obtain ⟨bb, bf, x, y, u, rfl, x0, x1, x2, hX⟩ := I.zn.free.at_.at k (by omega)
      have htk := take_getD z.free k (by omega) hX.out
      have hbx := below_box wr (.cells #[.int .i64 x, .int .i64 y, .int .i64 u] 63)
      have I3 := I.step hbx
      have y0 : (wr.alloc (.cells #[.int .i64 x, .int .i64 y, .int .i64 u] 63)).cell? ⟨wr.heap.size, 0, none⟩ = some (.int .i64 x) := by go_simp
      have y1 : (wr.alloc (.cells #[.int .i64 x, .int .i64 y, .int .i64 u] 63)).cell? ⟨wr.heap.size, 1, none⟩ = some (.int .i64 y) := by go_simp
      have y2 : (wr.alloc (.cells #[.int .i64 x, .int .i64 y, .int .i64 u] 63)).cell? ⟨wr.heap.size, 2, none⟩ = some (.int .i64 u) := by go_simp
      have b0 := I3.box.c0
      have b1 := I3.box.c1
      have b2 := I3.box.c2
      have b3 := I3.box.c3
      go_wp2_with fail
      go_at_call 97
      refine (blkMay_any _ z.f z.t _ to_ fn fc tn tc x y hN).mono ?_
      rintro e w4 ⟨rfl, hb4⟩
      have I4 := I3.step hb4
      replace y0 := keep y0 hb4
      replace y1 := keep y1 hb4
      replace y2 := keep y2 hb4
      clear I I3 hbx b0 b1 b2 b3 x0 x1 x2 hb4
      have hbb := I4.b
      by_cases hB : blkIn z.f z.t x y
      · have hB2 := (blkB_iff z.f z.t x y).2 hB
        rw [hB2]
        clear hB2
        obtain ⟨o1, o2, o3, o4⟩ := id hB
        by_cases hU : 0 ≤ u ∧ u ≤ 2
        · have e1 : Hid (inB u 0 2 = true) := inB_t hU
          go_wp2_with fail
          go_at_call 96
          refine (isType_any _ _).mono ?_
          rintro e w' ⟨rfl, rfl⟩
          rw [e1.out]
          by_cases hk0 : k = 0
          · subst hk0
            have hF' : Hid (FreeOk z.f z.t z.f none (z.free.take (0 + 1))) := by
              show FreeOk _ _ _ _ _
              rw [htk, freeOk_snoc]
              exact ⟨hF.out, hB, hU, o2, fun p hp => by cases hp⟩
            clear hF htk
            go_wp2
            go_roundw
            case rel => exact ⟨0 + 1, by omega, by go_num, hF', I4⟩
            case measure => simp [intOf]; omega
          · obtain ⟨j, rfl⟩ : ∃ j, k = j + 1 := ⟨k - 1, by omega⟩
            obtain ⟨bb', bf', x', y', u', he, p0, p1, p2, hX'⟩ := I4.zn.free.at_.at j (by omega)
            cases he
            have hpv := freeOk_at hF.out (k := j) (by simp; omega) (b := ⟨x', y', u'⟩) (by
              have := hX'.out
              rw [List.getD_eq_getElem?_getD, List.getElem?_take, if_pos (by omega), ← List.getD_eq_getElem?_getD]
              exact this)
            obtain ⟨⟨v1, v2, v3, v4⟩, _, _, _⟩ := hpv
            dsimp only at v1 v2 v3 v4
            have htj := take_getD z.free j (by omega) hX'.out
            have hlast : lastOf none (z.free.take (j + 1)) = some ⟨x', y', u'⟩ := by rw [htj, lastOf_snoc]
            have hlow : lowOf z.f (z.free.take (j + 1)) = x' + pw y' := by rw [htj, lowOf_snoc]
            have c2 := I4.box.c2
            have hji : ((j + 1 : Nat) : Int) - 1 = (j : Int) := by omega
            have hjj : ((j + 1 : Nat) : Int) = (j : Int) + 1 := by simp
            have hj1 : (j : Int) < fn := by omega
            have hj2 : j < fn := by omega
            have hj0 : ((j : Int) + 1 == 0) = false := by simp; omega
            clear hbb
            go_wp2_with fail
            have hbx5 := below_box w4 (.cells #[.int .i64 x', .int .i64 y', .int .i64 u'] 63)
            have I5 := I4.step hbx5
            have l0 : (w4.alloc (.cells #[.int .i64 x', .int .i64 y', .int .i64 u'] 63)).cell? ⟨w4.heap.size, 0, none⟩ = some (.int .i64 x') := by go_simp
            have l1 : (w4.alloc (.cells #[.int .i64 x', .int .i64 y', .int .i64 u'] 63)).cell? ⟨w4.heap.size, 1, none⟩ = some (.int .i64 y') := by go_simp
            have l2 : (w4.alloc (.cells #[.int .i64 x', .int .i64 y', .int .i64 u'] 63)).cell? ⟨w4.heap.size, 2, none⟩ = some (.int .i64 u') := by go_simp
            replace y0 := keep y0 hbx5
            replace y1 := keep y1 hbx5
            replace y2 := keep y2 hbx5
            obtain ⟨W5, hW5⟩ : ∃ W5, w4.alloc (.cells #[.int .i64 x', .int .i64 y', .int .i64 u'] 63) = W5 := ⟨_, rfl⟩
            rw [hW5] at I5 l0 l1 l2 y0 y1 y2 ⊢
            clear hW5 hbx5 I4 c2 p0 p1 p2
            have m0 : ∀ wx, Below W5.heap.size W5 wx → wx.cell? ⟨wr.heap.size, 0, none⟩ = some (.int .i64 x) := fun wx h => keep y0 h
            have m1 : ∀ wx, Below W5.heap.size W5 wx → wx.cell? ⟨wr.heap.size, 1, none⟩ = some (.int .i64 y) := fun wx h => keep y1 h
            have m2 : ∀ wx, Below W5.heap.size W5 wx → wx.cell? ⟨wr.heap.size, 2, none⟩ = some (.int .i64 u) := fun wx h => keep y2 h
            have r0 : ∀ wx, Below W5.heap.size W5 wx → wx.cell? ⟨w4.heap.size, 0, none⟩ = some (.int .i64 x') := fun wx h => keep l0 h
            have r1 : ∀ wx, Below W5.heap.size W5 wx → wx.cell? ⟨w4.heap.size, 1, none⟩ = some (.int .i64 y') := fun wx h => keep l1 h
            have r2 : ∀ wx, Below W5.heap.size W5 wx → wx.cell? ⟨w4.heap.size, 2, none⟩ = some (.int .i64 u') := fun wx h => keep l2 h
            obtain ⟨E, hE⟩ : ∃ E, x' + pw y' = E := ⟨_, rfl⟩
            have HBeh : Hid (∀ W, Below W5.heap.size W5 W → Calls Try.prog 91 #[.agg #[.int .i64 x', .int .i64 y', .int .i64 u']] W fun e w' => e = .returned (.int .i64 E) ∧ Below W5.heap.size W5 w') := fun W hS => by
              rw [← hE]
              refine (behind_any W x' y' u' v1 (by omega) (by omega)).mono ?_
              rintro e w' ⟨rfl, hb⟩
              exact ⟨rfl, hS.trans (hb.mono hS.size)⟩
            obtain ⟨R, hR⟩ : ∃ R, areB ⟨x', y', u'⟩ ⟨x, y, u⟩ = R := ⟨_, rfl⟩
            have HAre : Hid (∀ W, Below W5.heap.size W5 W → Calls Try.prog 98 #[.agg #[.int .i64 x', .int .i64 y', .int .i64 u'], .agg #[.int .i64 x, .int .i64 y, .int .i64 u]] W fun e w' => e = .returned (.bool R) ∧ Below W5.heap.size W5 w') := fun W hS => by
              rw [← hR]
              refine (areBeside_any W ⟨x', y', u'⟩ ⟨x, y, u⟩ v1 (by dsimp only; omega) (by dsimp only; omega) v4).mono ?_
              rintro e w' ⟨rfl, hb⟩
              exact ⟨rfl, hS.trans (hb.mono hS.size)⟩
            have S0 : Below W5.heap.size W5 W5 := Below.refl _ _
            rw [hE] at hlow
            by_cases hlw : x < E
            · have HF : Hid (¬ FreeOk z.f z.t z.f none z.free) := fun g => by have := (freeOk_at g (by omega) hX.out).2.2.1; rw [hlow] at this; dsimp only at this; omega
              have hlw' : decide (x < E) = true := decide_eq_true hlw
              clear hF htk htj hX hX' hlast hlow hE hR
              go_region_with (first | (go_at_call 91; refine (HBeh.out _ ?_).mono ?_; (first | exact Below.drew S0 | assumption); rintro e w6 ⟨rfl, hS6⟩; have a0 := m0 _ hS6; have a1 := m1 _ hS6; have a2 := m2 _ hS6; have a3 := r0 _ hS6; have a4 := r1 _ hS6; have a5 := r2 _ hS6) | (go_at_call 98; refine (HAre.out _ ?_).mono ?_; (first | assumption | exact Below.drew (by assumption)); rintro e w7 ⟨rfl, hS7⟩))
              all_goals
                have hbb := I5.b.trans (hS6.mono I5.b.size)
                clear I5 HBeh HAre m0 m1 m2 r0 r1 r2 S0
                go_wp2
                go_ret
                exact ⟨⟨false, rfl, fun g => (by cases g), fun g => absurd g HF.out⟩, hbb⟩
            · have hlw' : decide (x < E) = false := decide_eq_false hlw
              cases R with
              | true =>
                have HF : Hid (¬ FreeOk z.f z.t z.f none z.free) := fun g => (freeOk_at g (by omega) hX.out).2.2.2 _ hlast ((areB_iff (by dsimp only; omega)).1 hR)
                clear hF htk htj hX hX' hlast hlow hE hR
                go_region_with (first | (go_at_call 91; refine (HBeh.out _ ?_).mono ?_; (first | exact Below.drew S0 | assumption); rintro e w6 ⟨rfl, hS6⟩; have a0 := m0 _ hS6; have a1 := m1 _ hS6; have a2 := m2 _ hS6; have a3 := r0 _ hS6; have a4 := r1 _ hS6; have a5 := r2 _ hS6) | (go_at_call 98; refine (HAre.out _ ?_).mono ?_; (first | assumption | exact Below.drew (by assumption)); rintro e w7 ⟨rfl, hS7⟩))
                all_goals
                  have hbb := I5.b.trans (hS7.mono I5.b.size)
                  clear I5 HBeh HAre m0 m1 m2 r0 r1 r2 S0
                  go_wp2
                  go_ret
                  exact ⟨⟨false, rfl, fun g => (by cases g), fun g => absurd g HF.out⟩, hbb⟩
              | false =>
                have hF' : Hid (FreeOk z.f z.t z.f none (z.free.take (j + 1 + 1))) := by
                  show FreeOk _ _ _ _ _
                  rw [htk, freeOk_snoc]
                  refine ⟨hF.out, hB, hU, by rw [hlow]; dsimp only; omega, fun p hp => ?_⟩
                  rw [hlast] at hp
                  cases hp
                  intro g
                  have := (areB_iff (by dsimp only; omega)).2 g
                  rw [hR] at this
                  cases this
                clear hF htk htj hX hX' hlast hlow hE hR
                go_region_with (first | (go_at_call 91; refine (HBeh.out _ ?_).mono ?_; (first | exact Below.drew S0 | assumption); rintro e w6 ⟨rfl, hS6⟩; have a0 := m0 _ hS6; have a1 := m1 _ hS6; have a2 := m2 _ hS6; have a3 := r0 _ hS6; have a4 := r1 _ hS6; have a5 := r2 _ hS6) | (go_at_call 98; refine (HAre.out _ ?_).mono ?_; (first | assumption | exact Below.drew (by assumption)); rintro e w7 ⟨rfl, hS7⟩))
                all_goals
                  have I7 := I5.step hS7
                  clear I5 HBeh HAre m0 m1 m2 r0 r1 r2 S0
                  go_wp2
                  go_roundw
                  case rel => exact ⟨(j + 1) + 1, by omega, by go_num, hF', I7⟩
                  case measure => simp [intOf]; omega
        · have e1 : Hid (inB u 0 2 = false) := inB_f hU
          have HF : Hid (¬ FreeOk z.f z.t z.f none z.free) := fun g => hU (freeOk_at g (by omega) hX.out).2.1
          clear hF htk
          go_wp2_with fail
          go_at_call 96
          refine (isType_any _ _).mono ?_
          rintro e w' ⟨rfl, rfl⟩
          rw [e1.out]
          go_wp2
          go_ret
          exact ⟨⟨false, rfl, fun g => (by cases g), fun g => absurd g HF.out⟩, hbb⟩
      · have hB2 : blkB z.f z.t x y = false := by
          cases hb : blkB z.f z.t x y with
          | false => rfl
          | true => exact absurd ((blkB_iff z.f z.t x y).1 hb) hB
        rw [hB2]
        have HF : Hid (¬ FreeOk z.f z.t z.f none z.free) := fun g => hB (freeOk_at g (by omega) hX.out).1
        clear hF htk
        go_wp2
        go_ret
        exact ⟨⟨false, rfl, fun g => (by cases g), fun g => absurd g HF.out⟩, hbb⟩
    · have HM : Hid (FreeOk z.f z.t z.f none z.free) := by have := hF.out; rw [List.take_of_length_le (by omega)] at this; exact this
      have hbb := I.b
      clear hF
      go_wp2
      go_ret
      exact ⟨⟨true, rfl, fun _ => HM.out, fun _ => rfl⟩, hbb⟩

theorem zMay_iff (z : Zn) : ZMay z ↔ newOk z.f z.t ∧ TypesP z ∧ FreeOk z.f z.t z.f none z.free :=
  ⟨fun h => ⟨h.new, ⟨h.len, h.ty⟩, h.free⟩, fun ⟨h1, h2, h3⟩ => ⟨h1, h2.1, h2.2, h3⟩⟩

set_option maxHeartbeats 1000000 in
theorem zCheck_any (w : World) (fo : Option Addr) (fn fc : Nat) (to_ : Option Addr) (tn tc : Nat) (z : Zn) (h : ZnAt w fo fn to_ tn z) :
    Calls Try.prog 63 #[.agg #[.int .i64 z.f, .int .i64 z.t, .slice fo fn fc, .slice to_ tn tc]] w fun e w' => (∃ c, e = .returned (.int .i64 c) ∧ (c = 0 ∧ ZMay z ∨ c = 8 ∧ ¬ ZMay z)) ∧ Below w.heap.size w w' := by
  have I0 := ckInv_first w fo fn fc to_ tn tc z h
  have c0 := I0.box.c0
  have c1 := I0.box.c1
  have c2 := I0.box.c2
  have c3 := I0.box.c3
  clear h
  by_cases hn : newOk z.f z.t
  · have HB : Hid (newB z.f z.t = true) := newB_t hn
    go_enter Try.func63, Try.ntmps63
    go_wp2_with fail
    go_at_call 74
    refine (bounds_any _ _ _).mono ?_
    rintro e w' ⟨rfl, rfl⟩
    rw [HB.out]
    go_wp2_with fail
    go_at_call 76
    refine (typesMay_any _ fo fn fc to_ tn tc z I0.zn hn).mono ?_
    rintro e w1 ⟨⟨r, rfl, hr⟩, hb1⟩
    have I1 := I0.step hb1
    clear I0 c0 c1 c2 c3 hb1
    have c0 := I1.box.c0
    have c1 := I1.box.c1
    have c2 := I1.box.c2
    have c3 := I1.box.c3
    cases r with
    | false =>
      have HF : Hid (¬ ZMay z) := fun g => by have := hr.2 ((zMay_iff z).1 g).2.1; cases this
      have hbb := I1.b
      clear hr I1 c0 c1 c2 c3
      go_wp2
      go_ret
      exact ⟨⟨8, rfl, .inr ⟨rfl, HF.out⟩⟩, hbb⟩
    | true =>
      have HT : Hid (TypesP z) := hr.1 rfl
      clear hr
      go_wp2_with fail
      go_at_call 77
      refine (freeMay_any _ fo fn fc to_ tn tc z I1.zn hn).mono ?_
      rintro e w2 ⟨⟨r, rfl, hr⟩, hb2⟩
      have hbb := (I1.step hb2).b
      clear I1 c0 c1 c2 c3 hb2
      cases r with
      | false =>
        have HF : Hid (¬ ZMay z) := fun g => by have := hr.2 ((zMay_iff z).1 g).2.2; cases this
        clear hr
        go_wp2
        go_ret
        exact ⟨⟨8, rfl, .inr ⟨rfl, HF.out⟩⟩, hbb⟩
      | true =>
        have HM : Hid (ZMay z) := (zMay_iff z).2 ⟨hn, HT.out, hr.1 rfl⟩
        clear hr
        go_wp2
        go_ret
        exact ⟨⟨0, rfl, .inl ⟨rfl, HM.out⟩⟩, hbb⟩
  · have HB : Hid (newB z.f z.t = false) := newB_f hn
    have HF : Hid (¬ ZMay z) := fun g => hn g.new
    have hbb := I0.b
    clear hn
    go_enter Try.func63, Try.ntmps63
    go_wp2_with fail
    go_at_call 74
    refine (bounds_any _ _ _).mono ?_
    rintro e w' ⟨rfl, rfl⟩
    rw [HB.out]
    clear I0 c0 c1 c2 c3
    go_wp2
    go_ret
    exact ⟨⟨8, rfl, .inr ⟨rfl, HF.out⟩⟩, hbb⟩

theorem zCheck_ok (w : World) (fo : Option Addr) (fn fc : Nat) (to_ : Option Addr) (tn tc : Nat) (z : Zn) (h : ZnAt w fo fn to_ tn z) (hM : ZMay z) :
    Calls Try.prog 63 #[.agg #[.int .i64 z.f, .int .i64 z.t, .slice fo fn fc, .slice to_ tn tc]] w fun e w' => e = .returned (.int .i64 0) ∧ Below w.heap.size w w' := by
  refine (zCheck_any w fo fn fc to_ tn tc z h).mono ?_
  rintro e w1 ⟨⟨c, rfl, hc⟩, hb⟩
  rcases hc with ⟨rfl, _⟩ | ⟨_, g⟩
  · exact ⟨rfl, hb⟩
  · exact absurd hM g

theorem zCheck_no (w : World) (fo : Option Addr) (fn fc : Nat) (to_ : Option Addr) (tn tc : Nat) (z : Zn) (h : ZnAt w fo fn to_ tn z) (_hf : ZFits z) (hM : ¬ ZMay z) :
    Calls Try.prog 63 #[.agg #[.int .i64 z.f, .int .i64 z.t, .slice fo fn fc, .slice to_ tn tc]] w fun e w' => e = .returned (.int .i64 8) ∧ Below w.heap.size w w' := by
  refine (zCheck_any w fo fn fc to_ tn tc z h).mono ?_
  rintro e w1 ⟨⟨c, rfl, hc⟩, hb⟩
  rcases hc with ⟨_, g⟩ | ⟨rfl, _⟩
  · exact absurd g hM
  · exact ⟨rfl, hb⟩

end Go.Proofs.Ytbjlbmofdnkmiaa

/-
  OWN TEXT. Contracts of the code: pages.zonesMayBe, minsMayBe, Check.
-/
namespace Go.Proofs.Ytbjlbmofdnkmiaa
open Go Go.RowKit Go.Proofs.Ytbjlbmofdnkmiaa.Kit

theorem zoneOf_hp (x : Hx) (i : Nat) : x.hp.zones.getD i ⟨0, 0, [], []⟩ = (x.zs.getD i .zero).z := by
  show (x.zs.map (·.z)).getD i _ = _
  rw [List.getD_eq_getElem?_getD, List.getD_eq_getElem?_getD, List.getElem?_map]
  cases x.zs[i]? <;> rfl
theorem listOf_hp (x : Hx) (i : Nat) : x.hp.lists.getD i .zero = (x.ls.getD i .zero).l := by
  show (x.ls.map (·.l)).getD i _ = _
  rw [List.getD_eq_getElem?_getD, List.getD_eq_getElem?_getD, List.getElem?_map]
  cases x.ls[i]? <;> rfl

set_option maxRecDepth 4000 in
set_option maxHeartbeats 4000000 in
theorem pZonesMay_any (w : World) (x : Hx) (hx : x.At w) :
    Calls Try.prog 31 #[.slice x.zo x.zn x.zc] w fun e w' => RetIff e (ZsOk x.hp) ∧ Below w.heap.size w w' := by
  have hlen : x.hp.zones.length = x.zn := by show (x.zs.map _).length = _; rw [List.length_map]; exact hx.zones.len
  have HNo : Hid (∀ e, (e = Ending.returned (.bool false)) → ¬ ZsOk x.hp → RetIff e (ZsOk x.hp)) := fun e he hn => ⟨false, he, by simp [hn]⟩
  have hZ := hx.zones
  obtain ⟨zo, hzo⟩ : ∃ zo, x.zo = zo := ⟨_, rfl⟩
  rw [hzo] at hZ ⊢
  clear hzo
  have rz := hZ.reach
  obtain ⟨zn, hzn⟩ : ∃ zn, x.zn = zn := ⟨_, rfl⟩
  rw [hzn] at hZ rz hlen ⊢
  clear hzn
  by_cases h2 : zn = 2
  · subst h2
    obtain ⟨g, off, z, fo, fn, fc, to_, tn, tc, ha, c0, c1, c2, c3, hat, hX⟩ := hZ.at 0 (by omega)
    obtain ⟨g', off', z', fo', fn', fc', to', tn', tc', ha', d0, d1, d2, d3, hat', hX'⟩ := hZ.at 1 (by omega)
    subst ha
    simp only [Option.some.injEq, Addr.mk.injEq, and_true] at ha'
    obtain ⟨rfl, rfl⟩ := ha'
    have e0 : x.hp.zones.getD 0 ⟨0, 0, [], []⟩ = z := by rw [zoneOf_hp, hX.out]
    have e1 : x.hp.zones.getD 1 ⟨0, 0, [], []⟩ = z' := by rw [zoneOf_hp, hX'.out]
    have HZ : Hid (ZsOk x.hp ↔ ZMay z ∧ ZMay z' ∧ z.f = 0 ∧ z'.f = z.t ∧ z'.t = 256) := by
      show _ ↔ _
      constructor
      · rintro ⟨_, b, c, d, e, f⟩
        rw [e0] at b d e
        rw [e1] at c e f
        exact ⟨b, c, d, e, f⟩
      · rintro ⟨b, c, d, e, f⟩
        exact ⟨hlen, by rw [e0]; exact b, by rw [e1]; exact c, by rw [e0]; exact d, by rw [e0, e1]; exact e, by rw [e1]; exact f⟩
    have HC0 := zCheck_any w fo fn fc to_ tn tc z hat
    have HC1 := fun W (hb : Below w.heap.size w W) => zCheck_any W fo' fn' fc' to' tn' tc' z' (hat'.below hb)
    have HC1' : Hid _ := HC1
    have cc0 : w.cell? ⟨g, off + 0 * 4, none⟩ = some (.int .i64 z.f) := c0
    simp only [Nat.zero_mul, Nat.add_zero, Nat.one_mul] at c0 c1 c2 c3 d0 d1 d2 d3
    clear HC1 e0 e1 hX hX' hlen hat hat' cc0
    go_enter Try.func31, Try.ntmps31
    go_wp2_with fail
    go_at_call 63
    refine HC0.mono ?_
    rintro e W1 ⟨⟨c, rfl, hc⟩, hb1⟩
    rcases hc with ⟨rfl, hM⟩ | ⟨rfl, hM⟩
    · replace d0 := keep d0 hb1
      replace d1 := keep d1 hb1
      replace d2 := keep d2 hb1
      replace d3 := keep d3 hb1
      replace c0 := keep c0 hb1
      replace c1 := keep c1 hb1
      have HC := HC1'.out W1 hb1
      clear HC0 HC1'
      go_wp2_with fail
      go_at_call 63
      refine HC.mono ?_
      rintro e W2 ⟨⟨c, rfl, hc⟩, hb2⟩
      have hB2 := hb1.trans (hb2.mono hb1.size)
      rcases hc with ⟨rfl, hM'⟩ | ⟨rfl, hM'⟩
      · replace c0 := keep c0 hb2
        replace c1 := keep c1 hb2
        replace d0 := keep d0 hb2
        replace d1 := keep d1 hb2
        have HZ2 : Hid (ZsOk x.hp ↔ z.f = 0 ∧ z'.f = z.t ∧ z'.t = 256) := by show _ ↔ _; rw [HZ.out]; exact ⟨fun h => h.2.2, fun h => ⟨hM, hM', h⟩⟩
        obtain ⟨F, hF⟩ : ∃ F, z.f = F := ⟨_, rfl⟩
        obtain ⟨T, hT⟩ : ∃ F, z.t = F := ⟨_, rfl⟩
        obtain ⟨F', hF'⟩ : ∃ F, z'.f = F := ⟨_, rfl⟩
        obtain ⟨T', hT'⟩ : ∃ F, z'.t = F := ⟨_, rfl⟩
        rw [hF, hT, hF', hT'] at HZ2
        rw [hF] at c0
        rw [hT] at c1
        rw [hF'] at d0
        rw [hT'] at d1
        clear HC d2 d3 c2 c3 hM hM' HZ
        clear hF hT hF' hT'
        go_wp2_with fail
        have fin : ∀ (r : Bool) (W : World), ((r = true) ↔ (F = 0 ∧ F' = T ∧ T' = 256)) → Below w.heap.size w W → RetIff (.returned (.bool r)) (ZsOk x.hp) ∧ Below w.heap.size w W := fun r W h hB => ⟨⟨r, rfl, by rw [HZ2.out]; exact h⟩, hB⟩
        have fin' : Hid _ := fin
        clear fin
        by_cases q1 : F = 0
        · have p1 : (F == 0) = true := by simp [q1]
          by_cases q2 : F' = T
          · have p2 : (F' == T) = true := by simp [q2]
            have H2 : Hid (F = 0 ∧ F' = T) := ⟨q1, q2⟩
            by_cases q3 : T' = 256
            · have p3 : (T' == 256) = true := by simp [q3]
              have H3 : Hid (T' = 256) := q3
              clear q1 q2 q3
              go_quiet (fail)
              go_wp2
              go_ret
              exact fin'.out _ _ ⟨fun _ => ⟨H2.out.1, H2.out.2, H3.out⟩, fun _ => by simp⟩ (hB2.trans ((below_drawn _).mono hB2.size))
            · have p3 : (T' == 256) = false := by simpa using q3
              have H3 : Hid (¬ T' = 256) := q3
              clear q1 q2 q3
              go_quiet (fail)
              go_wp2
              go_ret
              exact fin'.out _ _ ⟨fun h => by simp at h, fun h => absurd h.2.2 H3.out⟩ (hB2.trans ((below_drawn _).mono hB2.size))
          · have p2 : (F' == T) = false := by simpa using q2
            have H3 : Hid (¬ F' = T) := q2
            clear q1 q2
            go_quiet (fail)
            go_wp2
            go_ret
            exact fin'.out _ _ ⟨fun h => by simp at h, fun h => absurd h.2.1 H3.out⟩ (hB2.trans ((below_drawn _).mono hB2.size))
        · have p1 : (F == 0) = false := by simpa using q1
          have H3 : Hid (¬ F = 0) := q1
          clear q1
          go_quiet (fail)
          go_wp2
          go_ret
          exact fin'.out _ _ ⟨fun h => by simp at h, fun h => absurd h.1 H3.out⟩ (hB2.trans ((below_drawn _).mono hB2.size))
      · have hn : Hid (¬ ZsOk x.hp) := fun h => hM' (HZ.out.1 h).2.1
        clear HC HZ d0 d1 d2 d3 c0 c1 c2 c3
        go_wp2
        go_ret
        exact ⟨HNo.out _ rfl hn.out, hB2⟩
    · have hn : Hid (¬ ZsOk x.hp) := fun h => hM (HZ.out.1 h).1
      clear HC0 HC1' HZ d0 d1 d2 d3 c0 c1 c2 c3
      go_wp2
      go_ret
      exact ⟨HNo.out _ rfl hn.out, hb1⟩
  · have hn : Hid (¬ ZsOk x.hp) := fun h => h2 (by have := h.n; omega)
    obtain ⟨N, hN⟩ : ∃ N : Int, (zn : Int) = N := ⟨_, rfl⟩
    have q2 : (N == 2) = false := by simp; omega
    go_enter Try.func31, Try.ntmps31
    go_wp2
    go_ret
    exact ⟨HNo.out _ rfl hn.out, Below.refl _ _⟩

set_option maxRecDepth 4000 in
set_option maxHeartbeats 2000000 in
theorem pMinsMay_any (w : World) (x : Hx) (hx : x.At w) :
    Calls Try.prog 32 #[.slice x.mo x.mn x.mc] w fun e w' => RetIff e (MnOk x.hp) ∧ Below w.heap.size w w' := by
  have hM := hx.mins
  have HNo : Hid (∀ e, (e = Ending.returned (.bool false)) → ¬ MnOk x.hp → RetIff e (MnOk x.hp)) := fun e he hn => ⟨false, he, by simp [hn]⟩
  have hlen : x.hp.mins.length = x.mn := hM.len
  obtain ⟨mo, hmo⟩ : ∃ zo, x.mo = zo := ⟨_, rfl⟩
  rw [hmo] at hM ⊢
  clear hmo
  have rz := hM.reach
  obtain ⟨mn, hmn⟩ : ∃ zn, x.mn = zn := ⟨_, rfl⟩
  rw [hmn] at hM rz hlen ⊢
  clear hmn
  by_cases h2 : mn = 2
  · subst h2
    obtain ⟨g, off, a, ha, c0, hA⟩ := hM.at_.at 0 (by have := hM.len; omega)
    obtain ⟨g', off', b, ha', d0, hB⟩ := hM.at_.at 1 (by have := hM.len; omega)
    subst ha
    simp only [Option.some.injEq, Addr.mk.injEq, and_true] at ha'
    obtain ⟨rfl, rfl⟩ := ha'
    have HZ : Hid (MnOk x.hp ↔ (0 ≤ a ∧ a ≤ 256) ∧ (0 ≤ b ∧ b ≤ 256)) := by
      show _ ↔ _
      have e0 : x.hp.mins.getD 0 0 = a := hA.out
      have e1 : x.hp.mins.getD 1 0 = b := hB.out
      constructor
      · rintro ⟨_, p, q⟩
        rw [e0] at p
        rw [e1] at q
        exact ⟨p, q⟩
      · rintro ⟨p, q⟩
        exact ⟨hlen, by rw [e0]; exact p, by rw [e1]; exact q⟩
    have H0 := pIsMin_any w a
    have H1 := pIsMin_any w b
    simp only [Nat.add_zero] at c0
    clear hA hB hM hlen
    go_enter Try.func32, Try.ntmps32
    go_wp2_with fail
    go_at_call 21
    refine H0.mono ?_
    rintro e W1 ⟨rfl, rfl⟩
    by_cases q1 : 0 ≤ a ∧ a ≤ 256
    · rw [inB_t q1]
      go_wp2_with fail
      go_at_call 21
      refine H1.mono ?_
      rintro e W1 ⟨rfl, rfl⟩
      by_cases q2 : 0 ≤ b ∧ b ≤ 256
      · rw [inB_t q2]
        have hy : Hid (MnOk x.hp) := HZ.out.2 ⟨q1, q2⟩
        clear HZ H0 H1
        go_wp2
        go_ret
        exact ⟨⟨true, rfl, fun _ => hy.out, fun _ => rfl⟩, Below.refl _ _⟩
      · rw [inB_f q2]
        have hn : Hid (¬ MnOk x.hp) := fun h => q2 (HZ.out.1 h).2
        clear HZ H0 H1
        go_wp2
        go_ret
        exact ⟨HNo.out _ rfl hn.out, Below.refl _ _⟩
    · rw [inB_f q1]
      have hn : Hid (¬ MnOk x.hp) := fun h => q1 (HZ.out.1 h).1
      clear HZ H0 H1
      go_wp2
      go_ret
      exact ⟨HNo.out _ rfl hn.out, Below.refl _ _⟩
  · have hn : Hid (¬ MnOk x.hp) := fun h => h2 (by have := h.n; omega)
    have q2 : ((mn : Int) == 2) = false := by simp; omega
    clear h2
    go_enter Try.func32, Try.ntmps32
    go_wp2
    go_ret
    exact ⟨HNo.out _ rfl hn.out, Below.refl _ _⟩

end Go.Proofs.Ytbjlbmofdnkmiaa

/-
  OWN TEXT. Contracts of the code: pages.Check.
-/
namespace Go.Proofs.Ytbjlbmofdnkmiaa
open Go Go.RowKit Go.Proofs.Ytbjlbmofdnkmiaa.Kit

theorem lss_to {x : Hx} (hw : ∃ w, x.At w) (hz : ZsOk x.hp) (h : LssOk x.hp) : LssOkX x := by
  obtain ⟨w, hx⟩ := hw
  have e1 : x.hp.lists.length = x.ln := by show (x.ls.map _).length = _; rw [List.length_map]; exact hx.lists.len
  have e2 : x.zn = 2 := by have := hz.n; have e : x.hp.zones.length = x.zn := by show (x.zs.map _).length = _; rw [List.length_map]; exact hx.zones.len
                           omega
  refine ⟨fun i hi => ?_, fun i h0 hi => ?_⟩
  · have := h.ok i (by omega)
    rw [listOf_hp] at this
    have hc := this.c
    have hp := this.p
    rw [zoneOf_hp] at hp
    exact ⟨⟨hc.1, by have : x.hp.cpus = x.cpus := rfl; omega⟩, by have := this.z; omega, this.t, this.n, hp⟩
  · have := h.ord i h0 (by omega)
    rw [listOf_hp, listOf_hp] at this
    exact this
theorem lss_of {x : Hx} (hw : ∃ w, x.At w) (hz : ZsOk x.hp) (h : LssOkX x) : LssOk x.hp := by
  obtain ⟨w, hx⟩ := hw
  have e1 : x.hp.lists.length = x.ln := by show (x.ls.map _).length = _; rw [List.length_map]; exact hx.lists.len
  have e2 : x.zn = 2 := by have := hz.n; have e : x.hp.zones.length = x.zn := by show (x.zs.map _).length = _; rw [List.length_map]; exact hx.zones.len
                           omega
  refine ⟨fun i hi => ?_, fun i h0 hi => ?_⟩
  · have := h.ok i (by omega)
    rw [listOf_hp]
    have hc := this.c
    have hp := this.p
    exact ⟨⟨hc.1, by have : x.hp.cpus = x.cpus := rfl; omega⟩, by have := this.z; omega, this.t, this.n, by rw [zoneOf_hp]; exact hp⟩
  · have := h.ord i h0 (by omega)
    rw [listOf_hp, listOf_hp]
    exact this

theorem free_inP {z : Zn} (h : ZMay z) (i : Nat) (hi : i < z.free.length) : InP (z.free.getD i .zero) := by
  have hb := (freeOk_at h.free hi rfl).1
  obtain ⟨n1, n2, n3, n4, n5⟩ := h.new
  obtain ⟨o, b1, b2, b3⟩ := hb
  refine ⟨o, by omega, ?_⟩
  rcases ord_cases o with ⟨e, q⟩ | ⟨e, q⟩ | ⟨e, q⟩ | ⟨e, q⟩ | ⟨e, q⟩ <;> rw [q] at b3 ⊢ <;> omega
theorem two_zones {x : Hx} (hz : ZsOk x.hp) : ∀ z ∈ x.zs, z = x.zs.getD 0 .zero ∨ z = x.zs.getD 1 .zero := by
  intro z hm
  have hn : x.zs.length = 2 := by have := hz.n; have e : x.hp.zones.length = x.zs.length := by show (x.zs.map _).length = _; rw [List.length_map]
                                  omega
  obtain ⟨i, hi, rfl⟩ := List.getElem_of_mem hm
  rcases (show i = 0 ∨ i = 1 by omega) with rfl | rfl
  · left; rw [List.getD_eq_getElem?_getD, List.getElem?_eq_getElem hi]; rfl
  · right; rw [List.getD_eq_getElem?_getD, List.getElem?_eq_getElem hi]; rfl
theorem free_in {x : Hx} (hz : ZsOk x.hp) : ∀ z ∈ x.zs, ∀ i, i < z.z.free.length → InP (z.z.free.getD i .zero) := by
  intro z hm i hi
  have h0 := hz.m0
  have h1 := hz.m1
  rw [zoneOf_hp] at h0 h1
  rcases two_zones hz z hm with rfl | rfl
  · exact free_inP h0 i hi
  · exact free_inP h1 i hi
theorem page_inL {x : Hx} (hz : ZsOk x.hp) (hl : LssOk x.hp) : ∀ l ∈ x.ls, ∀ i, i < l.l.pages.length → 0 ≤ l.l.pages.getD i 0 ∧ l.l.pages.getD i 0 < 256 := by
  intro l hm i hi
  obtain ⟨k, hk, rfl⟩ := List.getElem_of_mem hm
  have h := hl.ok k (by show k < (x.ls.map _).length; rw [List.length_map]; exact hk)
  rw [listOf_hp] at h
  have e : x.ls.getD k .zero = x.ls[k] := by rw [List.getD_eq_getElem?_getD, List.getElem?_eq_getElem hk]; rfl
  rw [e] at h
  have hp := h.p i hi
  have hzz := h.z
  have h0 := hz.m0.new
  have h1 := hz.m1.new
  have f0 := hz.f0
  have f1 := hz.f1
  have t1 := hz.t1
  obtain ⟨a1, a2, a3, _, _⟩ := h0
  obtain ⟨b1, b2, b3, _, _⟩ := h1
  rcases (show x.ls[k].l.z.toNat = 0 ∨ x.ls[k].l.z.toNat = 1 by omega) with q | q
  · rw [q] at hp; omega
  · rw [q] at hp; omega
theorem live_in {l : List Bk} (h : LvsOk l) : ∀ i, i < l.length → InP (l.getD i .zero) := fun i hi => (h.ok i hi).inP

set_option maxRecDepth 4000 in
set_option maxHeartbeats 4000000 in
theorem pCheck_any (w : World) (x : Hx) (hx : x.At w) :
    Calls Try.prog 11 #[.agg #[.slice x.zo x.zn x.zc, .slice x.mo x.mn x.mc, .int .i64 x.cpus, .slice x.lo x.ln x.lc, .slice x.vo x.vn x.vc]] w fun e w' => (∃ c, e = .returned (.int .i64 c) ∧ (c = 0 ∧ HMay x.hp ∨ c = 8 ∧ ¬ HMay x.hp)) ∧ Below w.heap.size w w' := by
  have hex : ∃ w, x.At w := ⟨w, hx⟩
  have hb1 := below_box w (.cells #[.slice x.zo x.zn x.zc, .slice x.mo x.mn x.mc, .int .i64 x.cpus, .slice x.lo x.ln x.lc, .slice x.vo x.vn x.vc] 28)
  have A1 := hbox_new w (.slice x.zo x.zn x.zc) (.slice x.mo x.mn x.mc) (.int .i64 x.cpus) (.slice x.lo x.ln x.lc) (.slice x.vo x.vn x.vc) 28
  obtain ⟨W0, hW0⟩ : ∃ W0, w.alloc (.cells #[.slice x.zo x.zn x.zc, .slice x.mo x.mn x.mc, .int .i64 x.cpus, .slice x.lo x.ln x.lc, .slice x.vo x.vn x.vc] 28) = W0 := ⟨_, rfl⟩
  rw [hW0] at A1 hb1
  have HW0 : Hid _ := hW0
  clear hW0
  replace hx := hx.below hb1
  have HNo : Hid (∀ e, (e = Ending.returned (.int .i64 8)) → ¬ HMay x.hp → (∃ c, e = .returned (.int .i64 c) ∧ (c = 0 ∧ HMay x.hp ∨ c = 8 ∧ ¬ HMay x.hp))) := fun e he hn => ⟨8, he, .inr ⟨rfl, hn⟩⟩
  have HX0 := pZonesMay_any W0 x hx
  have c0 := A1.c0
  go_enter Try.func11, Try.ntmps11
  go_wp2_with (rw [HW0.out])
  clear HW0
  go_at_call 31
  refine HX0.mono ?_
  rintro e W1 ⟨⟨r, rfl, hr⟩, hb⟩
  have hB : Below w.heap.size w W1 := hb1.trans (hb.mono hb1.size)
  replace A1 := A1.below hb
  replace hx := hx.below hb
  clear hb HX0 hb1 c0
  have HR : Hid _ := hr
  clear hr
  cases r with
  | false =>
    have hn : Hid (¬ HMay x.hp) := fun h => absurd (HR.out.2 h.zs) (by simp)
    clear HR A1
    go_wp2
    go_ret
    exact ⟨HNo.out _ rfl hn.out, hB⟩
  | true =>
  have Hz : Hid (ZsOk x.hp) := HR.out.1 rfl
  clear HR
  have HX1 := pMinsMay_any W1 x hx
  have c1 := A1.c1
  go_wp2_with fail
  go_at_call 32
  refine HX1.mono ?_
  rintro e W2 ⟨⟨r, rfl, hr⟩, hb⟩
  replace hB := hB.trans (hb.mono hB.size)
  replace A1 := A1.below hb
  replace hx := hx.below hb
  clear hb HX1 c1
  have HR : Hid _ := hr
  clear hr
  cases r with
  | false =>
    have hn : Hid (¬ HMay x.hp) := fun h => absurd (HR.out.2 h.mn) (by simp)
    clear HR A1
    go_wp2
    go_ret
    exact ⟨HNo.out _ rfl hn.out, hB⟩
  | true =>
  have Hm : Hid (MnOk x.hp) := HR.out.1 rfl
  clear HR
  have HX2 := pAreCpus_any W2 x.cpus
  have c2 := A1.c2
  go_wp2_with fail
  go_at_call 22
  refine HX2.mono ?_
  rintro e W2' ⟨rfl, rfl⟩
  clear HX2 c2
  by_cases hc : 1 ≤ x.cpus ∧ x.cpus ≤ 4
  rotate_left
  · rw [inB_f hc]
    have hn : Hid (¬ HMay x.hp) := fun h => hc h.cpus
    clear A1
    go_wp2
    go_ret
    exact ⟨HNo.out _ rfl hn.out, hB⟩
  rw [inB_t hc]
  have HX3 := pListsMay_any W2 x hx
  have c0 := A1.c0
  have c1 := A1.c1
  have c2 := A1.c2
  have c3 := A1.c3
  have c4 := A1.c4
  go_wp2_with fail
  go_at_call 33
  refine HX3.mono ?_
  rintro e W3 ⟨⟨r, rfl, hr⟩, hb⟩
  replace hB := hB.trans (hb.mono hB.size)
  replace A1 := A1.below hb
  replace hx := hx.below hb
  clear hb HX3 c0 c1 c2 c3 c4
  have HR : Hid _ := hr
  clear hr
  cases r with
  | false =>
    have hn : Hid (¬ HMay x.hp) := fun h => absurd (HR.out.2 (lss_to hex h.zs h.ls)) (by simp)
    clear HR A1
    go_wp2
    go_ret
    exact ⟨HNo.out _ rfl hn.out, hB⟩
  | true =>
  have Hl : Hid (LssOk x.hp) := lss_of hex Hz.out (HR.out.1 rfl)
  clear HR
  have HX4 := pLiveMay_any W3 x.vo x.vn x.vc x.live hx.live
  have c4 := A1.c4
  go_wp2_with fail
  go_at_call 34
  refine HX4.mono ?_
  rintro e W4 ⟨⟨r, rfl, hr⟩, hb⟩
  replace hB := hB.trans (hb.mono hB.size)
  replace A1 := A1.below hb
  replace hx := hx.below hb
  clear hb HX4 c4
  have HR : Hid _ := hr
  clear hr
  cases r with
  | false =>
    have hn : Hid (¬ HMay x.hp) := fun h => absurd (HR.out.2 h.lv) (by simp)
    clear HR A1
    go_wp2
    go_ret
    exact ⟨HNo.out _ rfl hn.out, hB⟩
  | true =>
  have Hv : Hid (LvsOk x.live) := HR.out.1 rfl
  clear HR
  have HX5 := pApart_any W4 x hx (free_in Hz.out) (page_inL Hz.out Hl.out) (live_in Hv.out)
  have c0 := A1.c0
  have c1 := A1.c1
  have c2 := A1.c2
  have c3 := A1.c3
  have c4 := A1.c4
  go_wp2_with fail
  go_at_call 35
  refine HX5.mono ?_
  rintro e W5 ⟨⟨r, rfl, hr⟩, hb⟩
  replace hB := hB.trans (hb.mono hB.size)
  clear hb HX5 c0 c1 c2 c3 c4 A1
  have HR : Hid _ := hr
  clear hr
  cases r with
  | false =>
    have hn : Hid (¬ HMay x.hp) := fun h => absurd (HR.out.2 h.apart) (by simp)
    clear HR
    go_wp2
    go_ret
    exact ⟨HNo.out _ rfl hn.out, hB⟩
  | true =>
    have hy : Hid (HMay x.hp) := ⟨Hz.out, Hm.out, hc, Hl.out, Hv.out, HR.out.1 rfl⟩
    clear HR
    go_wp2
    go_ret
    exact ⟨⟨0, rfl, .inl ⟨rfl, hy.out⟩⟩, hB⟩

end Go.Proofs.Ytbjlbmofdnkmiaa

/-
  OWN TEXT. The zone that a page is in: pages.zoneOf and the document's zoneAt (written by sxd.py).
-/
namespace Go.Proofs.Ytbjlbmofdnkmiaa
open Go Go.RowKit Go.Proofs.Ytbjlbmofdnkmiaa.Kit

/-- The place of the zone that a page is in. -/
def zIdx (H : Hp) (p : Int) : Nat := if p < (H.zones.getD 0 ⟨0, 0, [], []⟩).t then 0 else 1
theorem zIdx_lt (H : Hp) (p : Int) : zIdx H p < 2 := by unfold zIdx; split <;> omega

set_option maxRecDepth 10000 in
set_option maxHeartbeats 4000000 in
theorem pZoneOf_c (w : World) (x : Hx) (p : Int) (hx : x.At w) (hz : x.zn = 2) :
    Calls Try.prog 83 #[.agg #[.slice x.zo x.zn x.zc, .slice x.mo x.mn x.mc, .int .i64 x.cpus, .slice x.lo x.ln x.lc, .slice x.vo x.vn x.vc], .int .i64 p] w fun e w' => e = .returned (.int .i64 (zIdx x.hp p : Nat)) ∧ Below w.heap.size w w' := by
  have B0 := Below.refl w.heap.size w
  refine sx_enter (args := [_, _]) 12 Try.func83 rfl rfl rfl ?_
  intro A f
  refine wp_seq ?_
  refine sx_list ?_
  refine l_box f rfl rfl rfl rfl rfl ?_; clear f A; intro b1 W2 eb1 hb3 rb1 A f; dsimp only [Value.cells] at rb1
  have z_B0_b1 := B0.size; rw [eb1] at z_B0_b1
  replace B0 := Below.next B0 hb3
  refine l_do f rfl rfl rfl (y_assign rfl rfl) ?_; clear f A; intro A f
  refine wpList_nil ?_
  refine x_tn ?_
  refine wp_seq ?_
  refine wp_seq ?_
  refine sx_list ?_
  refine l_do f rfl rfl rfl (y_move rfl rfl) ?_; clear f A; intro A f
  refine l_do f rfl rfl rfl (y_field rfl rfl (fo rfl)) ?_; clear f A; intro A f
  refine l_do f rfl rfl rfl (y_load1 rfl rfl (ag rfl) (rowl (rowq rb1) rfl)) ?_; clear f A; intro A f
  obtain ⟨g0, o0, z0, fo0, fn0, fc0, to0, tn0, tc0, ha0, c00, c10, c20, c30, hat0, hX0⟩ := hx.zones.at (0) (by omega)
  replace c00 := St.of c00; replace c10 := St.of c10; replace c20 := St.of c20; replace c30 := St.of c30
  refine l_do f rfl rfl rfl (y_index (k := 0) rfl rfl (by first | rfl | assumption) rfl (es rfl) (by omega)) ?_; clear f A; intro A f
  refine l_do f rfl rfl rfl (y_field rfl rfl (fo rfl)) ?_; clear f A; intro A f
  refine l_do f rfl rfl rfl (y_load1 rfl rfl (ag rfl) (by first | assumption | exact St.q c00 B0 | exact St.q c10 B0 | exact St.q c20 B0 | exact St.q c30 B0)) ?_; clear f A; intro A f
  refine l_if _ f rfl rfl rfl (y_lss rfl rfl rfl) ?_ ?_
  · clear f A; intro c4 A f
    refine wpList_nil ?_
    refine x_tn ?_
    refine x_condT f rfl ?_
    refine wp_seq ?_
    refine sx_list ?_
    refine l_do f rfl rfl rfl (y_assign rfl rfl) ?_; clear f A; intro A f
    refine wpList_nil ?_
    refine x_tn ?_
    refine wp_ret ?_
    refine x_tr ?_
    refine x_ret1 f rfl rfl ?_
    -- return 0: c4@11
    have hi : zIdx x.hp p = 0 := by
      unfold zIdx
      rw [zoneOf_hp]
      exact if_pos (by rw [hX0.out]; dsimp only; omega)
    exact ⟨by rw [hi]; rfl, B0⟩
  · clear f A; intro c4 A f
    refine wpList_nil ?_
    refine x_tn ?_
    refine x_condF f rfl ?_
    refine wp_skip ?_
    refine x_tn ?_
    refine wp_seq ?_
    refine sx_list ?_
    refine l_do f rfl rfl rfl (y_assign rfl rfl) ?_; clear f A; intro A f
    refine wpList_nil ?_
    refine x_tn ?_
    refine wp_ret ?_
    refine x_ret1 f rfl rfl ?_
    -- return 1: ¬c4@11
    have hi : zIdx x.hp p = 1 := by
      unfold zIdx
      rw [zoneOf_hp]
      exact if_neg (by rw [hX0.out]; dsimp only; omega)
    exact ⟨by rw [hi]; rfl, B0⟩

set_option maxRecDepth 10000 in
set_option maxHeartbeats 4000000 in
theorem zoneAt_c (w : World) (x : Hx) (p : Int) (hx : x.At w) (hz : x.zn = 2) (h1 : (x.zs.getD 1 .zero).z.f = (x.zs.getD 0 .zero).z.t) :
    Calls Try.prog 52 #[.agg #[.slice x.zo x.zn x.zc, .slice x.mo x.mn x.mc, .int .i64 x.cpus, .slice x.lo x.ln x.lc, .slice x.vo x.vn x.vc], .int .i64 p] w fun e w' => e = .returned (.int .i64 (zIdx x.hp p : Nat)) ∧ Below w.heap.size w w' := by
  have B0 := Below.refl w.heap.size w
  refine sx_enter (args := [_, _]) 12 Try.func52 rfl rfl rfl ?_
  intro A f
  refine wp_seq ?_
  refine sx_list ?_
  refine l_box f rfl rfl rfl rfl rfl ?_; clear f A; intro b1 W2 eb1 hb3 rb1 A f; dsimp only [Value.cells] at rb1
  have z_B0_b1 := B0.size; rw [eb1] at z_B0_b1
  replace B0 := Below.next B0 hb3
  refine l_do f rfl rfl rfl (y_assign rfl rfl) ?_; clear f A; intro A f
  refine wpList_nil ?_
  refine x_tn ?_
  refine wp_seq ?_
  refine wp_seq ?_
  refine sx_list ?_
  refine l_do f rfl rfl rfl (y_move rfl rfl) ?_; clear f A; intro A f
  refine l_do f rfl rfl rfl (y_field rfl rfl (fo rfl)) ?_; clear f A; intro A f
  refine l_do f rfl rfl rfl (y_load1 rfl rfl (ag rfl) (rowl (rowq rb1) rfl)) ?_; clear f A; intro A f
  obtain ⟨g0, o0, z0, fo0, fn0, fc0, to0, tn0, tc0, ha0, c00, c10, c20, c30, hat0, hX0⟩ := hx.zones.at (1) (by omega)
  replace c00 := St.of c00; replace c10 := St.of c10; replace c20 := St.of c20; replace c30 := St.of c30
  refine l_do f rfl rfl rfl (y_index (k := 1) rfl rfl (by first | rfl | assumption) rfl (es rfl) (by omega)) ?_; clear f A; intro A f
  refine l_do f rfl rfl rfl (y_field rfl rfl (fo rfl)) ?_; clear f A; intro A f
  refine l_do f rfl rfl rfl (y_load1 rfl rfl (ag rfl) (by first | assumption | exact St.q c00 B0 | exact St.q c10 B0 | exact St.q c20 B0 | exact St.q c30 B0)) ?_; clear f A; intro A f
  refine l_if _ f rfl rfl rfl (y_geq rfl rfl rfl) ?_ ?_
  · clear f A; intro c4 A f
    refine wpList_nil ?_
    refine x_tn ?_
    refine x_condT f rfl ?_
    refine wp_seq ?_
    refine sx_list ?_
    refine l_do f rfl rfl rfl (y_assign rfl rfl) ?_; clear f A; intro A f
    refine wpList_nil ?_
    refine x_tn ?_
    refine wp_ret ?_
    refine x_tr ?_
    refine x_ret1 f rfl rfl ?_
    -- return 0: c4@11
    have hi : zIdx x.hp p = 1 := by
      unfold zIdx
      rw [zoneOf_hp]
      exact if_neg (by rw [← h1, hX0.out]; dsimp only; omega)
    exact ⟨by rw [hi]; rfl, B0⟩
  · clear f A; intro c4 A f
    refine wpList_nil ?_
    refine x_tn ?_
    refine x_condF f rfl ?_
    refine wp_skip ?_
    refine x_tn ?_
    refine wp_seq ?_
    refine sx_list ?_
    refine l_do f rfl rfl rfl (y_assign rfl rfl) ?_; clear f A; intro A f
    refine wpList_nil ?_
    refine x_tn ?_
    refine wp_ret ?_
    refine x_ret1 f rfl rfl ?_
    -- return 1: ¬c4@11
    have hi : zIdx x.hp p = 0 := by
      unfold zIdx
      rw [zoneOf_hp]
      exact if_pos (by rw [← h1, hX0.out]; dsimp only; omega)
    exact ⟨by rw [hi]; rfl, B0⟩

end Go.Proofs.Ytbjlbmofdnkmiaa

/-
  OWN TEXT. A zone that may be stays one when a block comes back: plain mathematics.
-/
namespace Go.Proofs.Ytbjlbmofdnkmiaa.Kit

/-- The first one ends ahead of the second one, and they are not beside each other. -/
def Ahead (p q : Bk) : Prop := p.a + pw p.o ≤ q.a ∧ ¬ besideP p q
/-- Each of them may be in the zone. -/
def AllIn (f t : Int) (l : List Bk) : Prop := ∀ b ∈ l, blkIn f t b.a b.o ∧ typeOk b.t

theorem freeOk_pw {f t lo : Int} {pv : Option Bk} {l : List Bk} (h : FreeOk f t lo pv l) : AllIn f t l ∧ (∀ b ∈ l, lo ≤ b.a) ∧ l.Pairwise Ahead := by
  induction l generalizing lo pv with
  | nil => exact ⟨fun b hb => by simp at hb, fun b hb => by simp at hb, List.Pairwise.nil⟩
  | cons b l ih =>
    obtain ⟨h1, h2, h3, _, h5⟩ := h
    obtain ⟨i1, i2, i3⟩ := ih h5
    have hp := pw_pos b.o
    refine ⟨fun x hx => ?_, fun x hx => ?_, List.Pairwise.cons (fun x hx => ⟨i2 x hx, ?_⟩) i3⟩
    · rcases List.mem_cons.1 hx with rfl | hx
      · exact ⟨h1, h2⟩
      · exact i1 x hx
    · rcases List.mem_cons.1 hx with rfl | hx
      · exact h3
      · have := i2 x hx; omega
    · cases l with
      | nil => simp at hx
      | cons c l =>
        obtain ⟨_, _, k3, k4, _⟩ := h5
        rcases List.mem_cons.1 hx with rfl | hx
        · exact k4 b rfl
        · have := (List.pairwise_cons.1 i3).1 x hx
          rintro ⟨_, e2, e3, _⟩
          have := this.1
          have hc := pw_pos c.o
          rw [← e2] at e3
          omega

theorem freeOk_of {f t lo : Int} {pv : Option Bk} {l : List Bk} (h1 : AllIn f t l) (h2 : ∀ b ∈ l, lo ≤ b.a) (h3 : l.Pairwise Ahead) (h4 : ∀ p, pv = some p → ∀ b ∈ l, ¬ besideP p b) : FreeOk f t lo pv l := by
  induction l generalizing lo pv with
  | nil => trivial
  | cons b l ih =>
    have hb := h1 b (by simp)
    have hp := List.pairwise_cons.1 h3
    exact ⟨hb.1, hb.2, h2 b (by simp), fun p e => h4 p e b (by simp), ih (fun x hx => h1 x (by simp [hx])) (fun x hx => (hp.1 x hx).1) hp.2 (fun p e x hx => by cases e; exact (hp.1 x hx).2)⟩

theorem free_iff {f t : Int} {l : List Bk} : FreeOk f t f none l ↔ AllIn f t l ∧ l.Pairwise Ahead :=
  ⟨fun h => ⟨(freeOk_pw h).1, (freeOk_pw h).2.2⟩, fun ⟨h1, h2⟩ => freeOk_of h1 (fun b hb => (h1 b hb).1.2.1) h2 (fun p e => by cases e)⟩

/-- It has no page in common with any of them. -/
def NoOv (l : List Bk) (a o : Int) : Prop := ∀ b ∈ l, b.a + pw b.o ≤ a ∨ a + pw o ≤ b.a
theorem noOv_of {l : List Bk} {a o : Int} (h : ¬ ovlP l a o) : NoOv l a o := by
  intro b hb
  obtain ⟨i, hi, rfl⟩ := List.getElem_of_mem hb
  by_cases h1 : l[i].a + pw l[i].o ≤ a
  · exact .inl h1
  · by_cases h2 : a + pw o ≤ l[i].a
    · exact .inr h2
    · exact absurd ⟨i, hi, by rw [List.getD_eq_getElem?_getD, List.getElem?_eq_getElem hi]; exact ⟨by simp only [Option.getD_some]; omega, by simp only [Option.getD_some]; omega⟩⟩ h

theorem ahead_or {l : List Bk} (h : l.Pairwise Ahead) {p q : Bk} (hp : p ∈ l) (hq : q ∈ l) (hne : ¬ (p.a = q.a ∧ p.o = q.o)) : Ahead p q ∨ Ahead q p := by
  obtain ⟨i, hi, rfl⟩ := List.getElem_of_mem hp
  obtain ⟨j, hj, rfl⟩ := List.getElem_of_mem hq
  rw [List.pairwise_iff_getElem] at h
  by_cases e : i < j
  · exact .inl (h i j hi hj e)
  · by_cases g : j < i
    · exact .inr (h j i hj hi g)
    · obtain rfl : i = j := by omega
      exact absurd ⟨rfl, rfl⟩ hne

theorem beside_cases {a o : Int} (h0 : 0 ≤ o) (h4 : o < 4) (hm : a % pw o = 0) : pw (o + 1) = 2 * pw o ∧ ((a % pw (o + 1) = 0 ∧ besideA a o = a + pw o) ∨ (¬ a % pw (o + 1) = 0 ∧ besideA a o = a - pw o ∧ a % pw (o + 1) = pw o)) := by
  rcases (show o = 0 ∨ o = 1 ∨ o = 2 ∨ o = 3 by omega) with rfl | rfl | rfl | rfl
  all_goals
    unfold besideA
    simp only [pw_0, pw_1, pw_2, pw_3, pw_4, show (0 : Int) + 1 = 1 from rfl, show (1 : Int) + 1 = 2 from rfl, show (2 : Int) + 1 = 3 from rfl, show (3 : Int) + 1 = 4 from rfl] at hm ⊢
    refine ⟨by omega, ?_⟩
    split
    · exact .inl ⟨by assumption, rfl⟩
    · exact .inr ⟨by assumption, rfl, by omega⟩

/-- What holds of a block that comes back, while it is joined. -/
structure GoI (f t : Int) (l : List Bk) (a o : Int) : Prop where
  all : AllIn f t l
  pw : l.Pairwise Ahead
  blk : blkIn f t a o
  no : NoOv l a o

theorem go_step {f t : Int} {l : List Bk} {a o : Int} (h : GoI f t l a o) (ho : o < 4) (hb : hasB l (besideA a o) o = true) : GoI f t (dropB l (besideA a o) o) (if besideA a o < a then besideA a o else a) (o + 1) := by
  obtain ⟨⟨o0, o4⟩, a1, a2, a3⟩ := h.blk
  have hbi : blkIn f t (besideA a o) o := hasB_in hb (fun b hb => (h.all b hb).1)
  refine ⟨fun b hb => h.all b (dropB_mem hb), List.Pairwise.filter _ h.pw, join_in h.blk hbi ho, fun b hb' => ?_⟩
  have hbl := dropB_mem hb'
  have hnb : isB (besideA a o) o b = false := by
    have := (List.mem_filter.1 hb').2
    simpa using this
  have hno := h.no b hbl
  unfold hasB at hb
  rw [List.any_eq_true] at hb
  obtain ⟨x, hx, hxi⟩ := hb
  obtain ⟨x1, x2⟩ := of_decide_eq_true hxi
  have hor := ahead_or h.pw hbl hx (by rw [x1, x2]; exact of_decide_eq_false hnb)
  have hp := pw_pos b.o
  have hpo := pw_pos o
  obtain ⟨e2, hc⟩ := beside_cases o0 ho a3
  rw [e2]
  unfold Ahead at hor
  rw [x1, x2] at hor
  rcases hc with ⟨_, hc⟩ | ⟨_, hc, _⟩
  · rw [hc] at hor ⊢
    rw [if_neg (by omega)]
    rcases hor with ⟨g, _⟩ | ⟨g, _⟩ <;> omega
  · rw [hc] at hor ⊢
    rw [if_pos (by omega)]
    rcases hor with ⟨g, _⟩ | ⟨g, _⟩ <;> omega

/-- What holds when it is joined. -/
theorem go_all {f t : Int} : ∀ (n : Nat) (l : List Bk) (a o : Int), (4 - o).toNat = n → GoI f t l a o →
    GoI f t (backGo n l a o).1 (backGo n l a o).2.1 (backGo n l a o).2.2 ∧ ((backGo n l a o).2.2 = 4 ∨ hasB (backGo n l a o).1 (besideA (backGo n l a o).2.1 (backGo n l a o).2.2) (backGo n l a o).2.2 = false) := by
  intro n
  induction n with
  | zero =>
    intro l a o hn h
    have := h.blk.1.2
    exact ⟨h, .inl (by show o = 4; omega)⟩
  | succ n ih =>
    intro l a o hn h
    unfold backGo
    by_cases hb : hasB l (besideA a o) o = true
    · rw [if_pos hb]
      exact ih _ _ _ (by omega) (go_step h (by omega) hb)
    · rw [if_neg hb]
      exact ⟨h, .inr (by simpa using hb)⟩

theorem mem_addB {l : List Bk} {b x : Bk} : x ∈ addB l b ↔ x = b ∨ x ∈ l := by
  induction l with
  | nil => simp [addB]
  | cons y l ih =>
    unfold addB
    split
    · simp
    · simp only [List.mem_cons, ih]
      constructor
      · rintro (h | h | h)
        · exact .inr (.inl h)
        · exact .inl h
        · exact .inr (.inr h)
      · rintro (h | h | h)
        · exact .inr (.inl h)
        · exact .inl h
        · exact .inr (.inr h)

theorem addB_pw {l : List Bk} {b : Bk} (h : l.Pairwise Ahead) (hno : NoOv l b.a b.o) (h1 : ∀ x ∈ l, ¬ besideP x b) (h2 : ∀ x ∈ l, ¬ besideP b x) : (addB l b).Pairwise Ahead := by
  have hp := pw_pos b.o
  induction l with
  | nil => exact List.pairwise_singleton _ _
  | cons x l ih =>
    have hx := List.pairwise_cons.1 h
    have hpx := pw_pos x.o
    have hnx := hno x (by simp)
    unfold addB
    split
    · rename_i hg
      refine List.Pairwise.cons (fun y hy => ⟨?_, h2 y hy⟩) h
      have hny := hno y hy
      rcases List.mem_cons.1 hy with rfl | hy'
      · omega
      · have := (hx.1 y hy').1
        have hpy := pw_pos y.o
        omega
    · rename_i hg
      refine List.Pairwise.cons (fun y hy => ?_) (ih hx.2 (fun y hy => hno y (by simp [hy])) (fun y hy => h1 y (by simp [hy])) (fun y hy => h2 y (by simp [hy])))
      rcases mem_addB.1 hy with rfl | hy
      · exact ⟨by omega, h1 x (by simp)⟩
      · exact hx.1 y hy

/-- A ZONE THAT MAY BE stays one when a block comes back. -/
theorem backZ_may {z : Zn} {a o : Int} (h : ZMay z) (hA : blkIn z.f z.t a o) (hv : ¬ ovlP z.free a o) : ZMay (backZ z a o) := by
  obtain ⟨q1, q2⟩ := free_iff.1 h.free
  obtain ⟨G, hl⟩ := go_all (f := z.f) (t := z.t) (4 - o).toNat z.free a o rfl ⟨q1, q2, hA, noOv_of hv⟩
  obtain ⟨R, hR⟩ : ∃ R, backGo (4 - o).toNat z.free a o = R := ⟨_, rfl⟩
  have hz : backZ z a o = ⟨z.f, z.t, addB R.1 ⟨R.2.1, R.2.2, z.types.getD ((R.2.1 - z.f) / 8).toNat 0⟩, z.types⟩ := by unfold backZ; rw [hR]
  rw [hR] at G hl
  obtain ⟨⟨o0, o4⟩, a1, a2, a3⟩ := G.blk
  have hlen := h.len
  have hty : typeOk (z.types.getD ((R.2.1 - z.f) / 8).toNat 0) := h.ty _ (by omega)
  rw [hz]
  refine ⟨h.new, h.len, h.ty, free_iff.2 ⟨fun b hb => ?_, addB_pw G.pw G.no (fun x hx => ?_) (fun x hx => ?_)⟩⟩
  · rcases mem_addB.1 hb with rfl | hb
    · exact ⟨G.blk, hty⟩
    · exact G.all b hb
  · rintro ⟨b1, b2, b3, b4⟩
    dsimp only at b1 b2 b3 b4
    obtain ⟨_, hc⟩ := beside_cases o0 b1 a3
    have hh : besideA R.2.1 R.2.2 = x.a := by
      rcases hc with ⟨g, _⟩ | ⟨_, g, _⟩
      · exfalso
        rw [← b3] at g
        rcases (show R.2.2 = 0 ∨ R.2.2 = 1 ∨ R.2.2 = 2 ∨ R.2.2 = 3 by omega) with e | e | e | e
        all_goals
          rw [e] at g b4
          simp only [pw_0, pw_1, pw_2, pw_3, pw_4, show (0 : Int) + 1 = 1 from rfl, show (1 : Int) + 1 = 2 from rfl, show (2 : Int) + 1 = 3 from rfl, show (3 : Int) + 1 = 4 from rfl] at g b4
          omega
      · omega
    rcases hl with g | g
    · omega
    · rw [hh] at g
      unfold hasB at g
      rw [List.any_eq_false] at g
      exact g x hx (decide_eq_true ⟨rfl, b2⟩)
  · rintro ⟨b1, b2, b3, b4⟩
    dsimp only at b1 b2 b3 b4
    rw [← b2] at b1 b3 b4
    have hh : besideA R.2.1 R.2.2 = x.a := by unfold besideA; rw [if_pos b4]; exact b3
    rcases hl with g | g
    · omega
    · rw [hh] at g
      unfold hasB at g
      rw [List.any_eq_false] at g
      exact g x hx (decide_eq_true ⟨rfl, b2.symm⟩)

end Go.Proofs.Ytbjlbmofdnkmiaa.Kit
