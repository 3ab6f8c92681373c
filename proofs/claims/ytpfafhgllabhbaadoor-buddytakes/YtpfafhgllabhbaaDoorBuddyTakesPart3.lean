/-
  OWN TEXTS, bundled: ZcCheck, CopyK, ZcCopy, BIdx, ZChP.
-/
import Derived.Test.YtpfafhgllabhbaaDoorBuddyTakesPart2
import Derived.Deep.RegionHeld3
import Derived.Deep.RegionWith
import Derived.Test.YtpfafhgllabhbaaDoorBuddyTakesPart1
import Derived.Laws.CopyOwn
import Derived.Laws.AppendOwn
import Derived.Laws.MakeOwn

/-
  OWN TEXT. Contracts of the code: buddy.typesMayBe, buddy.freeMayBe, buddy.Check.
-/
namespace Go.Proofs.YtpfafhgllabhbaaDoor
open Go Go.RowKit Go.Proofs.YtpfafhgllabhbaaDoor.Kit

/-- What a function knows of the zone that it was handed: its box, its lists. -/
structure CkInv (w : World) (fo : Option Addr) (fn fc : Nat) (to_ : Option Addr) (tn tc : Nat) (z : Zn) (W : World) : Prop where
  b : Below w.heap.size w W
  box : ZBox W w.heap.size (.int .i64 z.f) (.int .i64 z.t) (.slice fo fn fc) (.slice to_ tn tc)
  zn : ZnAt W fo fn to_ tn z

theorem CkInv.step {w : World} {fo : Option Addr} {fn fc : Nat} {to_ : Option Addr} {tn tc : Nat} {z : Zn} {W W' : World} (h : CkInv w fo fn fc to_ tn tc z W) (hb : Below W.heap.size W W') : CkInv w fo fn fc to_ tn tc z W' :=
  ⟨h.b.trans (hb.mono h.b.size), h.box.below hb, h.zn.below hb⟩
theorem ckInv_first (w : World) (fo : Option Addr) (fn fc : Nat) (to_ : Option Addr) (tn tc : Nat) (z : Zn) (h : ZnAt w fo fn to_ tn z) : CkInv w fo fn fc to_ tn tc z (w.alloc (.cells #[.int .i64 z.f, .int .i64 z.t, .slice fo fn fc, .slice to_ tn tc] 25)) :=
  ⟨below_box _ _, zbox_new _ _ _ _ _ _, h.below (below_box _ _)⟩

/-- One of its types for each group. -/
def TypesP (z : Zn) : Prop := 8 * (z.types.length : Int) = z.t - z.f ∧ ∀ i, i < z.types.length → typeOk (z.types.getD i 0)

set_option maxHeartbeats 2000000 in
theorem typesMay_any (w : World) (fo : Option Addr) (fn fc : Nat) (to_ : Option Addr) (tn tc : Nat) (z : Zn) (h : ZnAt w fo fn to_ tn z) (hN : newOk z.f z.t) :
    Calls Tryd.prog 35 #[.agg #[.int .i64 z.f, .int .i64 z.t, .slice fo fn fc, .slice to_ tn tc]] w fun e w' => RetIff e (TypesP z) ∧ Below w.heap.size w w' := by
  have I0 := ckInv_first w fo fn fc to_ tn tc z h
  obtain ⟨n1, n2, n3, n4, n5⟩ := hN
  have c0 := I0.box.c0
  have c1 := I0.box.c1
  have c3 := I0.box.c3
  have htl := h.types.len
  have hrc := h.types.reach
  obtain ⟨D, hD⟩ : ∃ D : Nat, z.t - z.f = (D : Int) := ⟨(z.t - z.f).toNat, by omega⟩
  obtain ⟨N, hq⟩ : ∃ N : Nat, (D : Int) / 8 = (N : Int) := ⟨D / 8, by omega⟩
  clear h
  by_cases hlen : tn = N
  · subst hlen
    have hL : Hid (8 * (z.types.length : Int) = z.t - z.f) := by show _ = _; omega
    obtain ⟨W0, hW0⟩ : ∃ W0, w.alloc (.cells #[.int .i64 z.f, .int .i64 z.t, .slice fo fn fc, .slice to_ tn tc] 25) = W0 := ⟨_, rfl⟩
    have HW0 : Hid _ := hW0
    rw [hW0] at I0 c0 c1 c3
    clear hW0
    have htd : ((tn : Int) == (tn : Int)) = true := by simp
    go_enter Tryd.func35, Tryd.ntmps35
    go_wp2_with (rw [HW0.out])
    clear HW0 c0 c1 c3 htd hD hq
    go_loopw [18] (fun iv wr => ∃ k : Nat, k ≤ tn ∧ iv = .int .i64 k ∧ Hid (∀ i, i < k → typeOk (z.types.getD i 0)) ∧ W0 = wr) (fun iv _ => tn - (intOf iv).toNat)
    case atStart => exact ⟨0, Nat.zero_le _, rfl, (fun i hi => absurd hi (Nat.not_lt_zero i)), rfl⟩
    case round =>
      obtain ⟨k, hk, rfl, hT, rfl⟩ := hrel
      by_cases hlt : k < tn
      · obtain ⟨b, o, x, rfl, cx, hX⟩ := I0.zn.types.at_.at k (by omega)
        by_cases hx : 0 ≤ x ∧ x ≤ 2
        · have e1 : Hid (inB x 0 2 = true) := inB_t hx
          have hT' : Hid (∀ i, i < k + 1 → typeOk (z.types.getD i 0)) := fun i hi => by
            by_cases e : i = k
            · rw [e, hX.out]; exact hx
            · exact hT.out i (by omega)
          clear hT hx
          go_wp2_with fail
          go_at_call 15
          refine (isType_any _ _).mono ?_
          rintro e w' ⟨rfl, rfl⟩
          rw [e1.out]
          go_wp2
          go_roundw
          case rel => exact ⟨k + 1, by omega, by go_num, hT', trivial⟩
          case measure => simp [intOf]; omega
        · have e1 : Hid (inB x 0 2 = false) := inB_f hx
          have HF : Hid (¬ TypesP z) := fun g => hx (by have := g.2 k (by omega); rw [hX.out] at this; exact this)
          have hbb := I0.b
          clear hT hx I0
          go_wp2_with fail
          go_at_call 15
          refine (isType_any _ _).mono ?_
          rintro e w' ⟨rfl, rfl⟩
          rw [e1.out]
          go_wp2
          go_ret
          exact ⟨⟨false, rfl, fun g => (by cases g), fun g => absurd g HF.out⟩, hbb⟩
      · have HM : Hid (TypesP z) := ⟨hL.out, fun i hi => hT.out i (by omega)⟩
        have hbb := I0.b
        clear hT I0 hL
        go_wp2
        go_ret
        exact ⟨⟨true, rfl, fun _ => HM.out, fun _ => rfl⟩, hbb⟩
  · have HF : Hid (¬ TypesP z) := fun g => hlen (by have := g.1; omega)
    have hlen' : ((tn : Int) == N) = false := by simp; omega
    go_enter Tryd.func35, Tryd.ntmps35
    go_wp2
    go_ret
    exact ⟨⟨false, rfl, fun g => (by cases g), fun g => absurd g HF.out⟩, I0.b⟩

set_option maxHeartbeats 4000000 in
theorem freeMay_any (w : World) (fo : Option Addr) (fn fc : Nat) (to_ : Option Addr) (tn tc : Nat) (z : Zn) (h : ZnAt w fo fn to_ tn z) (hN : newOk z.f z.t) :
    Calls Tryd.prog 36 #[.agg #[.int .i64 z.f, .int .i64 z.t, .slice fo fn fc, .slice to_ tn tc]] w fun e w' => RetIff e (FreeOk z.f z.t z.f none z.free) ∧ Below w.heap.size w w' := by
  have I0 := ckInv_first w fo fn fc to_ tn tc z h
  have c2 := I0.box.c2
  have hfl := h.free.len
  have hfr := h.free.reach
  clear h
  obtain ⟨W0, hW0⟩ : ∃ W0, w.alloc (.cells #[.int .i64 z.f, .int .i64 z.t, .slice fo fn fc, .slice to_ tn tc] 25) = W0 := ⟨_, rfl⟩
  have HW0 : Hid _ := hW0
  rw [hW0] at I0 c2
  clear hW0
  obtain ⟨n1, n2, n3, n4, n5⟩ := id hN
  go_enter Tryd.func36, Tryd.ntmps36
  go_wp2_with (rw [HW0.out])
  clear HW0 c2
  go_loopw [9] (fun iv wr => ∃ k : Nat, k ≤ fn ∧ iv = .int .i64 k ∧ Hid (FreeOk z.f z.t z.f none (z.free.take k)) ∧ CkInv w fo fn fc to_ tn tc z wr) (fun iv _ => fn - (intOf iv).toNat)
  case atStart => exact ⟨0, Nat.zero_le _, rfl, trivial, I0⟩
  case round =>
    obtain ⟨k, hk, rfl, hF, I⟩ := hrel
    clear I0
    by_cases hlt : k < fn
    · obtain ⟨bb, bf, x, y, u, rfl, x0, x1, x2, hX⟩ := I.zn.free.at_.at k (by omega)
      have htk := take_getD z.free k (by omega) hX.out
      have hbx := below_box wr (.cells #[.int .i64 x, .int .i64 y, .int .i64 u] 42)
      have I3 := I.step hbx
      have y0 : (wr.alloc (.cells #[.int .i64 x, .int .i64 y, .int .i64 u] 42)).cell? ⟨wr.heap.size, 0, none⟩ = some (.int .i64 x) := by go_simp
      have y1 : (wr.alloc (.cells #[.int .i64 x, .int .i64 y, .int .i64 u] 42)).cell? ⟨wr.heap.size, 1, none⟩ = some (.int .i64 y) := by go_simp
      have y2 : (wr.alloc (.cells #[.int .i64 x, .int .i64 y, .int .i64 u] 42)).cell? ⟨wr.heap.size, 2, none⟩ = some (.int .i64 u) := by go_simp
      have b0 := I3.box.c0
      have b1 := I3.box.c1
      have b2 := I3.box.c2
      have b3 := I3.box.c3
      go_wp2_with fail
      go_at_call 49
      refine (blkMay_any _ z.f z.t _ to_ fn fc tn tc x y hN).mono ?_
      rintro e w4 ⟨rfl, hb4⟩
      have I4 := I3.step hb4
      replace y0 := keep y0 hb4
      replace y1 := keep y1 hb4
      replace y2 := keep y2 hb4
      clear I I3 hbx b0 b1 b2 b3 x0 x1 x2 hb4
      have hbb := I4.b
      by_cases hB : blkIn z.f z.t x y
      · have hB2 := (blkB_iff z.f z.t x y).2 hB
        rw [hB2]
        clear hB2
        obtain ⟨o1, o2, o3, o4⟩ := id hB
        by_cases hU : 0 ≤ u ∧ u ≤ 2
        · have e1 : Hid (inB u 0 2 = true) := inB_t hU
          go_wp2_with fail
          go_at_call 15
          refine (isType_any _ _).mono ?_
          rintro e w' ⟨rfl, rfl⟩
          rw [e1.out]
          by_cases hk0 : k = 0
          · subst hk0
            have hF' : Hid (FreeOk z.f z.t z.f none (z.free.take (0 + 1))) := by
              show FreeOk _ _ _ _ _
              rw [htk, freeOk_snoc]
              exact ⟨hF.out, hB, hU, o2, fun p hp => by cases hp⟩
            clear hF htk
            go_wp2
            go_roundw
            case rel => exact ⟨0 + 1, by omega, by go_num, hF', I4⟩
            case measure => simp [intOf]; omega
          · obtain ⟨j, rfl⟩ : ∃ j, k = j + 1 := ⟨k - 1, by omega⟩
            obtain ⟨bb', bf', x', y', u', he, p0, p1, p2, hX'⟩ := I4.zn.free.at_.at j (by omega)
            cases he
            have hpv := freeOk_at hF.out (k := j) (by simp; omega) (b := ⟨x', y', u'⟩) (by
              have := hX'.out
              rw [List.getD_eq_getElem?_getD, List.getElem?_take, if_pos (by omega), ← List.getD_eq_getElem?_getD]
              exact this)
            obtain ⟨⟨v1, v2, v3, v4⟩, _, _, _⟩ := hpv
            dsimp only at v1 v2 v3 v4
            have htj := take_getD z.free j (by omega) hX'.out
            have hlast : lastOf none (z.free.take (j + 1)) = some ⟨x', y', u'⟩ := by rw [htj, lastOf_snoc]
            have hlow : lowOf z.f (z.free.take (j + 1)) = x' + pw y' := by rw [htj, lowOf_snoc]
            have c2 := I4.box.c2
            have hji : ((j + 1 : Nat) : Int) - 1 = (j : Int) := by omega
            have hjj : ((j + 1 : Nat) : Int) = (j : Int) + 1 := by simp
            have hj1 : (j : Int) < fn := by omega
            have hj2 : j < fn := by omega
            have hj0 : ((j : Int) + 1 == 0) = false := by simp; omega
            clear hbb
            go_wp2_with fail
            have hbx5 := below_box w4 (.cells #[.int .i64 x', .int .i64 y', .int .i64 u'] 42)
            have I5 := I4.step hbx5
            have l0 : (w4.alloc (.cells #[.int .i64 x', .int .i64 y', .int .i64 u'] 42)).cell? ⟨w4.heap.size, 0, none⟩ = some (.int .i64 x') := by go_simp
            have l1 : (w4.alloc (.cells #[.int .i64 x', .int .i64 y', .int .i64 u'] 42)).cell? ⟨w4.heap.size, 1, none⟩ = some (.int .i64 y') := by go_simp
            have l2 : (w4.alloc (.cells #[.int .i64 x', .int .i64 y', .int .i64 u'] 42)).cell? ⟨w4.heap.size, 2, none⟩ = some (.int .i64 u') := by go_simp
            replace y0 := keep y0 hbx5
            replace y1 := keep y1 hbx5
            replace y2 := keep y2 hbx5
            obtain ⟨W5, hW5⟩ : ∃ W5, w4.alloc (.cells #[.int .i64 x', .int .i64 y', .int .i64 u'] 42) = W5 := ⟨_, rfl⟩
            rw [hW5] at I5 l0 l1 l2 y0 y1 y2 ⊢
            clear hW5 hbx5 I4 c2 p0 p1 p2
            have m0 : ∀ wx, Below W5.heap.size W5 wx → wx.cell? ⟨wr.heap.size, 0, none⟩ = some (.int .i64 x) := fun wx h => keep y0 h
            have m1 : ∀ wx, Below W5.heap.size W5 wx → wx.cell? ⟨wr.heap.size, 1, none⟩ = some (.int .i64 y) := fun wx h => keep y1 h
            have m2 : ∀ wx, Below W5.heap.size W5 wx → wx.cell? ⟨wr.heap.size, 2, none⟩ = some (.int .i64 u) := fun wx h => keep y2 h
            have r0 : ∀ wx, Below W5.heap.size W5 wx → wx.cell? ⟨w4.heap.size, 0, none⟩ = some (.int .i64 x') := fun wx h => keep l0 h
            have r1 : ∀ wx, Below W5.heap.size W5 wx → wx.cell? ⟨w4.heap.size, 1, none⟩ = some (.int .i64 y') := fun wx h => keep l1 h
            have r2 : ∀ wx, Below W5.heap.size W5 wx → wx.cell? ⟨w4.heap.size, 2, none⟩ = some (.int .i64 u') := fun wx h => keep l2 h
            obtain ⟨E, hE⟩ : ∃ E, x' + pw y' = E := ⟨_, rfl⟩
            have HBeh : Hid (∀ W, Below W5.heap.size W5 W → Calls Tryd.prog 41 #[.agg #[.int .i64 x', .int .i64 y', .int .i64 u']] W fun e w' => e = .returned (.int .i64 E) ∧ Below W5.heap.size W5 w') := fun W hS => by
              rw [← hE]
              refine (behind_any W x' y' u' v1 (by omega) (by omega)).mono ?_
              rintro e w' ⟨rfl, hb⟩
              exact ⟨rfl, hS.trans (hb.mono hS.size)⟩
            obtain ⟨R, hR⟩ : ∃ R, areB ⟨x', y', u'⟩ ⟨x, y, u⟩ = R := ⟨_, rfl⟩
            have HAre : Hid (∀ W, Below W5.heap.size W5 W → Calls Tryd.prog 50 #[.agg #[.int .i64 x', .int .i64 y', .int .i64 u'], .agg #[.int .i64 x, .int .i64 y, .int .i64 u]] W fun e w' => e = .returned (.bool R) ∧ Below W5.heap.size W5 w') := fun W hS => by
              rw [← hR]
              refine (areBeside_any W ⟨x', y', u'⟩ ⟨x, y, u⟩ v1 (by dsimp only; omega) (by dsimp only; omega) v4).mono ?_
              rintro e w' ⟨rfl, hb⟩
              exact ⟨rfl, hS.trans (hb.mono hS.size)⟩
            have S0 : Below W5.heap.size W5 W5 := Below.refl _ _
            rw [hE] at hlow
            by_cases hlw : x < E
            · have HF : Hid (¬ FreeOk z.f z.t z.f none z.free) := fun g => by have := (freeOk_at g (by omega) hX.out).2.2.1; rw [hlow] at this; dsimp only at this; omega
              have hlw' : decide (x < E) = true := decide_eq_true hlw
              clear hF htk htj hX hX' hlast hlow hE hR
              go_region_with (first | (go_at_call 41; refine (HBeh.out _ ?_).mono ?_; (first | exact Below.drew S0 | assumption); rintro e w6 ⟨rfl, hS6⟩; have a0 := m0 _ hS6; have a1 := m1 _ hS6; have a2 := m2 _ hS6; have a3 := r0 _ hS6; have a4 := r1 _ hS6; have a5 := r2 _ hS6) | (go_at_call 50; refine (HAre.out _ ?_).mono ?_; (first | assumption | exact Below.drew (by assumption)); rintro e w7 ⟨rfl, hS7⟩))
              all_goals
                have hbb := I5.b.trans (hS6.mono I5.b.size)
                clear I5 HBeh HAre m0 m1 m2 r0 r1 r2 S0
                go_wp2
                go_ret
                exact ⟨⟨false, rfl, fun g => (by cases g), fun g => absurd g HF.out⟩, hbb⟩
            · have hlw' : decide (x < E) = false := decide_eq_false hlw
              cases R with
              | true =>
                have HF : Hid (¬ FreeOk z.f z.t z.f none z.free) := fun g => (freeOk_at g (by omega) hX.out).2.2.2 _ hlast ((areB_iff (by dsimp only; omega)).1 hR)
                clear hF htk htj hX hX' hlast hlow hE hR
                go_region_with (first | (go_at_call 41; refine (HBeh.out _ ?_).mono ?_; (first | exact Below.drew S0 | assumption); rintro e w6 ⟨rfl, hS6⟩; have a0 := m0 _ hS6; have a1 := m1 _ hS6; have a2 := m2 _ hS6; have a3 := r0 _ hS6; have a4 := r1 _ hS6; have a5 := r2 _ hS6) | (go_at_call 50; refine (HAre.out _ ?_).mono ?_; (first | assumption | exact Below.drew (by assumption)); rintro e w7 ⟨rfl, hS7⟩))
                all_goals
                  have hbb := I5.b.trans (hS7.mono I5.b.size)
                  clear I5 HBeh HAre m0 m1 m2 r0 r1 r2 S0
                  go_wp2
                  go_ret
                  exact ⟨⟨false, rfl, fun g => (by cases g), fun g => absurd g HF.out⟩, hbb⟩
              | false =>
                have hF' : Hid (FreeOk z.f z.t z.f none (z.free.take (j + 1 + 1))) := by
                  show FreeOk _ _ _ _ _
                  rw [htk, freeOk_snoc]
                  refine ⟨hF.out, hB, hU, by rw [hlow]; dsimp only; omega, fun p hp => ?_⟩
                  rw [hlast] at hp
                  cases hp
                  intro g
                  have := (areB_iff (by dsimp only; omega)).2 g
                  rw [hR] at this
                  cases this
                clear hF htk htj hX hX' hlast hlow hE hR
                go_region_with (first | (go_at_call 41; refine (HBeh.out _ ?_).mono ?_; (first | exact Below.drew S0 | assumption); rintro e w6 ⟨rfl, hS6⟩; have a0 := m0 _ hS6; have a1 := m1 _ hS6; have a2 := m2 _ hS6; have a3 := r0 _ hS6; have a4 := r1 _ hS6; have a5 := r2 _ hS6) | (go_at_call 50; refine (HAre.out _ ?_).mono ?_; (first | assumption | exact Below.drew (by assumption)); rintro e w7 ⟨rfl, hS7⟩))
                all_goals
                  have I7 := I5.step hS7
                  clear I5 HBeh HAre m0 m1 m2 r0 r1 r2 S0
                  go_wp2
                  go_roundw
                  case rel => exact ⟨(j + 1) + 1, by omega, by go_num, hF', I7⟩
                  case measure => simp [intOf]; omega
        · have e1 : Hid (inB u 0 2 = false) := inB_f hU
          have HF : Hid (¬ FreeOk z.f z.t z.f none z.free) := fun g => hU (freeOk_at g (by omega) hX.out).2.1
          clear hF htk
          go_wp2_with fail
          go_at_call 15
          refine (isType_any _ _).mono ?_
          rintro e w' ⟨rfl, rfl⟩
          rw [e1.out]
          go_wp2
          go_ret
          exact ⟨⟨false, rfl, fun g => (by cases g), fun g => absurd g HF.out⟩, hbb⟩
      · have hB2 : blkB z.f z.t x y = false := by
          cases hb : blkB z.f z.t x y with
          | false => rfl
          | true => exact absurd ((blkB_iff z.f z.t x y).1 hb) hB
        rw [hB2]
        have HF : Hid (¬ FreeOk z.f z.t z.f none z.free) := fun g => hB (freeOk_at g (by omega) hX.out).1
        clear hF htk
        go_wp2
        go_ret
        exact ⟨⟨false, rfl, fun g => (by cases g), fun g => absurd g HF.out⟩, hbb⟩
    · have HM : Hid (FreeOk z.f z.t z.f none z.free) := by have := hF.out; rw [List.take_of_length_le (by omega)] at this; exact this
      have hbb := I.b
      clear hF
      go_wp2
      go_ret
      exact ⟨⟨true, rfl, fun _ => HM.out, fun _ => rfl⟩, hbb⟩

theorem zMay_iff (z : Zn) : ZMay z ↔ newOk z.f z.t ∧ TypesP z ∧ FreeOk z.f z.t z.f none z.free :=
  ⟨fun h => ⟨h.new, ⟨h.len, h.ty⟩, h.free⟩, fun ⟨h1, h2, h3⟩ => ⟨h1, h2.1, h2.2, h3⟩⟩

set_option maxHeartbeats 1000000 in
theorem zCheck_any (w : World) (fo : Option Addr) (fn fc : Nat) (to_ : Option Addr) (tn tc : Nat) (z : Zn) (h : ZnAt w fo fn to_ tn z) :
    Calls Tryd.prog 10 #[.agg #[.int .i64 z.f, .int .i64 z.t, .slice fo fn fc, .slice to_ tn tc]] w fun e w' => (∃ c, e = .returned (.int .i64 c) ∧ (c = 0 ∧ ZMay z ∨ c = 8 ∧ ¬ ZMay z)) ∧ Below w.heap.size w w' := by
  have I0 := ckInv_first w fo fn fc to_ tn tc z h
  have c0 := I0.box.c0
  have c1 := I0.box.c1
  have c2 := I0.box.c2
  have c3 := I0.box.c3
  clear h
  by_cases hn : newOk z.f z.t
  · have HB : Hid (newB z.f z.t = true) := newB_t hn
    go_enter Tryd.func10, Tryd.ntmps10
    go_wp2_with fail
    go_at_call 34
    refine (bounds_any _ _ _).mono ?_
    rintro e w' ⟨rfl, rfl⟩
    rw [HB.out]
    go_wp2_with fail
    go_at_call 35
    refine (typesMay_any _ fo fn fc to_ tn tc z I0.zn hn).mono ?_
    rintro e w1 ⟨⟨r, rfl, hr⟩, hb1⟩
    have I1 := I0.step hb1
    clear I0 c0 c1 c2 c3 hb1
    have c0 := I1.box.c0
    have c1 := I1.box.c1
    have c2 := I1.box.c2
    have c3 := I1.box.c3
    cases r with
    | false =>
      have HF : Hid (¬ ZMay z) := fun g => by have := hr.2 ((zMay_iff z).1 g).2.1; cases this
      have hbb := I1.b
      clear hr I1 c0 c1 c2 c3
      go_wp2
      go_ret
      exact ⟨⟨8, rfl, .inr ⟨rfl, HF.out⟩⟩, hbb⟩
    | true =>
      have HT : Hid (TypesP z) := hr.1 rfl
      clear hr
      go_wp2_with fail
      go_at_call 36
      refine (freeMay_any _ fo fn fc to_ tn tc z I1.zn hn).mono ?_
      rintro e w2 ⟨⟨r, rfl, hr⟩, hb2⟩
      have hbb := (I1.step hb2).b
      clear I1 c0 c1 c2 c3 hb2
      cases r with
      | false =>
        have HF : Hid (¬ ZMay z) := fun g => by have := hr.2 ((zMay_iff z).1 g).2.2; cases this
        clear hr
        go_wp2
        go_ret
        exact ⟨⟨8, rfl, .inr ⟨rfl, HF.out⟩⟩, hbb⟩
      | true =>
        have HM : Hid (ZMay z) := (zMay_iff z).2 ⟨hn, HT.out, hr.1 rfl⟩
        clear hr
        go_wp2
        go_ret
        exact ⟨⟨0, rfl, .inl ⟨rfl, HM.out⟩⟩, hbb⟩
  · have HB : Hid (newB z.f z.t = false) := newB_f hn
    have HF : Hid (¬ ZMay z) := fun g => hn g.new
    have hbb := I0.b
    clear hn
    go_enter Tryd.func10, Tryd.ntmps10
    go_wp2_with fail
    go_at_call 34
    refine (bounds_any _ _ _).mono ?_
    rintro e w' ⟨rfl, rfl⟩
    rw [HB.out]
    clear I0 c0 c1 c2 c3
    go_wp2
    go_ret
    exact ⟨⟨8, rfl, .inr ⟨rfl, HF.out⟩⟩, hbb⟩

theorem zCheck_ok (w : World) (fo : Option Addr) (fn fc : Nat) (to_ : Option Addr) (tn tc : Nat) (z : Zn) (h : ZnAt w fo fn to_ tn z) (hM : ZMay z) :
    Calls Tryd.prog 10 #[.agg #[.int .i64 z.f, .int .i64 z.t, .slice fo fn fc, .slice to_ tn tc]] w fun e w' => e = .returned (.int .i64 0) ∧ Below w.heap.size w w' := by
  refine (zCheck_any w fo fn fc to_ tn tc z h).mono ?_
  rintro e w1 ⟨⟨c, rfl, hc⟩, hb⟩
  rcases hc with ⟨rfl, _⟩ | ⟨_, g⟩
  · exact ⟨rfl, hb⟩
  · exact absurd hM g

theorem zCheck_no (w : World) (fo : Option Addr) (fn fc : Nat) (to_ : Option Addr) (tn tc : Nat) (z : Zn) (h : ZnAt w fo fn to_ tn z) (_hf : ZFits z) (hM : ¬ ZMay z) :
    Calls Tryd.prog 10 #[.agg #[.int .i64 z.f, .int .i64 z.t, .slice fo fn fc, .slice to_ tn tc]] w fun e w' => e = .returned (.int .i64 8) ∧ Below w.heap.size w w' := by
  refine (zCheck_any w fo fn fc to_ tn tc z h).mono ?_
  rintro e w1 ⟨⟨c, rfl, hc⟩, hb⟩
  rcases hc with ⟨_, g⟩ | ⟨rfl, _⟩
  · exact absurd g hM
  · exact ⟨rfl, hb⟩

end Go.Proofs.YtpfafhgllabhbaaDoor

/-
  OWN TEXT. 'copy' and 'clear' at elements of k cells, over whatever program.
-/
namespace Go.Proofs.YtpfafhgllabhbaaDoor.Kit
open Go Go.RowKit

theorem but_setRow (w : World) (g : Nat) (cs : Array Value) : But g w (w.setRow g cs) :=
  ⟨rfl, rfl, rfl, by simp [World.setRow], fun k _ hne => setRow_other w g k cs (by omega)⟩

theorem run_copy_row_k {P : Program} (w : World) (dT sT ty elem : TypeId) (k g o dLen dCap : Nat) (a : Addr) (sLen sCap : Nat) (cur : Array Value) (t : TypeId) (cs : List Value)
    (hu : P.underlying dT = some (.slice elem)) (hs : (P.info? elem).map (·.size) = some k)
    (hg : w.heap[g]? = some (.cells cur t (0, 0))) (hn : cs.length = Nat.min sLen dLen * k)
    (hsrc : ∀ j v, cs[j]? = some v → w.cell? (a.add j) = some v) (hfit : o + cs.length ≤ cur.size) (h1 : ∀ v ∈ cs, v.oneCell' = true) :
    (Builtin.copy_ #[dT, sT] ty #[.slice (some ⟨g, o, none⟩) dLen dCap, .slice (some a) sLen sCap]).run P w =
      .ok (goInt (Nat.min sLen dLen)) (w.setRow g (cur.toList.take o ++ cs ++ cur.toList.drop (o + cs.length)).toArray) := by
  have hl := run_loadCells_list (P := P) w a cs hsrc
  have hst := run_storeCells_at P g o t cs 0 cur w hg (by simpa using hfit) h1
  cases hq : P.info? elem with
  | none => simp [hq] at hs
  | some i =>
    have hi : i.size = k := by simpa [hq] using hs
    simp [Builtin.copy_, run_underlying hu, Builtin.lenOf, Builtin.firstCells, sizeOf, typeInfo, hq, hi, ← hn, hl, hst]

theorem run_copy_none_k {P : Program} (w : World) (dT sT ty elem : TypeId) (k : Nat) (d a : Option Addr) (dLen dCap sLen sCap : Nat) (hu : P.underlying dT = some (.slice elem)) (hs : (P.info? elem).map (·.size) = some k) (hn : Nat.min sLen dLen = 0) :
    (Builtin.copy_ #[dT, sT] ty #[.slice d dLen dCap, .slice a sLen sCap]).run P w = .ok (goInt 0) w := by
  cases hq : P.info? elem with
  | none => simp [hq] at hs
  | some i =>
    cases d <;> cases a <;> simp [Builtin.copy_, run_underlying hu, Builtin.lenOf, Builtin.firstCells, sizeOf, typeInfo, hq, hn, storeCells, loadCells, loadCellsFrom]

theorem wpList_copy_k {P : Program} {w : World} {ops : Array Oper} {rest : List Oper} {o : Oper} {a : Act} {Q : Exit → Act → World → Prop} (hgd : o.guard = none) (d s : Operand) (dT sT : TypeId)
    (ho : o.op = .call { callee := .builtin .copy, args := #[d, s], argTypes := #[dT, sT] }) (elem : TypeId) (k : Nat) (hu : P.underlying dT = some (.slice elem)) (hsz : (P.info? elem).map (·.size) = some k)
    (dp sp : Option Addr) (dLen dCap sLen sCap : Nat) (hd : a.eval d = .slice dp dLen dCap) (hs : a.eval s = .slice sp sLen sCap)
    (g off : Nat) (cur : List Value) (t : TypeId) (hg : w.heap[g]? = some (.cells cur.toArray t (0, 0))) (cs : List Value) (m : Nat) (hm : Nat.min sLen dLen = m) (hn : cs.length = m * k)
    (hpos : 0 < m → dp = some ⟨g, off, none⟩ ∧ ∃ ad, sp = some ad ∧ ∀ j v, cs[j]? = some v → w.cell? (ad.add j) = some v)
    (hfit : off + cs.length ≤ cur.length) (h1 : ∀ v ∈ cs, v.oneCell' = true)
    (h : ∀ w', Hid (w'.heap[g]? = some (.cells (splice cur off cs).toArray t (0, 0))) → But g w w' → wpList P ops Q rest (a.put o.dst (goInt m)) w') :
    wpList P ops Q (o :: rest) a w := by
  by_cases h0 : m = 0
  · subst h0
    obtain rfl : cs = [] := List.eq_nil_of_length_eq_zero (by simpa using hn)
    refine wpList_plain hgd fun K hK => ?_
    have hrun := run_copy_none_k (P := P) w dT sT o.type elem k dp sp dLen dCap sLen sCap hu hsz hm
    unfold Oper.wp
    simp [execOp, ho, resolve, invoke, builtin, hd, hs, hrun, Result.andThen]
    exact hK _ _ (h w (show _ = _ by simpa [splice] using hg) (But.refl _ _))
  · obtain ⟨rfl, ad, rfl, hsrc⟩ := hpos (by omega)
    refine wpList_plain hgd fun K hK => ?_
    have hrun := run_copy_row_k (P := P) w dT sT o.type elem k g off dLen dCap ad sLen sCap cur.toArray t cs hu hsz hg (by rw [hm]; exact hn) hsrc (by simpa using hfit) h1
    rw [hm] at hrun
    unfold Oper.wp
    simp [execOp, ho, resolve, invoke, builtin, hd, hs, hrun, Result.andThen]
    refine hK _ _ (h _ (show _ = _ by simpa [splice] using setRow_heap w g _ _ t _ hg) (by simpa using but_setRow w g _))

end Go.Proofs.YtpfafhgllabhbaaDoor.Kit

/-
  OWN TEXT. Contracts of the code: buddy.Copy.
-/
namespace Go.Proofs.YtpfafhgllabhbaaDoor
open Go Go.RowKit Go.Proofs.YtpfafhgllabhbaaDoor.Kit

theorem made_b {P : Program} {t e : TypeId} {i : TypeInfo} {z : Value} (ht : P.underlying t = some (.slice e)) (hi : P.info? e = some i) (hz : i.zero = some z) (n : Nat) (hb : i.bytes * n ≤ 281474976710656) (hm : n ≤ maxLen) :
    ∃ M : Array Value, M.size = n * i.size ∧ ∀ W : World, (Instr.makeSlice t (.int .i64 (n : Int)) (.int .i64 (n : Int))).run P W = .ok (.slice (some ⟨W.heap.size, 0, none⟩) n n) (W.alloc (.cells M e)) := by
  refine ⟨madeCells z.cells (n * i.size), size_madeCells _ _, fun W => ?_⟩
  have hr := run_make (P := P) W t e i z ht hi hz .i64 .i64 n n (by omega) (Int.le_refl _) (by
    have h : ((i.bytes * n : Nat) : Int) ≤ 281474976710656 := by omega
    rwa [Int.natCast_mul] at h) (by have h := hm; simp [maxLen] at h; omega)
  simpa using hr

theorem owns_of_row {w : World} {base : Nat} {e : TypeId} {g n size : Nat} {xs : List Value} (h : w.heap[g]? = some (.cells xs.toArray e (0, 0))) (hb : base ≤ g) (hl : xs.length = n * size) (hm : n ≤ maxLen) :
    w.ownsRow base e size (.slice (some ⟨g, 0, none⟩) n n) n xs :=
  ⟨hl, .inr ⟨g, n, _, rfl, hb, h, Nat.le_refl _, hm, by simpa using hl, by simpa using List.take_of_length_le (by omega)⟩⟩

theorem owns_but {w w' : World} {base : Nat} {e : TypeId} {g n cap size c : Nat} {xs : List Value} (h : w.ownsRow base e size (.slice (some ⟨g, 0, none⟩) n cap) n xs) (hb : But c w w') (hne : g ≠ c) :
    w'.ownsRow base e size (.slice (some ⟨g, 0, none⟩) n cap) n xs :=
  h.kept (row := some c) ⟨hb.os, hb.tape, hb.output, hb.size, fun k hk hne => hb.block k hk (by intro g; exact hne (by rw [g]))⟩ (.inr (by simp [Value.ownBlock]; exact hne))

/-- What is there in the midst of a copy: the zone that came in at b, the copy at x with its rows at g and k. -/
structure CpI (W0 : World) (zb : Nat) (f t : Int) (fo : Option Addr) (fn fc : Nat) (to_ : Option Addr) (tn tc : Nat) (x g k : Nat) (MB MT : Array Value) (W : World) : Prop where
  b : Below W0.heap.size W0 W
  zin : ZBox W zb (.int .i64 f) (.int .i64 t) (.slice fo fn fc) (.slice to_ tn tc)
  res : Res4 W (zb + 1)
  box : ZBox W x (.int .i64 f) (.int .i64 t) (.slice (some ⟨g, 0, none⟩) fn fn) (.slice (some ⟨k, 0, none⟩) tn tn)
  rg : W.heap[g]? = some (.cells MB 42 (0, 0))
  rk : W.heap[k]? = some (.cells MT 3 (0, 0))
  xg : x ≠ g
  xk : x ≠ k
  gk : g ≠ k
  x2 : zb + 2 ≤ x
  g2 : zb + 2 ≤ g
  k2 : zb + 2 ≤ k

theorem zbox_of_row {W : World} {x : Nat} {a b c d : Value} {t : TypeId} (h : W.heap[x]? = some (.cells #[a, b, c, d] t (0, 0))) : ZBox W x a b c d := by
  have hc : ∀ i : Nat, W.cell? ⟨x, i, none⟩ = (#[a, b, c, d] : Array Value)[i]? := fun i => by simp [World.cell?, h]
  have hf : ∀ i : Nat, W.frozen? ⟨x, i, none⟩ = false := fun i => by simp [World.frozen?, h]
  exact ⟨by rw [hc]; rfl, by rw [hc]; rfl, by rw [hc]; rfl, by rw [hc]; rfl, hf 0, hf 1, hf 2, hf 3⟩

theorem heap3 {W : World} {A B C : Obj} {n : Nat} (hs : W.heap.size = n) : ((((W.alloc A).alloc B).alloc C).drew).heap[n]? = some A ∧ ((((W.alloc A).alloc B).alloc C).drew).heap[n + 1]? = some B ∧ ((((W.alloc A).alloc B).alloc C).drew).heap[n + 1 + 1]? = some C := by
  subst hs
  show (((W.heap.push A).push B).push C)[W.heap.size]? = _ ∧ (((W.heap.push A).push B).push C)[W.heap.size + 1]? = _ ∧ (((W.heap.push A).push B).push C)[W.heap.size + 1 + 1]? = _
  refine ⟨?_, ?_, ?_⟩
  · rw [Array.getElem?_push, if_neg (by simp; omega), Array.getElem?_push, if_neg (by simp), Array.getElem?_push, if_pos rfl]
  · rw [Array.getElem?_push, if_neg (by simp), Array.getElem?_push, if_pos (by simp)]
  · rw [Array.getElem?_push, if_pos (by simp)]

section
variable {W0 : World} {b : Nat} {f t : Int} {fo : Option Addr} {fn fc : Nat} {to_ : Option Addr} {tn tc : Nat} {x g k : Nat} {MB MT : Array Value} {W W' : World}
theorem cpI_of (Z0 : ZBox W0 b (.int .i64 f) (.int .i64 t) (.slice fo fn fc) (.slice to_ tn tc)) (R0 : Res4 W0 (b + 1)) (hb : Below W0.heap.size W0 W)
    (hx : W.heap[x]? = some (.cells #[.int .i64 f, .int .i64 t, .slice (some ⟨g, 0, none⟩) fn fn, .slice (some ⟨k, 0, none⟩) tn tn] 25 (0, 0)))
    (hg : W.heap[g]? = some (.cells MB 42 (0, 0))) (hk : W.heap[k]? = some (.cells MT 3 (0, 0))) (xg : x ≠ g) (xk : x ≠ k) (gk : g ≠ k) (x2 : b + 2 ≤ x) (g2 : b + 2 ≤ g) (k2 : b + 2 ≤ k) : CpI W0 b f t fo fn fc to_ tn tc x g k MB MT W :=
  ⟨hb, Z0.below hb, R0.below hb, zbox_of_row hx, hg, hk, xg, xk, gk, x2, g2, k2⟩
theorem cpI_423 (Z0 : ZBox W0 b (.int .i64 f) (.int .i64 t) (.slice fo fn fc) (.slice to_ tn tc)) (R0 : Res4 W0 (b + 1)) (hs : W0.heap.size = b + 2) :
    CpI W0 b f t fo fn fc to_ tn tc (b + 2 + 1 + 1) (b + 2) (b + 2 + 1) MB MT ((((W0.alloc (.cells MB 42)).alloc (.cells MT 3)).alloc (.cells #[.int .i64 f, .int .i64 t, .slice (some ⟨b + 2, 0, none⟩) fn fn, .slice (some ⟨b + 2 + 1, 0, none⟩) tn tn] 25)).drew) :=
  cpI_of Z0 R0 (((((Below.refl _ _).alloc (Nat.le_refl _) _).alloc (by simp) _).alloc (by simp; omega) _).drew) (heap3 hs).2.2 (heap3 hs).1 (heap3 hs).2.1 (by omega) (by omega) (by omega) (by omega) (by omega) (by omega)
theorem cpI_324 (Z0 : ZBox W0 b (.int .i64 f) (.int .i64 t) (.slice fo fn fc) (.slice to_ tn tc)) (R0 : Res4 W0 (b + 1)) (hs : W0.heap.size = b + 2) :
    CpI W0 b f t fo fn fc to_ tn tc (b + 2 + 1) (b + 2) (b + 2 + 1 + 1) MB MT ((((W0.alloc (.cells MB 42)).alloc (.cells #[.int .i64 f, .int .i64 t, .slice (some ⟨b + 2, 0, none⟩) fn fn, .slice (some ⟨b + 2 + 1 + 1, 0, none⟩) tn tn] 25)).alloc (.cells MT 3)).drew) :=
  cpI_of Z0 R0 (((((Below.refl _ _).alloc (Nat.le_refl _) _).alloc (by simp) _).alloc (by simp; omega) _).drew) (heap3 hs).2.1 (heap3 hs).1 (heap3 hs).2.2 (by omega) (by omega) (by omega) (by omega) (by omega) (by omega)
theorem cpI_432 (Z0 : ZBox W0 b (.int .i64 f) (.int .i64 t) (.slice fo fn fc) (.slice to_ tn tc)) (R0 : Res4 W0 (b + 1)) (hs : W0.heap.size = b + 2) :
    CpI W0 b f t fo fn fc to_ tn tc (b + 2 + 1 + 1) (b + 2 + 1) (b + 2) MB MT ((((W0.alloc (.cells MT 3)).alloc (.cells MB 42)).alloc (.cells #[.int .i64 f, .int .i64 t, .slice (some ⟨b + 2 + 1, 0, none⟩) fn fn, .slice (some ⟨b + 2, 0, none⟩) tn tn] 25)).drew) :=
  cpI_of Z0 R0 (((((Below.refl _ _).alloc (Nat.le_refl _) _).alloc (by simp) _).alloc (by simp; omega) _).drew) (heap3 hs).2.2 (heap3 hs).2.1 (heap3 hs).1 (by omega) (by omega) (by omega) (by omega) (by omega) (by omega)
theorem cpI_342 (Z0 : ZBox W0 b (.int .i64 f) (.int .i64 t) (.slice fo fn fc) (.slice to_ tn tc)) (R0 : Res4 W0 (b + 1)) (hs : W0.heap.size = b + 2) :
    CpI W0 b f t fo fn fc to_ tn tc (b + 2 + 1) (b + 2 + 1 + 1) (b + 2) MB MT ((((W0.alloc (.cells MT 3)).alloc (.cells #[.int .i64 f, .int .i64 t, .slice (some ⟨b + 2 + 1 + 1, 0, none⟩) fn fn, .slice (some ⟨b + 2, 0, none⟩) tn tn] 25)).alloc (.cells MB 42)).drew) :=
  cpI_of Z0 R0 (((((Below.refl _ _).alloc (Nat.le_refl _) _).alloc (by simp) _).alloc (by simp; omega) _).drew) (heap3 hs).2.1 (heap3 hs).2.2 (heap3 hs).1 (by omega) (by omega) (by omega) (by omega) (by omega) (by omega)
theorem cpI_234 (Z0 : ZBox W0 b (.int .i64 f) (.int .i64 t) (.slice fo fn fc) (.slice to_ tn tc)) (R0 : Res4 W0 (b + 1)) (hs : W0.heap.size = b + 2) :
    CpI W0 b f t fo fn fc to_ tn tc (b + 2) (b + 2 + 1) (b + 2 + 1 + 1) MB MT ((((W0.alloc (.cells #[.int .i64 f, .int .i64 t, .slice (some ⟨b + 2 + 1, 0, none⟩) fn fn, .slice (some ⟨b + 2 + 1 + 1, 0, none⟩) tn tn] 25)).alloc (.cells MB 42)).alloc (.cells MT 3)).drew) :=
  cpI_of Z0 R0 (((((Below.refl _ _).alloc (Nat.le_refl _) _).alloc (by simp) _).alloc (by simp; omega) _).drew) (heap3 hs).1 (heap3 hs).2.1 (heap3 hs).2.2 (by omega) (by omega) (by omega) (by omega) (by omega) (by omega)
theorem cpI_243 (Z0 : ZBox W0 b (.int .i64 f) (.int .i64 t) (.slice fo fn fc) (.slice to_ tn tc)) (R0 : Res4 W0 (b + 1)) (hs : W0.heap.size = b + 2) :
    CpI W0 b f t fo fn fc to_ tn tc (b + 2) (b + 2 + 1 + 1) (b + 2 + 1) MB MT ((((W0.alloc (.cells #[.int .i64 f, .int .i64 t, .slice (some ⟨b + 2 + 1 + 1, 0, none⟩) fn fn, .slice (some ⟨b + 2 + 1, 0, none⟩) tn tn] 25)).alloc (.cells MT 3)).alloc (.cells MB 42)).drew) :=
  cpI_of Z0 R0 (((((Below.refl _ _).alloc (Nat.le_refl _) _).alloc (by simp) _).alloc (by simp; omega) _).drew) (heap3 hs).1 (heap3 hs).2.2 (heap3 hs).2.1 (by omega) (by omega) (by omega) (by omega) (by omega) (by omega)
theorem CpI.copied (h : CpI W0 b f t fo fn fc to_ tn tc x g k MB MT W) (hb : But g W W') {M : Array Value} (hg : W'.heap[g]? = some (.cells M 42 (0, 0))) (hs : W0.heap.size ≤ g) : CpI W0 b f t fo fn fc to_ tn tc x g k M MT W' :=
  ⟨h.b.trans (hb.below hs h.b.size), h.zin.but hb (by have := h.g2; omega), h.res.but hb (by have := h.g2; omega), h.box.but hb h.xg, hg, (hb.block k (Array.getElem?_eq_some_iff.1 h.rk).1 (fun e => h.gk e.symm)).trans h.rk, h.xg, h.xk, h.gk, h.x2, h.g2, h.k2⟩
theorem CpI.copied2 (h : CpI W0 b f t fo fn fc to_ tn tc x g k MB MT W) (hb : But k W W') {M : Array Value} (hg : W'.heap[k]? = some (.cells M 3 (0, 0))) (hs : W0.heap.size ≤ k) : CpI W0 b f t fo fn fc to_ tn tc x g k MB M W' :=
  ⟨h.b.trans (hb.below hs h.b.size), h.zin.but hb (by have := h.k2; omega), h.res.but hb (by have := h.k2; omega), h.box.but hb h.xk, (hb.block g (Array.getElem?_eq_some_iff.1 h.rg).1 h.gk).trans h.rg, hg, h.xg, h.xk, h.gk, h.x2, h.g2, h.k2⟩
theorem CpI.last {LB LT CB CT : List Value} {free : List Bk} {types : List Int} (h : CpI W0 b f t fo fn fc to_ tn tc x g k (splice LB 0 CB).toArray (splice LT 0 CT).toArray W) (eB : CB = bvals free) (eT : CT = vals types) (lB : CB.length = fn * 3) (lT : CT.length = tn * 1) (mB : LB.length = fn * 3) (mT : LT.length = tn * 1) (hmf : fn ≤ maxLen) (hmt : tn ≤ maxLen) :
    W.ownsRow b 42 3 (.slice (some ⟨g, 0, none⟩) fn fn) fn (bvals free) ∧ W.ownsRow b 3 1 (.slice (some ⟨k, 0, none⟩) tn tn) tn (vals types) ∧ g ≠ k := by
  have hg := h.rg
  have hk := h.rk
  rw [splice_all (by omega)] at hg hk
  exact ⟨by rw [← eB]; exact owns_of_row hg (by have := h.g2; omega) lB hmf, by rw [← eT]; exact owns_of_row hk (by have := h.k2; omega) lT hmt, h.gk⟩
end

set_option maxHeartbeats 4000000 in
theorem zCopy_own (w : World) (fo : Option Addr) (fn fc : Nat) (to_ : Option Addr) (tn tc : Nat) (z : Zn) (h : ZnAt w fo fn to_ tn z) :
    Calls Tryd.prog 11 #[.agg #[.int .i64 z.f, .int .i64 z.t, .slice fo fn fc, .slice to_ tn tc]] w fun e w' => ∃ g k, e = .returned (.agg #[.int .i64 z.f, .int .i64 z.t, .slice (some ⟨g, 0, none⟩) fn fn, .slice (some ⟨k, 0, none⟩) tn tn]) ∧
      w'.ownsRow w.heap.size 42 3 (.slice (some ⟨g, 0, none⟩) fn fn) fn (bvals z.free) ∧ w'.ownsRow w.heap.size 3 1 (.slice (some ⟨k, 0, none⟩) tn tn) tn (vals z.types) ∧ g ≠ k ∧ Below w.heap.size w w' := by
  obtain ⟨f, t, free, types⟩ := z
  obtain ⟨hf, ht⟩ := h
  dsimp only at hf ht ⊢
  obtain ⟨i0, hi, hz0, hz1, hz2⟩ := info_parts info_int
  obtain ⟨i1, hj, hy0, hy1, hy2⟩ := info_parts info_block
  have hfr := hf.reach
  have htr := ht.reach
  have hmf : fn ≤ maxLen := by unfold maxLen; omega
  have hmt : tn ≤ maxLen := by unfold maxLen; omega
  obtain ⟨MB, sB, hB⟩ := made_b (P := Tryd.prog) Tryd.underlying22 hj hy0 fn (by rw [hy2]; omega) hmf
  obtain ⟨MT, sT, hT⟩ := made_b (P := Tryd.prog) Tryd.underlying23 hi hz0 tn (by rw [hz2]; omega) hmt
  rw [hy1] at sB
  rw [hz1] at sT
  obtain ⟨W0, hW0⟩ : ∃ W0, (w.alloc (.cells #[.int .i64 f, .int .i64 t, .slice fo fn fc, .slice to_ tn tc] 25)).alloc (.cells #[.int .i64 0, .int .i64 0, .slice none 0 0, .slice none 0 0] 25) = W0 := ⟨_, rfl⟩
  have hb0 : Below w.heap.size w W0 := by rw [← hW0]; exact ((Below.refl _ _).alloc (Nat.le_refl _) _).alloc (by simp) _
  have Z0 : ZBox W0 w.heap.size (.int .i64 f) (.int .i64 t) (.slice fo fn fc) (.slice to_ tn tc) := by rw [← hW0]; exact (zbox_new w _ _ _ _ _).below (below_box _ _)
  have R0 : Res4 W0 (w.heap.size + 1) := by
    rw [← hW0]
    have := zbox_new (w.alloc (.cells #[.int .i64 f, .int .i64 t, .slice fo fn fc, .slice to_ tn tc] 25)) (.int .i64 0) (.int .i64 0) (.slice none 0 0) (.slice none 0 0) 25
    have h2 := this.res
    simpa using h2
  have hs0 : W0.heap.size = w.heap.size + 2 := by rw [← hW0]; simp
  have HW0 : Hid _ := hW0
  have Z1 := Z0
  have R1 := R0
  obtain ⟨CB, hCB⟩ : ∃ CB, CB = bvals free := ⟨_, rfl⟩
  obtain ⟨CT, hCT⟩ : ∃ CT, CT = vals types := ⟨_, rfl⟩
  have lB : CB.length = fn * 3 := by rw [hCB, length_bvals, hf.len]
  have lT : CT.length = tn * 1 := by rw [hCT, length_vals, ht.len, Nat.mul_one]
  have oB : ∀ v ∈ CB, v.oneCell' = true := by rw [hCB]; exact bvals_oneCell _
  have oT : ∀ v ∈ CT, v.oneCell' = true := by rw [hCT]; exact vals_oneCell _
  have HSB : Hid (∀ W, Below W0.heap.size W0 W → 0 < fn → ∃ ad, fo = some ad ∧ ∀ j v, CB[j]? = some v → W.cell? (ad.add j) = some v) := fun W hW h0 => by
    rw [hCB]
    exact bsrc_of ((hf.below hb0).below hW).at_ (by have := hf.len; omega)
  have HST : Hid (∀ W, Below W0.heap.size W0 W → 0 < tn → ∃ ad, to_ = some ad ∧ ∀ j v, CT[j]? = some v → W.cell? (ad.add j) = some v) := fun W hW h0 => by
    rw [hCT]
    exact src_of ((ht.below hb0).below hW).at_ (by have := ht.len; omega)
  have HCB : Hid _ := hCB
  have HCT : Hid _ := hCT
  clear hCB hCT
  have c0 := Z0.c0
  have c1 := Z0.c1
  have c2 := Z0.c2
  have c3 := Z0.c3
  have hsB : Hid (MB.size = fn * 3) := sB
  have hsT : Hid (MT.size = tn * 1) := sT
  clear hW0 sB sT
  go_enter Tryd.func11, Tryd.ntmps11
  go_wp2_with (rw [HW0.out])
  clear HW0
  go_region
  clear Z0 R0 c0 c1 c2 c3 hB hT hf ht
  · have I1 : CpI W0 w.heap.size f t fo fn fc to_ tn tc (w.heap.size + 2 + 1 + 1) (w.heap.size + 2) (w.heap.size + 2 + 1) MB MT _ := cpI_423 Z1 R1 hs0
    generalize World.drew _ = W1 at I1 ⊢
    generalize w.heap.size + 2 + 1 + 1 = n4 at I1 ⊢
    generalize w.heap.size + 2 + 1 = n3 at I1 ⊢
    generalize hn2 : w.heap.size + 2 = n2 at I1 ⊢
    have hx2 := I1.x2
    have hg2 := I1.g2
    have hk2 := I1.k2
    have y2 := I1.box.c2
    have y3 := I1.box.c3
    have q2 := I1.zin.c2
    have q3 := I1.zin.c3
    go_wp2_with (first
      | (refine wpList_copy_k rfl (.tmp 18) (.tmp 20) 22 22 rfl 42 3 Tryd.underlying22 size_block _ _ _ _ _ _ rfl rfl n2 0 MB.toList 42 (by simpa using I1.rg) CB fn (Nat.min_self _) lB (fun h0 => ⟨rfl, HSB.out _ I1.b h0⟩) (by simp only [Array.length_toList]; rw [lB, hsB.out]; omega) oB ?_; intro w2 hg2 hb2; have I2 := I1.copied hb2 hg2.out (by omega); have a3 := I2.box.c3; have b3 := I2.zin.c3)
      | (refine wpList_copy_k rfl (.tmp 23) (.tmp 25) 23 23 rfl 3 1 Tryd.underlying23 size_int _ _ _ _ _ _ rfl rfl n3 0 MT.toList 3 (by simpa using I2.rk) CT tn (Nat.min_self _) lT (fun h0 => ⟨rfl, HST.out _ I2.b h0⟩) (by simp only [Array.length_toList]; rw [lT, hsT.out]; omega) oT ?_; intro w3 hg3 hb3; have I3 := I2.copied2 hb3 hg3.out (by omega); have e0 := I3.box.c0; have e1 := I3.box.c1; have e2 := I3.box.c2; have e3 := I3.box.c3; have R3 := I3.res; obtain ⟨⟨x0, d0⟩, ⟨x1, d1⟩, ⟨x2, d2⟩, ⟨x3, d3⟩, z0, z1, z2, z3⟩ := id R3))
    obtain ⟨o1, o2, o3⟩ := I3.last HCB.out HCT.out lB lT (by rw [Array.length_toList, hsB.out]) (by rw [Array.length_toList, hsT.out]) hmf hmt
    have hB3 := hb0.trans (I3.b.mono (by omega))
    obtain ⟨k0, k1, k2, k3⟩ := res4 R3 (.int .i64 f) (.int .i64 t) (.slice (some ⟨n2, 0, none⟩) fn fn) (.slice (some ⟨n3, 0, none⟩) tn tn)
    have hbt := but4 w3 (w.heap.size + 1) (.int .i64 f) (.int .i64 t) (.slice (some ⟨n2, 0, none⟩) fn fn) (.slice (some ⟨n3, 0, none⟩) tn tn)
    exact bodyPost_ret (v := .agg #[.int .i64 f, .int .i64 t, .slice (some ⟨n2, 0, none⟩) fn fn, .slice (some ⟨n3, 0, none⟩) tn tn]) (by simp [results, Tryd.results11, go_sem, k0, k1, k2, k3]) rfl ⟨n2, n3, rfl, owns_but o1 hbt (by omega), owns_but o2 hbt (by omega), o3, hB3.trans (hbt.below (by omega) hB3.size)⟩
  · have I1 : CpI W0 w.heap.size f t fo fn fc to_ tn tc (w.heap.size + 2 + 1) (w.heap.size + 2) (w.heap.size + 2 + 1 + 1) MB MT _ := cpI_324 Z1 R1 hs0
    generalize World.drew _ = W1 at I1 ⊢
    generalize w.heap.size + 2 + 1 + 1 = n4 at I1 ⊢
    generalize w.heap.size + 2 + 1 = n3 at I1 ⊢
    generalize hn2 : w.heap.size + 2 = n2 at I1 ⊢
    have hx2 := I1.x2
    have hg2 := I1.g2
    have hk2 := I1.k2
    have y2 := I1.box.c2
    have y3 := I1.box.c3
    have q2 := I1.zin.c2
    have q3 := I1.zin.c3
    go_wp2_with (first
      | (refine wpList_copy_k rfl (.tmp 18) (.tmp 20) 22 22 rfl 42 3 Tryd.underlying22 size_block _ _ _ _ _ _ rfl rfl n2 0 MB.toList 42 (by simpa using I1.rg) CB fn (Nat.min_self _) lB (fun h0 => ⟨rfl, HSB.out _ I1.b h0⟩) (by simp only [Array.length_toList]; rw [lB, hsB.out]; omega) oB ?_; intro w2 hg2 hb2; have I2 := I1.copied hb2 hg2.out (by omega); have a3 := I2.box.c3; have b3 := I2.zin.c3)
      | (refine wpList_copy_k rfl (.tmp 23) (.tmp 25) 23 23 rfl 3 1 Tryd.underlying23 size_int _ _ _ _ _ _ rfl rfl n4 0 MT.toList 3 (by simpa using I2.rk) CT tn (Nat.min_self _) lT (fun h0 => ⟨rfl, HST.out _ I2.b h0⟩) (by simp only [Array.length_toList]; rw [lT, hsT.out]; omega) oT ?_; intro w3 hg3 hb3; have I3 := I2.copied2 hb3 hg3.out (by omega); have e0 := I3.box.c0; have e1 := I3.box.c1; have e2 := I3.box.c2; have e3 := I3.box.c3; have R3 := I3.res; obtain ⟨⟨x0, d0⟩, ⟨x1, d1⟩, ⟨x2, d2⟩, ⟨x3, d3⟩, z0, z1, z2, z3⟩ := id R3))
    obtain ⟨o1, o2, o3⟩ := I3.last HCB.out HCT.out lB lT (by rw [Array.length_toList, hsB.out]) (by rw [Array.length_toList, hsT.out]) hmf hmt
    have hB3 := hb0.trans (I3.b.mono (by omega))
    obtain ⟨k0, k1, k2, k3⟩ := res4 R3 (.int .i64 f) (.int .i64 t) (.slice (some ⟨n2, 0, none⟩) fn fn) (.slice (some ⟨n4, 0, none⟩) tn tn)
    have hbt := but4 w3 (w.heap.size + 1) (.int .i64 f) (.int .i64 t) (.slice (some ⟨n2, 0, none⟩) fn fn) (.slice (some ⟨n4, 0, none⟩) tn tn)
    exact bodyPost_ret (v := .agg #[.int .i64 f, .int .i64 t, .slice (some ⟨n2, 0, none⟩) fn fn, .slice (some ⟨n4, 0, none⟩) tn tn]) (by simp [results, Tryd.results11, go_sem, k0, k1, k2, k3]) rfl ⟨n2, n4, rfl, owns_but o1 hbt (by omega), owns_but o2 hbt (by omega), o3, hB3.trans (hbt.below (by omega) hB3.size)⟩
  · have I1 : CpI W0 w.heap.size f t fo fn fc to_ tn tc (w.heap.size + 2 + 1 + 1) (w.heap.size + 2 + 1) (w.heap.size + 2) MB MT _ := cpI_432 Z1 R1 hs0
    generalize World.drew _ = W1 at I1 ⊢
    generalize w.heap.size + 2 + 1 + 1 = n4 at I1 ⊢
    generalize w.heap.size + 2 + 1 = n3 at I1 ⊢
    generalize hn2 : w.heap.size + 2 = n2 at I1 ⊢
    have hx2 := I1.x2
    have hg2 := I1.g2
    have hk2 := I1.k2
    have y2 := I1.box.c2
    have y3 := I1.box.c3
    have q2 := I1.zin.c2
    have q3 := I1.zin.c3
    go_wp2_with (first
      | (refine wpList_copy_k rfl (.tmp 18) (.tmp 20) 22 22 rfl 42 3 Tryd.underlying22 size_block _ _ _ _ _ _ rfl rfl n3 0 MB.toList 42 (by simpa using I1.rg) CB fn (Nat.min_self _) lB (fun h0 => ⟨rfl, HSB.out _ I1.b h0⟩) (by simp only [Array.length_toList]; rw [lB, hsB.out]; omega) oB ?_; intro w2 hg2 hb2; have I2 := I1.copied hb2 hg2.out (by omega); have a3 := I2.box.c3; have b3 := I2.zin.c3)
      | (refine wpList_copy_k rfl (.tmp 23) (.tmp 25) 23 23 rfl 3 1 Tryd.underlying23 size_int _ _ _ _ _ _ rfl rfl n2 0 MT.toList 3 (by simpa using I2.rk) CT tn (Nat.min_self _) lT (fun h0 => ⟨rfl, HST.out _ I2.b h0⟩) (by simp only [Array.length_toList]; rw [lT, hsT.out]; omega) oT ?_; intro w3 hg3 hb3; have I3 := I2.copied2 hb3 hg3.out (by omega); have e0 := I3.box.c0; have e1 := I3.box.c1; have e2 := I3.box.c2; have e3 := I3.box.c3; have R3 := I3.res; obtain ⟨⟨x0, d0⟩, ⟨x1, d1⟩, ⟨x2, d2⟩, ⟨x3, d3⟩, z0, z1, z2, z3⟩ := id R3))
    obtain ⟨o1, o2, o3⟩ := I3.last HCB.out HCT.out lB lT (by rw [Array.length_toList, hsB.out]) (by rw [Array.length_toList, hsT.out]) hmf hmt
    have hB3 := hb0.trans (I3.b.mono (by omega))
    obtain ⟨k0, k1, k2, k3⟩ := res4 R3 (.int .i64 f) (.int .i64 t) (.slice (some ⟨n3, 0, none⟩) fn fn) (.slice (some ⟨n2, 0, none⟩) tn tn)
    have hbt := but4 w3 (w.heap.size + 1) (.int .i64 f) (.int .i64 t) (.slice (some ⟨n3, 0, none⟩) fn fn) (.slice (some ⟨n2, 0, none⟩) tn tn)
    exact bodyPost_ret (v := .agg #[.int .i64 f, .int .i64 t, .slice (some ⟨n3, 0, none⟩) fn fn, .slice (some ⟨n2, 0, none⟩) tn tn]) (by simp [results, Tryd.results11, go_sem, k0, k1, k2, k3]) rfl ⟨n3, n2, rfl, owns_but o1 hbt (by omega), owns_but o2 hbt (by omega), o3, hB3.trans (hbt.below (by omega) hB3.size)⟩
  · have I1 : CpI W0 w.heap.size f t fo fn fc to_ tn tc (w.heap.size + 2 + 1) (w.heap.size + 2 + 1 + 1) (w.heap.size + 2) MB MT _ := cpI_342 Z1 R1 hs0
    generalize World.drew _ = W1 at I1 ⊢
    generalize w.heap.size + 2 + 1 + 1 = n4 at I1 ⊢
    generalize w.heap.size + 2 + 1 = n3 at I1 ⊢
    generalize hn2 : w.heap.size + 2 = n2 at I1 ⊢
    have hx2 := I1.x2
    have hg2 := I1.g2
    have hk2 := I1.k2
    have y2 := I1.box.c2
    have y3 := I1.box.c3
    have q2 := I1.zin.c2
    have q3 := I1.zin.c3
    go_wp2_with (first
      | (refine wpList_copy_k rfl (.tmp 18) (.tmp 20) 22 22 rfl 42 3 Tryd.underlying22 size_block _ _ _ _ _ _ rfl rfl n4 0 MB.toList 42 (by simpa using I1.rg) CB fn (Nat.min_self _) lB (fun h0 => ⟨rfl, HSB.out _ I1.b h0⟩) (by simp only [Array.length_toList]; rw [lB, hsB.out]; omega) oB ?_; intro w2 hg2 hb2; have I2 := I1.copied hb2 hg2.out (by omega); have a3 := I2.box.c3; have b3 := I2.zin.c3)
      | (refine wpList_copy_k rfl (.tmp 23) (.tmp 25) 23 23 rfl 3 1 Tryd.underlying23 size_int _ _ _ _ _ _ rfl rfl n2 0 MT.toList 3 (by simpa using I2.rk) CT tn (Nat.min_self _) lT (fun h0 => ⟨rfl, HST.out _ I2.b h0⟩) (by simp only [Array.length_toList]; rw [lT, hsT.out]; omega) oT ?_; intro w3 hg3 hb3; have I3 := I2.copied2 hb3 hg3.out (by omega); have e0 := I3.box.c0; have e1 := I3.box.c1; have e2 := I3.box.c2; have e3 := I3.box.c3; have R3 := I3.res; obtain ⟨⟨x0, d0⟩, ⟨x1, d1⟩, ⟨x2, d2⟩, ⟨x3, d3⟩, z0, z1, z2, z3⟩ := id R3))
    obtain ⟨o1, o2, o3⟩ := I3.last HCB.out HCT.out lB lT (by rw [Array.length_toList, hsB.out]) (by rw [Array.length_toList, hsT.out]) hmf hmt
    have hB3 := hb0.trans (I3.b.mono (by omega))
    obtain ⟨k0, k1, k2, k3⟩ := res4 R3 (.int .i64 f) (.int .i64 t) (.slice (some ⟨n4, 0, none⟩) fn fn) (.slice (some ⟨n2, 0, none⟩) tn tn)
    have hbt := but4 w3 (w.heap.size + 1) (.int .i64 f) (.int .i64 t) (.slice (some ⟨n4, 0, none⟩) fn fn) (.slice (some ⟨n2, 0, none⟩) tn tn)
    exact bodyPost_ret (v := .agg #[.int .i64 f, .int .i64 t, .slice (some ⟨n4, 0, none⟩) fn fn, .slice (some ⟨n2, 0, none⟩) tn tn]) (by simp [results, Tryd.results11, go_sem, k0, k1, k2, k3]) rfl ⟨n4, n2, rfl, owns_but o1 hbt (by omega), owns_but o2 hbt (by omega), o3, hB3.trans (hbt.below (by omega) hB3.size)⟩
  · have I1 : CpI W0 w.heap.size f t fo fn fc to_ tn tc (w.heap.size + 2) (w.heap.size + 2 + 1) (w.heap.size + 2 + 1 + 1) MB MT _ := cpI_234 Z1 R1 hs0
    generalize World.drew _ = W1 at I1 ⊢
    generalize w.heap.size + 2 + 1 + 1 = n4 at I1 ⊢
    generalize w.heap.size + 2 + 1 = n3 at I1 ⊢
    generalize hn2 : w.heap.size + 2 = n2 at I1 ⊢
    have hx2 := I1.x2
    have hg2 := I1.g2
    have hk2 := I1.k2
    have y2 := I1.box.c2
    have y3 := I1.box.c3
    have q2 := I1.zin.c2
    have q3 := I1.zin.c3
    go_wp2_with (first
      | (refine wpList_copy_k rfl (.tmp 18) (.tmp 20) 22 22 rfl 42 3 Tryd.underlying22 size_block _ _ _ _ _ _ rfl rfl n3 0 MB.toList 42 (by simpa using I1.rg) CB fn (Nat.min_self _) lB (fun h0 => ⟨rfl, HSB.out _ I1.b h0⟩) (by simp only [Array.length_toList]; rw [lB, hsB.out]; omega) oB ?_; intro w2 hg2 hb2; have I2 := I1.copied hb2 hg2.out (by omega); have a3 := I2.box.c3; have b3 := I2.zin.c3)
      | (refine wpList_copy_k rfl (.tmp 23) (.tmp 25) 23 23 rfl 3 1 Tryd.underlying23 size_int _ _ _ _ _ _ rfl rfl n4 0 MT.toList 3 (by simpa using I2.rk) CT tn (Nat.min_self _) lT (fun h0 => ⟨rfl, HST.out _ I2.b h0⟩) (by simp only [Array.length_toList]; rw [lT, hsT.out]; omega) oT ?_; intro w3 hg3 hb3; have I3 := I2.copied2 hb3 hg3.out (by omega); have e0 := I3.box.c0; have e1 := I3.box.c1; have e2 := I3.box.c2; have e3 := I3.box.c3; have R3 := I3.res; obtain ⟨⟨x0, d0⟩, ⟨x1, d1⟩, ⟨x2, d2⟩, ⟨x3, d3⟩, z0, z1, z2, z3⟩ := id R3))
    obtain ⟨o1, o2, o3⟩ := I3.last HCB.out HCT.out lB lT (by rw [Array.length_toList, hsB.out]) (by rw [Array.length_toList, hsT.out]) hmf hmt
    have hB3 := hb0.trans (I3.b.mono (by omega))
    obtain ⟨k0, k1, k2, k3⟩ := res4 R3 (.int .i64 f) (.int .i64 t) (.slice (some ⟨n3, 0, none⟩) fn fn) (.slice (some ⟨n4, 0, none⟩) tn tn)
    have hbt := but4 w3 (w.heap.size + 1) (.int .i64 f) (.int .i64 t) (.slice (some ⟨n3, 0, none⟩) fn fn) (.slice (some ⟨n4, 0, none⟩) tn tn)
    exact bodyPost_ret (v := .agg #[.int .i64 f, .int .i64 t, .slice (some ⟨n3, 0, none⟩) fn fn, .slice (some ⟨n4, 0, none⟩) tn tn]) (by simp [results, Tryd.results11, go_sem, k0, k1, k2, k3]) rfl ⟨n3, n4, rfl, owns_but o1 hbt (by omega), owns_but o2 hbt (by omega), o3, hB3.trans (hbt.below (by omega) hB3.size)⟩
  · have I1 : CpI W0 w.heap.size f t fo fn fc to_ tn tc (w.heap.size + 2) (w.heap.size + 2 + 1 + 1) (w.heap.size + 2 + 1) MB MT _ := cpI_243 Z1 R1 hs0
    generalize World.drew _ = W1 at I1 ⊢
    generalize w.heap.size + 2 + 1 + 1 = n4 at I1 ⊢
    generalize w.heap.size + 2 + 1 = n3 at I1 ⊢
    generalize hn2 : w.heap.size + 2 = n2 at I1 ⊢
    have hx2 := I1.x2
    have hg2 := I1.g2
    have hk2 := I1.k2
    have y2 := I1.box.c2
    have y3 := I1.box.c3
    have q2 := I1.zin.c2
    have q3 := I1.zin.c3
    go_wp2_with (first
      | (refine wpList_copy_k rfl (.tmp 18) (.tmp 20) 22 22 rfl 42 3 Tryd.underlying22 size_block _ _ _ _ _ _ rfl rfl n4 0 MB.toList 42 (by simpa using I1.rg) CB fn (Nat.min_self _) lB (fun h0 => ⟨rfl, HSB.out _ I1.b h0⟩) (by simp only [Array.length_toList]; rw [lB, hsB.out]; omega) oB ?_; intro w2 hg2 hb2; have I2 := I1.copied hb2 hg2.out (by omega); have a3 := I2.box.c3; have b3 := I2.zin.c3)
      | (refine wpList_copy_k rfl (.tmp 23) (.tmp 25) 23 23 rfl 3 1 Tryd.underlying23 size_int _ _ _ _ _ _ rfl rfl n3 0 MT.toList 3 (by simpa using I2.rk) CT tn (Nat.min_self _) lT (fun h0 => ⟨rfl, HST.out _ I2.b h0⟩) (by simp only [Array.length_toList]; rw [lT, hsT.out]; omega) oT ?_; intro w3 hg3 hb3; have I3 := I2.copied2 hb3 hg3.out (by omega); have e0 := I3.box.c0; have e1 := I3.box.c1; have e2 := I3.box.c2; have e3 := I3.box.c3; have R3 := I3.res; obtain ⟨⟨x0, d0⟩, ⟨x1, d1⟩, ⟨x2, d2⟩, ⟨x3, d3⟩, z0, z1, z2, z3⟩ := id R3))
    obtain ⟨o1, o2, o3⟩ := I3.last HCB.out HCT.out lB lT (by rw [Array.length_toList, hsB.out]) (by rw [Array.length_toList, hsT.out]) hmf hmt
    have hB3 := hb0.trans (I3.b.mono (by omega))
    obtain ⟨k0, k1, k2, k3⟩ := res4 R3 (.int .i64 f) (.int .i64 t) (.slice (some ⟨n4, 0, none⟩) fn fn) (.slice (some ⟨n3, 0, none⟩) tn tn)
    have hbt := but4 w3 (w.heap.size + 1) (.int .i64 f) (.int .i64 t) (.slice (some ⟨n4, 0, none⟩) fn fn) (.slice (some ⟨n3, 0, none⟩) tn tn)
    exact bodyPost_ret (v := .agg #[.int .i64 f, .int .i64 t, .slice (some ⟨n4, 0, none⟩) fn fn, .slice (some ⟨n3, 0, none⟩) tn tn]) (by simp [results, Tryd.results11, go_sem, k0, k1, k2, k3]) rfl ⟨n4, n3, rfl, owns_but o1 hbt (by omega), owns_but o2 hbt (by omega), o3, hB3.trans (hbt.below (by omega) hB3.size)⟩

theorem zCopy_any (w : World) (fo : Option Addr) (fn fc : Nat) (to_ : Option Addr) (tn tc : Nat) (z : Zn) (h : ZnAt w fo fn to_ tn z) :
    Calls Tryd.prog 11 #[.agg #[.int .i64 z.f, .int .i64 z.t, .slice fo fn fc, .slice to_ tn tc]] w fun e w' => RetZ w.heap.size w' z e ∧ Below w.heap.size w w' := by
  refine (zCopy_own w fo fn fc to_ tn tc z h).mono ?_
  rintro e w1 ⟨g, k, rfl, o1, o2, _, hb⟩
  exact ⟨⟨_, _, _, _, _, _, rfl, ⟨blks_own o1 h.free.reach, nums_of_owns o2 h.types.reach⟩, owns_fresh o1, owns_fresh o2⟩, hb⟩

end Go.Proofs.YtpfafhgllabhbaaDoor

/-
  OWN TEXT. Contracts of slices.IndexFunc and slices.ContainsFunc over blocks, whatever the closure.
-/
namespace Go.Proofs.YtpfafhgllabhbaaDoor
open Go Go.RowKit Go.Proofs.YtpfafhgllabhbaaDoor.Kit

/-- What the closure does at the blocks of a list, whatever new memory there is. -/
def HoldsB (F : Nat) (caps : Array Value) (l : List Bk) (g : Bk → Bool) (w : World) : Prop :=
  ∀ (i : Nat), i < l.length → ∀ W : World, Below w.heap.size w W → Calls Tryd.prog F (#[Value.agg #[.int .i64 (l.getD i .zero).a, .int .i64 (l.getD i .zero).o, .int .i64 (l.getD i .zero).t]] ++ caps) W fun e W' => e = .returned (.bool (g (l.getD i .zero))) ∧ Below W.heap.size W W'

/-- The first place at which it holds is returned, or -1. -/
def FoundAt (e : Ending) (l : List Bk) (g : Bk → Bool) : Prop :=
  (∃ k : Nat, k < l.length ∧ e = .returned (.int .i64 (k : Int)) ∧ g (l.getD k .zero) = true ∧ ∀ j, j < k → g (l.getD j .zero) = false) ∨ (e = .returned (.int .i64 (-1)) ∧ ∀ j, j < l.length → g (l.getD j .zero) = false)

set_option maxHeartbeats 1000000 in
theorem bIndex_any (w : World) (F : Nat) (caps : Array Value) (ao : Option Addr) (n cap : Nat) (l : List Bk) (g : Bk → Bool) (h : Blks w ao n l)
    (hcall : ∀ args W, (callFunc F args).run Tryd.prog W = .ok (.enter F args) W) (hc : HoldsB F caps l g w) :
    Calls Tryd.prog 38 #[.slice ao n cap, .func (.func F) #[] caps] w fun e w' => FoundAt e l g ∧ Below w.heap.size w w' := by
  have hlen := h.len
  have hrch := h.reach
  go_enter Tryd.func38, Tryd.ntmps38
  go_wp2
  go_loopw [8] (fun i wr => ∃ k : Nat, k ≤ n ∧ i = .int .i64 k ∧ Hid (∀ j, j < k → g (l.getD j .zero) = false) ∧ Below w.heap.size w wr) (fun i _ => n - (intOf i).toNat)
  case atStart => exact ⟨0, Nat.zero_le _, rfl, (fun j hj => absurd hj (Nat.not_lt_zero j)), Below.refl _ _⟩
  case round =>
    obtain ⟨k, hk, rfl, hN, hb⟩ := hrel
    by_cases hlt : k < n
    · obtain ⟨b, o, rfl, c0, c1, c2⟩ := h.at_ k (by omega)
      have hc1 := hc k (by omega) wr hb
      obtain ⟨r, hr⟩ : ∃ r, l.getD k .zero = r := ⟨_, rfl⟩
      have HR : Hid (l.getD k .zero = r) := hr
      rw [hr] at c0 c1 c2 hc1
      clear hr
      obtain ⟨x, y, u⟩ := r
      dsimp only at c0 c1 c2 hc1
      have d0 := keep c0 hb
      have d1 := keep c1 hb
      have d2 := keep c2 hb
      clear c0 c1 c2
      go_wp2_with fail
      refine hc1.mono ?_
      rintro e w1 ⟨rfl, hb1⟩
      have hB := hb.trans (hb1.mono hb.size)
      clear hc1 d0 d1 d2 hc
      cases hg : g ⟨x, y, u⟩ with
      | true =>
        have HT : Hid (g (l.getD k .zero) = true) := by show _ = _; rw [HR.out]; exact hg
        clear hg
        go_wp2
        go_ret
        exact ⟨.inl ⟨k, by omega, rfl, HT.out, hN.out⟩, hB⟩
      | false =>
        have HF : Hid (∀ j, j < k + 1 → g (l.getD j .zero) = false) := fun j hj => by
          by_cases e : j = k
          · rw [e, HR.out]; exact hg
          · exact hN.out j (by omega)
        clear hg hN
        go_wp2
        go_roundw
        case rel => exact ⟨k + 1, by omega, by go_num, HF, hB⟩
        case measure => simp [intOf]; omega
    · have HF : Hid (∀ j, j < l.length → g (l.getD j .zero) = false) := fun j hj => hN.out j (by omega)
      clear hN hc
      go_wp2
      go_ret
      exact ⟨.inr ⟨rfl, HF.out⟩, hb⟩

theorem any_of_found {l : List Bk} {g : Bk → Bool} {k : Nat} (hk : k < l.length) (h : g (l.getD k .zero) = true) : l.any g = true := by
  rw [List.any_eq_true]
  exact ⟨l[k], List.getElem_mem _, by rw [List.getD_eq_getElem?_getD, List.getElem?_eq_getElem hk] at h; exact h⟩
theorem any_of_none {l : List Bk} {g : Bk → Bool} (h : ∀ j, j < l.length → g (l.getD j .zero) = false) : l.any g = false := by
  rw [List.any_eq_false]
  intro x hx
  obtain ⟨i, hi, rfl⟩ := List.getElem_of_mem hx
  have := h i hi
  rw [List.getD_eq_getElem?_getD, List.getElem?_eq_getElem hi] at this
  simp only [Option.getD_some] at this
  simp [this]

end Go.Proofs.YtpfafhgllabhbaaDoor

/-
  OWN TEXT. Which free block is taken: plain mathematics.
-/
namespace Go.Proofs.YtpfafhgllabhbaaDoor.Kit

/-- A block of an order and a type. -/
def isT (o t : Int) (b : Bk) : Bool := decide (b.o = o ∧ b.t = t)
/-- The first place at which it holds, or -1. -/
def fidx (g : Bk → Bool) : List Bk → Int
  | [] => -1
  | b :: l => if g b = true then 0 else if fidx g l < 0 then -1 else fidx g l + 1

theorem fidx_none {g : Bk → Bool} {l : List Bk} (h : ∀ j, j < l.length → g (l.getD j .zero) = false) : fidx g l = -1 := by
  induction l with
  | nil => rfl
  | cons b l ih =>
    have h0 : g b = false := by simpa using h 0 (by simp)
    have := ih (fun j hj => by simpa using h (j + 1) (by simpa using hj))
    unfold fidx
    rw [h0, this]
    rfl
theorem fidx_some {g : Bk → Bool} {l : List Bk} {k : Nat} (hk : k < l.length) (h1 : g (l.getD k .zero) = true) (h2 : ∀ j, j < k → g (l.getD j .zero) = false) : fidx g l = k := by
  induction l generalizing k with
  | nil => simp at hk
  | cons b l ih =>
    cases k with
    | zero =>
      have h0 : g b = true := by simpa using h1
      unfold fidx
      rw [if_pos h0]; rfl
    | succ k =>
      have h0 : g b = false := by simpa using h2 0 (by omega)
      have := ih (k := k) (by simpa using hk) (by simpa using h1) (fun j hj => by simpa using h2 (j + 1) (by omega))
      unfold fidx
      rw [h0, this, if_neg (by simp), if_neg (by omega)]
      omega

/-- Of the type itself, from order o on, n orders. -/
def upI (l : List Bk) (t : Int) : Nat → Int → Int
  | 0, _ => -1
  | n + 1, o => if 0 ≤ fidx (isT o t) l then fidx (isT o t) l else upI l t n (o + 1)
/-- Of two others, from order o + n - 1 down to o. -/
def dnI (l : List Bk) (u v o : Int) : Nat → Int
  | 0 => -1
  | n + 1 => if 0 ≤ fidx (isT (o + n) u) l then fidx (isT (o + n) u) l else if 0 ≤ fidx (isT (o + n) v) l then fidx (isT (o + n) v) l else dnI l u v o n
/-- The others, in their order. -/
def other1 (t : Int) : Int := if t = 2 then 0 else 2
def other2 (t : Int) : Int := if t = 1 then 0 else 1
/-- The place of the block that is taken, or -1. -/
def chooseI (l : List Bk) (o t : Int) : Int := if 0 ≤ upI l t (5 - o).toNat o then upI l t (5 - o).toNat o else dnI l (other1 t) (other2 t) o (5 - o).toNat

end Go.Proofs.YtpfafhgllabhbaaDoor.Kit
