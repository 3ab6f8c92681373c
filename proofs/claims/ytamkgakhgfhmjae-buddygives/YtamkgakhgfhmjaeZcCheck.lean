/-
  OWN TEXT. Contracts of the code: buddy.typesMayBe, buddy.freeMayBe, buddy.Check.
-/
import Derived.Test.YtamkgakhgfhmjaeZcSmall
import Derived.Test.YtamkgakhgfhmjaeZcBounds
import Derived.Test.YtamkgakhgfhmjaeZArgs
import Derived.Deep.RegionHeld3
import Derived.Deep.RegionWith
namespace Go.Proofs.Ytamkgakhgfhmjae
open Go Go.RowKit Go.Proofs.Ytamkgakhgfhmjae.Kit

/-- What a function knows of the zone that it was handed: its box, its lists. -/
structure CkInv (w : World) (fo : Option Addr) (fn fc : Nat) (to_ : Option Addr) (tn tc : Nat) (z : Zn) (W : World) : Prop where
  b : Below w.heap.size w W
  box : ZBox W w.heap.size (.int .i64 z.f) (.int .i64 z.t) (.slice fo fn fc) (.slice to_ tn tc)
  zn : ZnAt W fo fn to_ tn z

theorem CkInv.step {w : World} {fo : Option Addr} {fn fc : Nat} {to_ : Option Addr} {tn tc : Nat} {z : Zn} {W W' : World} (h : CkInv w fo fn fc to_ tn tc z W) (hb : Below W.heap.size W W') : CkInv w fo fn fc to_ tn tc z W' :=
  ⟨h.b.trans (hb.mono h.b.size), h.box.below hb, h.zn.below hb⟩
theorem ckInv_first (w : World) (fo : Option Addr) (fn fc : Nat) (to_ : Option Addr) (tn tc : Nat) (z : Zn) (h : ZnAt w fo fn to_ tn z) : CkInv w fo fn fc to_ tn tc z (w.alloc (.cells #[.int .i64 z.f, .int .i64 z.t, .slice fo fn fc, .slice to_ tn tc] 25)) :=
  ⟨below_box _ _, zbox_new _ _ _ _ _ _, h.below (below_box _ _)⟩

/-- One of its types for each group. -/
def TypesP (z : Zn) : Prop := 8 * (z.types.length : Int) = z.t - z.f ∧ ∀ i, i < z.types.length → typeOk (z.types.getD i 0)

set_option maxHeartbeats 2000000 in
theorem typesMay_any (w : World) (fo : Option Addr) (fn fc : Nat) (to_ : Option Addr) (tn tc : Nat) (z : Zn) (h : ZnAt w fo fn to_ tn z) (hN : newOk z.f z.t) :
    Calls Try.prog 36 #[.agg #[.int .i64 z.f, .int .i64 z.t, .slice fo fn fc, .slice to_ tn tc]] w fun e w' => RetIff e (TypesP z) ∧ Below w.heap.size w w' := by
  have I0 := ckInv_first w fo fn fc to_ tn tc z h
  obtain ⟨n1, n2, n3, n4, n5⟩ := hN
  have c0 := I0.box.c0
  have c1 := I0.box.c1
  have c3 := I0.box.c3
  have htl := h.types.len
  have hrc := h.types.reach
  obtain ⟨D, hD⟩ : ∃ D : Nat, z.t - z.f = (D : Int) := ⟨(z.t - z.f).toNat, by omega⟩
  obtain ⟨N, hq⟩ : ∃ N : Nat, (D : Int) / 8 = (N : Int) := ⟨D / 8, by omega⟩
  clear h
  by_cases hlen : tn = N
  · subst hlen
    have hL : Hid (8 * (z.types.length : Int) = z.t - z.f) := by show _ = _; omega
    obtain ⟨W0, hW0⟩ : ∃ W0, w.alloc (.cells #[.int .i64 z.f, .int .i64 z.t, .slice fo fn fc, .slice to_ tn tc] 25) = W0 := ⟨_, rfl⟩
    have HW0 : Hid _ := hW0
    rw [hW0] at I0 c0 c1 c3
    clear hW0
    have htd : ((tn : Int) == (tn : Int)) = true := by simp
    go_enter Try.func36, Try.ntmps36
    go_wp2_with (rw [HW0.out])
    clear HW0 c0 c1 c3 htd hD hq
    go_loopw [18] (fun iv wr => ∃ k : Nat, k ≤ tn ∧ iv = .int .i64 k ∧ Hid (∀ i, i < k → typeOk (z.types.getD i 0)) ∧ W0 = wr) (fun iv _ => tn - (intOf iv).toNat)
    case atStart => exact ⟨0, Nat.zero_le _, rfl, (fun i hi => absurd hi (Nat.not_lt_zero i)), rfl⟩
    case round =>
      obtain ⟨k, hk, rfl, hT, rfl⟩ := hrel
      by_cases hlt : k < tn
      · obtain ⟨b, o, x, rfl, cx, hX⟩ := I0.zn.types.at_.at k (by omega)
        by_cases hx : 0 ≤ x ∧ x ≤ 2
        · have e1 : Hid (inB x 0 2 = true) := inB_t hx
          have hT' : Hid (∀ i, i < k + 1 → typeOk (z.types.getD i 0)) := fun i hi => by
            by_cases e : i = k
            · rw [e, hX.out]; exact hx
            · exact hT.out i (by omega)
          clear hT hx
          go_wp2_with fail
          go_at_call 47
          refine (isType_any _ _).mono ?_
          rintro e w' ⟨rfl, rfl⟩
          rw [e1.out]
          go_wp2
          go_roundw
          case rel => exact ⟨k + 1, by omega, by go_num, hT', trivial⟩
          case measure => simp [intOf]; omega
        · have e1 : Hid (inB x 0 2 = false) := inB_f hx
          have HF : Hid (¬ TypesP z) := fun g => hx (by have := g.2 k (by omega); rw [hX.out] at this; exact this)
          have hbb := I0.b
          clear hT hx I0
          go_wp2_with fail
          go_at_call 47
          refine (isType_any _ _).mono ?_
          rintro e w' ⟨rfl, rfl⟩
          rw [e1.out]
          go_wp2
          go_ret
          exact ⟨⟨false, rfl, fun g => (by cases g), fun g => absurd g HF.out⟩, hbb⟩
      · have HM : Hid (TypesP z) := ⟨hL.out, fun i hi => hT.out i (by omega)⟩
        have hbb := I0.b
        clear hT I0 hL
        go_wp2
        go_ret
        exact ⟨⟨true, rfl, fun _ => HM.out, fun _ => rfl⟩, hbb⟩
  · have HF : Hid (¬ TypesP z) := fun g => hlen (by have := g.1; omega)
    have hlen' : ((tn : Int) == N) = false := by simp; omega
    go_enter Try.func36, Try.ntmps36
    go_wp2
    go_ret
    exact ⟨⟨false, rfl, fun g => (by cases g), fun g => absurd g HF.out⟩, I0.b⟩

set_option maxHeartbeats 4000000 in
theorem freeMay_any (w : World) (fo : Option Addr) (fn fc : Nat) (to_ : Option Addr) (tn tc : Nat) (z : Zn) (h : ZnAt w fo fn to_ tn z) (hN : newOk z.f z.t) :
    Calls Try.prog 37 #[.agg #[.int .i64 z.f, .int .i64 z.t, .slice fo fn fc, .slice to_ tn tc]] w fun e w' => RetIff e (FreeOk z.f z.t z.f none z.free) ∧ Below w.heap.size w w' := by
  have I0 := ckInv_first w fo fn fc to_ tn tc z h
  have c2 := I0.box.c2
  have hfl := h.free.len
  have hfr := h.free.reach
  clear h
  obtain ⟨W0, hW0⟩ : ∃ W0, w.alloc (.cells #[.int .i64 z.f, .int .i64 z.t, .slice fo fn fc, .slice to_ tn tc] 25) = W0 := ⟨_, rfl⟩
  have HW0 : Hid _ := hW0
  rw [hW0] at I0 c2
  clear hW0
  obtain ⟨n1, n2, n3, n4, n5⟩ := id hN
  go_enter Try.func37, Try.ntmps37
  go_wp2_with (rw [HW0.out])
  clear HW0 c2
  go_loopw [9] (fun iv wr => ∃ k : Nat, k ≤ fn ∧ iv = .int .i64 k ∧ Hid (FreeOk z.f z.t z.f none (z.free.take k)) ∧ CkInv w fo fn fc to_ tn tc z wr) (fun iv _ => fn - (intOf iv).toNat)
  case atStart => exact ⟨0, Nat.zero_le _, rfl, trivial, I0⟩
  case round =>
    obtain ⟨k, hk, rfl, hF, I⟩ := hrel
    clear I0
    by_cases hlt : k < fn
    · obtain ⟨bb, bf, x, y, u, rfl, x0, x1, x2, hX⟩ := I.zn.free.at_.at k (by omega)
      have htk := take_getD z.free k (by omega) hX.out
      have hbx := below_box wr (.cells #[.int .i64 x, .int .i64 y, .int .i64 u] 39)
      have I3 := I.step hbx
      have y0 : (wr.alloc (.cells #[.int .i64 x, .int .i64 y, .int .i64 u] 39)).cell? ⟨wr.heap.size, 0, none⟩ = some (.int .i64 x) := by go_simp
      have y1 : (wr.alloc (.cells #[.int .i64 x, .int .i64 y, .int .i64 u] 39)).cell? ⟨wr.heap.size, 1, none⟩ = some (.int .i64 y) := by go_simp
      have y2 : (wr.alloc (.cells #[.int .i64 x, .int .i64 y, .int .i64 u] 39)).cell? ⟨wr.heap.size, 2, none⟩ = some (.int .i64 u) := by go_simp
      have b0 := I3.box.c0
      have b1 := I3.box.c1
      have b2 := I3.box.c2
      have b3 := I3.box.c3
      go_wp2_with fail
      go_at_call 25
      refine (blkMay_any _ z.f z.t _ to_ fn fc tn tc x y hN).mono ?_
      rintro e w4 ⟨rfl, hb4⟩
      have I4 := I3.step hb4
      replace y0 := keep y0 hb4
      replace y1 := keep y1 hb4
      replace y2 := keep y2 hb4
      clear I I3 hbx b0 b1 b2 b3 x0 x1 x2 hb4
      have hbb := I4.b
      by_cases hB : blkIn z.f z.t x y
      · have hB2 := (blkB_iff z.f z.t x y).2 hB
        rw [hB2]
        clear hB2
        obtain ⟨o1, o2, o3, o4⟩ := id hB
        by_cases hU : 0 ≤ u ∧ u ≤ 2
        · have e1 : Hid (inB u 0 2 = true) := inB_t hU
          go_wp2_with fail
          go_at_call 47
          refine (isType_any _ _).mono ?_
          rintro e w' ⟨rfl, rfl⟩
          rw [e1.out]
          by_cases hk0 : k = 0
          · subst hk0
            have hF' : Hid (FreeOk z.f z.t z.f none (z.free.take (0 + 1))) := by
              show FreeOk _ _ _ _ _
              rw [htk, freeOk_snoc]
              exact ⟨hF.out, hB, hU, o2, fun p hp => by cases hp⟩
            clear hF htk
            go_wp2
            go_roundw
            case rel => exact ⟨0 + 1, by omega, by go_num, hF', I4⟩
            case measure => simp [intOf]; omega
          · obtain ⟨j, rfl⟩ : ∃ j, k = j + 1 := ⟨k - 1, by omega⟩
            obtain ⟨bb', bf', x', y', u', he, p0, p1, p2, hX'⟩ := I4.zn.free.at_.at j (by omega)
            cases he
            have hpv := freeOk_at hF.out (k := j) (by simp; omega) (b := ⟨x', y', u'⟩) (by
              have := hX'.out
              rw [List.getD_eq_getElem?_getD, List.getElem?_take, if_pos (by omega), ← List.getD_eq_getElem?_getD]
              exact this)
            obtain ⟨⟨v1, v2, v3, v4⟩, _, _, _⟩ := hpv
            dsimp only at v1 v2 v3 v4
            have htj := take_getD z.free j (by omega) hX'.out
            have hlast : lastOf none (z.free.take (j + 1)) = some ⟨x', y', u'⟩ := by rw [htj, lastOf_snoc]
            have hlow : lowOf z.f (z.free.take (j + 1)) = x' + pw y' := by rw [htj, lowOf_snoc]
            have c2 := I4.box.c2
            have hji : ((j + 1 : Nat) : Int) - 1 = (j : Int) := by omega
            have hjj : ((j + 1 : Nat) : Int) = (j : Int) + 1 := by simp
            have hj1 : (j : Int) < fn := by omega
            have hj2 : j < fn := by omega
            have hj0 : ((j : Int) + 1 == 0) = false := by simp; omega
            clear hbb
            go_wp2_with fail
            have hbx5 := below_box w4 (.cells #[.int .i64 x', .int .i64 y', .int .i64 u'] 39)
            have I5 := I4.step hbx5
            have l0 : (w4.alloc (.cells #[.int .i64 x', .int .i64 y', .int .i64 u'] 39)).cell? ⟨w4.heap.size, 0, none⟩ = some (.int .i64 x') := by go_simp
            have l1 : (w4.alloc (.cells #[.int .i64 x', .int .i64 y', .int .i64 u'] 39)).cell? ⟨w4.heap.size, 1, none⟩ = some (.int .i64 y') := by go_simp
            have l2 : (w4.alloc (.cells #[.int .i64 x', .int .i64 y', .int .i64 u'] 39)).cell? ⟨w4.heap.size, 2, none⟩ = some (.int .i64 u') := by go_simp
            replace y0 := keep y0 hbx5
            replace y1 := keep y1 hbx5
            replace y2 := keep y2 hbx5
            obtain ⟨W5, hW5⟩ : ∃ W5, w4.alloc (.cells #[.int .i64 x', .int .i64 y', .int .i64 u'] 39) = W5 := ⟨_, rfl⟩
            rw [hW5] at I5 l0 l1 l2 y0 y1 y2 ⊢
            clear hW5 hbx5 I4 c2 p0 p1 p2
            have m0 : ∀ wx, Below W5.heap.size W5 wx → wx.cell? ⟨wr.heap.size, 0, none⟩ = some (.int .i64 x) := fun wx h => keep y0 h
            have m1 : ∀ wx, Below W5.heap.size W5 wx → wx.cell? ⟨wr.heap.size, 1, none⟩ = some (.int .i64 y) := fun wx h => keep y1 h
            have m2 : ∀ wx, Below W5.heap.size W5 wx → wx.cell? ⟨wr.heap.size, 2, none⟩ = some (.int .i64 u) := fun wx h => keep y2 h
            have r0 : ∀ wx, Below W5.heap.size W5 wx → wx.cell? ⟨w4.heap.size, 0, none⟩ = some (.int .i64 x') := fun wx h => keep l0 h
            have r1 : ∀ wx, Below W5.heap.size W5 wx → wx.cell? ⟨w4.heap.size, 1, none⟩ = some (.int .i64 y') := fun wx h => keep l1 h
            have r2 : ∀ wx, Below W5.heap.size W5 wx → wx.cell? ⟨w4.heap.size, 2, none⟩ = some (.int .i64 u') := fun wx h => keep l2 h
            obtain ⟨E, hE⟩ : ∃ E, x' + pw y' = E := ⟨_, rfl⟩
            have HBeh : Hid (∀ W, Below W5.heap.size W5 W → Calls Try.prog 42 #[.agg #[.int .i64 x', .int .i64 y', .int .i64 u']] W fun e w' => e = .returned (.int .i64 E) ∧ Below W5.heap.size W5 w') := fun W hS => by
              rw [← hE]
              refine (behind_any W x' y' u' v1 (by omega) (by omega)).mono ?_
              rintro e w' ⟨rfl, hb⟩
              exact ⟨rfl, hS.trans (hb.mono hS.size)⟩
            obtain ⟨R, hR⟩ : ∃ R, areB ⟨x', y', u'⟩ ⟨x, y, u⟩ = R := ⟨_, rfl⟩
            have HAre : Hid (∀ W, Below W5.heap.size W5 W → Calls Try.prog 48 #[.agg #[.int .i64 x', .int .i64 y', .int .i64 u'], .agg #[.int .i64 x, .int .i64 y, .int .i64 u]] W fun e w' => e = .returned (.bool R) ∧ Below W5.heap.size W5 w') := fun W hS => by
              rw [← hR]
              refine (areBeside_any W ⟨x', y', u'⟩ ⟨x, y, u⟩ v1 (by dsimp only; omega) (by dsimp only; omega) v4).mono ?_
              rintro e w' ⟨rfl, hb⟩
              exact ⟨rfl, hS.trans (hb.mono hS.size)⟩
            have S0 : Below W5.heap.size W5 W5 := Below.refl _ _
            rw [hE] at hlow
            by_cases hlw : x < E
            · have HF : Hid (¬ FreeOk z.f z.t z.f none z.free) := fun g => by have := (freeOk_at g (by omega) hX.out).2.2.1; rw [hlow] at this; dsimp only at this; omega
              have hlw' : decide (x < E) = true := decide_eq_true hlw
              clear hF htk htj hX hX' hlast hlow hE hR
              go_region_with (first | (go_at_call 42; refine (HBeh.out _ ?_).mono ?_; (first | exact Below.drew S0 | assumption); rintro e w6 ⟨rfl, hS6⟩; have a0 := m0 _ hS6; have a1 := m1 _ hS6; have a2 := m2 _ hS6; have a3 := r0 _ hS6; have a4 := r1 _ hS6; have a5 := r2 _ hS6) | (go_at_call 48; refine (HAre.out _ ?_).mono ?_; (first | assumption | exact Below.drew (by assumption)); rintro e w7 ⟨rfl, hS7⟩))
              all_goals
                have hbb := I5.b.trans (hS6.mono I5.b.size)
                clear I5 HBeh HAre m0 m1 m2 r0 r1 r2 S0
                go_wp2
                go_ret
                exact ⟨⟨false, rfl, fun g => (by cases g), fun g => absurd g HF.out⟩, hbb⟩
            · have hlw' : decide (x < E) = false := decide_eq_false hlw
              cases R with
              | true =>
                have HF : Hid (¬ FreeOk z.f z.t z.f none z.free) := fun g => (freeOk_at g (by omega) hX.out).2.2.2 _ hlast ((areB_iff (by dsimp only; omega)).1 hR)
                clear hF htk htj hX hX' hlast hlow hE hR
                go_region_with (first | (go_at_call 42; refine (HBeh.out _ ?_).mono ?_; (first | exact Below.drew S0 | assumption); rintro e w6 ⟨rfl, hS6⟩; have a0 := m0 _ hS6; have a1 := m1 _ hS6; have a2 := m2 _ hS6; have a3 := r0 _ hS6; have a4 := r1 _ hS6; have a5 := r2 _ hS6) | (go_at_call 48; refine (HAre.out _ ?_).mono ?_; (first | assumption | exact Below.drew (by assumption)); rintro e w7 ⟨rfl, hS7⟩))
                all_goals
                  have hbb := I5.b.trans (hS7.mono I5.b.size)
                  clear I5 HBeh HAre m0 m1 m2 r0 r1 r2 S0
                  go_wp2
                  go_ret
                  exact ⟨⟨false, rfl, fun g => (by cases g), fun g => absurd g HF.out⟩, hbb⟩
              | false =>
                have hF' : Hid (FreeOk z.f z.t z.f none (z.free.take (j + 1 + 1))) := by
                  show FreeOk _ _ _ _ _
                  rw [htk, freeOk_snoc]
                  refine ⟨hF.out, hB, hU, by rw [hlow]; dsimp only; omega, fun p hp => ?_⟩
                  rw [hlast] at hp
                  cases hp
                  intro g
                  have := (areB_iff (by dsimp only; omega)).2 g
                  rw [hR] at this
                  cases this
                clear hF htk htj hX hX' hlast hlow hE hR
                go_region_with (first | (go_at_call 42; refine (HBeh.out _ ?_).mono ?_; (first | exact Below.drew S0 | assumption); rintro e w6 ⟨rfl, hS6⟩; have a0 := m0 _ hS6; have a1 := m1 _ hS6; have a2 := m2 _ hS6; have a3 := r0 _ hS6; have a4 := r1 _ hS6; have a5 := r2 _ hS6) | (go_at_call 48; refine (HAre.out _ ?_).mono ?_; (first | assumption | exact Below.drew (by assumption)); rintro e w7 ⟨rfl, hS7⟩))
                all_goals
                  have I7 := I5.step hS7
                  clear I5 HBeh HAre m0 m1 m2 r0 r1 r2 S0
                  go_wp2
                  go_roundw
                  case rel => exact ⟨(j + 1) + 1, by omega, by go_num, hF', I7⟩
                  case measure => simp [intOf]; omega
        · have e1 : Hid (inB u 0 2 = false) := inB_f hU
          have HF : Hid (¬ FreeOk z.f z.t z.f none z.free) := fun g => hU (freeOk_at g (by omega) hX.out).2.1
          clear hF htk
          go_wp2_with fail
          go_at_call 47
          refine (isType_any _ _).mono ?_
          rintro e w' ⟨rfl, rfl⟩
          rw [e1.out]
          go_wp2
          go_ret
          exact ⟨⟨false, rfl, fun g => (by cases g), fun g => absurd g HF.out⟩, hbb⟩
      · have hB2 : blkB z.f z.t x y = false := by
          cases hb : blkB z.f z.t x y with
          | false => rfl
          | true => exact absurd ((blkB_iff z.f z.t x y).1 hb) hB
        rw [hB2]
        have HF : Hid (¬ FreeOk z.f z.t z.f none z.free) := fun g => hB (freeOk_at g (by omega) hX.out).1
        clear hF htk
        go_wp2
        go_ret
        exact ⟨⟨false, rfl, fun g => (by cases g), fun g => absurd g HF.out⟩, hbb⟩
    · have HM : Hid (FreeOk z.f z.t z.f none z.free) := by have := hF.out; rw [List.take_of_length_le (by omega)] at this; exact this
      have hbb := I.b
      clear hF
      go_wp2
      go_ret
      exact ⟨⟨true, rfl, fun _ => HM.out, fun _ => rfl⟩, hbb⟩

theorem zMay_iff (z : Zn) : ZMay z ↔ newOk z.f z.t ∧ TypesP z ∧ FreeOk z.f z.t z.f none z.free :=
  ⟨fun h => ⟨h.new, ⟨h.len, h.ty⟩, h.free⟩, fun ⟨h1, h2, h3⟩ => ⟨h1, h2.1, h2.2, h3⟩⟩

set_option maxHeartbeats 1000000 in
theorem zCheck_any (w : World) (fo : Option Addr) (fn fc : Nat) (to_ : Option Addr) (tn tc : Nat) (z : Zn) (h : ZnAt w fo fn to_ tn z) :
    Calls Try.prog 17 #[.agg #[.int .i64 z.f, .int .i64 z.t, .slice fo fn fc, .slice to_ tn tc]] w fun e w' => (∃ c, e = .returned (.int .i64 c) ∧ (c = 0 ∧ ZMay z ∨ c = 8 ∧ ¬ ZMay z)) ∧ Below w.heap.size w w' := by
  have I0 := ckInv_first w fo fn fc to_ tn tc z h
  have c0 := I0.box.c0
  have c1 := I0.box.c1
  have c2 := I0.box.c2
  have c3 := I0.box.c3
  clear h
  by_cases hn : newOk z.f z.t
  · have HB : Hid (newB z.f z.t = true) := newB_t hn
    go_enter Try.func17, Try.ntmps17
    go_wp2_with fail
    go_at_call 35
    refine (bounds_any _ _ _).mono ?_
    rintro e w' ⟨rfl, rfl⟩
    rw [HB.out]
    go_wp2_with fail
    go_at_call 36
    refine (typesMay_any _ fo fn fc to_ tn tc z I0.zn hn).mono ?_
    rintro e w1 ⟨⟨r, rfl, hr⟩, hb1⟩
    have I1 := I0.step hb1
    clear I0 c0 c1 c2 c3 hb1
    have c0 := I1.box.c0
    have c1 := I1.box.c1
    have c2 := I1.box.c2
    have c3 := I1.box.c3
    cases r with
    | false =>
      have HF : Hid (¬ ZMay z) := fun g => by have := hr.2 ((zMay_iff z).1 g).2.1; cases this
      have hbb := I1.b
      clear hr I1 c0 c1 c2 c3
      go_wp2
      go_ret
      exact ⟨⟨8, rfl, .inr ⟨rfl, HF.out⟩⟩, hbb⟩
    | true =>
      have HT : Hid (TypesP z) := hr.1 rfl
      clear hr
      go_wp2_with fail
      go_at_call 37
      refine (freeMay_any _ fo fn fc to_ tn tc z I1.zn hn).mono ?_
      rintro e w2 ⟨⟨r, rfl, hr⟩, hb2⟩
      have hbb := (I1.step hb2).b
      clear I1 c0 c1 c2 c3 hb2
      cases r with
      | false =>
        have HF : Hid (¬ ZMay z) := fun g => by have := hr.2 ((zMay_iff z).1 g).2.2; cases this
        clear hr
        go_wp2
        go_ret
        exact ⟨⟨8, rfl, .inr ⟨rfl, HF.out⟩⟩, hbb⟩
      | true =>
        have HM : Hid (ZMay z) := (zMay_iff z).2 ⟨hn, HT.out, hr.1 rfl⟩
        clear hr
        go_wp2
        go_ret
        exact ⟨⟨0, rfl, .inl ⟨rfl, HM.out⟩⟩, hbb⟩
  · have HB : Hid (newB z.f z.t = false) := newB_f hn
    have HF : Hid (¬ ZMay z) := fun g => hn g.new
    have hbb := I0.b
    clear hn
    go_enter Try.func17, Try.ntmps17
    go_wp2_with fail
    go_at_call 35
    refine (bounds_any _ _ _).mono ?_
    rintro e w' ⟨rfl, rfl⟩
    rw [HB.out]
    clear I0 c0 c1 c2 c3
    go_wp2
    go_ret
    exact ⟨⟨8, rfl, .inr ⟨rfl, HF.out⟩⟩, hbb⟩

theorem zCheck_ok (w : World) (fo : Option Addr) (fn fc : Nat) (to_ : Option Addr) (tn tc : Nat) (z : Zn) (h : ZnAt w fo fn to_ tn z) (hM : ZMay z) :
    Calls Try.prog 17 #[.agg #[.int .i64 z.f, .int .i64 z.t, .slice fo fn fc, .slice to_ tn tc]] w fun e w' => e = .returned (.int .i64 0) ∧ Below w.heap.size w w' := by
  refine (zCheck_any w fo fn fc to_ tn tc z h).mono ?_
  rintro e w1 ⟨⟨c, rfl, hc⟩, hb⟩
  rcases hc with ⟨rfl, _⟩ | ⟨_, g⟩
  · exact ⟨rfl, hb⟩
  · exact absurd hM g

theorem zCheck_no (w : World) (fo : Option Addr) (fn fc : Nat) (to_ : Option Addr) (tn tc : Nat) (z : Zn) (h : ZnAt w fo fn to_ tn z) (_hf : ZFits z) (hM : ¬ ZMay z) :
    Calls Try.prog 17 #[.agg #[.int .i64 z.f, .int .i64 z.t, .slice fo fn fc, .slice to_ tn tc]] w fun e w' => e = .returned (.int .i64 8) ∧ Below w.heap.size w w' := by
  refine (zCheck_any w fo fn fc to_ tn tc z h).mono ?_
  rintro e w1 ⟨⟨c, rfl, hc⟩, hb⟩
  rcases hc with ⟨_, g⟩ | ⟨rfl, _⟩
  · exact absurd g hM
  · exact ⟨rfl, hb⟩

end Go.Proofs.Ytamkgakhgfhmjae
