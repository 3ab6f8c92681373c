/-
  OWN TEXTS, bundled: ZcCheck, ZcCopy, ZcBackI.
-/
import Derived.Test.YtffhpjjioefaeaeBuddyGivesPart2
import Derived.Test.YtffhpjjioefaeaeBuddyGivesPart5
import Derived.Deep.RegionHeld3
import Derived.Deep.RegionWith
import Derived.Laws.MakeOwn
import Derived.Test.YtffhpjjioefaeaeBuddyGivesPart4

/-
  OWN TEXT. Contracts of the code: buddy.typesMayBe, buddy.freeMayBe, buddy.Check.
-/
namespace Go.Proofs.Ytffhpjjioefaeae
open Go Go.RowKit Go.Proofs.Ytffhpjjioefaeae.Kit

/-- What a function knows of the zone that it was handed: its box, its lists. -/
structure CkInv (w : World) (fo : Option Addr) (fn fc : Nat) (to_ : Option Addr) (tn tc : Nat) (z : Zn) (W : World) : Prop where
  b : Below w.heap.size w W
  box : ZBox W w.heap.size (.int .i64 z.f) (.int .i64 z.t) (.slice fo fn fc) (.slice to_ tn tc)
  zn : ZnAt W fo fn to_ tn z

theorem CkInv.step {w : World} {fo : Option Addr} {fn fc : Nat} {to_ : Option Addr} {tn tc : Nat} {z : Zn} {W W' : World} (h : CkInv w fo fn fc to_ tn tc z W) (hb : Below W.heap.size W W') : CkInv w fo fn fc to_ tn tc z W' :=
  ⟨h.b.trans (hb.mono h.b.size), h.box.below hb, h.zn.below hb⟩
theorem ckInv_first (w : World) (fo : Option Addr) (fn fc : Nat) (to_ : Option Addr) (tn tc : Nat) (z : Zn) (h : ZnAt w fo fn to_ tn z) : CkInv w fo fn fc to_ tn tc z (w.alloc (.cells #[.int .i64 z.f, .int .i64 z.t, .slice fo fn fc, .slice to_ tn tc] 25)) :=
  ⟨below_box _ _, zbox_new _ _ _ _ _ _, h.below (below_box _ _)⟩

/-- One of its types for each group. -/
def TypesP (z : Zn) : Prop := 8 * (z.types.length : Int) = z.t - z.f ∧ ∀ i, i < z.types.length → typeOk (z.types.getD i 0)

set_option maxHeartbeats 2000000 in
theorem typesMay_any (w : World) (fo : Option Addr) (fn fc : Nat) (to_ : Option Addr) (tn tc : Nat) (z : Zn) (h : ZnAt w fo fn to_ tn z) (hN : newOk z.f z.t) :
    Calls Try.prog 36 #[.agg #[.int .i64 z.f, .int .i64 z.t, .slice fo fn fc, .slice to_ tn tc]] w fun e w' => RetIff e (TypesP z) ∧ Below w.heap.size w w' := by
  have I0 := ckInv_first w fo fn fc to_ tn tc z h
  obtain ⟨n1, n2, n3, n4, n5⟩ := hN
  have c0 := I0.box.c0
  have c1 := I0.box.c1
  have c3 := I0.box.c3
  have htl := h.types.len
  have hrc := h.types.reach
  obtain ⟨D, hD⟩ : ∃ D : Nat, z.t - z.f = (D : Int) := ⟨(z.t - z.f).toNat, by omega⟩
  obtain ⟨N, hq⟩ : ∃ N : Nat, (D : Int) / 8 = (N : Int) := ⟨D / 8, by omega⟩
  clear h
  by_cases hlen : tn = N
  · subst hlen
    have hL : Hid (8 * (z.types.length : Int) = z.t - z.f) := by show _ = _; omega
    obtain ⟨W0, hW0⟩ : ∃ W0, w.alloc (.cells #[.int .i64 z.f, .int .i64 z.t, .slice fo fn fc, .slice to_ tn tc] 25) = W0 := ⟨_, rfl⟩
    have HW0 : Hid _ := hW0
    rw [hW0] at I0 c0 c1 c3
    clear hW0
    have htd : ((tn : Int) == (tn : Int)) = true := by simp
    go_enter Try.func36, Try.ntmps36
    go_wp2_with (rw [HW0.out])
    clear HW0 c0 c1 c3 htd hD hq
    go_loopw [18] (fun iv wr => ∃ k : Nat, k ≤ tn ∧ iv = .int .i64 k ∧ Hid (∀ i, i < k → typeOk (z.types.getD i 0)) ∧ W0 = wr) (fun iv _ => tn - (intOf iv).toNat)
    case atStart => exact ⟨0, Nat.zero_le _, rfl, (fun i hi => absurd hi (Nat.not_lt_zero i)), rfl⟩
    case round =>
      obtain ⟨k, hk, rfl, hT, rfl⟩ := hrel
      by_cases hlt : k < tn
      · obtain ⟨b, o, x, rfl, cx, hX⟩ := I0.zn.types.at_.at k (by omega)
        by_cases hx : 0 ≤ x ∧ x ≤ 2
        · have e1 : Hid (inB x 0 2 = true) := inB_t hx
          have hT' : Hid (∀ i, i < k + 1 → typeOk (z.types.getD i 0)) := fun i hi => by
            by_cases e : i = k
            · rw [e, hX.out]; exact hx
            · exact hT.out i (by omega)
          clear hT hx
          go_wp2_with fail
          go_at_call 47
          refine (isType_any _ _).mono ?_
          rintro e w' ⟨rfl, rfl⟩
          rw [e1.out]
          go_wp2
          go_roundw
          case rel => exact ⟨k + 1, by omega, by go_num, hT', trivial⟩
          case measure => simp [intOf]; omega
        · have e1 : Hid (inB x 0 2 = false) := inB_f hx
          have HF : Hid (¬ TypesP z) := fun g => hx (by have := g.2 k (by omega); rw [hX.out] at this; exact this)
          have hbb := I0.b
          clear hT hx I0
          go_wp2_with fail
          go_at_call 47
          refine (isType_any _ _).mono ?_
          rintro e w' ⟨rfl, rfl⟩
          rw [e1.out]
          go_wp2
          go_ret
          exact ⟨⟨false, rfl, fun g => (by cases g), fun g => absurd g HF.out⟩, hbb⟩
      · have HM : Hid (TypesP z) := ⟨hL.out, fun i hi => hT.out i (by omega)⟩
        have hbb := I0.b
        clear hT I0 hL
        go_wp2
        go_ret
        exact ⟨⟨true, rfl, fun _ => HM.out, fun _ => rfl⟩, hbb⟩
  · have HF : Hid (¬ TypesP z) := fun g => hlen (by have := g.1; omega)
    have hlen' : ((tn : Int) == N) = false := by simp; omega
    go_enter Try.func36, Try.ntmps36
    go_wp2
    go_ret
    exact ⟨⟨false, rfl, fun g => (by cases g), fun g => absurd g HF.out⟩, I0.b⟩

set_option maxHeartbeats 4000000 in
theorem freeMay_any (w : World) (fo : Option Addr) (fn fc : Nat) (to_ : Option Addr) (tn tc : Nat) (z : Zn) (h : ZnAt w fo fn to_ tn z) (hN : newOk z.f z.t) :
    Calls Try.prog 37 #[.agg #[.int .i64 z.f, .int .i64 z.t, .slice fo fn fc, .slice to_ tn tc]] w fun e w' => RetIff e (FreeOk z.f z.t z.f none z.free) ∧ Below w.heap.size w w' := by
  have I0 := ckInv_first w fo fn fc to_ tn tc z h
  have c2 := I0.box.c2
  have hfl := h.free.len
  have hfr := h.free.reach
  clear h
  obtain ⟨W0, hW0⟩ : ∃ W0, w.alloc (.cells #[.int .i64 z.f, .int .i64 z.t, .slice fo fn fc, .slice to_ tn tc] 25) = W0 := ⟨_, rfl⟩
  have HW0 : Hid _ := hW0
  rw [hW0] at I0 c2
  clear hW0
  obtain ⟨n1, n2, n3, n4, n5⟩ := id hN
  go_enter Try.func37, Try.ntmps37
  go_wp2_with (rw [HW0.out])
  clear HW0 c2
  go_loopw [9] (fun iv wr => ∃ k : Nat, k ≤ fn ∧ iv = .int .i64 k ∧ Hid (FreeOk z.f z.t z.f none (z.free.take k)) ∧ CkInv w fo fn fc to_ tn tc z wr) (fun iv _ => fn - (intOf iv).toNat)
  case atStart => exact ⟨0, Nat.zero_le _, rfl, trivial, I0⟩
  case round =>
    obtain ⟨k, hk, rfl, hF, I⟩ := hrel
    clear I0
    by_cases hlt : k < fn
    · obtain ⟨bb, bf, x, y, u, rfl, x0, x1, x2, hX⟩ := I.zn.free.at_.at k (by omega)
      have htk := take_getD z.free k (by omega) hX.out
      have hbx := below_box wr (.cells #[.int .i64 x, .int .i64 y, .int .i64 u] 39)
      have I3 := I.step hbx
      have y0 : (wr.alloc (.cells #[.int .i64 x, .int .i64 y, .int .i64 u] 39)).cell? ⟨wr.heap.size, 0, none⟩ = some (.int .i64 x) := by go_simp
      have y1 : (wr.alloc (.cells #[.int .i64 x, .int .i64 y, .int .i64 u] 39)).cell? ⟨wr.heap.size, 1, none⟩ = some (.int .i64 y) := by go_simp
      have y2 : (wr.alloc (.cells #[.int .i64 x, .int .i64 y, .int .i64 u] 39)).cell? ⟨wr.heap.size, 2, none⟩ = some (.int .i64 u) := by go_simp
      have b0 := I3.box.c0
      have b1 := I3.box.c1
      have b2 := I3.box.c2
      have b3 := I3.box.c3
      go_wp2_with fail
      go_at_call 25
      refine (blkMay_any _ z.f z.t _ to_ fn fc tn tc x y hN).mono ?_
      rintro e w4 ⟨rfl, hb4⟩
      have I4 := I3.step hb4
      replace y0 := keep y0 hb4
      replace y1 := keep y1 hb4
      replace y2 := keep y2 hb4
      clear I I3 hbx b0 b1 b2 b3 x0 x1 x2 hb4
      have hbb := I4.b
      by_cases hB : blkIn z.f z.t x y
      · have hB2 := (blkB_iff z.f z.t x y).2 hB
        rw [hB2]
        clear hB2
        obtain ⟨o1, o2, o3, o4⟩ := id hB
        by_cases hU : 0 ≤ u ∧ u ≤ 2
        · have e1 : Hid (inB u 0 2 = true) := inB_t hU
          go_wp2_with fail
          go_at_call 47
          refine (isType_any _ _).mono ?_
          rintro e w' ⟨rfl, rfl⟩
          rw [e1.out]
          by_cases hk0 : k = 0
          · subst hk0
            have hF' : Hid (FreeOk z.f z.t z.f none (z.free.take (0 + 1))) := by
              show FreeOk _ _ _ _ _
              rw [htk, freeOk_snoc]
              exact ⟨hF.out, hB, hU, o2, fun p hp => by cases hp⟩
            clear hF htk
            go_wp2
            go_roundw
            case rel => exact ⟨0 + 1, by omega, by go_num, hF', I4⟩
            case measure => simp [intOf]; omega
          · obtain ⟨j, rfl⟩ : ∃ j, k = j + 1 := ⟨k - 1, by omega⟩
            obtain ⟨bb', bf', x', y', u', he, p0, p1, p2, hX'⟩ := I4.zn.free.at_.at j (by omega)
            cases he
            have hpv := freeOk_at hF.out (k := j) (by simp; omega) (b := ⟨x', y', u'⟩) (by
              have := hX'.out
              rw [List.getD_eq_getElem?_getD, List.getElem?_take, if_pos (by omega), ← List.getD_eq_getElem?_getD]
              exact this)
            obtain ⟨⟨v1, v2, v3, v4⟩, _, _, _⟩ := hpv
            dsimp only at v1 v2 v3 v4
            have htj := take_getD z.free j (by omega) hX'.out
            have hlast : lastOf none (z.free.take (j + 1)) = some ⟨x', y', u'⟩ := by rw [htj, lastOf_snoc]
            have hlow : lowOf z.f (z.free.take (j + 1)) = x' + pw y' := by rw [htj, lowOf_snoc]
            have c2 := I4.box.c2
            have hji : ((j + 1 : Nat) : Int) - 1 = (j : Int) := by omega
            have hjj : ((j + 1 : Nat) : Int) = (j : Int) + 1 := by simp
            have hj1 : (j : Int) < fn := by omega
            have hj2 : j < fn := by omega
            have hj0 : ((j : Int) + 1 == 0) = false := by simp; omega
            clear hbb
            go_wp2_with fail
            have hbx5 := below_box w4 (.cells #[.int .i64 x', .int .i64 y', .int .i64 u'] 39)
            have I5 := I4.step hbx5
            have l0 : (w4.alloc (.cells #[.int .i64 x', .int .i64 y', .int .i64 u'] 39)).cell? ⟨w4.heap.size, 0, none⟩ = some (.int .i64 x') := by go_simp
            have l1 : (w4.alloc (.cells #[.int .i64 x', .int .i64 y', .int .i64 u'] 39)).cell? ⟨w4.heap.size, 1, none⟩ = some (.int .i64 y') := by go_simp
            have l2 : (w4.alloc (.cells #[.int .i64 x', .int .i64 y', .int .i64 u'] 39)).cell? ⟨w4.heap.size, 2, none⟩ = some (.int .i64 u') := by go_simp
            replace y0 := keep y0 hbx5
            replace y1 := keep y1 hbx5
            replace y2 := keep y2 hbx5
            obtain ⟨W5, hW5⟩ : ∃ W5, w4.alloc (.cells #[.int .i64 x', .int .i64 y', .int .i64 u'] 39) = W5 := ⟨_, rfl⟩
            rw [hW5] at I5 l0 l1 l2 y0 y1 y2 ⊢
            clear hW5 hbx5 I4 c2 p0 p1 p2
            have m0 : ∀ wx, Below W5.heap.size W5 wx → wx.cell? ⟨wr.heap.size, 0, none⟩ = some (.int .i64 x) := fun wx h => keep y0 h
            have m1 : ∀ wx, Below W5.heap.size W5 wx → wx.cell? ⟨wr.heap.size, 1, none⟩ = some (.int .i64 y) := fun wx h => keep y1 h
            have m2 : ∀ wx, Below W5.heap.size W5 wx → wx.cell? ⟨wr.heap.size, 2, none⟩ = some (.int .i64 u) := fun wx h => keep y2 h
            have r0 : ∀ wx, Below W5.heap.size W5 wx → wx.cell? ⟨w4.heap.size, 0, none⟩ = some (.int .i64 x') := fun wx h => keep l0 h
            have r1 : ∀ wx, Below W5.heap.size W5 wx → wx.cell? ⟨w4.heap.size, 1, none⟩ = some (.int .i64 y') := fun wx h => keep l1 h
            have r2 : ∀ wx, Below W5.heap.size W5 wx → wx.cell? ⟨w4.heap.size, 2, none⟩ = some (.int .i64 u') := fun wx h => keep l2 h
            obtain ⟨E, hE⟩ : ∃ E, x' + pw y' = E := ⟨_, rfl⟩
            have HBeh : Hid (∀ W, Below W5.heap.size W5 W → Calls Try.prog 42 #[.agg #[.int .i64 x', .int .i64 y', .int .i64 u']] W fun e w' => e = .returned (.int .i64 E) ∧ Below W5.heap.size W5 w') := fun W hS => by
              rw [← hE]
              refine (behind_any W x' y' u' v1 (by omega) (by omega)).mono ?_
              rintro e w' ⟨rfl, hb⟩
              exact ⟨rfl, hS.trans (hb.mono hS.size)⟩
            obtain ⟨R, hR⟩ : ∃ R, areB ⟨x', y', u'⟩ ⟨x, y, u⟩ = R := ⟨_, rfl⟩
            have HAre : Hid (∀ W, Below W5.heap.size W5 W → Calls Try.prog 48 #[.agg #[.int .i64 x', .int .i64 y', .int .i64 u'], .agg #[.int .i64 x, .int .i64 y, .int .i64 u]] W fun e w' => e = .returned (.bool R) ∧ Below W5.heap.size W5 w') := fun W hS => by
              rw [← hR]
              refine (areBeside_any W ⟨x', y', u'⟩ ⟨x, y, u⟩ v1 (by dsimp only; omega) (by dsimp only; omega) v4).mono ?_
              rintro e w' ⟨rfl, hb⟩
              exact ⟨rfl, hS.trans (hb.mono hS.size)⟩
            have S0 : Below W5.heap.size W5 W5 := Below.refl _ _
            rw [hE] at hlow
            by_cases hlw : x < E
            · have HF : Hid (¬ FreeOk z.f z.t z.f none z.free) := fun g => by have := (freeOk_at g (by omega) hX.out).2.2.1; rw [hlow] at this; dsimp only at this; omega
              have hlw' : decide (x < E) = true := decide_eq_true hlw
              clear hF htk htj hX hX' hlast hlow hE hR
              go_region_with (first | (go_at_call 42; refine (HBeh.out _ ?_).mono ?_; (first | exact Below.drew S0 | assumption); rintro e w6 ⟨rfl, hS6⟩; have a0 := m0 _ hS6; have a1 := m1 _ hS6; have a2 := m2 _ hS6; have a3 := r0 _ hS6; have a4 := r1 _ hS6; have a5 := r2 _ hS6) | (go_at_call 48; refine (HAre.out _ ?_).mono ?_; (first | assumption | exact Below.drew (by assumption)); rintro e w7 ⟨rfl, hS7⟩))
              all_goals
                have hbb := I5.b.trans (hS6.mono I5.b.size)
                clear I5 HBeh HAre m0 m1 m2 r0 r1 r2 S0
                go_wp2
                go_ret
                exact ⟨⟨false, rfl, fun g => (by cases g), fun g => absurd g HF.out⟩, hbb⟩
            · have hlw' : decide (x < E) = false := decide_eq_false hlw
              cases R with
              | true =>
                have HF : Hid (¬ FreeOk z.f z.t z.f none z.free) := fun g => (freeOk_at g (by omega) hX.out).2.2.2 _ hlast ((areB_iff (by dsimp only; omega)).1 hR)
                clear hF htk htj hX hX' hlast hlow hE hR
                go_region_with (first | (go_at_call 42; refine (HBeh.out _ ?_).mono ?_; (first | exact Below.drew S0 | assumption); rintro e w6 ⟨rfl, hS6⟩; have a0 := m0 _ hS6; have a1 := m1 _ hS6; have a2 := m2 _ hS6; have a3 := r0 _ hS6; have a4 := r1 _ hS6; have a5 := r2 _ hS6) | (go_at_call 48; refine (HAre.out _ ?_).mono ?_; (first | assumption | exact Below.drew (by assumption)); rintro e w7 ⟨rfl, hS7⟩))
                all_goals
                  have hbb := I5.b.trans (hS7.mono I5.b.size)
                  clear I5 HBeh HAre m0 m1 m2 r0 r1 r2 S0
                  go_wp2
                  go_ret
                  exact ⟨⟨false, rfl, fun g => (by cases g), fun g => absurd g HF.out⟩, hbb⟩
              | false =>
                have hF' : Hid (FreeOk z.f z.t z.f none (z.free.take (j + 1 + 1))) := by
                  show FreeOk _ _ _ _ _
                  rw [htk, freeOk_snoc]
                  refine ⟨hF.out, hB, hU, by rw [hlow]; dsimp only; omega, fun p hp => ?_⟩
                  rw [hlast] at hp
                  cases hp
                  intro g
                  have := (areB_iff (by dsimp only; omega)).2 g
                  rw [hR] at this
                  cases this
                clear hF htk htj hX hX' hlast hlow hE hR
                go_region_with (first | (go_at_call 42; refine (HBeh.out _ ?_).mono ?_; (first | exact Below.drew S0 | assumption); rintro e w6 ⟨rfl, hS6⟩; have a0 := m0 _ hS6; have a1 := m1 _ hS6; have a2 := m2 _ hS6; have a3 := r0 _ hS6; have a4 := r1 _ hS6; have a5 := r2 _ hS6) | (go_at_call 48; refine (HAre.out _ ?_).mono ?_; (first | assumption | exact Below.drew (by assumption)); rintro e w7 ⟨rfl, hS7⟩))
                all_goals
                  have I7 := I5.step hS7
                  clear I5 HBeh HAre m0 m1 m2 r0 r1 r2 S0
                  go_wp2
                  go_roundw
                  case rel => exact ⟨(j + 1) + 1, by omega, by go_num, hF', I7⟩
                  case measure => simp [intOf]; omega
        · have e1 : Hid (inB u 0 2 = false) := inB_f hU
          have HF : Hid (¬ FreeOk z.f z.t z.f none z.free) := fun g => hU (freeOk_at g (by omega) hX.out).2.1
          clear hF htk
          go_wp2_with fail
          go_at_call 47
          refine (isType_any _ _).mono ?_
          rintro e w' ⟨rfl, rfl⟩
          rw [e1.out]
          go_wp2
          go_ret
          exact ⟨⟨false, rfl, fun g => (by cases g), fun g => absurd g HF.out⟩, hbb⟩
      · have hB2 : blkB z.f z.t x y = false := by
          cases hb : blkB z.f z.t x y with
          | false => rfl
          | true => exact absurd ((blkB_iff z.f z.t x y).1 hb) hB
        rw [hB2]
        have HF : Hid (¬ FreeOk z.f z.t z.f none z.free) := fun g => hB (freeOk_at g (by omega) hX.out).1
        clear hF htk
        go_wp2
        go_ret
        exact ⟨⟨false, rfl, fun g => (by cases g), fun g => absurd g HF.out⟩, hbb⟩
    · have HM : Hid (FreeOk z.f z.t z.f none z.free) := by have := hF.out; rw [List.take_of_length_le (by omega)] at this; exact this
      have hbb := I.b
      clear hF
      go_wp2
      go_ret
      exact ⟨⟨true, rfl, fun _ => HM.out, fun _ => rfl⟩, hbb⟩

theorem zMay_iff (z : Zn) : ZMay z ↔ newOk z.f z.t ∧ TypesP z ∧ FreeOk z.f z.t z.f none z.free :=
  ⟨fun h => ⟨h.new, ⟨h.len, h.ty⟩, h.free⟩, fun ⟨h1, h2, h3⟩ => ⟨h1, h2.1, h2.2, h3⟩⟩

set_option maxHeartbeats 1000000 in
theorem zCheck_any (w : World) (fo : Option Addr) (fn fc : Nat) (to_ : Option Addr) (tn tc : Nat) (z : Zn) (h : ZnAt w fo fn to_ tn z) :
    Calls Try.prog 17 #[.agg #[.int .i64 z.f, .int .i64 z.t, .slice fo fn fc, .slice to_ tn tc]] w fun e w' => (∃ c, e = .returned (.int .i64 c) ∧ (c = 0 ∧ ZMay z ∨ c = 8 ∧ ¬ ZMay z)) ∧ Below w.heap.size w w' := by
  have I0 := ckInv_first w fo fn fc to_ tn tc z h
  have c0 := I0.box.c0
  have c1 := I0.box.c1
  have c2 := I0.box.c2
  have c3 := I0.box.c3
  clear h
  by_cases hn : newOk z.f z.t
  · have HB : Hid (newB z.f z.t = true) := newB_t hn
    go_enter Try.func17, Try.ntmps17
    go_wp2_with fail
    go_at_call 35
    refine (bounds_any _ _ _).mono ?_
    rintro e w' ⟨rfl, rfl⟩
    rw [HB.out]
    go_wp2_with fail
    go_at_call 36
    refine (typesMay_any _ fo fn fc to_ tn tc z I0.zn hn).mono ?_
    rintro e w1 ⟨⟨r, rfl, hr⟩, hb1⟩
    have I1 := I0.step hb1
    clear I0 c0 c1 c2 c3 hb1
    have c0 := I1.box.c0
    have c1 := I1.box.c1
    have c2 := I1.box.c2
    have c3 := I1.box.c3
    cases r with
    | false =>
      have HF : Hid (¬ ZMay z) := fun g => by have := hr.2 ((zMay_iff z).1 g).2.1; cases this
      have hbb := I1.b
      clear hr I1 c0 c1 c2 c3
      go_wp2
      go_ret
      exact ⟨⟨8, rfl, .inr ⟨rfl, HF.out⟩⟩, hbb⟩
    | true =>
      have HT : Hid (TypesP z) := hr.1 rfl
      clear hr
      go_wp2_with fail
      go_at_call 37
      refine (freeMay_any _ fo fn fc to_ tn tc z I1.zn hn).mono ?_
      rintro e w2 ⟨⟨r, rfl, hr⟩, hb2⟩
      have hbb := (I1.step hb2).b
      clear I1 c0 c1 c2 c3 hb2
      cases r with
      | false =>
        have HF : Hid (¬ ZMay z) := fun g => by have := hr.2 ((zMay_iff z).1 g).2.2; cases this
        clear hr
        go_wp2
        go_ret
        exact ⟨⟨8, rfl, .inr ⟨rfl, HF.out⟩⟩, hbb⟩
      | true =>
        have HM : Hid (ZMay z) := (zMay_iff z).2 ⟨hn, HT.out, hr.1 rfl⟩
        clear hr
        go_wp2
        go_ret
        exact ⟨⟨0, rfl, .inl ⟨rfl, HM.out⟩⟩, hbb⟩
  · have HB : Hid (newB z.f z.t = false) := newB_f hn
    have HF : Hid (¬ ZMay z) := fun g => hn g.new
    have hbb := I0.b
    clear hn
    go_enter Try.func17, Try.ntmps17
    go_wp2_with fail
    go_at_call 35
    refine (bounds_any _ _ _).mono ?_
    rintro e w' ⟨rfl, rfl⟩
    rw [HB.out]
    clear I0 c0 c1 c2 c3
    go_wp2
    go_ret
    exact ⟨⟨8, rfl, .inr ⟨rfl, HF.out⟩⟩, hbb⟩

theorem zCheck_ok (w : World) (fo : Option Addr) (fn fc : Nat) (to_ : Option Addr) (tn tc : Nat) (z : Zn) (h : ZnAt w fo fn to_ tn z) (hM : ZMay z) :
    Calls Try.prog 17 #[.agg #[.int .i64 z.f, .int .i64 z.t, .slice fo fn fc, .slice to_ tn tc]] w fun e w' => e = .returned (.int .i64 0) ∧ Below w.heap.size w w' := by
  refine (zCheck_any w fo fn fc to_ tn tc z h).mono ?_
  rintro e w1 ⟨⟨c, rfl, hc⟩, hb⟩
  rcases hc with ⟨rfl, _⟩ | ⟨_, g⟩
  · exact ⟨rfl, hb⟩
  · exact absurd hM g

theorem zCheck_no (w : World) (fo : Option Addr) (fn fc : Nat) (to_ : Option Addr) (tn tc : Nat) (z : Zn) (h : ZnAt w fo fn to_ tn z) (_hf : ZFits z) (hM : ¬ ZMay z) :
    Calls Try.prog 17 #[.agg #[.int .i64 z.f, .int .i64 z.t, .slice fo fn fc, .slice to_ tn tc]] w fun e w' => e = .returned (.int .i64 8) ∧ Below w.heap.size w w' := by
  refine (zCheck_any w fo fn fc to_ tn tc z h).mono ?_
  rintro e w1 ⟨⟨c, rfl, hc⟩, hb⟩
  rcases hc with ⟨_, g⟩ | ⟨rfl, _⟩
  · exact absurd g hM
  · exact ⟨rfl, hb⟩

end Go.Proofs.Ytffhpjjioefaeae

/-
  OWN TEXT. Contracts of the code: buddy.Copy.
-/
namespace Go.Proofs.Ytffhpjjioefaeae
open Go Go.RowKit Go.Proofs.Ytffhpjjioefaeae.Kit

theorem made_b {P : Program} {t e : TypeId} {i : TypeInfo} {z : Value} (ht : P.underlying t = some (.slice e)) (hi : P.info? e = some i) (hz : i.zero = some z) (n : Nat) (hb : i.bytes * n ≤ 281474976710656) (hm : n ≤ maxLen) :
    ∃ M : Array Value, M.size = n * i.size ∧ ∀ W : World, (Instr.makeSlice t (.int .i64 (n : Int)) (.int .i64 (n : Int))).run P W = .ok (.slice (some ⟨W.heap.size, 0, none⟩) n n) (W.alloc (.cells M e)) := by
  refine ⟨madeCells z.cells (n * i.size), size_madeCells _ _, fun W => ?_⟩
  have hr := run_make (P := P) W t e i z ht hi hz .i64 .i64 n n (by omega) (Int.le_refl _) (by
    have h : ((i.bytes * n : Nat) : Int) ≤ 281474976710656 := by omega
    rwa [Int.natCast_mul] at h) (by have h := hm; simp [maxLen] at h; omega)
  simpa using hr

theorem owns_of_row {w : World} {base : Nat} {e : TypeId} {g n size : Nat} {xs : List Value} (h : w.heap[g]? = some (.cells xs.toArray e (0, 0))) (hb : base ≤ g) (hl : xs.length = n * size) (hm : n ≤ maxLen) :
    w.ownsRow base e size (.slice (some ⟨g, 0, none⟩) n n) n xs :=
  ⟨hl, .inr ⟨g, n, _, rfl, hb, h, Nat.le_refl _, hm, by simpa using hl, by simpa using List.take_of_length_le (by omega)⟩⟩

theorem owns_but {w w' : World} {base : Nat} {e : TypeId} {g n cap size c : Nat} {xs : List Value} (h : w.ownsRow base e size (.slice (some ⟨g, 0, none⟩) n cap) n xs) (hb : But c w w') (hne : g ≠ c) :
    w'.ownsRow base e size (.slice (some ⟨g, 0, none⟩) n cap) n xs :=
  h.kept (row := some c) ⟨hb.os, hb.tape, hb.output, hb.size, fun k hk hne => hb.block k hk (by intro g; exact hne (by rw [g]))⟩ (.inr (by simp [Value.ownBlock]; exact hne))

/-- What is there in the midst of a copy: the zone that came in at b, the copy at x with its rows at g and k. -/
structure CpI (W0 : World) (zb : Nat) (f t : Int) (fo : Option Addr) (fn fc : Nat) (to_ : Option Addr) (tn tc : Nat) (x g k : Nat) (MB MT : Array Value) (W : World) : Prop where
  b : Below W0.heap.size W0 W
  zin : ZBox W zb (.int .i64 f) (.int .i64 t) (.slice fo fn fc) (.slice to_ tn tc)
  res : Res4 W (zb + 1)
  box : ZBox W x (.int .i64 f) (.int .i64 t) (.slice (some ⟨g, 0, none⟩) fn fn) (.slice (some ⟨k, 0, none⟩) tn tn)
  rg : W.heap[g]? = some (.cells MB 39 (0, 0))
  rk : W.heap[k]? = some (.cells MT 3 (0, 0))
  xg : x ≠ g
  xk : x ≠ k
  gk : g ≠ k
  x2 : zb + 2 ≤ x
  g2 : zb + 2 ≤ g
  k2 : zb + 2 ≤ k

theorem zbox_of_row {W : World} {x : Nat} {a b c d : Value} {t : TypeId} (h : W.heap[x]? = some (.cells #[a, b, c, d] t (0, 0))) : ZBox W x a b c d := by
  have hc : ∀ i : Nat, W.cell? ⟨x, i, none⟩ = (#[a, b, c, d] : Array Value)[i]? := fun i => by simp [World.cell?, h]
  have hf : ∀ i : Nat, W.frozen? ⟨x, i, none⟩ = false := fun i => by simp [World.frozen?, h]
  exact ⟨by rw [hc]; rfl, by rw [hc]; rfl, by rw [hc]; rfl, by rw [hc]; rfl, hf 0, hf 1, hf 2, hf 3⟩

theorem heap3 {W : World} {A B C : Obj} {n : Nat} (hs : W.heap.size = n) : ((((W.alloc A).alloc B).alloc C).drew).heap[n]? = some A ∧ ((((W.alloc A).alloc B).alloc C).drew).heap[n + 1]? = some B ∧ ((((W.alloc A).alloc B).alloc C).drew).heap[n + 1 + 1]? = some C := by
  subst hs
  show (((W.heap.push A).push B).push C)[W.heap.size]? = _ ∧ (((W.heap.push A).push B).push C)[W.heap.size + 1]? = _ ∧ (((W.heap.push A).push B).push C)[W.heap.size + 1 + 1]? = _
  refine ⟨?_, ?_, ?_⟩
  · rw [Array.getElem?_push, if_neg (by simp; omega), Array.getElem?_push, if_neg (by simp), Array.getElem?_push, if_pos rfl]
  · rw [Array.getElem?_push, if_neg (by simp), Array.getElem?_push, if_pos (by simp)]
  · rw [Array.getElem?_push, if_pos (by simp)]

section
variable {W0 : World} {b : Nat} {f t : Int} {fo : Option Addr} {fn fc : Nat} {to_ : Option Addr} {tn tc : Nat} {x g k : Nat} {MB MT : Array Value} {W W' : World}
theorem cpI_of (Z0 : ZBox W0 b (.int .i64 f) (.int .i64 t) (.slice fo fn fc) (.slice to_ tn tc)) (R0 : Res4 W0 (b + 1)) (hb : Below W0.heap.size W0 W)
    (hx : W.heap[x]? = some (.cells #[.int .i64 f, .int .i64 t, .slice (some ⟨g, 0, none⟩) fn fn, .slice (some ⟨k, 0, none⟩) tn tn] 25 (0, 0)))
    (hg : W.heap[g]? = some (.cells MB 39 (0, 0))) (hk : W.heap[k]? = some (.cells MT 3 (0, 0))) (xg : x ≠ g) (xk : x ≠ k) (gk : g ≠ k) (x2 : b + 2 ≤ x) (g2 : b + 2 ≤ g) (k2 : b + 2 ≤ k) : CpI W0 b f t fo fn fc to_ tn tc x g k MB MT W :=
  ⟨hb, Z0.below hb, R0.below hb, zbox_of_row hx, hg, hk, xg, xk, gk, x2, g2, k2⟩
theorem cpI_423 (Z0 : ZBox W0 b (.int .i64 f) (.int .i64 t) (.slice fo fn fc) (.slice to_ tn tc)) (R0 : Res4 W0 (b + 1)) (hs : W0.heap.size = b + 2) :
    CpI W0 b f t fo fn fc to_ tn tc (b + 2 + 1 + 1) (b + 2) (b + 2 + 1) MB MT ((((W0.alloc (.cells MB 39)).alloc (.cells MT 3)).alloc (.cells #[.int .i64 f, .int .i64 t, .slice (some ⟨b + 2, 0, none⟩) fn fn, .slice (some ⟨b + 2 + 1, 0, none⟩) tn tn] 25)).drew) :=
  cpI_of Z0 R0 (((((Below.refl _ _).alloc (Nat.le_refl _) _).alloc (by simp) _).alloc (by simp; omega) _).drew) (heap3 hs).2.2 (heap3 hs).1 (heap3 hs).2.1 (by omega) (by omega) (by omega) (by omega) (by omega) (by omega)
theorem cpI_324 (Z0 : ZBox W0 b (.int .i64 f) (.int .i64 t) (.slice fo fn fc) (.slice to_ tn tc)) (R0 : Res4 W0 (b + 1)) (hs : W0.heap.size = b + 2) :
    CpI W0 b f t fo fn fc to_ tn tc (b + 2 + 1) (b + 2) (b + 2 + 1 + 1) MB MT ((((W0.alloc (.cells MB 39)).alloc (.cells #[.int .i64 f, .int .i64 t, .slice (some ⟨b + 2, 0, none⟩) fn fn, .slice (some ⟨b + 2 + 1 + 1, 0, none⟩) tn tn] 25)).alloc (.cells MT 3)).drew) :=
  cpI_of Z0 R0 (((((Below.refl _ _).alloc (Nat.le_refl _) _).alloc (by simp) _).alloc (by simp; omega) _).drew) (heap3 hs).2.1 (heap3 hs).1 (heap3 hs).2.2 (by omega) (by omega) (by omega) (by omega) (by omega) (by omega)
theorem cpI_432 (Z0 : ZBox W0 b (.int .i64 f) (.int .i64 t) (.slice fo fn fc) (.slice to_ tn tc)) (R0 : Res4 W0 (b + 1)) (hs : W0.heap.size = b + 2) :
    CpI W0 b f t fo fn fc to_ tn tc (b + 2 + 1 + 1) (b + 2 + 1) (b + 2) MB MT ((((W0.alloc (.cells MT 3)).alloc (.cells MB 39)).alloc (.cells #[.int .i64 f, .int .i64 t, .slice (some ⟨b + 2 + 1, 0, none⟩) fn fn, .slice (some ⟨b + 2, 0, none⟩) tn tn] 25)).drew) :=
  cpI_of Z0 R0 (((((Below.refl _ _).alloc (Nat.le_refl _) _).alloc (by simp) _).alloc (by simp; omega) _).drew) (heap3 hs).2.2 (heap3 hs).2.1 (heap3 hs).1 (by omega) (by omega) (by omega) (by omega) (by omega) (by omega)
theorem cpI_342 (Z0 : ZBox W0 b (.int .i64 f) (.int .i64 t) (.slice fo fn fc) (.slice to_ tn tc)) (R0 : Res4 W0 (b + 1)) (hs : W0.heap.size = b + 2) :
    CpI W0 b f t fo fn fc to_ tn tc (b + 2 + 1) (b + 2 + 1 + 1) (b + 2) MB MT ((((W0.alloc (.cells MT 3)).alloc (.cells #[.int .i64 f, .int .i64 t, .slice (some ⟨b + 2 + 1 + 1, 0, none⟩) fn fn, .slice (some ⟨b + 2, 0, none⟩) tn tn] 25)).alloc (.cells MB 39)).drew) :=
  cpI_of Z0 R0 (((((Below.refl _ _).alloc (Nat.le_refl _) _).alloc (by simp) _).alloc (by simp; omega) _).drew) (heap3 hs).2.1 (heap3 hs).2.2 (heap3 hs).1 (by omega) (by omega) (by omega) (by omega) (by omega) (by omega)
theorem cpI_234 (Z0 : ZBox W0 b (.int .i64 f) (.int .i64 t) (.slice fo fn fc) (.slice to_ tn tc)) (R0 : Res4 W0 (b + 1)) (hs : W0.heap.size = b + 2) :
    CpI W0 b f t fo fn fc to_ tn tc (b + 2) (b + 2 + 1) (b + 2 + 1 + 1) MB MT ((((W0.alloc (.cells #[.int .i64 f, .int .i64 t, .slice (some ⟨b + 2 + 1, 0, none⟩) fn fn, .slice (some ⟨b + 2 + 1 + 1, 0, none⟩) tn tn] 25)).alloc (.cells MB 39)).alloc (.cells MT 3)).drew) :=
  cpI_of Z0 R0 (((((Below.refl _ _).alloc (Nat.le_refl _) _).alloc (by simp) _).alloc (by simp; omega) _).drew) (heap3 hs).1 (heap3 hs).2.1 (heap3 hs).2.2 (by omega) (by omega) (by omega) (by omega) (by omega) (by omega)
theorem cpI_243 (Z0 : ZBox W0 b (.int .i64 f) (.int .i64 t) (.slice fo fn fc) (.slice to_ tn tc)) (R0 : Res4 W0 (b + 1)) (hs : W0.heap.size = b + 2) :
    CpI W0 b f t fo fn fc to_ tn tc (b + 2) (b + 2 + 1 + 1) (b + 2 + 1) MB MT ((((W0.alloc (.cells #[.int .i64 f, .int .i64 t, .slice (some ⟨b + 2 + 1 + 1, 0, none⟩) fn fn, .slice (some ⟨b + 2 + 1, 0, none⟩) tn tn] 25)).alloc (.cells MT 3)).alloc (.cells MB 39)).drew) :=
  cpI_of Z0 R0 (((((Below.refl _ _).alloc (Nat.le_refl _) _).alloc (by simp) _).alloc (by simp; omega) _).drew) (heap3 hs).1 (heap3 hs).2.2 (heap3 hs).2.1 (by omega) (by omega) (by omega) (by omega) (by omega) (by omega)
theorem CpI.copied (h : CpI W0 b f t fo fn fc to_ tn tc x g k MB MT W) (hb : But g W W') {M : Array Value} (hg : W'.heap[g]? = some (.cells M 39 (0, 0))) (hs : W0.heap.size ≤ g) : CpI W0 b f t fo fn fc to_ tn tc x g k M MT W' :=
  ⟨h.b.trans (hb.below hs h.b.size), h.zin.but hb (by have := h.g2; omega), h.res.but hb (by have := h.g2; omega), h.box.but hb h.xg, hg, (hb.block k (Array.getElem?_eq_some_iff.1 h.rk).1 (fun e => h.gk e.symm)).trans h.rk, h.xg, h.xk, h.gk, h.x2, h.g2, h.k2⟩
theorem CpI.copied2 (h : CpI W0 b f t fo fn fc to_ tn tc x g k MB MT W) (hb : But k W W') {M : Array Value} (hg : W'.heap[k]? = some (.cells M 3 (0, 0))) (hs : W0.heap.size ≤ k) : CpI W0 b f t fo fn fc to_ tn tc x g k MB M W' :=
  ⟨h.b.trans (hb.below hs h.b.size), h.zin.but hb (by have := h.k2; omega), h.res.but hb (by have := h.k2; omega), h.box.but hb h.xk, (hb.block g (Array.getElem?_eq_some_iff.1 h.rg).1 h.gk).trans h.rg, hg, h.xg, h.xk, h.gk, h.x2, h.g2, h.k2⟩
theorem CpI.last {LB LT CB CT : List Value} {free : List Bk} {types : List Int} (h : CpI W0 b f t fo fn fc to_ tn tc x g k (splice LB 0 CB).toArray (splice LT 0 CT).toArray W) (eB : CB = bvals free) (eT : CT = vals types) (lB : CB.length = fn * 3) (lT : CT.length = tn * 1) (mB : LB.length = fn * 3) (mT : LT.length = tn * 1) (hmf : fn ≤ maxLen) (hmt : tn ≤ maxLen) :
    W.ownsRow b 39 3 (.slice (some ⟨g, 0, none⟩) fn fn) fn (bvals free) ∧ W.ownsRow b 3 1 (.slice (some ⟨k, 0, none⟩) tn tn) tn (vals types) ∧ g ≠ k := by
  have hg := h.rg
  have hk := h.rk
  rw [splice_all (by omega)] at hg hk
  exact ⟨by rw [← eB]; exact owns_of_row hg (by have := h.g2; omega) lB hmf, by rw [← eT]; exact owns_of_row hk (by have := h.k2; omega) lT hmt, h.gk⟩
end

set_option maxHeartbeats 4000000 in
theorem zCopy_own (w : World) (fo : Option Addr) (fn fc : Nat) (to_ : Option Addr) (tn tc : Nat) (z : Zn) (h : ZnAt w fo fn to_ tn z) :
    Calls Try.prog 26 #[.agg #[.int .i64 z.f, .int .i64 z.t, .slice fo fn fc, .slice to_ tn tc]] w fun e w' => ∃ g k, e = .returned (.agg #[.int .i64 z.f, .int .i64 z.t, .slice (some ⟨g, 0, none⟩) fn fn, .slice (some ⟨k, 0, none⟩) tn tn]) ∧
      w'.ownsRow w.heap.size 39 3 (.slice (some ⟨g, 0, none⟩) fn fn) fn (bvals z.free) ∧ w'.ownsRow w.heap.size 3 1 (.slice (some ⟨k, 0, none⟩) tn tn) tn (vals z.types) ∧ g ≠ k ∧ Below w.heap.size w w' := by
  obtain ⟨f, t, free, types⟩ := z
  obtain ⟨hf, ht⟩ := h
  dsimp only at hf ht ⊢
  obtain ⟨i0, hi, hz0, hz1, hz2⟩ := info_parts info_int
  obtain ⟨i1, hj, hy0, hy1, hy2⟩ := info_parts info_block
  have hfr := hf.reach
  have htr := ht.reach
  have hmf : fn ≤ maxLen := by unfold maxLen; omega
  have hmt : tn ≤ maxLen := by unfold maxLen; omega
  obtain ⟨MB, sB, hB⟩ := made_b (P := Try.prog) Try.underlying22 hj hy0 fn (by rw [hy2]; omega) hmf
  obtain ⟨MT, sT, hT⟩ := made_b (P := Try.prog) Try.underlying23 hi hz0 tn (by rw [hz2]; omega) hmt
  rw [hy1] at sB
  rw [hz1] at sT
  obtain ⟨W0, hW0⟩ : ∃ W0, (w.alloc (.cells #[.int .i64 f, .int .i64 t, .slice fo fn fc, .slice to_ tn tc] 25)).alloc (.cells #[.int .i64 0, .int .i64 0, .slice none 0 0, .slice none 0 0] 25) = W0 := ⟨_, rfl⟩
  have hb0 : Below w.heap.size w W0 := by rw [← hW0]; exact ((Below.refl _ _).alloc (Nat.le_refl _) _).alloc (by simp) _
  have Z0 : ZBox W0 w.heap.size (.int .i64 f) (.int .i64 t) (.slice fo fn fc) (.slice to_ tn tc) := by rw [← hW0]; exact (zbox_new w _ _ _ _ _).below (below_box _ _)
  have R0 : Res4 W0 (w.heap.size + 1) := by
    rw [← hW0]
    have := zbox_new (w.alloc (.cells #[.int .i64 f, .int .i64 t, .slice fo fn fc, .slice to_ tn tc] 25)) (.int .i64 0) (.int .i64 0) (.slice none 0 0) (.slice none 0 0) 25
    have h2 := this.res
    simpa using h2
  have hs0 : W0.heap.size = w.heap.size + 2 := by rw [← hW0]; simp
  have HW0 : Hid _ := hW0
  have Z1 := Z0
  have R1 := R0
  obtain ⟨CB, hCB⟩ : ∃ CB, CB = bvals free := ⟨_, rfl⟩
  obtain ⟨CT, hCT⟩ : ∃ CT, CT = vals types := ⟨_, rfl⟩
  have lB : CB.length = fn * 3 := by rw [hCB, length_bvals, hf.len]
  have lT : CT.length = tn * 1 := by rw [hCT, length_vals, ht.len, Nat.mul_one]
  have oB : ∀ v ∈ CB, v.oneCell' = true := by rw [hCB]; exact bvals_oneCell _
  have oT : ∀ v ∈ CT, v.oneCell' = true := by rw [hCT]; exact vals_oneCell _
  have HSB : Hid (∀ W, Below W0.heap.size W0 W → 0 < fn → ∃ ad, fo = some ad ∧ ∀ j v, CB[j]? = some v → W.cell? (ad.add j) = some v) := fun W hW h0 => by
    rw [hCB]
    exact bsrc_of ((hf.below hb0).below hW).at_ (by have := hf.len; omega)
  have HST : Hid (∀ W, Below W0.heap.size W0 W → 0 < tn → ∃ ad, to_ = some ad ∧ ∀ j v, CT[j]? = some v → W.cell? (ad.add j) = some v) := fun W hW h0 => by
    rw [hCT]
    exact src_of ((ht.below hb0).below hW).at_ (by have := ht.len; omega)
  have HCB : Hid _ := hCB
  have HCT : Hid _ := hCT
  clear hCB hCT
  have c0 := Z0.c0
  have c1 := Z0.c1
  have c2 := Z0.c2
  have c3 := Z0.c3
  have hsB : Hid (MB.size = fn * 3) := sB
  have hsT : Hid (MT.size = tn * 1) := sT
  clear hW0 sB sT
  go_enter Try.func26, Try.ntmps26
  go_wp2_with (rw [HW0.out])
  clear HW0
  go_region
  clear Z0 R0 c0 c1 c2 c3 hB hT hf ht
  · have I1 : CpI W0 w.heap.size f t fo fn fc to_ tn tc (w.heap.size + 2 + 1 + 1) (w.heap.size + 2) (w.heap.size + 2 + 1) MB MT _ := cpI_423 Z1 R1 hs0
    generalize World.drew _ = W1 at I1 ⊢
    generalize w.heap.size + 2 + 1 + 1 = n4 at I1 ⊢
    generalize w.heap.size + 2 + 1 = n3 at I1 ⊢
    generalize hn2 : w.heap.size + 2 = n2 at I1 ⊢
    have hx2 := I1.x2
    have hg2 := I1.g2
    have hk2 := I1.k2
    have y2 := I1.box.c2
    have y3 := I1.box.c3
    have q2 := I1.zin.c2
    have q3 := I1.zin.c3
    go_wp2_with (first
      | (refine wpList_copy_k rfl (.tmp 18) (.tmp 20) 22 22 rfl 39 3 Try.underlying22 size_block _ _ _ _ _ _ rfl rfl n2 0 MB.toList 39 (by simpa using I1.rg) CB fn (Nat.min_self _) lB (fun h0 => ⟨rfl, HSB.out _ I1.b h0⟩) (by simp only [Array.length_toList]; rw [lB, hsB.out]; omega) oB ?_; intro w2 hg2 hb2; have I2 := I1.copied hb2 hg2.out (by omega); have a3 := I2.box.c3; have b3 := I2.zin.c3)
      | (refine wpList_copy_k rfl (.tmp 23) (.tmp 25) 23 23 rfl 3 1 Try.underlying23 size_int _ _ _ _ _ _ rfl rfl n3 0 MT.toList 3 (by simpa using I2.rk) CT tn (Nat.min_self _) lT (fun h0 => ⟨rfl, HST.out _ I2.b h0⟩) (by simp only [Array.length_toList]; rw [lT, hsT.out]; omega) oT ?_; intro w3 hg3 hb3; have I3 := I2.copied2 hb3 hg3.out (by omega); have e0 := I3.box.c0; have e1 := I3.box.c1; have e2 := I3.box.c2; have e3 := I3.box.c3; have R3 := I3.res; obtain ⟨⟨x0, d0⟩, ⟨x1, d1⟩, ⟨x2, d2⟩, ⟨x3, d3⟩, z0, z1, z2, z3⟩ := id R3))
    obtain ⟨o1, o2, o3⟩ := I3.last HCB.out HCT.out lB lT (by rw [Array.length_toList, hsB.out]) (by rw [Array.length_toList, hsT.out]) hmf hmt
    have hB3 := hb0.trans (I3.b.mono (by omega))
    obtain ⟨k0, k1, k2, k3⟩ := res4 R3 (.int .i64 f) (.int .i64 t) (.slice (some ⟨n2, 0, none⟩) fn fn) (.slice (some ⟨n3, 0, none⟩) tn tn)
    have hbt := but4 w3 (w.heap.size + 1) (.int .i64 f) (.int .i64 t) (.slice (some ⟨n2, 0, none⟩) fn fn) (.slice (some ⟨n3, 0, none⟩) tn tn)
    exact bodyPost_ret (v := .agg #[.int .i64 f, .int .i64 t, .slice (some ⟨n2, 0, none⟩) fn fn, .slice (some ⟨n3, 0, none⟩) tn tn]) (by simp [results, Try.results26, go_sem, k0, k1, k2, k3]) rfl ⟨n2, n3, rfl, owns_but o1 hbt (by omega), owns_but o2 hbt (by omega), o3, hB3.trans (hbt.below (by omega) hB3.size)⟩
  · have I1 : CpI W0 w.heap.size f t fo fn fc to_ tn tc (w.heap.size + 2 + 1) (w.heap.size + 2) (w.heap.size + 2 + 1 + 1) MB MT _ := cpI_324 Z1 R1 hs0
    generalize World.drew _ = W1 at I1 ⊢
    generalize w.heap.size + 2 + 1 + 1 = n4 at I1 ⊢
    generalize w.heap.size + 2 + 1 = n3 at I1 ⊢
    generalize hn2 : w.heap.size + 2 = n2 at I1 ⊢
    have hx2 := I1.x2
    have hg2 := I1.g2
    have hk2 := I1.k2
    have y2 := I1.box.c2
    have y3 := I1.box.c3
    have q2 := I1.zin.c2
    have q3 := I1.zin.c3
    go_wp2_with (first
      | (refine wpList_copy_k rfl (.tmp 18) (.tmp 20) 22 22 rfl 39 3 Try.underlying22 size_block _ _ _ _ _ _ rfl rfl n2 0 MB.toList 39 (by simpa using I1.rg) CB fn (Nat.min_self _) lB (fun h0 => ⟨rfl, HSB.out _ I1.b h0⟩) (by simp only [Array.length_toList]; rw [lB, hsB.out]; omega) oB ?_; intro w2 hg2 hb2; have I2 := I1.copied hb2 hg2.out (by omega); have a3 := I2.box.c3; have b3 := I2.zin.c3)
      | (refine wpList_copy_k rfl (.tmp 23) (.tmp 25) 23 23 rfl 3 1 Try.underlying23 size_int _ _ _ _ _ _ rfl rfl n4 0 MT.toList 3 (by simpa using I2.rk) CT tn (Nat.min_self _) lT (fun h0 => ⟨rfl, HST.out _ I2.b h0⟩) (by simp only [Array.length_toList]; rw [lT, hsT.out]; omega) oT ?_; intro w3 hg3 hb3; have I3 := I2.copied2 hb3 hg3.out (by omega); have e0 := I3.box.c0; have e1 := I3.box.c1; have e2 := I3.box.c2; have e3 := I3.box.c3; have R3 := I3.res; obtain ⟨⟨x0, d0⟩, ⟨x1, d1⟩, ⟨x2, d2⟩, ⟨x3, d3⟩, z0, z1, z2, z3⟩ := id R3))
    obtain ⟨o1, o2, o3⟩ := I3.last HCB.out HCT.out lB lT (by rw [Array.length_toList, hsB.out]) (by rw [Array.length_toList, hsT.out]) hmf hmt
    have hB3 := hb0.trans (I3.b.mono (by omega))
    obtain ⟨k0, k1, k2, k3⟩ := res4 R3 (.int .i64 f) (.int .i64 t) (.slice (some ⟨n2, 0, none⟩) fn fn) (.slice (some ⟨n4, 0, none⟩) tn tn)
    have hbt := but4 w3 (w.heap.size + 1) (.int .i64 f) (.int .i64 t) (.slice (some ⟨n2, 0, none⟩) fn fn) (.slice (some ⟨n4, 0, none⟩) tn tn)
    exact bodyPost_ret (v := .agg #[.int .i64 f, .int .i64 t, .slice (some ⟨n2, 0, none⟩) fn fn, .slice (some ⟨n4, 0, none⟩) tn tn]) (by simp [results, Try.results26, go_sem, k0, k1, k2, k3]) rfl ⟨n2, n4, rfl, owns_but o1 hbt (by omega), owns_but o2 hbt (by omega), o3, hB3.trans (hbt.below (by omega) hB3.size)⟩
  · have I1 : CpI W0 w.heap.size f t fo fn fc to_ tn tc (w.heap.size + 2 + 1 + 1) (w.heap.size + 2 + 1) (w.heap.size + 2) MB MT _ := cpI_432 Z1 R1 hs0
    generalize World.drew _ = W1 at I1 ⊢
    generalize w.heap.size + 2 + 1 + 1 = n4 at I1 ⊢
    generalize w.heap.size + 2 + 1 = n3 at I1 ⊢
    generalize hn2 : w.heap.size + 2 = n2 at I1 ⊢
    have hx2 := I1.x2
    have hg2 := I1.g2
    have hk2 := I1.k2
    have y2 := I1.box.c2
    have y3 := I1.box.c3
    have q2 := I1.zin.c2
    have q3 := I1.zin.c3
    go_wp2_with (first
      | (refine wpList_copy_k rfl (.tmp 18) (.tmp 20) 22 22 rfl 39 3 Try.underlying22 size_block _ _ _ _ _ _ rfl rfl n3 0 MB.toList 39 (by simpa using I1.rg) CB fn (Nat.min_self _) lB (fun h0 => ⟨rfl, HSB.out _ I1.b h0⟩) (by simp only [Array.length_toList]; rw [lB, hsB.out]; omega) oB ?_; intro w2 hg2 hb2; have I2 := I1.copied hb2 hg2.out (by omega); have a3 := I2.box.c3; have b3 := I2.zin.c3)
      | (refine wpList_copy_k rfl (.tmp 23) (.tmp 25) 23 23 rfl 3 1 Try.underlying23 size_int _ _ _ _ _ _ rfl rfl n2 0 MT.toList 3 (by simpa using I2.rk) CT tn (Nat.min_self _) lT (fun h0 => ⟨rfl, HST.out _ I2.b h0⟩) (by simp only [Array.length_toList]; rw [lT, hsT.out]; omega) oT ?_; intro w3 hg3 hb3; have I3 := I2.copied2 hb3 hg3.out (by omega); have e0 := I3.box.c0; have e1 := I3.box.c1; have e2 := I3.box.c2; have e3 := I3.box.c3; have R3 := I3.res; obtain ⟨⟨x0, d0⟩, ⟨x1, d1⟩, ⟨x2, d2⟩, ⟨x3, d3⟩, z0, z1, z2, z3⟩ := id R3))
    obtain ⟨o1, o2, o3⟩ := I3.last HCB.out HCT.out lB lT (by rw [Array.length_toList, hsB.out]) (by rw [Array.length_toList, hsT.out]) hmf hmt
    have hB3 := hb0.trans (I3.b.mono (by omega))
    obtain ⟨k0, k1, k2, k3⟩ := res4 R3 (.int .i64 f) (.int .i64 t) (.slice (some ⟨n3, 0, none⟩) fn fn) (.slice (some ⟨n2, 0, none⟩) tn tn)
    have hbt := but4 w3 (w.heap.size + 1) (.int .i64 f) (.int .i64 t) (.slice (some ⟨n3, 0, none⟩) fn fn) (.slice (some ⟨n2, 0, none⟩) tn tn)
    exact bodyPost_ret (v := .agg #[.int .i64 f, .int .i64 t, .slice (some ⟨n3, 0, none⟩) fn fn, .slice (some ⟨n2, 0, none⟩) tn tn]) (by simp [results, Try.results26, go_sem, k0, k1, k2, k3]) rfl ⟨n3, n2, rfl, owns_but o1 hbt (by omega), owns_but o2 hbt (by omega), o3, hB3.trans (hbt.below (by omega) hB3.size)⟩
  · have I1 : CpI W0 w.heap.size f t fo fn fc to_ tn tc (w.heap.size + 2 + 1) (w.heap.size + 2 + 1 + 1) (w.heap.size + 2) MB MT _ := cpI_342 Z1 R1 hs0
    generalize World.drew _ = W1 at I1 ⊢
    generalize w.heap.size + 2 + 1 + 1 = n4 at I1 ⊢
    generalize w.heap.size + 2 + 1 = n3 at I1 ⊢
    generalize hn2 : w.heap.size + 2 = n2 at I1 ⊢
    have hx2 := I1.x2
    have hg2 := I1.g2
    have hk2 := I1.k2
    have y2 := I1.box.c2
    have y3 := I1.box.c3
    have q2 := I1.zin.c2
    have q3 := I1.zin.c3
    go_wp2_with (first
      | (refine wpList_copy_k rfl (.tmp 18) (.tmp 20) 22 22 rfl 39 3 Try.underlying22 size_block _ _ _ _ _ _ rfl rfl n4 0 MB.toList 39 (by simpa using I1.rg) CB fn (Nat.min_self _) lB (fun h0 => ⟨rfl, HSB.out _ I1.b h0⟩) (by simp only [Array.length_toList]; rw [lB, hsB.out]; omega) oB ?_; intro w2 hg2 hb2; have I2 := I1.copied hb2 hg2.out (by omega); have a3 := I2.box.c3; have b3 := I2.zin.c3)
      | (refine wpList_copy_k rfl (.tmp 23) (.tmp 25) 23 23 rfl 3 1 Try.underlying23 size_int _ _ _ _ _ _ rfl rfl n2 0 MT.toList 3 (by simpa using I2.rk) CT tn (Nat.min_self _) lT (fun h0 => ⟨rfl, HST.out _ I2.b h0⟩) (by simp only [Array.length_toList]; rw [lT, hsT.out]; omega) oT ?_; intro w3 hg3 hb3; have I3 := I2.copied2 hb3 hg3.out (by omega); have e0 := I3.box.c0; have e1 := I3.box.c1; have e2 := I3.box.c2; have e3 := I3.box.c3; have R3 := I3.res; obtain ⟨⟨x0, d0⟩, ⟨x1, d1⟩, ⟨x2, d2⟩, ⟨x3, d3⟩, z0, z1, z2, z3⟩ := id R3))
    obtain ⟨o1, o2, o3⟩ := I3.last HCB.out HCT.out lB lT (by rw [Array.length_toList, hsB.out]) (by rw [Array.length_toList, hsT.out]) hmf hmt
    have hB3 := hb0.trans (I3.b.mono (by omega))
    obtain ⟨k0, k1, k2, k3⟩ := res4 R3 (.int .i64 f) (.int .i64 t) (.slice (some ⟨n4, 0, none⟩) fn fn) (.slice (some ⟨n2, 0, none⟩) tn tn)
    have hbt := but4 w3 (w.heap.size + 1) (.int .i64 f) (.int .i64 t) (.slice (some ⟨n4, 0, none⟩) fn fn) (.slice (some ⟨n2, 0, none⟩) tn tn)
    exact bodyPost_ret (v := .agg #[.int .i64 f, .int .i64 t, .slice (some ⟨n4, 0, none⟩) fn fn, .slice (some ⟨n2, 0, none⟩) tn tn]) (by simp [results, Try.results26, go_sem, k0, k1, k2, k3]) rfl ⟨n4, n2, rfl, owns_but o1 hbt (by omega), owns_but o2 hbt (by omega), o3, hB3.trans (hbt.below (by omega) hB3.size)⟩
  · have I1 : CpI W0 w.heap.size f t fo fn fc to_ tn tc (w.heap.size + 2) (w.heap.size + 2 + 1) (w.heap.size + 2 + 1 + 1) MB MT _ := cpI_234 Z1 R1 hs0
    generalize World.drew _ = W1 at I1 ⊢
    generalize w.heap.size + 2 + 1 + 1 = n4 at I1 ⊢
    generalize w.heap.size + 2 + 1 = n3 at I1 ⊢
    generalize hn2 : w.heap.size + 2 = n2 at I1 ⊢
    have hx2 := I1.x2
    have hg2 := I1.g2
    have hk2 := I1.k2
    have y2 := I1.box.c2
    have y3 := I1.box.c3
    have q2 := I1.zin.c2
    have q3 := I1.zin.c3
    go_wp2_with (first
      | (refine wpList_copy_k rfl (.tmp 18) (.tmp 20) 22 22 rfl 39 3 Try.underlying22 size_block _ _ _ _ _ _ rfl rfl n3 0 MB.toList 39 (by simpa using I1.rg) CB fn (Nat.min_self _) lB (fun h0 => ⟨rfl, HSB.out _ I1.b h0⟩) (by simp only [Array.length_toList]; rw [lB, hsB.out]; omega) oB ?_; intro w2 hg2 hb2; have I2 := I1.copied hb2 hg2.out (by omega); have a3 := I2.box.c3; have b3 := I2.zin.c3)
      | (refine wpList_copy_k rfl (.tmp 23) (.tmp 25) 23 23 rfl 3 1 Try.underlying23 size_int _ _ _ _ _ _ rfl rfl n4 0 MT.toList 3 (by simpa using I2.rk) CT tn (Nat.min_self _) lT (fun h0 => ⟨rfl, HST.out _ I2.b h0⟩) (by simp only [Array.length_toList]; rw [lT, hsT.out]; omega) oT ?_; intro w3 hg3 hb3; have I3 := I2.copied2 hb3 hg3.out (by omega); have e0 := I3.box.c0; have e1 := I3.box.c1; have e2 := I3.box.c2; have e3 := I3.box.c3; have R3 := I3.res; obtain ⟨⟨x0, d0⟩, ⟨x1, d1⟩, ⟨x2, d2⟩, ⟨x3, d3⟩, z0, z1, z2, z3⟩ := id R3))
    obtain ⟨o1, o2, o3⟩ := I3.last HCB.out HCT.out lB lT (by rw [Array.length_toList, hsB.out]) (by rw [Array.length_toList, hsT.out]) hmf hmt
    have hB3 := hb0.trans (I3.b.mono (by omega))
    obtain ⟨k0, k1, k2, k3⟩ := res4 R3 (.int .i64 f) (.int .i64 t) (.slice (some ⟨n3, 0, none⟩) fn fn) (.slice (some ⟨n4, 0, none⟩) tn tn)
    have hbt := but4 w3 (w.heap.size + 1) (.int .i64 f) (.int .i64 t) (.slice (some ⟨n3, 0, none⟩) fn fn) (.slice (some ⟨n4, 0, none⟩) tn tn)
    exact bodyPost_ret (v := .agg #[.int .i64 f, .int .i64 t, .slice (some ⟨n3, 0, none⟩) fn fn, .slice (some ⟨n4, 0, none⟩) tn tn]) (by simp [results, Try.results26, go_sem, k0, k1, k2, k3]) rfl ⟨n3, n4, rfl, owns_but o1 hbt (by omega), owns_but o2 hbt (by omega), o3, hB3.trans (hbt.below (by omega) hB3.size)⟩
  · have I1 : CpI W0 w.heap.size f t fo fn fc to_ tn tc (w.heap.size + 2) (w.heap.size + 2 + 1 + 1) (w.heap.size + 2 + 1) MB MT _ := cpI_243 Z1 R1 hs0
    generalize World.drew _ = W1 at I1 ⊢
    generalize w.heap.size + 2 + 1 + 1 = n4 at I1 ⊢
    generalize w.heap.size + 2 + 1 = n3 at I1 ⊢
    generalize hn2 : w.heap.size + 2 = n2 at I1 ⊢
    have hx2 := I1.x2
    have hg2 := I1.g2
    have hk2 := I1.k2
    have y2 := I1.box.c2
    have y3 := I1.box.c3
    have q2 := I1.zin.c2
    have q3 := I1.zin.c3
    go_wp2_with (first
      | (refine wpList_copy_k rfl (.tmp 18) (.tmp 20) 22 22 rfl 39 3 Try.underlying22 size_block _ _ _ _ _ _ rfl rfl n4 0 MB.toList 39 (by simpa using I1.rg) CB fn (Nat.min_self _) lB (fun h0 => ⟨rfl, HSB.out _ I1.b h0⟩) (by simp only [Array.length_toList]; rw [lB, hsB.out]; omega) oB ?_; intro w2 hg2 hb2; have I2 := I1.copied hb2 hg2.out (by omega); have a3 := I2.box.c3; have b3 := I2.zin.c3)
      | (refine wpList_copy_k rfl (.tmp 23) (.tmp 25) 23 23 rfl 3 1 Try.underlying23 size_int _ _ _ _ _ _ rfl rfl n3 0 MT.toList 3 (by simpa using I2.rk) CT tn (Nat.min_self _) lT (fun h0 => ⟨rfl, HST.out _ I2.b h0⟩) (by simp only [Array.length_toList]; rw [lT, hsT.out]; omega) oT ?_; intro w3 hg3 hb3; have I3 := I2.copied2 hb3 hg3.out (by omega); have e0 := I3.box.c0; have e1 := I3.box.c1; have e2 := I3.box.c2; have e3 := I3.box.c3; have R3 := I3.res; obtain ⟨⟨x0, d0⟩, ⟨x1, d1⟩, ⟨x2, d2⟩, ⟨x3, d3⟩, z0, z1, z2, z3⟩ := id R3))
    obtain ⟨o1, o2, o3⟩ := I3.last HCB.out HCT.out lB lT (by rw [Array.length_toList, hsB.out]) (by rw [Array.length_toList, hsT.out]) hmf hmt
    have hB3 := hb0.trans (I3.b.mono (by omega))
    obtain ⟨k0, k1, k2, k3⟩ := res4 R3 (.int .i64 f) (.int .i64 t) (.slice (some ⟨n4, 0, none⟩) fn fn) (.slice (some ⟨n3, 0, none⟩) tn tn)
    have hbt := but4 w3 (w.heap.size + 1) (.int .i64 f) (.int .i64 t) (.slice (some ⟨n4, 0, none⟩) fn fn) (.slice (some ⟨n3, 0, none⟩) tn tn)
    exact bodyPost_ret (v := .agg #[.int .i64 f, .int .i64 t, .slice (some ⟨n4, 0, none⟩) fn fn, .slice (some ⟨n3, 0, none⟩) tn tn]) (by simp [results, Try.results26, go_sem, k0, k1, k2, k3]) rfl ⟨n4, n3, rfl, owns_but o1 hbt (by omega), owns_but o2 hbt (by omega), o3, hB3.trans (hbt.below (by omega) hB3.size)⟩

theorem zCopy_any (w : World) (fo : Option Addr) (fn fc : Nat) (to_ : Option Addr) (tn tc : Nat) (z : Zn) (h : ZnAt w fo fn to_ tn z) :
    Calls Try.prog 26 #[.agg #[.int .i64 z.f, .int .i64 z.t, .slice fo fn fc, .slice to_ tn tc]] w fun e w' => RetZ w.heap.size w' z e ∧ Below w.heap.size w w' := by
  refine (zCopy_own w fo fn fc to_ tn tc z h).mono ?_
  rintro e w1 ⟨g, k, rfl, o1, o2, _, hb⟩
  exact ⟨⟨_, _, _, _, _, _, rfl, ⟨blks_own o1 h.free.reach, nums_of_owns o2 h.types.reach⟩, owns_fresh o1, owns_fresh o2⟩, hb⟩

end Go.Proofs.Ytffhpjjioefaeae

/-
  OWN TEXT. What a function knows that was handed a zone and answers one.
-/
namespace Go.Proofs.Ytffhpjjioefaeae
open Go Go.RowKit Go.Proofs.Ytffhpjjioefaeae.Kit

/-- What a function knows that was handed a zone and answers one: both boxes, the lists. -/
structure CbI (w : World) (fo : Option Addr) (fn fc : Nat) (to_ : Option Addr) (tn tc : Nat) (z : Zn) (W : World) : Prop where
  b : Below w.heap.size w W
  box : ZBox W w.heap.size (.int .i64 z.f) (.int .i64 z.t) (.slice fo fn fc) (.slice to_ tn tc)
  zn : ZnAt W fo fn to_ tn z
  res : Res4 W (w.heap.size + 1)
  size : w.heap.size + 2 ≤ W.heap.size
theorem CbI.step {w : World} {fo : Option Addr} {fn fc : Nat} {to_ : Option Addr} {tn tc : Nat} {z : Zn} {W W' : World} (h : CbI w fo fn fc to_ tn tc z W) (hb : Below W.heap.size W W') : CbI w fo fn fc to_ tn tc z W' :=
  ⟨h.b.trans (hb.mono h.b.size), h.box.below hb, h.zn.below hb, h.res.below hb, Nat.le_trans h.size hb.size⟩
theorem cbI_first (w : World) (fo : Option Addr) (fn fc : Nat) (to_ : Option Addr) (tn tc : Nat) (z : Zn) (h : ZnAt w fo fn to_ tn z) : CbI w fo fn fc to_ tn tc z ((w.alloc (.cells #[.int .i64 z.f, .int .i64 z.t, .slice fo fn fc, .slice to_ tn tc] 25)).alloc (.cells #[.int .i64 0, .int .i64 0, .slice none 0 0, .slice none 0 0] 25)) := by
  have hb2 : Below w.heap.size w ((w.alloc (.cells #[.int .i64 z.f, .int .i64 z.t, .slice fo fn fc, .slice to_ tn tc] 25)).alloc (.cells #[.int .i64 0, .int .i64 0, .slice none 0 0, .slice none 0 0] 25)) := ((Below.refl _ _).alloc (Nat.le_refl _) _).alloc (by simp) _
  refine ⟨hb2, (zbox_new w _ _ _ _ _).below (below_box _ _), h.below hb2, ?_, by simp⟩
  have := zbox_new (w.alloc (.cells #[.int .i64 z.f, .int .i64 z.t, .slice fo fn fc, .slice to_ tn tc] 25)) (.int .i64 0) (.int .i64 0) (.slice none 0 0) (.slice none 0 0) 25
  have h2 := this.res
  simpa using h2

/-- The copy in a variable of its own. -/
theorem zo_new {w3 : World} {B g k fn tn : Nat} {z : Zn} (o1 : w3.ownsRow B 39 3 (.slice (some ⟨g, 0, none⟩) fn fn) fn (bvals z.free)) (o2 : w3.ownsRow B 3 1 (.slice (some ⟨k, 0, none⟩) tn tn) tn (vals z.types)) (hgk : g ≠ k) :
    Zo (w3.alloc (.cells #[.int .i64 z.f, .int .i64 z.t, .slice (some ⟨g, 0, none⟩) fn fn, .slice (some ⟨k, 0, none⟩) tn tn] 25)) B w3.heap.size g fn fn k tn tn z := by
  have hbx := below_box w3 (.cells #[.int .i64 z.f, .int .i64 z.t, .slice (some ⟨g, 0, none⟩) fn fn, .slice (some ⟨k, 0, none⟩) tn tn] 25)
  have h1 : g < w3.heap.size := (o1.lt _ rfl).2
  have h2 : k < w3.heap.size := (o2.lt _ rfl).2
  exact ⟨zbox_new _ _ _ _ _ _, owns_below o1 hbx (Nat.le_refl _), owns_below o2 hbx (Nat.le_refl _), by omega, by omega, hgk⟩

end Go.Proofs.Ytffhpjjioefaeae
