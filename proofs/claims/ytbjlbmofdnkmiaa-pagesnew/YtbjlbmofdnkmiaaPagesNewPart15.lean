/-
  OWN TEXTS, bundled: RefZm, RefZo, RefW, RefZb, RefZl, RefZw.
-/
import Derived.Test.YtbjlbmofdnkmiaaPagesNewPart14
import Derived.Test.YtbjlbmofdnkmiaaPagesNewPart4
import Derived.Test.YtbjlbmofdnkmiaaPagesNewPart5
import Derived.Deep.RegionHeld3

/-
  OWN TEXT. Contracts of the document's answer: ZoneMay.
-/
namespace Go.Proofs.Ytbjlbmofdnkmiaa
open Go Go.RowKit Go.Proofs.Ytbjlbmofdnkmiaa.Kit

/-- The world in the midst of ZoneMay: its argument's box, and what can be read. -/
structure MyInv (w : World) (fo : Option Addr) (fn fc : Nat) (to_ : Option Addr) (tn tc : Nat) (z : Zn) (W : World) : Prop where
  b : Below w.heap.size w W
  box : ZBox W w.heap.size (.int .i64 z.f) (.int .i64 z.t) (.slice fo fn fc) (.slice to_ tn tc)
  zn : ZnAt W fo fn to_ tn z

theorem MyInv.step {w : World} {fo : Option Addr} {fn fc : Nat} {to_ : Option Addr} {tn tc : Nat} {z : Zn} {W W' : World} (h : MyInv w fo fn fc to_ tn tc z W) (hb : Below W.heap.size W W') : MyInv w fo fn fc to_ tn tc z W' :=
  ⟨h.b.trans (hb.mono h.b.size), h.box.below hb, h.zn.below hb⟩

theorem myInv_first (w : World) (fo : Option Addr) (fn fc : Nat) (to_ : Option Addr) (tn tc : Nat) (z : Zn) (h : ZnAt w fo fn to_ tn z) : MyInv w fo fn fc to_ tn tc z (w.alloc (.cells #[.int .i64 z.f, .int .i64 z.t, .slice fo fn fc, .slice to_ tn tc] 44)) :=
  ⟨below_box _ _, zbox_new _ _ _ _ _ _, h.below (below_box _ _)⟩

set_option maxHeartbeats 4000000 in
set_option maxRecDepth 10000 in
theorem zoneMay_any (w : World) (fo : Option Addr) (fn fc : Nat) (to_ : Option Addr) (tn tc : Nat) (z : Zn) (h : ZnAt w fo fn to_ tn z) :
    Calls Try.prog 36 #[.agg #[.int .i64 z.f, .int .i64 z.t, .slice fo fn fc, .slice to_ tn tc]] w fun e w' => RetIff e (ZMay z) ∧ Below w.heap.size w w' := by
  have I0 := myInv_first w fo fn fc to_ tn tc z h
  clear h
  by_cases hn : newOk z.f z.t
  · go_enter Try.func36, Try.ntmps36
    go_wp2_with fail
    go_at_call 24
    refine (zoneNew_ok _ z.f z.t hn).mono ?_
    rintro e w1 ⟨⟨ao, an, ac, bo, bn, bc, rfl, _, _, _⟩, hb1⟩
    have I1 := (I0.step hb1).step (below_box w1 (.cells #[.int .i64 (newZ z.f z.t).f, .int .i64 (newZ z.f z.t).t, .slice ao an ac, .slice bo bn bc] 44))
    clear I0 hb1
    have hbox := I1.box
    have c0 := hbox.c0
    have c1 := hbox.c1
    have c2 := hbox.c2
    have c3 := hbox.c3
    have htl := I1.zn.types.len
    have htr := I1.zn.types.reach
    obtain ⟨h1, h2, h3, h4, h5⟩ := id hn
    by_cases hlen : 8 * (tn : Int) = z.t - z.f
    · go_wp2
      clear hbox c0 c1 c2 c3
      obtain ⟨W2, hW2⟩ : ∃ W2, w1.alloc (.cells #[.int .i64 (newZ z.f z.t).f, .int .i64 (newZ z.f z.t).t, .slice ao an ac, .slice bo bn bc] 44) = W2 := ⟨_, rfl⟩
      rw [hW2] at I1 ⊢
      clear hW2
      go_loopw [5] (fun iv wr => ∃ k : Nat, k ≤ tn ∧ iv = .int .i64 k ∧ Hid (∀ i, i < k → typeOk (z.types.getD i 0)) ∧ MyInv w fo fn fc to_ tn tc z wr) (fun iv _ => tn - (intOf iv).toNat)
      case atStart => exact ⟨0, Nat.zero_le _, rfl, (fun i hi => absurd hi (Nat.not_lt_zero i)), I1⟩
      case round =>
        obtain ⟨k, hk, rfl, hT, I⟩ := hrel
        clear I1
        have c3 := I.box.c3
        by_cases hlt : k < tn
        · obtain ⟨b, o, x, rfl, cx, hX⟩ := I.zn.types.at_.at k (by omega)
          by_cases hx : 0 ≤ x ∧ x ≤ 2
          · have e1 : inB x 0 2 = true := inB_t hx
            have hT' : Hid (∀ i, i < k + 1 → typeOk (z.types.getD i 0)) := fun i hi => by
              by_cases e : i = k
              · rw [e, hX.out]; exact hx
              · exact hT.out i (by omega)
            clear hT hx
            go_wp2_with (go_at_call 25; refine (in_any _ _ _ _).mono ?_; rintro e w' ⟨rfl, rfl⟩)
            go_roundw
            case rel => exact ⟨k + 1, by omega, by go_num, hT', I⟩
            case measure => simp [intOf]; omega
          · have e1 : inB x 0 2 = false := inB_f hx
            have HF : Hid (¬ ZMay z) := fun g => hx (by have := g.ty k (by omega); rw [hX.out] at this; exact this)
            have hbb := I.b
            clear hT hx I
            go_wp2_with (go_at_call 25; refine (in_any _ _ _ _).mono ?_; rintro e w' ⟨rfl, rfl⟩)
            go_ret
            exact ⟨⟨false, rfl, fun g => (by cases g), fun g => absurd g HF.out⟩, hbb⟩
        · have hty : Hid (∀ i, i < z.types.length → typeOk (z.types.getD i 0)) := fun i hi => hT.out i (by omega)
          have c0 := I.box.c0
          have c2 := I.box.c2
          clear hT
          go_wp2
          clear c0 c2 c3
          go_loopw [6, 7] (fun lv iv wr2 => ∃ (k : Nat) (q : Int), k ≤ fn ∧ iv = .int .i64 k ∧ lv = .int .i64 q ∧ Hid (lowOf z.f (z.free.take k) = q) ∧ Hid (FreeOk z.f z.t z.f none (z.free.take k)) ∧ MyInv w fo fn fc to_ tn tc z wr2) (fun _ iv _ => fn - (intOf iv).toNat)
          case atStart => exact ⟨0, z.f, Nat.zero_le _, rfl, rfl, rfl, trivial, I⟩
          case round =>
            obtain ⟨k2, q, hk2, rfl, rfl, hq, hF, I2⟩ := hrel
            clear I
            have hfl := I2.zn.free.len
            have hfr := I2.zn.free.reach
            have c2 := I2.box.c2
            by_cases hlt2 : k2 < fn
            · obtain ⟨bb, bf, x, y, u, rfl, x0, x1, x2, hX⟩ := I2.zn.free.at_.at k2 (by omega)
              have htk := take_getD z.free k2 (by omega) hX.out
              have hbx := below_box wr (.cells #[.int .i64 x, .int .i64 y, .int .i64 u] 63)
              have I3 := I2.step hbx
              have y0 : (wr.alloc (.cells #[.int .i64 x, .int .i64 y, .int .i64 u] 63)).cell? ⟨wr.heap.size, 0, none⟩ = some (.int .i64 x) := by go_simp
              have y1 : (wr.alloc (.cells #[.int .i64 x, .int .i64 y, .int .i64 u] 63)).cell? ⟨wr.heap.size, 1, none⟩ = some (.int .i64 y) := by go_simp
              have y2 : (wr.alloc (.cells #[.int .i64 x, .int .i64 y, .int .i64 u] 63)).cell? ⟨wr.heap.size, 2, none⟩ = some (.int .i64 u) := by go_simp
              have b0 := I3.box.c0
              have b1 := I3.box.c1
              have b2 := I3.box.c2
              have b3 := I3.box.c3
              go_wp2_with fail
              go_at_call 61
              refine (blockMay_any _ z.f z.t _ to_ fn fc tn tc x y hn).mono ?_
              rintro e w4 ⟨rfl, hb4⟩
              have I4 := I3.step hb4
              replace y0 := keep y0 hb4
              replace y1 := keep y1 hb4
              replace y2 := keep y2 hb4
              clear I2 I3 hbx b0 b1 b2 b3 c2 x0 x1 x2 hb4
              have hbb := I4.b
              by_cases hB : blkIn z.f z.t x y
              · have hB2 := (blkB_iff z.f z.t x y).2 hB
                rw [hB2]
                clear hB2
                by_cases hU : 0 ≤ u ∧ u ≤ 2
                · have e1 : inB u 0 2 = true := inB_t hU
                  by_cases hlow : x < q
                  · have HF : Hid (¬ ZMay z) := fun g => by have := (freeOk_at g.free (by omega) hX.out).2.2.1; rw [hq.out] at this; dsimp only at this; omega
                    clear hF hq hX htk hty
                    go_wp2_with (go_at_call 25; refine (in_any _ _ _ _).mono ?_; rintro e w' ⟨rfl, rfl⟩)
                    go_ret
                    exact ⟨⟨false, rfl, fun g => (by cases g), fun g => absurd g HF.out⟩, hbb⟩
                  · obtain ⟨o1, o2, o3, o4⟩ := id hB
                    obtain ⟨o5, o6⟩ := id o1
                    have hp1 := pw_pos y
                    have hp2 := pw_le o1
                    have hq' : Hid (lowOf z.f (z.free.take (k2 + 1)) = x + pw y) := by show _ = _; rw [htk, lowOf_snoc]
                    have hFk : (∀ p, lastOf none (z.free.take k2) = some p → ¬ besideP p ⟨x, y, u⟩) → Hid (FreeOk z.f z.t z.f none (z.free.take (k2 + 1))) := fun g => by
                      show FreeOk _ _ _ _ _
                      rw [htk, freeOk_snoc]
                      exact ⟨hF.out, hB, hU, by rw [hq.out]; dsimp only; omega, g⟩
                    have HFk : Hid _ := hFk
                    clear hFk
                    have c2 := I4.box.c2
                    go_wp2_with (go_at_call 25; refine (in_any _ _ _ _).mono ?_; rintro e w' ⟨rfl, rfl⟩)
                    go_quiet ((go_at_call 39; exact Calls.quiet_of_same (power_q y o5 (by omega) _)))
                    have hbq := below_drawn (w := w4) nq
                    have IE := I4.step hbq
                    replace y0 := keep y0 hbq
                    replace y1 := keep y1 hbq
                    replace y2 := keep y2 hbq
                    obtain ⟨W5, hW5⟩ : ∃ W5, w4.drewN nq = W5 := ⟨_, rfl⟩
                    rw [hW5] at IE y0 y1 y2 ⊢
                    clear hW5 hbq I4 c2 hbb
                    have c2 := IE.box.c2
                    have hbb := IE.b
                    by_cases hk0 : k2 = 0
                    · subst hk0
                      have hF' := HFk.out (fun p hp => by cases hp)
                      clear HFk hF hq htk
                      go_wp2
                      go_quiet (fail)
                      go_wp2
                      go_roundw
                      case rel => exact ⟨0 + 1, x + pw y, by omega, by go_num, by go_num, hq', hF', IE.step (below_drawn _)⟩
                      case measure => simp [intOf]; omega
                    · obtain ⟨j, rfl⟩ : ∃ j, k2 = j + 1 := ⟨k2 - 1, by omega⟩
                      obtain ⟨bb', bf', x', y', u', he, p0, p1, p2, hX'⟩ := IE.zn.free.at_.at j (by omega)
                      cases he
                      have hpv := freeOk_at hF.out (k := j) (by simp; omega) (b := ⟨x', y', u'⟩) (by
                        have := hX'.out
                        rw [List.getD_eq_getElem?_getD, List.getElem?_take, if_pos (by omega), ← List.getD_eq_getElem?_getD]
                        exact this)
                      obtain ⟨⟨v1, v2, v3, v4⟩, _, _, _⟩ := hpv
                      dsimp only at v1 v2 v3 v4
                      have hlast : lastOf none (z.free.take (j + 1)) = some ⟨x', y', u'⟩ := by rw [take_getD z.free j (by omega) hX'.out, lastOf_snoc]
                      obtain ⟨P, HP'⟩ : ∃ P, pw y = P := ⟨_, rfl⟩
                      have HP : Hid (pw y = P) := HP'
                      rw [HP'] at hp1 hp2
                      have hjj : ((j + 1 : Nat) : Int) = (j : Int) + 1 := by simp
                      have hj1 : (j : Int) < fn := by omega
                      have hj2 : j < fn := by omega
                      have t0 : decide ((0 : Int) < (j : Int) + 1) = true := decide_eq_true (by omega)
                      have hno : ¬ besideP ⟨x', y', u'⟩ ⟨x, y, u⟩ → Hid (FreeOk z.f z.t z.f none (z.free.take (j + 1 + 1))) := fun g => HFk.out (fun p hp => by rw [hlast] at hp; cases hp; exact g)
                      have Hno : Hid _ := hno
                      clear hno
                      by_cases q1 : y < 4
                      · obtain ⟨X, rfl⟩ : ∃ X : Nat, x' = X := ⟨x'.toNat, by omega⟩
                        obtain ⟨P2, HP2', hP2p, hP2q⟩ : ∃ P2 : Nat, pw (y + 1) = P2 ∧ 0 < P2 ∧ P2 ≤ 16 := ⟨(pw (y + 1)).toNat, by have := pw_pos (y + 1); omega, by have := pw_pos (y + 1); omega, by have := pw_le (o := y + 1) ⟨by omega, by omega⟩; omega⟩
                        obtain ⟨Y1, hY1⟩ : ∃ Y1, y + 1 = Y1 := ⟨_, rfl⟩
                        have HP2 : Hid (pw Y1 = P2) := by rw [← hY1]; exact HP2'
                        have HY1 : Hid (y + 1 = Y1) := hY1
                        have hP20 : ((P2 : Int) == 0) = false := by simp; omega
                        clear HP2' HP'
                        by_cases q2 : y = y'
                        · subst q2
                          by_cases q3 : (X : Int) + P = x
                          · have q3' : ((X : Int) + P == x) = true := by simpa using q3
                            by_cases q4 : (X : Int) % (P2 : Int) = 0
                            · have q4' : ((X : Int) % (P2 : Int) == 0) = true := by simpa using q4
                              have HF : Hid (¬ ZMay z) := fun g => (freeOk_at g.free (by omega) hX.out).2.2.2 _ hlast ⟨q1, rfl, by dsimp only; rw [HP.out]; exact q3, by dsimp only; rw [HY1.out, HP2.out]; exact q4⟩
                              clear Hno HFk hF hq htk hlast hX hX' hty q3 q4
                              go_wp2
                              go_quiet (first | (go_at_call_of 39 Y1; exact Calls.quiet_of_same (power_v Y1 P2 (by omega) (by omega) HP2.out _)) | (go_at_call_of 39 y; exact Calls.quiet_of_same (power_v y P o5 (by omega) HP.out _)))
                              go_wp2
                              go_ret
                              exact ⟨⟨false, rfl, fun g => (by cases g), fun g => absurd g HF.out⟩, below_drewN hbb _⟩
                            · have q4' : ((X : Int) % (P2 : Int) == 0) = false := by simpa using q4
                              have hF' := Hno.out (fun g => q4 (by have := g.2.2.2; dsimp only at this; rw [HY1.out, HP2.out] at this; exact this))
                              clear Hno HFk hF hq htk hlast hX hX' hty q3 q4
                              go_wp2
                              go_quiet (first | (go_at_call_of 39 Y1; exact Calls.quiet_of_same (power_v Y1 P2 (by omega) (by omega) HP2.out _)) | (go_at_call_of 39 y; exact Calls.quiet_of_same (power_v y P o5 (by omega) HP.out _)))
                              go_wp2
                              go_roundw
                              case rel => exact ⟨(j + 1) + 1, x + pw y, by omega, by go_num, by go_num, hq', hF', IE.step (below_drawn _)⟩
                              case measure => simp [intOf]; omega
                          · have q3' : ((X : Int) + P == x) = false := by simpa using q3
                            have hF' := Hno.out (fun g => q3 (by have := g.2.2.1; dsimp only at this; rw [HP.out] at this; exact this))
                            clear Hno HFk hF hq htk hlast hX hX' hty q3
                            go_wp2
                            go_quiet (first | (go_at_call_of 39 Y1; exact Calls.quiet_of_same (power_v Y1 P2 (by omega) (by omega) HP2.out _)) | (go_at_call_of 39 y; exact Calls.quiet_of_same (power_v y P o5 (by omega) HP.out _)))
                            go_wp2
                            go_roundw
                            case rel => exact ⟨(j + 1) + 1, x + pw y, by omega, by go_num, by go_num, hq', hF', IE.step (below_drawn _)⟩
                            case measure => simp [intOf]; omega
                        · have q2' : (y' == y) = false := by simp; exact fun g => q2 g.symm
                          have hF' := Hno.out (fun g => q2 g.2.1.symm)
                          clear Hno HFk hF hq htk hlast hX hX' hty q2
                          go_wp2
                          go_quiet (first | (go_at_call_of 39 Y1; exact Calls.quiet_of_same (power_v Y1 P2 (by omega) (by omega) HP2.out _)) | (go_at_call_of 39 y; exact Calls.quiet_of_same (power_v y P o5 (by omega) HP.out _)))
                          go_wp2
                          go_roundw
                          case rel => exact ⟨(j + 1) + 1, x + pw y, by omega, by go_num, by go_num, hq', hF', IE.step (below_drawn _)⟩
                          case measure => simp [intOf]; omega
                      · have hF' := Hno.out (fun g => q1 g.1)
                        have q1' : decide (y < 4) = false := decide_eq_false q1
                        clear Hno HFk hF hq htk hlast hX hX' hty
                        go_wp2
                        go_quiet (fail)
                        go_wp2
                        go_roundw
                        case rel => exact ⟨(j + 1) + 1, x + pw y, by omega, by go_num, by go_num, hq', hF', IE.step (below_drawn _)⟩
                        case measure => simp [intOf]; omega
                · have e1 : inB u 0 2 = false := inB_f hU
                  have HF : Hid (¬ ZMay z) := fun g => hU (freeOk_at g.free (by omega) hX.out).2.1
                  clear hF hq hX htk hty
                  go_wp2_with (go_at_call 25; refine (in_any _ _ _ _).mono ?_; rintro e w' ⟨rfl, rfl⟩)
                  go_ret
                  exact ⟨⟨false, rfl, fun g => (by cases g), fun g => absurd g HF.out⟩, hbb⟩
              · have hB2 : blkB z.f z.t x y = false := by
                  cases hb : blkB z.f z.t x y with
                  | false => rfl
                  | true => exact absurd ((blkB_iff z.f z.t x y).1 hb) hB
                rw [hB2]
                have HF : Hid (¬ ZMay z) := fun g => hB (freeOk_at g.free (by omega) hX.out).1
                clear hF hq hX htk hty
                go_wp2
                go_ret
                exact ⟨⟨false, rfl, fun g => (by cases g), fun g => absurd g HF.out⟩, hbb⟩
            · have HM : Hid (ZMay z) := ⟨hn, by rw [htl]; exact hlen, hty.out, by have := hF.out; rw [List.take_of_length_le (by omega)] at this; exact this⟩
              have hbb := I2.b
              clear hF hq hty
              go_wp2
              go_ret
              exact ⟨⟨true, rfl, fun _ => HM.out, fun _ => rfl⟩, hbb⟩
    · have HF : Hid (¬ ZMay z) := fun g => hlen (by have := g.len; rw [htl] at this; exact this)
      go_wp2
      go_ret
      exact ⟨⟨false, rfl, fun g => (by cases g), fun g => absurd g HF.out⟩, I1.b⟩
  · go_enter Try.func36, Try.ntmps36
    go_wp2_with fail
    go_at_call 24
    refine (zoneNew_no _ z.f z.t hn).mono ?_
    rintro e w1 ⟨rfl, hb1⟩
    have I1 := I0.step hb1
    have HF : Hid (¬ ZMay z) := fun g => hn g.new
    have hbx := I1.b.trans ((below_box w1 (.cells #[.int .i64 0, .int .i64 0, .slice none 0 0, .slice none 0 0] 44)).mono I1.b.size)
    clear I0 I1 hb1 hn
    go_wp2
    go_ret
    exact ⟨⟨false, rfl, fun g => (by cases g), fun g => absurd g HF.out⟩, hbx⟩

end Go.Proofs.Ytbjlbmofdnkmiaa

/-
  OWN TEXT. Contracts of the document's answer: overlaps.
-/
namespace Go.Proofs.Ytbjlbmofdnkmiaa
open Go Go.RowKit Go.Proofs.Ytbjlbmofdnkmiaa.Kit

set_option maxHeartbeats 1000000 in
set_option maxRecDepth 4000 in
theorem overlaps_any (w : World) (ao : Option Addr) (n cap : Nat) (l : List Bk) (a o : Int) (h : Blks w ao n l) (ho : ∀ i, i < l.length → ordOk (l.getD i .zero).o ∧ 0 ≤ (l.getD i .zero).a ∧ (l.getD i .zero).a ≤ 256) (hoo : ordOk o) (h0 : 0 ≤ a) (h1 : a ≤ 256) :
    Calls Try.prog 38 #[.slice ao n cap, .int .i64 a, .int .i64 o] w fun e w' => RetIff e (∃ i, i < l.length ∧ (l.getD i .zero).a < a + pw o ∧ a < (l.getD i .zero).a + pw (l.getD i .zero).o) ∧ ∃ d, w' = w.drewN d := by
  obtain ⟨hn, hr, hx⟩ := h
  obtain ⟨P, hP⟩ : ∃ P, pw o = P := ⟨_, rfl⟩
  have HP : Hid (pw o = P) := hP
  have p1 := pw_pos o
  have p2 := pw_le hoo
  obtain ⟨o0, o4⟩ := hoo
  rw [hP] at p1 p2 ⊢
  clear hP
  go_enter Try.func38, Try.ntmps38
  go_wp2
  go_loopw [7] (fun i wr => ∃ k : Nat, k ≤ n ∧ i = .int .i64 k ∧ Hid (∀ i, i < k → ¬ ((l.getD i .zero).a < a + P ∧ a < (l.getD i .zero).a + pw (l.getD i .zero).o)) ∧ ∃ d, wr = w.drewN d) (fun i _ => n - (intOf i).toNat)
  case atStart => exact ⟨0, Nat.zero_le _, rfl, (fun i hi => absurd hi (Nat.not_lt_zero i)), 0, rfl⟩
  case round =>
    obtain ⟨k, hk, rfl, hN, hd⟩ := hrel
    have hbw : Below w.heap.size w wr := by obtain ⟨d, rfl⟩ := hd; exact below_drawn d
    by_cases hlt : k < n
    · obtain ⟨b, bo, x, y, u, rfl, c1, c2, c3, hX⟩ := (hx.below hbw).at k (by omega)
      have hy : ordOk y ∧ 0 ≤ x ∧ x ≤ 256 := by have := ho k (by omega); rw [hX.out] at this; exact this
      obtain ⟨hy1, x0, x1⟩ := hy
      obtain ⟨P', hP'⟩ : ∃ P', pw y = P' := ⟨_, rfl⟩
      have HP' : Hid (pw y = P') := hP'
      have p1' := pw_pos y
      have p2' := pw_le hy1
      obtain ⟨y0, y4⟩ := hy1
      rw [hP'] at p1' p2'
      clear hP' c3
      by_cases g1 : x < a + P
      · have g1b : decide (x < a + P) = true := decide_eq_true g1
        by_cases g2 : a < x + P'
        · have g2b : decide (a < x + P') = true := decide_eq_true g2
          have HT : Hid (∃ i, i < l.length ∧ (l.getD i .zero).a < a + P ∧ a < (l.getD i .zero).a + pw (l.getD i .zero).o) := ⟨k, by omega, by rw [hX.out]; exact g1, by rw [hX.out]; dsimp only; rw [HP'.out]; exact g2⟩
          clear hN ho hx hX
          go_wp2
          go_quiet (first | (go_at_call_of 39 o; exact Calls.quiet_of_same (power_v o P o0 (by omega) HP.out _)) | (go_at_call_of 39 y; exact Calls.quiet_of_same (power_v y P' y0 (by omega) HP'.out _)))
          go_wp2
          go_ret
          exact ⟨⟨true, rfl, fun _ => HT.out, fun _ => rfl⟩, drawn_more hd _⟩
        · have g2b : decide (a < x + P') = false := decide_eq_false g2
          have hN' : Hid (∀ i, i < k + 1 → ¬ ((l.getD i .zero).a < a + P ∧ a < (l.getD i .zero).a + pw (l.getD i .zero).o)) := fun i hi => by
            by_cases e : i = k
            · rw [e, hX.out]; dsimp only; rw [HP'.out]; exact fun g => g2 g.2
            · exact hN.out i (by omega)
          clear hN ho hX
          go_wp2
          go_quiet (first | (go_at_call_of 39 o; exact Calls.quiet_of_same (power_v o P o0 (by omega) HP.out _)) | (go_at_call_of 39 y; exact Calls.quiet_of_same (power_v y P' y0 (by omega) HP'.out _)))
          go_wp2
          go_roundw
          case rel => exact ⟨k + 1, by omega, by go_num, hN', drawn_more hd _⟩
          case measure => simp [intOf]; omega
      · have g1b : decide (x < a + P) = false := decide_eq_false g1
        have hN' : Hid (∀ i, i < k + 1 → ¬ ((l.getD i .zero).a < a + P ∧ a < (l.getD i .zero).a + pw (l.getD i .zero).o)) := fun i hi => by
          by_cases e : i = k
          · rw [e, hX.out]; exact fun g => g1 g.1
          · exact hN.out i (by omega)
        clear hN ho hX
        go_wp2
        go_quiet (first | (go_at_call_of 39 o; exact Calls.quiet_of_same (power_v o P o0 (by omega) HP.out _)) | (go_at_call_of 39 y; exact Calls.quiet_of_same (power_v y P' y0 (by omega) HP'.out _)))
        go_wp2
        go_roundw
        case rel => exact ⟨k + 1, by omega, by go_num, hN', drawn_more hd _⟩
        case measure => simp [intOf]; omega
    · have HF : Hid (¬ ∃ i, i < l.length ∧ (l.getD i .zero).a < a + P ∧ a < (l.getD i .zero).a + pw (l.getD i .zero).o) := fun ⟨i, hi, g⟩ => hN.out i (by omega) g
      clear hN ho
      go_wp2
      go_ret
      exact ⟨⟨false, rfl, fun g => (by cases g), fun g => absurd g HF.out⟩, hd⟩

end Go.Proofs.Ytbjlbmofdnkmiaa

/-
  OWN TEXT. Contract of the document's answer: words.
-/
namespace Go.Proofs.Ytbjlbmofdnkmiaa
open Go Go.RowKit Go.Proofs.Ytbjlbmofdnkmiaa.Kit

set_option maxHeartbeats 400000 in
theorem words_any (w : World) (ao : Option Addr) (n cap : Nat) (xs : List Int) (hn : xs.length = n) (hr : n * 8 ≤ 140737488351232) (hx : IntsAt w ao xs) :
    Calls Try.prog 42 #[.slice ao n cap] w fun e w' => ∃ bo c, e = .returned (.slice bo n c) ∧
      w'.ownsRow w.heap.size 3 1 (.slice bo n c) n (vals xs) ∧ Below w.heap.size w w' := by
  obtain ⟨i0, hi, hz0, hz1, hz2⟩ := info_parts info_int
  go_enter Try.func42, Try.ntmps42
  go_wp2
  go_loopw [3, 4] (fun v i wr => ∃ k : Nat, k ≤ n ∧ i = .int .i64 k ∧ wr.ownsRow w.heap.size 3 1 v k (vals (xs.take k)) ∧ Below w.heap.size w wr) (fun _ i _ => n - (intOf i).toNat)
  case atStart => exact ⟨0, Nat.zero_le _, rfl, World.ownsRow_nil _ _ _ _, Below.refl _ _⟩
  case round =>
    obtain ⟨k, hk, rfl, hown, hb⟩ := hrel
    by_cases hlt : k < n
    · obtain ⟨b, o, x, rfl, c, hX⟩ := (hx.below hb).at k (by omega)
      have hs := hb.size
      have hml : k + 1 ≤ maxLen := by unfold maxLen; omega
      clear hx
      go_wp2_with (at_builtin; refine wpList_append_own _ rfl (.tmp 11) (.tmp 16) 24 rfl w.heap.size 3 i0 (.int .i64 0) 1 8 Try.underlying24 hi hz0 hz1 hz2 rfl (by decide) _ _ _ rfl (hown.alloc _) ⟨wr.heap.size, 0, none⟩ 1 1 [.int .i64 x] rfl rfl ?c1 ?c2 hml ?c4 ?c5 ?_)
      case c1 => exact cell_one_new' _ _ _
      case c2 => exact ints_oneCell .i64 [_]
      case c4 => omega
      case c5 => simp; omega
      intro v' w1 hown' hgrow _
      rw [take_snoc xs k (by omega) hX.out] at hown'
      have hb' : Below w.heap.size w w1 := (hb.alloc hs _).grown hgrow (by simp; omega) (fun g hg => (hown.lt g hg).1)
      clear hown hgrow hb
      go_wp2
      go_roundw
      case rel => exact ⟨k + 1, by omega, by go_num, hown', hb'⟩
      case measure => simp [intOf]; omega
    · obtain rfl : k = n := by omega
      obtain ⟨bo, c, rfl⟩ := owns_shape hown
      go_wp2
      go_ret
      exact ⟨bo, c, rfl, by rw [List.take_of_length_le (by omega)] at hown; exact hown, hb⟩

end Go.Proofs.Ytbjlbmofdnkmiaa

/-
  OWN TEXT. Contracts of the document's answer: blocks, ZoneCopy.
-/
namespace Go.Proofs.Ytbjlbmofdnkmiaa
open Go Go.RowKit Go.Proofs.Ytbjlbmofdnkmiaa.Kit

set_option maxHeartbeats 1000000 in
theorem blocksCopy_any (w : World) (ao : Option Addr) (n cap : Nat) (l : List Bk) (h : Blks w ao n l) :
    Calls Try.prog 43 #[.slice ao n cap] w fun e w' => ∃ bo c, e = .returned (.slice bo n c) ∧
      w'.ownsRow w.heap.size 63 3 (.slice bo n c) n (bvals l) ∧ Below w.heap.size w w' := by
  obtain ⟨i0, hi, hz0, hz1, hz2⟩ := info_parts info_block
  obtain ⟨hn, hr, hx⟩ := h
  go_enter Try.func43, Try.ntmps43
  go_wp2
  go_loopw [3, 4] (fun v i wr => ∃ k : Nat, k ≤ n ∧ i = .int .i64 k ∧ wr.ownsRow w.heap.size 63 3 v k (bvals (l.take k)) ∧ Below w.heap.size w wr) (fun _ i _ => n - (intOf i).toNat)
  case atStart => exact ⟨0, Nat.zero_le _, rfl, World.ownsRow_nil _ _ _ _, Below.refl _ _⟩
  case round =>
    obtain ⟨k, hk, rfl, hown, hb⟩ := hrel
    have hs := hb.size
    by_cases hlt : k < n
    · obtain ⟨b, o, x, y, z, rfl, c1, c2, c3, hX⟩ := (hx.below hb).at k (by omega)
      have hml : k + 1 ≤ maxLen := by unfold maxLen; omega
      clear hx
      go_wp2_with (at_builtin; refine wpList_append_own _ rfl (.tmp 11) (.tmp 16) 26 rfl w.heap.size 63 i0 (.agg #[.int .i64 0, .int .i64 0, .int .i64 0]) 3 24 Try.underlying26 hi hz0 hz1 hz2 rfl (by decide) _ _ _ rfl (hown.alloc _) ⟨wr.heap.size, 0, none⟩ 1 1 [.int .i64 x, .int .i64 y, .int .i64 z] rfl rfl ?c1 ?c2 hml ?c4 ?c5 ?_)
      case c1 => exact cell_three_new _ _ _ _ _
      case c2 => exact ints_oneCell .i64 [_, _, _]
      case c4 => omega
      case c5 => simp; omega
      intro v' w1 hown' hgrow _
      rw [btake_snoc l k (by omega) hX.out] at hown'
      have hb' : Below w.heap.size w w1 := (hb.alloc hs _).grown hgrow (by simp; omega) (fun g hg => (hown.lt g hg).1)
      clear hown hgrow hb
      go_wp2
      go_roundw
      case rel => exact ⟨k + 1, by omega, by go_num, hown', hb'⟩
      case measure => simp [intOf]; omega
    · obtain rfl : k = n := by omega
      obtain ⟨bo, c, rfl⟩ := owns_shape hown
      go_wp2
      go_ret
      exact ⟨bo, c, rfl, by rw [List.take_of_length_le (by omega)] at hown; exact hown, hb⟩

/-- What is held while a zone is copied: the argument's block and what lies below it; the result's block may be written. -/
structure CopyS (w W0 wx : World) : Prop where
  b : Below (w.heap.size + 1) W0 wx
  r : Res4 wx (w.heap.size + 1)
  s : W0.heap.size ≤ wx.heap.size

/-- What lies in a cell. -/
def cont (wx : World) (b i : Nat) : Value := (wx.cell? ⟨b, i, none⟩).getD undef
theorem cont_eq {wx : World} {b i : Nat} (h : ∃ v, wx.cell? ⟨b, i, none⟩ = some v) : wx.cell? ⟨b, i, none⟩ = some (cont wx b i) := by
  obtain ⟨v, e⟩ := h
  unfold cont
  rw [e]; rfl

theorem CopyS.drew {w W0 : World} (h : CopyS w W0 W0) : CopyS w W0 W0.drew := ⟨h.b.drew, h.r.belowB (B := W0.heap.size) (Below.refl _ _).drew (by obtain ⟨v, e⟩ := h.r.d0; have := World.block_lt_of_cell? W0 _ e; exact this), h.s⟩
theorem CopyS.step {w W0 W W' : World} (h : CopyS w W0 W) (hb : Below W.heap.size W W') (hs : w.heap.size + 1 ≤ W.heap.size) : CopyS w W0 W' := ⟨h.b.trans (hb.mono hs), h.r.below hb, Nat.le_trans h.s hb.size⟩
theorem CopyS.store {w W0 W : World} (h : CopyS w W0 W) (x y u v : Value) : CopyS w W0 ((((W.setCell ⟨w.heap.size + 1, 0, none⟩ x).setCell ⟨w.heap.size + 1, 1, none⟩ y).setCell ⟨w.heap.size + 1, 2, none⟩ u).setCell ⟨w.heap.size + 1, 3, none⟩ v) := by
  obtain ⟨⟨v0, e0⟩, ⟨v1, e1⟩, ⟨v2, e2⟩, ⟨v3, e3⟩, z0, z1, z2, z3⟩ := h.r
  have hbt := but4 W (w.heap.size + 1) x y u v
  have hlt := World.block_lt_of_cell? W _ e0
  dsimp only at hlt
  exact ⟨h.b.trans (hbt.below (Nat.le_refl _) (by omega)), (ZBox.set4 ⟨e0, e1, e2, e3, z0, z1, z2, z3⟩ x y u v).res, Nat.le_trans h.s hbt.size⟩

set_option maxHeartbeats 2000000 in
theorem zoneCopy_any (w : World) (fo : Option Addr) (fn fc : Nat) (to_ : Option Addr) (tn tc : Nat) (z : Zn) (h : ZnAt w fo fn to_ tn z) :
    Calls Try.prog 44 #[.agg #[.int .i64 z.f, .int .i64 z.t, .slice fo fn fc, .slice to_ tn tc]] w fun e w' => RetZ w.heap.size w' z e ∧ Below w.heap.size w w' := by
  obtain ⟨f, t, free, types⟩ := z
  obtain ⟨hf, ht⟩ := h
  dsimp only at hf ht ⊢
  obtain ⟨W0, hW0⟩ : ∃ W0, (w.alloc (.cells #[.int .i64 f, .int .i64 t, .slice fo fn fc, .slice to_ tn tc] 44)).alloc (.cells #[.int .i64 0, .int .i64 0, .slice none 0 0, .slice none 0 0] 44) = W0 := ⟨_, rfl⟩
  have hb0 : Below w.heap.size w W0 := by rw [← hW0]; exact ((Below.refl _ _).alloc (Nat.le_refl _) _).alloc (by simp) _
  have Z0 : ZBox W0 w.heap.size (.int .i64 f) (.int .i64 t) (.slice fo fn fc) (.slice to_ tn tc) := by rw [← hW0]; exact (zbox_new w _ _ _ _ _).below (below_box _ _)
  have R0 : Res4 W0 (w.heap.size + 1) := by
    rw [← hW0]
    have := zbox_new (w.alloc (.cells #[.int .i64 f, .int .i64 t, .slice fo fn fc, .slice to_ tn tc] 44)) (.int .i64 0) (.int .i64 0) (.slice none 0 0) (.slice none 0 0) 44
    have h2 := this.res
    simpa using h2
  have hs0 : w.heap.size + 2 = W0.heap.size := by rw [← hW0]; simp
  have S0 : CopyS w W0 W0 := ⟨Below.refl _ _, R0, Nat.le_refl _⟩
  have hz := Z0.lt
  have q0 : ∀ wx, CopyS w W0 wx → wx.cell? ⟨w.heap.size, 0, none⟩ = some (.int .i64 f) := fun wx h => (h.b.cell (p := ⟨w.heap.size, 0, none⟩) (show w.heap.size < w.heap.size + 1 by omega)).trans Z0.c0
  have q1 : ∀ wx, CopyS w W0 wx → wx.cell? ⟨w.heap.size, 1, none⟩ = some (.int .i64 t) := fun wx h => (h.b.cell (p := ⟨w.heap.size, 1, none⟩) (show w.heap.size < w.heap.size + 1 by omega)).trans Z0.c1
  have q2 : ∀ wx, CopyS w W0 wx → wx.cell? ⟨w.heap.size, 2, none⟩ = some (.slice fo fn fc) := fun wx h => (h.b.cell (p := ⟨w.heap.size, 2, none⟩) (show w.heap.size < w.heap.size + 1 by omega)).trans Z0.c2
  have q3 : ∀ wx, CopyS w W0 wx → wx.cell? ⟨w.heap.size, 3, none⟩ = some (.slice to_ tn tc) := fun wx h => (h.b.cell (p := ⟨w.heap.size, 3, none⟩) (show w.heap.size < w.heap.size + 1 by omega)).trans Z0.c3
  have d0 : ∀ wx, CopyS w W0 wx → wx.cell? ⟨w.heap.size + 1, 0, none⟩ = some (cont wx (w.heap.size + 1) 0) := fun wx h => cont_eq h.r.d0
  have d1 : ∀ wx, CopyS w W0 wx → wx.cell? ⟨w.heap.size + 1, 1, none⟩ = some (cont wx (w.heap.size + 1) 1) := fun wx h => cont_eq h.r.d1
  have d2 : ∀ wx, CopyS w W0 wx → wx.cell? ⟨w.heap.size + 1, 2, none⟩ = some (cont wx (w.heap.size + 1) 2) := fun wx h => cont_eq h.r.d2
  have d3 : ∀ wx, CopyS w W0 wx → wx.cell? ⟨w.heap.size + 1, 3, none⟩ = some (cont wx (w.heap.size + 1) 3) := fun wx h => cont_eq h.r.d3
  have z0 : ∀ wx, CopyS w W0 wx → wx.frozen? ⟨w.heap.size + 1, 0, none⟩ = false := fun wx h => h.r.z0
  have z1 : ∀ wx, CopyS w W0 wx → wx.frozen? ⟨w.heap.size + 1, 1, none⟩ = false := fun wx h => h.r.z1
  have z2 : ∀ wx, CopyS w W0 wx → wx.frozen? ⟨w.heap.size + 1, 2, none⟩ = false := fun wx h => h.r.z2
  have z3 : ∀ wx, CopyS w W0 wx → wx.frozen? ⟨w.heap.size + 1, 3, none⟩ = false := fun wx h => h.r.z3
  have HB : Hid (∀ W, CopyS w W0 W → Calls Try.prog 43 #[.slice fo fn fc] W fun e w' => ∃ bo c, e = .returned (.slice bo fn c) ∧ (Blks w' bo fn free ∧ Fresh W0.heap.size bo ∧ Below W.heap.size W w') ∧ CopyS w W0 w') := fun W hS => by
    have hs := hS.s
    refine (blocksCopy_any W fo fn fc free (hf.below (hb0.trans (hS.b.mono (by omega))))).mono ?_
    rintro e w' ⟨bo, c, rfl, own, hb⟩
    exact ⟨bo, c, rfl, ⟨blks_own own hf.reach, (owns_fresh own).mono hs, hb⟩, hS.step hb (by omega)⟩
  have HW : Hid (∀ W, CopyS w W0 W → Calls Try.prog 42 #[.slice to_ tn tc] W fun e w' => ∃ bo c, e = .returned (.slice bo tn c) ∧ (Nums w' bo tn types ∧ Fresh W0.heap.size bo ∧ Below W.heap.size W w') ∧ CopyS w W0 w') := fun W hS => by
    have hs := hS.s
    refine (words_any W to_ tn tc types ht.len ht.reach (ht.below (hb0.trans (hS.b.mono (by omega)))).at_).mono ?_
    rintro e w' ⟨bo, c, rfl, own, hb⟩
    exact ⟨bo, c, rfl, ⟨nums_of_owns own ht.reach, (owns_fresh own).mono hs, hb⟩, hS.step hb (by omega)⟩
  go_enter Try.func44, Try.ntmps44
  go_wp2_with fail
  clear hf ht hW0 Z0 R0 hz
  go_region_held3 (fun wx => CopyS w W0 wx) (first | assumption | exact CopyS.drew (by assumption) | exact CopyS.store (by assumption) _ _ _ _)
    (first
      | (go_at_call 43; refine (HB.out _ ?_).mono ?_; assumption; rintro e w3 ⟨bo, c, rfl, g1, hS3⟩)
      | (go_at_call 42; refine (HW.out _ ?_).mono ?_; assumption; rintro e w4 ⟨bo2, c2, rfl, g2, hS4⟩))
  obtain ⟨g11, g12, g13⟩ := g1
  obtain ⟨g21, g22, g23⟩ := g2
  have hR4 := hS4.r
  have hB4 := hb0.trans (hS4.b.mono (Nat.le_succ _))
  replace g11 := g11.below g23
  have hs4 := hS4.s
  clear q0 q1 q2 q3 d0 d1 d2 d3 z0 z1 z2 z3 HB HW S0 hS3 hS4
  go_wp2
  obtain ⟨k0, k1, k2, k3⟩ := res4 hR4 (.int .i64 f) (.int .i64 t) (.slice bo fn c) (.slice bo2 tn c2)
  have hbt := but4 w4 (w.heap.size + 1) (.int .i64 f) (.int .i64 t) (.slice bo fn c) (.slice bo2 tn c2)
  refine bodyPost_ret (v := .agg #[.int .i64 f, .int .i64 t, .slice bo fn c, .slice bo2 tn c2]) (by simp [results, Try.results44, go_sem, k0, k1, k2, k3]) rfl ⟨⟨bo, fn, c, bo2, tn, c2, rfl, ?_, g12.mono (by omega), g22.mono (by omega)⟩, hB4.trans (hbt.below (by omega) (by omega))⟩
  exact hbt.zn ⟨g11, g21⟩ (fun a ha => by have := g12 a ha; omega) (fun a ha => by have := g22 a ha; omega)

end Go.Proofs.Ytbjlbmofdnkmiaa

/-
  OWN TEXT. Contracts of the document's answer: withBlock, without.
-/
namespace Go.Proofs.Ytbjlbmofdnkmiaa
open Go Go.RowKit Go.Proofs.Ytbjlbmofdnkmiaa.Kit

set_option maxHeartbeats 2000000 in
theorem without_any (w : World) (ao : Option Addr) (n cap : Nat) (l : List Bk) (a o : Int) (h : Blks w ao n l) :
    Calls Try.prog 50 #[.slice ao n cap, .int .i64 a, .int .i64 o] w fun e w' => ∃ bo m c, e = .returned (.tuple #[.slice bo m c, .bool (hasB l a o)]) ∧
      w'.ownsRow w.heap.size 63 3 (.slice bo m c) m (bvals (dropB l a o)) ∧ Below w.heap.size w w' := by
  obtain ⟨i0, hi, hz0, hz1, hz2⟩ := info_parts info_block
  obtain ⟨hn, hr, hx⟩ := h
  go_enter Try.func50, Try.ntmps50
  go_wp2
  go_loopw [8, 9, 10] (fun v fv i wr => ∃ (k m c : Nat) (bo : Option Addr), k ≤ n ∧ m ≤ k ∧ v = .slice bo m c ∧ fv = .bool (hasB (l.take k) a o) ∧ i = .int .i64 k ∧ wr.ownsRow w.heap.size 63 3 (.slice bo m c) m (bvals (dropB (l.take k) a o)) ∧ Below w.heap.size w wr) (fun _ _ i _ => n - (intOf i).toNat)
  case atStart => exact ⟨0, 0, 0, none, Nat.zero_le _, Nat.le_refl _, rfl, rfl, rfl, World.ownsRow_nil _ _ _ _, Below.refl _ _⟩
  case round =>
    obtain ⟨k, m, c, bo, hk, hm, rfl, rfl, rfl, hown, hb⟩ := hrel
    have hs := hb.size
    by_cases hlt : k < n
    · obtain ⟨b, of, x, y, u, rfl, c1, c2, c3, hX⟩ := (hx.below hb).at k (by omega)
      have htk := take_getD l k (by omega) hX.out
      have hml : m + 1 ≤ maxLen := by unfold maxLen; omega
      by_cases g1 : x = a
      · have g1b : (x == a) = true := by simpa using g1
        by_cases g2 : y = o
        · have g2b : (y == o) = true := by simpa using g2
          have hT : isB a o ⟨x, y, u⟩ = true := decide_eq_true ⟨g1, g2⟩
          have hH' : Value.bool true = .bool (hasB (l.take (k + 1)) a o) := by rw [htk, hasB_snoc, hT, Bool.or_true]
          have hown2 : wr.ownsRow w.heap.size 63 3 (.slice bo m c) m (bvals (dropB (l.take (k + 1)) a o)) := by rw [htk, dropB_snoc, if_pos hT]; exact hown
          have HH' : Hid _ := hH'
          clear hx hX htk hT hown hH' g1 g2
          go_wp2
          go_roundw
          case rel => exact ⟨k + 1, m, c, bo, by omega, by omega, rfl, HH'.out, by go_num, hown2, hb⟩
          case measure => simp [intOf]; omega
        · have g2b : (y == o) = false := by simpa using g2
          have hT : isB a o ⟨x, y, u⟩ = false := decide_eq_false (fun g => g2 g.2)
          have hH' : Value.bool (hasB (l.take k) a o) = .bool (hasB (l.take (k + 1)) a o) := by rw [htk, hasB_snoc, hT, Bool.or_false]
          have HE : Hid (bvals (dropB (l.take k) a o) ++ [.int .i64 x, .int .i64 y, .int .i64 u] = bvals (dropB (l.take (k + 1)) a o)) := by show _ = _; rw [htk, dropB_snoc, hT, if_neg (by simp), bvals_append]; rfl
          have HH' : Hid _ := hH'
          clear hx hX htk hT hH' g1 g2
          go_wp2_with (at_builtin; refine wpList_append_own _ rfl (.tmp 33) (.tmp 38) 26 rfl w.heap.size 63 i0 (.agg #[.int .i64 0, .int .i64 0, .int .i64 0]) 3 24 Try.underlying26 hi hz0 hz1 hz2 rfl (by decide) _ _ _ rfl (hown.alloc _) ⟨wr.heap.size, 0, none⟩ 1 1 [.int .i64 x, .int .i64 y, .int .i64 u] rfl rfl ?c1 ?c2 hml ?c4 ?c5 ?_)
          case c1 => exact cell_three_new _ _ _ _ _
          case c2 => exact ints_oneCell .i64 [_, _, _]
          case c4 => omega
          case c5 => simp; omega
          intro v' w1 hown' hgrow _
          rw [HE.out] at hown'
          have hb' : Below w.heap.size w w1 := (hb.alloc hs _).grown hgrow (by simp; omega) (fun g hg => (hown.lt g hg).1)
          obtain ⟨bo', c', rfl⟩ := owns_shape hown'
          clear hown hgrow hb
          go_wp2
          go_roundw
          case rel => exact ⟨k + 1, m + 1, c', bo', by omega, by omega, rfl, HH'.out, by go_num, hown', hb'⟩
          case measure => simp [intOf]; omega
      · have g1b : (x == a) = false := by simpa using g1
        have hT : isB a o ⟨x, y, u⟩ = false := decide_eq_false (fun g => g1 g.1)
        have hH' : Value.bool (hasB (l.take k) a o) = .bool (hasB (l.take (k + 1)) a o) := by rw [htk, hasB_snoc, hT, Bool.or_false]
        have HE : Hid (bvals (dropB (l.take k) a o) ++ [.int .i64 x, .int .i64 y, .int .i64 u] = bvals (dropB (l.take (k + 1)) a o)) := by show _ = _; rw [htk, dropB_snoc, hT, if_neg (by simp), bvals_append]; rfl
        have HH' : Hid _ := hH'
        clear hx hX htk hT hH' g1
        go_wp2_with (at_builtin; refine wpList_append_own _ rfl (.tmp 33) (.tmp 38) 26 rfl w.heap.size 63 i0 (.agg #[.int .i64 0, .int .i64 0, .int .i64 0]) 3 24 Try.underlying26 hi hz0 hz1 hz2 rfl (by decide) _ _ _ rfl (hown.alloc _) ⟨wr.heap.size, 0, none⟩ 1 1 [.int .i64 x, .int .i64 y, .int .i64 u] rfl rfl ?c1 ?c2 hml ?c4 ?c5 ?_)
        case c1 => exact cell_three_new _ _ _ _ _
        case c2 => exact ints_oneCell .i64 [_, _, _]
        case c4 => omega
        case c5 => simp; omega
        intro v' w1 hown' hgrow _
        rw [HE.out] at hown'
        have hb' : Below w.heap.size w w1 := (hb.alloc hs _).grown hgrow (by simp; omega) (fun g hg => (hown.lt g hg).1)
        obtain ⟨bo', c', rfl⟩ := owns_shape hown'
        clear hown hgrow hb
        go_wp2
        go_roundw
        case rel => exact ⟨k + 1, m + 1, c', bo', by omega, by omega, rfl, HH'.out, by go_num, hown', hb'⟩
        case measure => simp [intOf]; omega
    · obtain rfl : k = n := by omega
      rw [List.take_of_length_le (by omega)] at hown ⊢
      go_wp2
      go_ret2
      exact ⟨bo, m, c, rfl, hown, hb⟩

end Go.Proofs.Ytbjlbmofdnkmiaa

/-
  OWN TEXT. Contracts of the document's answer: withBlock.
-/
namespace Go.Proofs.Ytbjlbmofdnkmiaa
open Go Go.RowKit Go.Proofs.Ytbjlbmofdnkmiaa.Kit

theorem box3 (w : World) (x y z : Value) (t : TypeId) : (w.alloc (.cells #[x, y, z] t)).cell? ⟨w.heap.size, 0, none⟩ = some x ∧ (w.alloc (.cells #[x, y, z] t)).cell? ⟨w.heap.size, 1, none⟩ = some y ∧ (w.alloc (.cells #[x, y, z] t)).cell? ⟨w.heap.size, 2, none⟩ = some z := ⟨by simp, by simp, by simp⟩

set_option maxHeartbeats 2000000 in
theorem withBlock_any (w : World) (ao : Option Addr) (n cap : Nat) (l : List Bk) (b : Bk) (h : Blks w ao n l) (hn1 : n ≤ 4096) :
    Calls Try.prog 62 #[.slice ao n cap, .agg #[.int .i64 b.a, .int .i64 b.o, .int .i64 b.t]] w fun e w' => ∃ bo c, e = .returned (.slice bo (n + 1) c) ∧
      w'.ownsRow w.heap.size 63 3 (.slice bo (n + 1) c) (n + 1) (bvals (addB l b)) ∧ Below w.heap.size w w' := by
  obtain ⟨i0, hi, hz0, hz1, hz2⟩ := info_parts info_block
  obtain ⟨hn, hr, hx⟩ := h
  obtain ⟨W0, hW0⟩ : ∃ W0, w.alloc (.cells #[.int .i64 b.a, .int .i64 b.o, .int .i64 b.t] 63) = W0 := ⟨_, rfl⟩
  have hs0 : w.heap.size + 1 ≤ W0.heap.size := by rw [← hW0]; simp
  have hb0 : Below w.heap.size w W0 := by rw [← hW0]; exact below_box _ _
  have B0 : W0.cell? ⟨w.heap.size, 0, none⟩ = some (.int .i64 b.a) := by rw [← hW0]; exact (box3 _ _ _ _ _).1
  have B1 : W0.cell? ⟨w.heap.size, 1, none⟩ = some (.int .i64 b.o) := by rw [← hW0]; exact (box3 _ _ _ _ _).2.1
  have B2 : W0.cell? ⟨w.heap.size, 2, none⟩ = some (.int .i64 b.t) := by rw [← hW0]; exact (box3 _ _ _ _ _).2.2
  have HQ : ∀ W, Below (w.heap.size + 1) W0 W → W.cell? ⟨w.heap.size, 0, none⟩ = some (.int .i64 b.a) ∧ W.cell? ⟨w.heap.size, 1, none⟩ = some (.int .i64 b.o) ∧ W.cell? ⟨w.heap.size, 2, none⟩ = some (.int .i64 b.t) ∧ BlksAt W ao l := fun W h =>
    ⟨(h.cell (p := ⟨w.heap.size, 0, none⟩) (show w.heap.size < w.heap.size + 1 by omega)).trans B0, (h.cell (p := ⟨w.heap.size, 1, none⟩) (show w.heap.size < w.heap.size + 1 by omega)).trans B1, (h.cell (p := ⟨w.heap.size, 2, none⟩) (show w.heap.size < w.heap.size + 1 by omega)).trans B2, hx.below (hb0.trans (h.mono (Nat.le_succ _)))⟩
  have HQ' : Hid _ := HQ
  clear HQ B0 B1 B2 hx
  go_enter Try.func62, Try.ntmps62
  go_wp2
  try rw [hW0]
  clear hW0
  go_loopw [5, 6, 7] (fun v dv i wr => ∃ (k m c : Nat) (bo : Option Addr) (dn : Bool), k ≤ n ∧ m ≤ k + 1 ∧ v = .slice bo m c ∧ dv = .bool dn ∧ Hid (gtB (l.take k) b = dn) ∧ i = .int .i64 k ∧ wr.ownsRow (w.heap.size + 1) 63 3 (.slice bo m c) m (bvals (outB (l.take k) b)) ∧ Below (w.heap.size + 1) W0 wr) (fun _ _ i _ => n - (intOf i).toNat)
  case atStart => exact ⟨0, 0, 0, none, false, Nat.zero_le _, by omega, rfl, rfl, rfl, rfl, World.ownsRow_nil _ _ _ _, Below.refl _ _⟩
  case round =>
    obtain ⟨k, m, c, bo, dn, hk, hm, rfl, rfl, hG, rfl, hown, hb⟩ := hrel
    obtain ⟨b0, b1, b2, hxr⟩ := HQ'.out _ hb
    by_cases hlt : k < n
    · obtain ⟨g, of, x, y, u, rfl, c1, c2, c3, hX⟩ := hxr.at k (by omega)
      have htk := take_getD l k (by omega) hX.out
      clear hxr
      have hsz := hb.size
      cases dn with
      | true =>
        have hG' : Hid (gtB (l.take (k + 1)) b = true) := by show _ = _; rw [htk, gtB_snoc, hG.out]; rfl
        have HE : Hid (bvals (outB (l.take k) b) ++ [.int .i64 x, .int .i64 y, .int .i64 u] = bvals (outB (l.take (k + 1)) b)) := by
          show _ = _
          have h1 : outB (l.take k) b = addB (l.take k) b := by unfold outB; rw [if_pos hG.out]
          have h2 : outB (l.take (k + 1)) b = addB (l.take (k + 1)) b := by unfold outB; rw [if_pos hG'.out]
          rw [h1, h2, htk, addB_snoc_t _ hG.out, bvals_append]; rfl
        clear hG htk hX
        go_wp2
        go_quiet (fail)
        have hbq := below_drawn (w := wr) nq
        have own1 := owns_below hown hbq (Nat.le_refl _)
        have hb1 := hb.trans (hbq.mono (by omega))
        replace c1 := keep c1 hbq
        replace c2 := keep c2 hbq
        replace c3 := keep c3 hbq
        obtain ⟨W1, hW1⟩ : ∃ W1, wr.drewN nq = W1 := ⟨_, rfl⟩
        rw [hW1] at own1 hb1 c1 c2 c3 ⊢
        clear hW1 hbq hown hb b0 b1 b2
        go_wp2_with (at_builtin; refine wpList_append_own _ rfl (.tmp 30) (.tmp 35) 26 rfl (w.heap.size + 1) 63 i0 (.agg #[.int .i64 0, .int .i64 0, .int .i64 0]) 3 24 Try.underlying26 hi hz0 hz1 hz2 rfl (by decide) _ _ _ rfl (own1.alloc _) ⟨W1.heap.size, 0, none⟩ 1 1 [.int .i64 x, .int .i64 y, .int .i64 u] rfl rfl ?c1 ?c2 (by unfold maxLen; omega) ?c4 ?c5 ?_)
        case c1 => exact cell_three_new _ _ _ _ _
        case c2 => exact ints_oneCell .i64 [_, _, _]
        case c4 => omega
        case c5 => have := hb1.size; simp; omega
        intro v' w3 hown' hgrow _
        have hbN : Below (w.heap.size + 1) W0 w3 := (hb1.alloc (by have := hb1.size; omega) _).grown hgrow (by have := hb1.size; simp; omega) (fun g hg => (own1.lt g hg).1)
        obtain ⟨bo', c', rfl⟩ := owns_shape hown'
        rw [HE.out] at hown'
        clear own1 hgrow hb1 c1 c2 c3
        go_wp2
        go_roundw
        case rel => exact ⟨k + 1, m + 1, c', bo', true, by omega, by omega, rfl, rfl, hG', by go_num, hown', hbN⟩
        case measure => simp [intOf]; omega
      | false =>
        have ho1 : outB (l.take k) b = l.take k := by unfold outB; rw [if_neg (by rw [hG.out]; simp)]
        by_cases hgt : b.a < x
        · have hgb : decide (b.a < x) = true := decide_eq_true hgt
          have hG' : Hid (gtB (l.take (k + 1)) b = true) := by show _ = _; rw [htk, gtB_snoc]; simp [hgt]
          have HE : Hid ((bvals (outB (l.take k) b) ++ [.int .i64 b.a, .int .i64 b.o, .int .i64 b.t]) ++ [.int .i64 x, .int .i64 y, .int .i64 u] = bvals (outB (l.take (k + 1)) b)) := by
            show _ = _
            have h2 : outB (l.take (k + 1)) b = addB (l.take (k + 1)) b := by unfold outB; rw [if_pos hG'.out]
            rw [ho1, h2, htk, addB_snoc_f hG.out hgt, bvals_append, List.append_assoc]; rfl
          have hm2 : m ≤ k := by
            have h3 := bowns_len hown
            rw [ho1, List.length_take] at h3
            omega
          clear hG htk ho1 hgt
          go_wp2
          go_quiet (fail)
          have hbq := below_drawn (w := wr) nq
          have own1 := owns_below hown hbq (Nat.le_refl _)
          have hb1 := hb.trans (hbq.mono (by omega))
          obtain ⟨W1, hW1⟩ : ∃ W1, wr.drewN nq = W1 := ⟨_, rfl⟩
          rw [hW1] at own1 hb1 ⊢
          clear hW1 hbq hown hb b0 b1 b2 c1 c2 c3
          obtain ⟨b0, b1, b2, hx1⟩ := HQ'.out _ hb1
          go_wp2_with (at_builtin; refine wpList_append_own _ rfl (.tmp 26) (.tmp 28) 26 rfl (w.heap.size + 1) 63 i0 (.agg #[.int .i64 0, .int .i64 0, .int .i64 0]) 3 24 Try.underlying26 hi hz0 hz1 hz2 rfl (by decide) _ _ _ rfl (own1.alloc _) ⟨W1.heap.size, 0, none⟩ 1 1 [.int .i64 b.a, .int .i64 b.o, .int .i64 b.t] rfl rfl ?c1 ?c2 (by unfold maxLen; omega) ?c4 ?c5 ?_)
          case c1 => exact cell_three_new _ _ _ _ _
          case c2 => exact ints_oneCell .i64 [_, _, _]
          case c4 => omega
          case c5 => have := hb1.size; simp; omega
          intro v' w3 hown' hgrow _
          have hbN : Below (w.heap.size + 1) W0 w3 := (hb1.alloc (by have := hb1.size; omega) _).grown hgrow (by have := hb1.size; simp; omega) (fun g hg => (own1.lt g hg).1)
          obtain ⟨bo', c', rfl⟩ := owns_shape hown'
          obtain ⟨b0', b1', b2', hx3⟩ := HQ'.out _ hbN
          have own3 := hown'
          have hb3 := hbN
          clear own1 hgrow hb1 b0 b1 b2 b0' b1' b2' hown' hbN hx1
          obtain ⟨g', of', x', y', u', he, c1, c2, c3, hX'⟩ := hx3.at k (by omega)
          cases he
          have hxy : (⟨x, y, u⟩ : Bk) = ⟨x', y', u'⟩ := hX.out.symm.trans hX'.out
          cases hxy
          clear hX hX' hx3
          have hsz3 := hb3.size
          go_wp2_with (at_builtin; refine wpList_append_own _ rfl (.tmp 30) (.tmp 35) 26 rfl (w.heap.size + 1) 63 i0 (.agg #[.int .i64 0, .int .i64 0, .int .i64 0]) 3 24 Try.underlying26 hi hz0 hz1 hz2 rfl (by decide) _ _ _ rfl (own3.alloc _) ⟨w3.heap.size, 0, none⟩ 1 1 [.int .i64 x, .int .i64 y, .int .i64 u] rfl rfl ?c1 ?c2 (by unfold maxLen; omega) ?c4 ?c5 ?_)
          case c1 => exact cell_three_new _ _ _ _ _
          case c2 => exact ints_oneCell .i64 [_, _, _]
          case c4 => omega
          case c5 => have := hb3.size; simp; omega
          intro v' w4 hown' hgrow _
          have hbN : Below (w.heap.size + 1) W0 w4 := (hb3.alloc (by have := hb3.size; omega) _).grown hgrow (by have := hb3.size; simp; omega) (fun g hg => (own3.lt g hg).1)
          obtain ⟨bo', c', rfl⟩ := owns_shape hown'
          replace hown' : w4.ownsRow (w.heap.size + 1) 63 3 (.slice bo' (m + 1 + 1) c') (m + 1 + 1) (bvals (outB (l.take (k + 1)) b)) := by rw [← HE.out]; simpa using hown'
          clear own3 hgrow hb3 c1 c2 c3
          go_wp2
          go_roundw
          case rel => exact ⟨k + 1, m + 1 + 1, c', bo', true, by omega, by omega, rfl, rfl, hG', by go_num, hown', hbN⟩
          case measure => simp [intOf]; omega
        · have hgb : decide (b.a < x) = false := decide_eq_false hgt
          have hG' : Hid (gtB (l.take (k + 1)) b = false) := by show _ = _; rw [htk, gtB_snoc, hG.out]; simpa using hgt
          have HE : Hid (bvals (outB (l.take k) b) ++ [.int .i64 x, .int .i64 y, .int .i64 u] = bvals (outB (l.take (k + 1)) b)) := by
            show _ = _
            have h2 : outB (l.take (k + 1)) b = l.take (k + 1) := by unfold outB; rw [if_neg (by rw [hG'.out]; simp)]
            rw [ho1, h2, htk, bvals_append]; rfl
          clear hG htk ho1 hgt hX
          go_wp2
          go_quiet (fail)
          have hbq := below_drawn (w := wr) nq
          have own1 := owns_below hown hbq (Nat.le_refl _)
          have hb1 := hb.trans (hbq.mono (by omega))
          replace c1 := keep c1 hbq
          replace c2 := keep c2 hbq
          replace c3 := keep c3 hbq
          obtain ⟨W1, hW1⟩ : ∃ W1, wr.drewN nq = W1 := ⟨_, rfl⟩
          rw [hW1] at own1 hb1 c1 c2 c3 ⊢
          clear hW1 hbq hown hb b0 b1 b2
          go_wp2_with (at_builtin; refine wpList_append_own _ rfl (.tmp 30) (.tmp 35) 26 rfl (w.heap.size + 1) 63 i0 (.agg #[.int .i64 0, .int .i64 0, .int .i64 0]) 3 24 Try.underlying26 hi hz0 hz1 hz2 rfl (by decide) _ _ _ rfl (own1.alloc _) ⟨W1.heap.size, 0, none⟩ 1 1 [.int .i64 x, .int .i64 y, .int .i64 u] rfl rfl ?c1 ?c2 (by unfold maxLen; omega) ?c4 ?c5 ?_)
          case c1 => exact cell_three_new _ _ _ _ _
          case c2 => exact ints_oneCell .i64 [_, _, _]
          case c4 => omega
          case c5 => have := hb1.size; simp; omega
          intro v' w3 hown' hgrow _
          have hbN : Below (w.heap.size + 1) W0 w3 := (hb1.alloc (by have := hb1.size; omega) _).grown hgrow (by have := hb1.size; simp; omega) (fun g hg => (own1.lt g hg).1)
          obtain ⟨bo', c', rfl⟩ := owns_shape hown'
          rw [HE.out] at hown'
          clear own1 hgrow hb1 c1 c2 c3
          go_wp2
          go_roundw
          case rel => exact ⟨k + 1, m + 1, c', bo', false, by omega, by omega, rfl, rfl, hG', by go_num, hown', hbN⟩
          case measure => simp [intOf]; omega
    · obtain rfl : k = n := by omega
      have htk : l.take k = l := List.take_of_length_le (by omega)
      rw [htk] at hown hG
      have hsz := hb.size
      cases dn with
      | true =>
        have h1 : outB l b = addB l b := by unfold outB; rw [if_pos hG.out]
        rw [h1] at hown
        have hmn : m = k + 1 := by
          have h3 := bowns_len hown
          rw [addB_len] at h3
          omega
        subst hmn
        clear hG h1 htk
        go_wp2
        go_ret
        exact ⟨bo, c, rfl, owns_weaken hown (Nat.le_succ _), hb0.trans (hb.mono (Nat.le_succ _))⟩
      | false =>
        have h1 : outB l b = l := by unfold outB; rw [if_neg (by rw [hG.out]; simp)]
        have HE : Hid (bvals (outB l b) ++ [.int .i64 b.a, .int .i64 b.o, .int .i64 b.t] = bvals (addB l b)) := by
          show _ = _
          rw [h1, addB_none hG.out, bvals_append]; rfl
        have hmn : m = k := by
          have h3 := bowns_len hown
          rw [h1] at h3
          omega
        subst hmn
        clear hG h1 htk
        go_wp2_with (at_builtin; refine wpList_append_own _ rfl (.tmp 39) (.tmp 41) 26 rfl (w.heap.size + 1) 63 i0 (.agg #[.int .i64 0, .int .i64 0, .int .i64 0]) 3 24 Try.underlying26 hi hz0 hz1 hz2 rfl (by decide) _ _ _ rfl (hown.alloc _) ⟨wr.heap.size, 0, none⟩ 1 1 [.int .i64 b.a, .int .i64 b.o, .int .i64 b.t] rfl rfl ?c1 ?c2 (by unfold maxLen; omega) ?c4 ?c5 ?_)
        case c1 => exact cell_three_new _ _ _ _ _
        case c2 => exact ints_oneCell .i64 [_, _, _]
        case c4 => omega
        case c5 => have := hb.size; simp; omega
        intro v' w3 hown' hgrow _
        have hbN : Below (w.heap.size + 1) W0 w3 := (hb.alloc (by have := hb.size; omega) _).grown hgrow (by have := hb.size; simp; omega) (fun g hg => (hown.lt g hg).1)
        obtain ⟨bo', c', rfl⟩ := owns_shape hown'
        rw [HE.out] at hown'
        clear hgrow
        go_wp2
        go_ret
        exact ⟨bo', c', rfl, owns_weaken hown' (Nat.le_succ _), hb0.trans (hbN.mono (Nat.le_succ _))⟩

end Go.Proofs.Ytbjlbmofdnkmiaa
