/-
  OWN TEXT. Contracts of the document's answer: ZoneMay.
-/
import Derived.Test.YtamkgakhgfhmjaeRefZa
namespace Go.Proofs.Ytamkgakhgfhmjae
open Go Go.RowKit Go.Proofs.Ytamkgakhgfhmjae.Kit

/-- The world in the midst of ZoneMay: its argument's box, and what can be read. -/
structure MyInv (w : World) (fo : Option Addr) (fn fc : Nat) (to_ : Option Addr) (tn tc : Nat) (z : Zn) (W : World) : Prop where
  b : Below w.heap.size w W
  box : ZBox W w.heap.size (.int .i64 z.f) (.int .i64 z.t) (.slice fo fn fc) (.slice to_ tn tc)
  zn : ZnAt W fo fn to_ tn z

theorem MyInv.step {w : World} {fo : Option Addr} {fn fc : Nat} {to_ : Option Addr} {tn tc : Nat} {z : Zn} {W W' : World} (h : MyInv w fo fn fc to_ tn tc z W) (hb : Below W.heap.size W W') : MyInv w fo fn fc to_ tn tc z W' :=
  ⟨h.b.trans (hb.mono h.b.size), h.box.below hb, h.zn.below hb⟩

theorem myInv_first (w : World) (fo : Option Addr) (fn fc : Nat) (to_ : Option Addr) (tn tc : Nat) (z : Zn) (h : ZnAt w fo fn to_ tn z) : MyInv w fo fn fc to_ tn tc z (w.alloc (.cells #[.int .i64 z.f, .int .i64 z.t, .slice fo fn fc, .slice to_ tn tc] 25)) :=
  ⟨below_box _ _, zbox_new _ _ _ _ _ _, h.below (below_box _ _)⟩

set_option maxHeartbeats 4000000 in
set_option maxRecDepth 10000 in
theorem zoneMay_any (w : World) (fo : Option Addr) (fn fc : Nat) (to_ : Option Addr) (tn tc : Nat) (z : Zn) (h : ZnAt w fo fn to_ tn z) :
    Calls Try.prog 18 #[.agg #[.int .i64 z.f, .int .i64 z.t, .slice fo fn fc, .slice to_ tn tc]] w fun e w' => RetIff e (ZMay z) ∧ Below w.heap.size w w' := by
  have I0 := myInv_first w fo fn fc to_ tn tc z h
  clear h
  by_cases hn : newOk z.f z.t
  · go_enter Try.func18, Try.ntmps18
    go_wp2_with fail
    go_at_call 38
    refine (zoneNew_ok _ z.f z.t hn).mono ?_
    rintro e w1 ⟨⟨ao, an, ac, bo, bn, bc, rfl, _, _, _⟩, hb1⟩
    have I1 := (I0.step hb1).step (below_box w1 (.cells #[.int .i64 (newZ z.f z.t).f, .int .i64 (newZ z.f z.t).t, .slice ao an ac, .slice bo bn bc] 25))
    clear I0 hb1
    have hbox := I1.box
    have c0 := hbox.c0
    have c1 := hbox.c1
    have c2 := hbox.c2
    have c3 := hbox.c3
    have htl := I1.zn.types.len
    have htr := I1.zn.types.reach
    obtain ⟨h1, h2, h3, h4, h5⟩ := id hn
    by_cases hlen : 8 * (tn : Int) = z.t - z.f
    · go_wp2
      clear hbox c0 c1 c2 c3
      obtain ⟨W2, hW2⟩ : ∃ W2, w1.alloc (.cells #[.int .i64 (newZ z.f z.t).f, .int .i64 (newZ z.f z.t).t, .slice ao an ac, .slice bo bn bc] 25) = W2 := ⟨_, rfl⟩
      rw [hW2] at I1 ⊢
      clear hW2
      go_loopw [5] (fun iv wr => ∃ k : Nat, k ≤ tn ∧ iv = .int .i64 k ∧ Hid (∀ i, i < k → typeOk (z.types.getD i 0)) ∧ MyInv w fo fn fc to_ tn tc z wr) (fun iv _ => tn - (intOf iv).toNat)
      case atStart => exact ⟨0, Nat.zero_le _, rfl, (fun i hi => absurd hi (Nat.not_lt_zero i)), I1⟩
      case round =>
        obtain ⟨k, hk, rfl, hT, I⟩ := hrel
        clear I1
        have c3 := I.box.c3
        by_cases hlt : k < tn
        · obtain ⟨b, o, x, rfl, cx, hX⟩ := I.zn.types.at_.at k (by omega)
          by_cases hx : 0 ≤ x ∧ x ≤ 2
          · have e1 : inB x 0 2 = true := inB_t hx
            have hT' : Hid (∀ i, i < k + 1 → typeOk (z.types.getD i 0)) := fun i hi => by
              by_cases e : i = k
              · rw [e, hX.out]; exact hx
              · exact hT.out i (by omega)
            clear hT hx
            go_wp2_with (go_at_call 22; refine (in_any _ _ _ _).mono ?_; rintro e w' ⟨rfl, rfl⟩)
            go_roundw
            case rel => exact ⟨k + 1, by omega, by go_num, hT', I⟩
            case measure => simp [intOf]; omega
          · have e1 : inB x 0 2 = false := inB_f hx
            have HF : Hid (¬ ZMay z) := fun g => hx (by have := g.ty k (by omega); rw [hX.out] at this; exact this)
            have hbb := I.b
            clear hT hx I
            go_wp2_with (go_at_call 22; refine (in_any _ _ _ _).mono ?_; rintro e w' ⟨rfl, rfl⟩)
            go_ret
            exact ⟨⟨false, rfl, fun g => (by cases g), fun g => absurd g HF.out⟩, hbb⟩
        · have hty : Hid (∀ i, i < z.types.length → typeOk (z.types.getD i 0)) := fun i hi => hT.out i (by omega)
          have c0 := I.box.c0
          have c2 := I.box.c2
          clear hT
          go_wp2
          clear c0 c2 c3
          go_loopw [6, 7] (fun lv iv wr2 => ∃ (k : Nat) (q : Int), k ≤ fn ∧ iv = .int .i64 k ∧ lv = .int .i64 q ∧ Hid (lowOf z.f (z.free.take k) = q) ∧ Hid (FreeOk z.f z.t z.f none (z.free.take k)) ∧ MyInv w fo fn fc to_ tn tc z wr2) (fun _ iv _ => fn - (intOf iv).toNat)
          case atStart => exact ⟨0, z.f, Nat.zero_le _, rfl, rfl, rfl, trivial, I⟩
          case round =>
            obtain ⟨k2, q, hk2, rfl, rfl, hq, hF, I2⟩ := hrel
            clear I
            have hfl := I2.zn.free.len
            have hfr := I2.zn.free.reach
            have c2 := I2.box.c2
            by_cases hlt2 : k2 < fn
            · obtain ⟨bb, bf, x, y, u, rfl, x0, x1, x2, hX⟩ := I2.zn.free.at_.at k2 (by omega)
              have htk := take_getD z.free k2 (by omega) hX.out
              have hbx := below_box wr (.cells #[.int .i64 x, .int .i64 y, .int .i64 u] 39)
              have I3 := I2.step hbx
              have y0 : (wr.alloc (.cells #[.int .i64 x, .int .i64 y, .int .i64 u] 39)).cell? ⟨wr.heap.size, 0, none⟩ = some (.int .i64 x) := by go_simp
              have y1 : (wr.alloc (.cells #[.int .i64 x, .int .i64 y, .int .i64 u] 39)).cell? ⟨wr.heap.size, 1, none⟩ = some (.int .i64 y) := by go_simp
              have y2 : (wr.alloc (.cells #[.int .i64 x, .int .i64 y, .int .i64 u] 39)).cell? ⟨wr.heap.size, 2, none⟩ = some (.int .i64 u) := by go_simp
              have b0 := I3.box.c0
              have b1 := I3.box.c1
              have b2 := I3.box.c2
              have b3 := I3.box.c3
              go_wp2_with fail
              go_at_call 28
              refine (blockMay_any _ z.f z.t _ to_ fn fc tn tc x y hn).mono ?_
              rintro e w4 ⟨rfl, hb4⟩
              have I4 := I3.step hb4
              replace y0 := keep y0 hb4
              replace y1 := keep y1 hb4
              replace y2 := keep y2 hb4
              clear I2 I3 hbx b0 b1 b2 b3 c2 x0 x1 x2 hb4
              have hbb := I4.b
              by_cases hB : blkIn z.f z.t x y
              · have hB2 := (blkB_iff z.f z.t x y).2 hB
                rw [hB2]
                clear hB2
                by_cases hU : 0 ≤ u ∧ u ≤ 2
                · have e1 : inB u 0 2 = true := inB_t hU
                  by_cases hlow : x < q
                  · have HF : Hid (¬ ZMay z) := fun g => by have := (freeOk_at g.free (by omega) hX.out).2.2.1; rw [hq.out] at this; dsimp only at this; omega
                    clear hF hq hX htk hty
                    go_wp2_with (go_at_call 22; refine (in_any _ _ _ _).mono ?_; rintro e w' ⟨rfl, rfl⟩)
                    go_ret
                    exact ⟨⟨false, rfl, fun g => (by cases g), fun g => absurd g HF.out⟩, hbb⟩
                  · obtain ⟨o1, o2, o3, o4⟩ := id hB
                    obtain ⟨o5, o6⟩ := id o1
                    have hp1 := pw_pos y
                    have hp2 := pw_le o1
                    have hq' : Hid (lowOf z.f (z.free.take (k2 + 1)) = x + pw y) := by show _ = _; rw [htk, lowOf_snoc]
                    have hFk : (∀ p, lastOf none (z.free.take k2) = some p → ¬ besideP p ⟨x, y, u⟩) → Hid (FreeOk z.f z.t z.f none (z.free.take (k2 + 1))) := fun g => by
                      show FreeOk _ _ _ _ _
                      rw [htk, freeOk_snoc]
                      exact ⟨hF.out, hB, hU, by rw [hq.out]; dsimp only; omega, g⟩
                    have HFk : Hid _ := hFk
                    clear hFk
                    have c2 := I4.box.c2
                    go_wp2_with (go_at_call 22; refine (in_any _ _ _ _).mono ?_; rintro e w' ⟨rfl, rfl⟩)
                    go_quiet ((go_at_call 30; exact Calls.quiet_of_same (power_q y o5 (by omega) _)))
                    have hbq := below_drawn (w := w4) nq
                    have IE := I4.step hbq
                    replace y0 := keep y0 hbq
                    replace y1 := keep y1 hbq
                    replace y2 := keep y2 hbq
                    obtain ⟨W5, hW5⟩ : ∃ W5, w4.drewN nq = W5 := ⟨_, rfl⟩
                    rw [hW5] at IE y0 y1 y2 ⊢
                    clear hW5 hbq I4 c2 hbb
                    have c2 := IE.box.c2
                    have hbb := IE.b
                    by_cases hk0 : k2 = 0
                    · subst hk0
                      have hF' := HFk.out (fun p hp => by cases hp)
                      clear HFk hF hq htk
                      go_wp2
                      go_quiet (fail)
                      go_wp2
                      go_roundw
                      case rel => exact ⟨0 + 1, x + pw y, by omega, by go_num, by go_num, hq', hF', IE.step (below_drawn _)⟩
                      case measure => simp [intOf]; omega
                    · obtain ⟨j, rfl⟩ : ∃ j, k2 = j + 1 := ⟨k2 - 1, by omega⟩
                      obtain ⟨bb', bf', x', y', u', he, p0, p1, p2, hX'⟩ := IE.zn.free.at_.at j (by omega)
                      cases he
                      have hpv := freeOk_at hF.out (k := j) (by simp; omega) (b := ⟨x', y', u'⟩) (by
                        have := hX'.out
                        rw [List.getD_eq_getElem?_getD, List.getElem?_take, if_pos (by omega), ← List.getD_eq_getElem?_getD]
                        exact this)
                      obtain ⟨⟨v1, v2, v3, v4⟩, _, _, _⟩ := hpv
                      dsimp only at v1 v2 v3 v4
                      have hlast : lastOf none (z.free.take (j + 1)) = some ⟨x', y', u'⟩ := by rw [take_getD z.free j (by omega) hX'.out, lastOf_snoc]
                      obtain ⟨P, HP'⟩ : ∃ P, pw y = P := ⟨_, rfl⟩
                      have HP : Hid (pw y = P) := HP'
                      rw [HP'] at hp1 hp2
                      have hjj : ((j + 1 : Nat) : Int) = (j : Int) + 1 := by simp
                      have hj1 : (j : Int) < fn := by omega
                      have hj2 : j < fn := by omega
                      have t0 : decide ((0 : Int) < (j : Int) + 1) = true := decide_eq_true (by omega)
                      have hno : ¬ besideP ⟨x', y', u'⟩ ⟨x, y, u⟩ → Hid (FreeOk z.f z.t z.f none (z.free.take (j + 1 + 1))) := fun g => HFk.out (fun p hp => by rw [hlast] at hp; cases hp; exact g)
                      have Hno : Hid _ := hno
                      clear hno
                      by_cases q1 : y < 4
                      · obtain ⟨X, rfl⟩ : ∃ X : Nat, x' = X := ⟨x'.toNat, by omega⟩
                        obtain ⟨P2, HP2', hP2p, hP2q⟩ : ∃ P2 : Nat, pw (y + 1) = P2 ∧ 0 < P2 ∧ P2 ≤ 16 := ⟨(pw (y + 1)).toNat, by have := pw_pos (y + 1); omega, by have := pw_pos (y + 1); omega, by have := pw_le (o := y + 1) ⟨by omega, by omega⟩; omega⟩
                        obtain ⟨Y1, hY1⟩ : ∃ Y1, y + 1 = Y1 := ⟨_, rfl⟩
                        have HP2 : Hid (pw Y1 = P2) := by rw [← hY1]; exact HP2'
                        have HY1 : Hid (y + 1 = Y1) := hY1
                        have hP20 : ((P2 : Int) == 0) = false := by simp; omega
                        clear HP2' HP'
                        by_cases q2 : y = y'
                        · subst q2
                          by_cases q3 : (X : Int) + P = x
                          · have q3' : ((X : Int) + P == x) = true := by simpa using q3
                            by_cases q4 : (X : Int) % (P2 : Int) = 0
                            · have q4' : ((X : Int) % (P2 : Int) == 0) = true := by simpa using q4
                              have HF : Hid (¬ ZMay z) := fun g => (freeOk_at g.free (by omega) hX.out).2.2.2 _ hlast ⟨q1, rfl, by dsimp only; rw [HP.out]; exact q3, by dsimp only; rw [HY1.out, HP2.out]; exact q4⟩
                              clear Hno HFk hF hq htk hlast hX hX' hty q3 q4
                              go_wp2
                              go_quiet (first | (go_at_call_of 30 Y1; exact Calls.quiet_of_same (power_v Y1 P2 (by omega) (by omega) HP2.out _)) | (go_at_call_of 30 y; exact Calls.quiet_of_same (power_v y P o5 (by omega) HP.out _)))
                              go_wp2
                              go_ret
                              exact ⟨⟨false, rfl, fun g => (by cases g), fun g => absurd g HF.out⟩, below_drewN hbb _⟩
                            · have q4' : ((X : Int) % (P2 : Int) == 0) = false := by simpa using q4
                              have hF' := Hno.out (fun g => q4 (by have := g.2.2.2; dsimp only at this; rw [HY1.out, HP2.out] at this; exact this))
                              clear Hno HFk hF hq htk hlast hX hX' hty q3 q4
                              go_wp2
                              go_quiet (first | (go_at_call_of 30 Y1; exact Calls.quiet_of_same (power_v Y1 P2 (by omega) (by omega) HP2.out _)) | (go_at_call_of 30 y; exact Calls.quiet_of_same (power_v y P o5 (by omega) HP.out _)))
                              go_wp2
                              go_roundw
                              case rel => exact ⟨(j + 1) + 1, x + pw y, by omega, by go_num, by go_num, hq', hF', IE.step (below_drawn _)⟩
                              case measure => simp [intOf]; omega
                          · have q3' : ((X : Int) + P == x) = false := by simpa using q3
                            have hF' := Hno.out (fun g => q3 (by have := g.2.2.1; dsimp only at this; rw [HP.out] at this; exact this))
                            clear Hno HFk hF hq htk hlast hX hX' hty q3
                            go_wp2
                            go_quiet (first | (go_at_call_of 30 Y1; exact Calls.quiet_of_same (power_v Y1 P2 (by omega) (by omega) HP2.out _)) | (go_at_call_of 30 y; exact Calls.quiet_of_same (power_v y P o5 (by omega) HP.out _)))
                            go_wp2
                            go_roundw
                            case rel => exact ⟨(j + 1) + 1, x + pw y, by omega, by go_num, by go_num, hq', hF', IE.step (below_drawn _)⟩
                            case measure => simp [intOf]; omega
                        · have q2' : (y' == y) = false := by simp; exact fun g => q2 g.symm
                          have hF' := Hno.out (fun g => q2 g.2.1.symm)
                          clear Hno HFk hF hq htk hlast hX hX' hty q2
                          go_wp2
                          go_quiet (first | (go_at_call_of 30 Y1; exact Calls.quiet_of_same (power_v Y1 P2 (by omega) (by omega) HP2.out _)) | (go_at_call_of 30 y; exact Calls.quiet_of_same (power_v y P o5 (by omega) HP.out _)))
                          go_wp2
                          go_roundw
                          case rel => exact ⟨(j + 1) + 1, x + pw y, by omega, by go_num, by go_num, hq', hF', IE.step (below_drawn _)⟩
                          case measure => simp [intOf]; omega
                      · have hF' := Hno.out (fun g => q1 g.1)
                        have q1' : decide (y < 4) = false := decide_eq_false q1
                        clear Hno HFk hF hq htk hlast hX hX' hty
                        go_wp2
                        go_quiet (fail)
                        go_wp2
                        go_roundw
                        case rel => exact ⟨(j + 1) + 1, x + pw y, by omega, by go_num, by go_num, hq', hF', IE.step (below_drawn _)⟩
                        case measure => simp [intOf]; omega
                · have e1 : inB u 0 2 = false := inB_f hU
                  have HF : Hid (¬ ZMay z) := fun g => hU (freeOk_at g.free (by omega) hX.out).2.1
                  clear hF hq hX htk hty
                  go_wp2_with (go_at_call 22; refine (in_any _ _ _ _).mono ?_; rintro e w' ⟨rfl, rfl⟩)
                  go_ret
                  exact ⟨⟨false, rfl, fun g => (by cases g), fun g => absurd g HF.out⟩, hbb⟩
              · have hB2 : blkB z.f z.t x y = false := by
                  cases hb : blkB z.f z.t x y with
                  | false => rfl
                  | true => exact absurd ((blkB_iff z.f z.t x y).1 hb) hB
                rw [hB2]
                have HF : Hid (¬ ZMay z) := fun g => hB (freeOk_at g.free (by omega) hX.out).1
                clear hF hq hX htk hty
                go_wp2
                go_ret
                exact ⟨⟨false, rfl, fun g => (by cases g), fun g => absurd g HF.out⟩, hbb⟩
            · have HM : Hid (ZMay z) := ⟨hn, by rw [htl]; exact hlen, hty.out, by have := hF.out; rw [List.take_of_length_le (by omega)] at this; exact this⟩
              have hbb := I2.b
              clear hF hq hty
              go_wp2
              go_ret
              exact ⟨⟨true, rfl, fun _ => HM.out, fun _ => rfl⟩, hbb⟩
    · have HF : Hid (¬ ZMay z) := fun g => hlen (by have := g.len; rw [htl] at this; exact this)
      go_wp2
      go_ret
      exact ⟨⟨false, rfl, fun g => (by cases g), fun g => absurd g HF.out⟩, I1.b⟩
  · go_enter Try.func18, Try.ntmps18
    go_wp2_with fail
    go_at_call 38
    refine (zoneNew_no _ z.f z.t hn).mono ?_
    rintro e w1 ⟨rfl, hb1⟩
    have I1 := I0.step hb1
    have HF : Hid (¬ ZMay z) := fun g => hn g.new
    have hbx := I1.b.trans ((below_box w1 (.cells #[.int .i64 0, .int .i64 0, .slice none 0 0, .slice none 0 0] 25)).mono I1.b.size)
    clear I0 I1 hb1 hn
    go_wp2
    go_ret
    exact ⟨⟨false, rfl, fun g => (by cases g), fun g => absurd g HF.out⟩, hbx⟩

end Go.Proofs.Ytamkgakhgfhmjae
