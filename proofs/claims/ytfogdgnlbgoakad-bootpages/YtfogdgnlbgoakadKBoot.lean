/-
  OWN TEXT. Contract of paddockkeep.booted: whatever came in which order, the regions may be, and each page is marked as it lies in them.
-/
import Derived.Test.YtfogdgnlbgoakadKBootI
namespace Go.Proofs.Ytfogdgnlbgoakad
open Go Go.RowKit Go.Proofs.Ytfogdgnlbgoakad.Kit

theorem five_cells (X : World) (a b c d e : Value) (t : TypeId) (B : Nat) (hB : B = X.heap.size) :
    (X.alloc (.cells #[a, b, c, d, e] t)).cell? ⟨B, 0, none⟩ = some a ∧ (X.alloc (.cells #[a, b, c, d, e] t)).cell? ⟨B, 1, none⟩ = some b ∧ (X.alloc (.cells #[a, b, c, d, e] t)).cell? ⟨B, 2, none⟩ = some c ∧ (X.alloc (.cells #[a, b, c, d, e] t)).cell? ⟨B, 3, none⟩ = some d ∧ (X.alloc (.cells #[a, b, c, d, e] t)).cell? ⟨B, 4, none⟩ = some e := by
  subst hB
  refine ⟨?_, ?_, ?_, ?_, ?_⟩ <;> go_simp

/-- What is known behind j steps. -/
def BdState (w : World) (j : Nat) (W : World) : Prop :=
  ∃ mo mn mc M ro rn rc R cur, BdInv w mo mn mc M ro rn rc R cur W ∧ MayP M ∧ MayP R ∧ CurOk cur M R ∧ M.length ≤ j ∧ R.length ≤ j

theorem cur_zero : CurOk zc512 [] [] := by
  refine ⟨by simp [zc512], fun p hp => ?_, fun p hp => ?_⟩
  · have h : p < 512 := by omega
    simp [zc512, h, inL]
  · have h : 256 + p < 512 := by omega
    simp [zc512, h, inL]

theorem bd_first (w : World) : BdState w 0 ((((w.alloc (.cells #[.slice none 0 0, .slice none 0 0] 25)).alloc (.cells zc512 27)).alloc (.cells #[.slice none 0 0, .slice none 0 0] 25)).alloc (.cells zc512 27)) := by
  have hbb : Below w.heap.size w ((((w.alloc (.cells #[.slice none 0 0, .slice none 0 0] 25)).alloc (.cells zc512 27)).alloc (.cells #[.slice none 0 0, .slice none 0 0] 25)).alloc (.cells zc512 27)) :=
    ((((Below.refl _ _).alloc (Nat.le_refl _) _).alloc (by simp) _).alloc (by simp; omega) _).alloc (by simp; omega) _
  have nilR : ∀ W, Regs W none 0 [] := fun W => ⟨rfl, by omega, RegsAt.nil _ _⟩
  refine ⟨none, 0, 0, [], none, 0, 0, [], zc512, ⟨by simp, hbb, ⟨⟨_, by go_simp; rfl⟩, ⟨_, by go_simp; rfl⟩, by go_simp, by go_simp⟩, ?_, by go_simp, by go_simp, ⟨⟨_, by go_simp; rfl⟩, ⟨_, by go_simp; rfl⟩, by go_simp, by go_simp⟩, ?_, nilR _, nilR _, fun a ha => (by cases ha), fun a ha => (by cases ha)⟩, may_nil, may_nil, cur_zero, Nat.le_refl _, Nat.le_refl _⟩
  · rw [Below.heap_alloc _ _ _ (by simp), Below.heap_alloc _ _ _ (by simp)]
    have := heap_alloc_new (w.alloc (.cells #[.slice none 0 0, .slice none 0 0] 25)) (.cells zc512 27)
    simpa using this
  · have := heap_alloc_new (((w.alloc (.cells #[.slice none 0 0, .slice none 0 0] 25)).alloc (.cells zc512 27)).alloc (.cells #[.slice none 0 0, .slice none 0 0] 25)) (.cells zc512 27)
    simpa using this

set_option maxHeartbeats 16000000 in
set_option maxRecDepth 10000 in
theorem booted_any (w : World) (ao : Option Addr) (n cap : Nat) (l : List Raw4) (h : IsRaws w ao n cap l) (most : Nat) (hmost : most ≤ 30) :
    Calls Try.prog 6 #[.slice ao n cap, .int .i64 most] w fun e w' => ∃ mo mn mc M ro rn rc R cur, e = .returned (.tuple #[.agg #[.slice mo mn mc, .slice ro rn rc], .agg cur, .bool true]) ∧ Regs w' mo mn M ∧ Regs w' ro rn R ∧ MayP M ∧ MayP R ∧ CurOk cur M R ∧ M.length ≤ most ∧ R.length ≤ most ∧ Below w.heap.size w w' := by
  have hz := zero_b2
  have S0 := bd_first w
  obtain ⟨hn, hle, hreach, hx, hwf⟩ := h
  obtain ⟨W0, hW0⟩ : ∃ W0, (((w.alloc (.cells #[.slice none 0 0, .slice none 0 0] 25)).alloc (.cells zc512 27)).alloc (.cells #[.slice none 0 0, .slice none 0 0] 25)).alloc (.cells zc512 27) = W0 := ⟨_, rfl⟩
  rw [hW0] at S0
  go_enter Try.func6, Try.ntmps6
  go_wp2
  clear hW0 hz
  go_loopw [9] (fun iv wr => ∃ j : Nat, j ≤ n ∧ j ≤ most ∧ iv = .int .i64 j ∧ BdState w j wr) (fun iv _ => n - (intOf iv).toNat)
  case atStart => exact ⟨0, Nat.zero_le _, Nat.zero_le _, rfl, S0⟩
  case round =>
    obtain ⟨j, hj1, hj2, rfl, S⟩ := hrel
    clear S0
    obtain ⟨mo, mn, mc, M, ro, rn, rc, R, cur, I, hMM, hRR, hcur, hlM, hlR⟩ := S
    by_cases hlt : j < n
    · by_cases hlt2 : (j : Int) < most
      · obtain ⟨b, o, rfl, K0, K1, K2, K3⟩ := hx j (by omega)
        have hfit := hwf j hlt
        obtain ⟨rk, hrk⟩ : ∃ x, x = l.getD j .zero := ⟨_, rfl⟩
        rw [← hrk] at K0 K1 K2 K3 hfit
        clear hrk
        obtain ⟨k, a, b4, c⟩ := rk
        dsimp only at K0 K1 K2 K3
        have q0 := keep K0 I.b
        have q1 := keep K1 I.b
        have q2 := keep K2 I.b
        have q3 := keep K3 I.b
        clear K1 K2 K3
        obtain ⟨wk, wa, wb, wc⟩ := hfit
        dsimp only at wk wa wb wc
        go_wp2_with fail
        go_at_call 18
        refine (rawRegion_any _ k a b4 c wa wb).mono ?_
        rintro e w1 ⟨f, s, rfl, hs1, hs2, hfs, hb1⟩
        have I1 := I.step hb1
        have t0 := keep q0 hb1
        have hreg : regOk ((f : Int), (s : Int)) := by
          show 0 ≤ (f : Int) ∧ (f : Int) ≤ 255 ∧ 1 ≤ (s : Int) ∧ (s : Int) ≤ 256 ∧ (f : Int) + s ≤ 256
          omega
        have hba := below_box w1 (.cells #[.int .i64 f, .int .i64 s] 35)
        have g0 : (w1.alloc (.cells #[.int .i64 f, .int .i64 s] 35)).cell? ⟨w1.heap.size, 0, none⟩ = some (.int .i64 f) := by go_simp
        have g1 : (w1.alloc (.cells #[.int .i64 f, .int .i64 s] 35)).cell? ⟨w1.heap.size, 1, none⟩ = some (.int .i64 s) := by go_simp
        have t1 := keep t0 hba
        have hbf := below_box (w1.alloc (.cells #[.int .i64 f, .int .i64 s] 35)) (.cells #[.func (.func 19) #[] #[], .func (.func 19) #[] #[], .func (.func 20) #[] #[], .func (.func 21) #[] #[], .func (.func 14) #[] #[]] 43)
        obtain ⟨W2, hW2⟩ : ∃ W2, (w1.alloc (.cells #[.int .i64 f, .int .i64 s] 35)).alloc (.cells #[.func (.func 19) #[] #[], .func (.func 19) #[] #[], .func (.func 20) #[] #[], .func (.func 21) #[] #[], .func (.func 14) #[] #[]] 43) = W2 := ⟨_, rfl⟩
        obtain ⟨n0, n1, n2, n3, n4⟩ := five_cells (w1.alloc (.cells #[.int .i64 f, .int .i64 s] 35)) (.func (.func 19) #[] #[]) (.func (.func 19) #[] #[]) (.func (.func 20) #[] #[]) (.func (.func 21) #[] #[]) (.func (.func 14) #[] #[]) 43 (w1.heap.size + 1) (by simp)
        rw [hW2] at n0 n1 n2 n3 n4
        rw [hW2] at hbf
        have I2 := (I1.step hba).step hbf
        replace g0 := keep g0 hbf
        replace g1 := keep g1 hbf
        have t2 := keep t1 hbf
        have HP := fun w' => picked_fn k 5 5 (by rfl) wk (by omega) (by omega) w'
        have hr5 := pickN_lt k 5 (by omega)
        obtain ⟨r, hr⟩ : ∃ r, pickN k 5 = r := ⟨_, rfl⟩
        rw [hr] at HP hr5
        have c0 := I2.v0
        have c1 := I2.v1
        have hbr1 := I1.size
        clear q0 q1 q2 q3 wa wb wc hb1 t0 t1 hba hbf hr wk I
        go_wp2_with fail
        go_at_call 11
        refine (HP _).mono ?_
        rintro e w' ⟨rfl, rfl⟩
        clear hW2
        rcases (show r = 0 ∨ r = 1 ∨ r = 2 ∨ r = 3 ∨ r = 4 by omega) with rfl | rfl | rfl | rfl | rfl
        · have hlen : (drawnAll (chH f s true M)).length ≤ 40 := by have := change_len hMM f s true hs1; omega
          obtain ⟨D, hD⟩ : ∃ D, drawnAll (chH f s true M) = D := ⟨_, rfl⟩
          have HD : Hid (drawnAll (chH f s true M) = D) := hD
          have hDl : Hid (D.length ≤ j + 1) := by show _ ≤ _; rw [← hD]; have := change_len hMM f s true hs1; omega
          have hDm : Hid (MayP D) := by show MayP D; rw [← hD]; exact change_may f s true hlen
          have HC := cAdd_ok _ mo mn mc M ro rn rc R f s I2.m I2.r ⟨hMM, hRR⟩ hreg hlen
          rw [hD] at HC
          clear hD hlen
          go_wp2_with fail
          go_at_call 19
          refine HC.mono ?_
          clear HC
          rintro e w4 ⟨xm, xn, xc, xr, xo, xd, rfl, xM, xR, f1, f2, hb4⟩
          have hbx := below_box w4 (.cells #[.slice xm xn xc, .slice xr xo xd] 25)
          have I4 := (I2.step hb4).step hbx
          have hsz2 := I2.size
          have J := I4.take (mc' := xc) (rc' := xd) (xM.below hbx) (xR.below hbx) (fun a ha => Nat.le_trans hsz2 (f1 a ha)) (fun a ha => Nat.le_trans hsz2 (f2 a ha))
          have e0 := keep (keep g0 hb4) hbx
          have e1 := keep (keep g1 hb4) hbx
          have y0 : (w4.alloc (.cells #[.slice xm xn xc, .slice xr xo xd] 25)).cell? ⟨w4.heap.size, 0, none⟩ = some (.slice xm xn xc) := by go_simp
          have y1 : (w4.alloc (.cells #[.slice xm xn xc, .slice xr xo xd] 25)).cell? ⟨w4.heap.size, 1, none⟩ = some (.slice xr xo xd) := by go_simp
          obtain ⟨⟨u0, d0⟩, ⟨u1, d1⟩, z0, z1⟩ := I4.vz
          have E0 := (cell_other2 (b := w.heap.size + 1 + 1) (x := .slice xm xn xc) (y := .slice xr xo xd) (show w1.heap.size ≠ w.heap.size + 1 + 1 by omega)).trans e0
          have E1 := (cell_other2 (b := w.heap.size + 1 + 1) (x := .slice xm xn xc) (y := .slice xr xo xd) (show w1.heap.size ≠ w.heap.size + 1 + 1 by omega)).trans e1
          obtain ⟨W5, hW5⟩ : ∃ W5, ((w4.alloc (.cells #[.slice xm xn xc, .slice xr xo xd] 25)).setCell ⟨w.heap.size + 1 + 1, 0, none⟩ (.slice xm xn xc)).setCell ⟨w.heap.size + 1 + 1, 1, none⟩ (.slice xr xo xd) = W5 := ⟨_, rfl⟩
          rw [hW5] at J E0 E1
          clear I1 I2 I4 hb4 hbx e0 e1 xM xR f1 f2 g0 g1 hsz2 n0 n1 n2 n3 n4 t2 c0 c1
          go_wp2
          clear hW5 y0 y1 d0 d1 z0 z1
          go_loopw [14] (fun pv wr2 => ∃ (q p : Nat) (cur' : Array Value), Hid (p = f + q) ∧ p ≤ f + s ∧ pv = .int .i64 p ∧ Hid (cur' = stK cur (f) true q) ∧ BdInv w xm xn xc D xr xo xd R cur' wr2 ∧ wr2.cell? ⟨w1.heap.size, 0, none⟩ = some (.int .i64 f) ∧ wr2.cell? ⟨w1.heap.size, 1, none⟩ = some (.int .i64 s)) (fun pv _ => f + s - (intOf pv).toNat)
          case atStart => exact ⟨0, f, cur, rfl, by omega, rfl, rfl, J, E0, E1⟩
          case round =>
            obtain ⟨q, p, cur', hp, hps, rfl, hcq, J2, F0, F1⟩ := hrel
            have hpq := hp.out
            clear J E0 E1
            by_cases hin : p < f + s
            · have hin' : (p : Int) < f + s := by omega
              have hsize : cur'.size = 512 := by rw [hcq.out, stK_size]; exact hcur.size
              have hcell : wr.cell? ⟨w.heap.size + 1 + 1 + 1, p, none⟩ = some (cur'.getD (p) (.bool false)) := by
                rw [cell_of_row _ _ _ _ _ _ J2.arr]
                have hlt5 : p < cur'.size := by omega
                simp [Array.getD, hlt5]
              have hfz : wr.frozen? ⟨w.heap.size + 1 + 1 + 1, p, none⟩ = false := frozen_of_row _ _ _ _ _ J2.arr
              have J3 := J2.mark (p) (.bool true)
              have G0 := (World.cell?_setCell_other wr ⟨w.heap.size + 1 + 1 + 1, p, none⟩ ⟨w1.heap.size, 0, none⟩ (.bool true) (by intro e; have h9 := congrArg Addr.block e; dsimp only at h9; omega)).trans F0
              have G1 := (World.cell?_setCell_other wr ⟨w.heap.size + 1 + 1 + 1, p, none⟩ ⟨w1.heap.size, 1, none⟩ (.bool true) (by intro e; have h9 := congrArg Addr.block e; dsimp only at h9; omega)).trans F1
              have HC' : Hid (cur'.setIfInBounds (p) (.bool true) = stK cur (f) true (q + 1)) := by
                show _ = (stK cur (f) true q).setIfInBounds (f + q) (.bool true)
                rw [← hcq.out, show f + q = p by omega]
              have hp' : Hid (p + 1 = f + (q + 1)) := by show _ = _; omega
              have t9 := keep K0 J2.b
              clear J2 hpq hp hcq hsize
              go_wp2_with fail
              go_at_call 11
              refine (HP _).mono ?_
              rintro e w' ⟨rfl, rfl⟩
              go_wp2
              go_roundw
              case rel => exact ⟨q + 1, p + 1, _, hp', by omega, by go_num, HC', J3, G0, G1⟩
              case measure => simp [intOf]; omega
            · have hin' : ¬ (p : Int) < f + s := by omega
              have hqs : q = s := by omega
              have S' : BdState w (j + 1) wr := ⟨_, _, _, _, _, _, _, _, _, J2, hDm.out, hRR, by rw [hcq.out, hqs, ← HD.out]; exact cur_m hcur f s true hs1 hfs, hDl.out, by omega⟩
              clear J2 hpq hp hcq hqs
              go_wp2
              go_roundw
              case rel => exact ⟨j + 1, by omega, by omega, by go_num, S'⟩
              case measure => simp [intOf]; omega
        · have hlen : (drawnAll (chH f s true M)).length ≤ 40 := by have := change_len hMM f s true hs1; omega
          obtain ⟨D, hD⟩ : ∃ D, drawnAll (chH f s true M) = D := ⟨_, rfl⟩
          have HD : Hid (drawnAll (chH f s true M) = D) := hD
          have hDl : Hid (D.length ≤ j + 1) := by show _ ≤ _; rw [← hD]; have := change_len hMM f s true hs1; omega
          have hDm : Hid (MayP D) := by show MayP D; rw [← hD]; exact change_may f s true hlen
          have HC := cAdd_ok _ mo mn mc M ro rn rc R f s I2.m I2.r ⟨hMM, hRR⟩ hreg hlen
          rw [hD] at HC
          clear hD hlen
          go_wp2_with fail
          go_at_call 19
          refine HC.mono ?_
          clear HC
          rintro e w4 ⟨xm, xn, xc, xr, xo, xd, rfl, xM, xR, f1, f2, hb4⟩
          have hbx := below_box w4 (.cells #[.slice xm xn xc, .slice xr xo xd] 25)
          have I4 := (I2.step hb4).step hbx
          have hsz2 := I2.size
          have J := I4.take (mc' := xc) (rc' := xd) (xM.below hbx) (xR.below hbx) (fun a ha => Nat.le_trans hsz2 (f1 a ha)) (fun a ha => Nat.le_trans hsz2 (f2 a ha))
          have e0 := keep (keep g0 hb4) hbx
          have e1 := keep (keep g1 hb4) hbx
          have y0 : (w4.alloc (.cells #[.slice xm xn xc, .slice xr xo xd] 25)).cell? ⟨w4.heap.size, 0, none⟩ = some (.slice xm xn xc) := by go_simp
          have y1 : (w4.alloc (.cells #[.slice xm xn xc, .slice xr xo xd] 25)).cell? ⟨w4.heap.size, 1, none⟩ = some (.slice xr xo xd) := by go_simp
          obtain ⟨⟨u0, d0⟩, ⟨u1, d1⟩, z0, z1⟩ := I4.vz
          have E0 := (cell_other2 (b := w.heap.size + 1 + 1) (x := .slice xm xn xc) (y := .slice xr xo xd) (show w1.heap.size ≠ w.heap.size + 1 + 1 by omega)).trans e0
          have E1 := (cell_other2 (b := w.heap.size + 1 + 1) (x := .slice xm xn xc) (y := .slice xr xo xd) (show w1.heap.size ≠ w.heap.size + 1 + 1 by omega)).trans e1
          obtain ⟨W5, hW5⟩ : ∃ W5, ((w4.alloc (.cells #[.slice xm xn xc, .slice xr xo xd] 25)).setCell ⟨w.heap.size + 1 + 1, 0, none⟩ (.slice xm xn xc)).setCell ⟨w.heap.size + 1 + 1, 1, none⟩ (.slice xr xo xd) = W5 := ⟨_, rfl⟩
          rw [hW5] at J E0 E1
          clear I1 I2 I4 hb4 hbx e0 e1 xM xR f1 f2 g0 g1 hsz2 n0 n1 n2 n3 n4 t2 c0 c1
          go_wp2
          clear hW5 y0 y1 d0 d1 z0 z1
          go_loopw [14] (fun pv wr2 => ∃ (q p : Nat) (cur' : Array Value), Hid (p = f + q) ∧ p ≤ f + s ∧ pv = .int .i64 p ∧ Hid (cur' = stK cur (f) true q) ∧ BdInv w xm xn xc D xr xo xd R cur' wr2 ∧ wr2.cell? ⟨w1.heap.size, 0, none⟩ = some (.int .i64 f) ∧ wr2.cell? ⟨w1.heap.size, 1, none⟩ = some (.int .i64 s)) (fun pv _ => f + s - (intOf pv).toNat)
          case atStart => exact ⟨0, f, cur, rfl, by omega, rfl, rfl, J, E0, E1⟩
          case round =>
            obtain ⟨q, p, cur', hp, hps, rfl, hcq, J2, F0, F1⟩ := hrel
            have hpq := hp.out
            clear J E0 E1
            by_cases hin : p < f + s
            · have hin' : (p : Int) < f + s := by omega
              have hsize : cur'.size = 512 := by rw [hcq.out, stK_size]; exact hcur.size
              have hcell : wr.cell? ⟨w.heap.size + 1 + 1 + 1, p, none⟩ = some (cur'.getD (p) (.bool false)) := by
                rw [cell_of_row _ _ _ _ _ _ J2.arr]
                have hlt5 : p < cur'.size := by omega
                simp [Array.getD, hlt5]
              have hfz : wr.frozen? ⟨w.heap.size + 1 + 1 + 1, p, none⟩ = false := frozen_of_row _ _ _ _ _ J2.arr
              have J3 := J2.mark (p) (.bool true)
              have G0 := (World.cell?_setCell_other wr ⟨w.heap.size + 1 + 1 + 1, p, none⟩ ⟨w1.heap.size, 0, none⟩ (.bool true) (by intro e; have h9 := congrArg Addr.block e; dsimp only at h9; omega)).trans F0
              have G1 := (World.cell?_setCell_other wr ⟨w.heap.size + 1 + 1 + 1, p, none⟩ ⟨w1.heap.size, 1, none⟩ (.bool true) (by intro e; have h9 := congrArg Addr.block e; dsimp only at h9; omega)).trans F1
              have HC' : Hid (cur'.setIfInBounds (p) (.bool true) = stK cur (f) true (q + 1)) := by
                show _ = (stK cur (f) true q).setIfInBounds (f + q) (.bool true)
                rw [← hcq.out, show f + q = p by omega]
              have hp' : Hid (p + 1 = f + (q + 1)) := by show _ = _; omega
              have t9 := keep K0 J2.b
              clear J2 hpq hp hcq hsize
              go_wp2_with fail
              go_at_call 11
              refine (HP _).mono ?_
              rintro e w' ⟨rfl, rfl⟩
              go_wp2
              go_roundw
              case rel => exact ⟨q + 1, p + 1, _, hp', by omega, by go_num, HC', J3, G0, G1⟩
              case measure => simp [intOf]; omega
            · have hin' : ¬ (p : Int) < f + s := by omega
              have hqs : q = s := by omega
              have S' : BdState w (j + 1) wr := ⟨_, _, _, _, _, _, _, _, _, J2, hDm.out, hRR, by rw [hcq.out, hqs, ← HD.out]; exact cur_m hcur f s true hs1 hfs, hDl.out, by omega⟩
              clear J2 hpq hp hcq hqs
              go_wp2
              go_roundw
              case rel => exact ⟨j + 1, by omega, by omega, by go_num, S'⟩
              case measure => simp [intOf]; omega
        · have hlen : (drawnAll (chH f s false M)).length ≤ 40 := by have := change_len hMM f s false hs1; omega
          obtain ⟨D, hD⟩ : ∃ D, drawnAll (chH f s false M) = D := ⟨_, rfl⟩
          have HD : Hid (drawnAll (chH f s false M) = D) := hD
          have hDl : Hid (D.length ≤ j + 1) := by show _ ≤ _; rw [← hD]; have := change_len hMM f s false hs1; omega
          have hDm : Hid (MayP D) := by show MayP D; rw [← hD]; exact change_may f s false hlen
          have HC := cRemove_ok _ mo mn mc M ro rn rc R f s I2.m I2.r ⟨hMM, hRR⟩ hreg hlen
          rw [hD] at HC
          clear hD hlen
          go_wp2_with fail
          go_at_call 20
          refine HC.mono ?_
          clear HC
          rintro e w4 ⟨xm, xn, xc, xr, xo, xd, rfl, xM, xR, f1, f2, hb4⟩
          have hbx := below_box w4 (.cells #[.slice xm xn xc, .slice xr xo xd] 25)
          have I4 := (I2.step hb4).step hbx
          have hsz2 := I2.size
          have J := I4.take (mc' := xc) (rc' := xd) (xM.below hbx) (xR.below hbx) (fun a ha => Nat.le_trans hsz2 (f1 a ha)) (fun a ha => Nat.le_trans hsz2 (f2 a ha))
          have e0 := keep (keep g0 hb4) hbx
          have e1 := keep (keep g1 hb4) hbx
          have y0 : (w4.alloc (.cells #[.slice xm xn xc, .slice xr xo xd] 25)).cell? ⟨w4.heap.size, 0, none⟩ = some (.slice xm xn xc) := by go_simp
          have y1 : (w4.alloc (.cells #[.slice xm xn xc, .slice xr xo xd] 25)).cell? ⟨w4.heap.size, 1, none⟩ = some (.slice xr xo xd) := by go_simp
          obtain ⟨⟨u0, d0⟩, ⟨u1, d1⟩, z0, z1⟩ := I4.vz
          have E0 := (cell_other2 (b := w.heap.size + 1 + 1) (x := .slice xm xn xc) (y := .slice xr xo xd) (show w1.heap.size ≠ w.heap.size + 1 + 1 by omega)).trans e0
          have E1 := (cell_other2 (b := w.heap.size + 1 + 1) (x := .slice xm xn xc) (y := .slice xr xo xd) (show w1.heap.size ≠ w.heap.size + 1 + 1 by omega)).trans e1
          obtain ⟨W5, hW5⟩ : ∃ W5, ((w4.alloc (.cells #[.slice xm xn xc, .slice xr xo xd] 25)).setCell ⟨w.heap.size + 1 + 1, 0, none⟩ (.slice xm xn xc)).setCell ⟨w.heap.size + 1 + 1, 1, none⟩ (.slice xr xo xd) = W5 := ⟨_, rfl⟩
          rw [hW5] at J E0 E1
          clear I1 I2 I4 hb4 hbx e0 e1 xM xR f1 f2 g0 g1 hsz2 n0 n1 n2 n3 n4 t2 c0 c1
          go_wp2
          clear hW5 y0 y1 d0 d1 z0 z1
          go_loopw [14] (fun pv wr2 => ∃ (q p : Nat) (cur' : Array Value), Hid (p = f + q) ∧ p ≤ f + s ∧ pv = .int .i64 p ∧ Hid (cur' = stK cur (f) false q) ∧ BdInv w xm xn xc D xr xo xd R cur' wr2 ∧ wr2.cell? ⟨w1.heap.size, 0, none⟩ = some (.int .i64 f) ∧ wr2.cell? ⟨w1.heap.size, 1, none⟩ = some (.int .i64 s)) (fun pv _ => f + s - (intOf pv).toNat)
          case atStart => exact ⟨0, f, cur, rfl, by omega, rfl, rfl, J, E0, E1⟩
          case round =>
            obtain ⟨q, p, cur', hp, hps, rfl, hcq, J2, F0, F1⟩ := hrel
            have hpq := hp.out
            clear J E0 E1
            by_cases hin : p < f + s
            · have hin' : (p : Int) < f + s := by omega
              have hsize : cur'.size = 512 := by rw [hcq.out, stK_size]; exact hcur.size
              have hcell : wr.cell? ⟨w.heap.size + 1 + 1 + 1, p, none⟩ = some (cur'.getD (p) (.bool false)) := by
                rw [cell_of_row _ _ _ _ _ _ J2.arr]
                have hlt5 : p < cur'.size := by omega
                simp [Array.getD, hlt5]
              have hfz : wr.frozen? ⟨w.heap.size + 1 + 1 + 1, p, none⟩ = false := frozen_of_row _ _ _ _ _ J2.arr
              have J3 := J2.mark (p) (.bool false)
              have G0 := (World.cell?_setCell_other wr ⟨w.heap.size + 1 + 1 + 1, p, none⟩ ⟨w1.heap.size, 0, none⟩ (.bool false) (by intro e; have h9 := congrArg Addr.block e; dsimp only at h9; omega)).trans F0
              have G1 := (World.cell?_setCell_other wr ⟨w.heap.size + 1 + 1 + 1, p, none⟩ ⟨w1.heap.size, 1, none⟩ (.bool false) (by intro e; have h9 := congrArg Addr.block e; dsimp only at h9; omega)).trans F1
              have HC' : Hid (cur'.setIfInBounds (p) (.bool false) = stK cur (f) false (q + 1)) := by
                show _ = (stK cur (f) false q).setIfInBounds (f + q) (.bool false)
                rw [← hcq.out, show f + q = p by omega]
              have hp' : Hid (p + 1 = f + (q + 1)) := by show _ = _; omega
              have t9 := keep K0 J2.b
              clear J2 hpq hp hcq hsize
              go_wp2_with fail
              go_at_call 11
              refine (HP _).mono ?_
              rintro e w' ⟨rfl, rfl⟩
              go_wp2
              go_roundw
              case rel => exact ⟨q + 1, p + 1, _, hp', by omega, by go_num, HC', J3, G0, G1⟩
              case measure => simp [intOf]; omega
            · have hin' : ¬ (p : Int) < f + s := by omega
              have hqs : q = s := by omega
              have S' : BdState w (j + 1) wr := ⟨_, _, _, _, _, _, _, _, _, J2, hDm.out, hRR, by rw [hcq.out, hqs, ← HD.out]; exact cur_m hcur f s false hs1 hfs, hDl.out, by omega⟩
              clear J2 hpq hp hcq hqs
              go_wp2
              go_roundw
              case rel => exact ⟨j + 1, by omega, by omega, by go_num, S'⟩
              case measure => simp [intOf]; omega
        · have hlen : (drawnAll (chH f s true R)).length ≤ 40 := by have := change_len hRR f s true hs1; omega
          obtain ⟨D, hD⟩ : ∃ D, drawnAll (chH f s true R) = D := ⟨_, rfl⟩
          have HD : Hid (drawnAll (chH f s true R) = D) := hD
          have hDl : Hid (D.length ≤ j + 1) := by show _ ≤ _; rw [← hD]; have := change_len hRR f s true hs1; omega
          have hDm : Hid (MayP D) := by show MayP D; rw [← hD]; exact change_may f s true hlen
          have HC := cReserve_ok _ mo mn mc M ro rn rc R f s I2.m I2.r ⟨hMM, hRR⟩ hreg hlen
          rw [hD] at HC
          clear hD hlen
          go_wp2_with fail
          go_at_call 21
          refine HC.mono ?_
          clear HC
          rintro e w4 ⟨xm, xn, xc, xr, xo, xd, rfl, xM, xR, f1, f2, hb4⟩
          have hbx := below_box w4 (.cells #[.slice xm xn xc, .slice xr xo xd] 25)
          have I4 := (I2.step hb4).step hbx
          have hsz2 := I2.size
          have J := I4.take (mc' := xc) (rc' := xd) (xM.below hbx) (xR.below hbx) (fun a ha => Nat.le_trans hsz2 (f1 a ha)) (fun a ha => Nat.le_trans hsz2 (f2 a ha))
          have e0 := keep (keep g0 hb4) hbx
          have e1 := keep (keep g1 hb4) hbx
          have y0 : (w4.alloc (.cells #[.slice xm xn xc, .slice xr xo xd] 25)).cell? ⟨w4.heap.size, 0, none⟩ = some (.slice xm xn xc) := by go_simp
          have y1 : (w4.alloc (.cells #[.slice xm xn xc, .slice xr xo xd] 25)).cell? ⟨w4.heap.size, 1, none⟩ = some (.slice xr xo xd) := by go_simp
          obtain ⟨⟨u0, d0⟩, ⟨u1, d1⟩, z0, z1⟩ := I4.vz
          have E0 := (cell_other2 (b := w.heap.size + 1 + 1) (x := .slice xm xn xc) (y := .slice xr xo xd) (show w1.heap.size ≠ w.heap.size + 1 + 1 by omega)).trans e0
          have E1 := (cell_other2 (b := w.heap.size + 1 + 1) (x := .slice xm xn xc) (y := .slice xr xo xd) (show w1.heap.size ≠ w.heap.size + 1 + 1 by omega)).trans e1
          obtain ⟨W5, hW5⟩ : ∃ W5, ((w4.alloc (.cells #[.slice xm xn xc, .slice xr xo xd] 25)).setCell ⟨w.heap.size + 1 + 1, 0, none⟩ (.slice xm xn xc)).setCell ⟨w.heap.size + 1 + 1, 1, none⟩ (.slice xr xo xd) = W5 := ⟨_, rfl⟩
          rw [hW5] at J E0 E1
          clear I1 I2 I4 hb4 hbx e0 e1 xM xR f1 f2 g0 g1 hsz2 n0 n1 n2 n3 n4 t2 c0 c1
          go_wp2
          clear hW5 y0 y1 d0 d1 z0 z1
          go_loopw [14] (fun pv wr2 => ∃ (q p : Nat) (cur' : Array Value), Hid (p = f + q) ∧ p ≤ f + s ∧ pv = .int .i64 p ∧ Hid (cur' = stK cur (256 + f) true q) ∧ BdInv w xm xn xc M xr xo xd D cur' wr2 ∧ wr2.cell? ⟨w1.heap.size, 0, none⟩ = some (.int .i64 f) ∧ wr2.cell? ⟨w1.heap.size, 1, none⟩ = some (.int .i64 s)) (fun pv _ => f + s - (intOf pv).toNat)
          case atStart => exact ⟨0, f, cur, rfl, by omega, rfl, rfl, J, E0, E1⟩
          case round =>
            obtain ⟨q, p, cur', hp, hps, rfl, hcq, J2, F0, F1⟩ := hrel
            have hpq := hp.out
            clear J E0 E1
            by_cases hin : p < f + s
            · have hin' : (p : Int) < f + s := by omega
              have hsize : cur'.size = 512 := by rw [hcq.out, stK_size]; exact hcur.size
              have hcell : wr.cell? ⟨w.heap.size + 1 + 1 + 1, 256 + p, none⟩ = some (cur'.getD (256 + p) (.bool false)) := by
                rw [cell_of_row _ _ _ _ _ _ J2.arr]
                have hlt5 : 256 + p < cur'.size := by omega
                simp [Array.getD, hlt5]
              have hfz : wr.frozen? ⟨w.heap.size + 1 + 1 + 1, 256 + p, none⟩ = false := frozen_of_row _ _ _ _ _ J2.arr
              have J3 := J2.mark (256 + p) (.bool true)
              have G0 := (World.cell?_setCell_other wr ⟨w.heap.size + 1 + 1 + 1, 256 + p, none⟩ ⟨w1.heap.size, 0, none⟩ (.bool true) (by intro e; have h9 := congrArg Addr.block e; dsimp only at h9; omega)).trans F0
              have G1 := (World.cell?_setCell_other wr ⟨w.heap.size + 1 + 1 + 1, 256 + p, none⟩ ⟨w1.heap.size, 1, none⟩ (.bool true) (by intro e; have h9 := congrArg Addr.block e; dsimp only at h9; omega)).trans F1
              have HC' : Hid (cur'.setIfInBounds (256 + p) (.bool true) = stK cur (256 + f) true (q + 1)) := by
                show _ = (stK cur (256 + f) true q).setIfInBounds (256 + f + q) (.bool true)
                rw [← hcq.out, show 256 + f + q = 256 + p by omega]
              have hp' : Hid (p + 1 = f + (q + 1)) := by show _ = _; omega
              have t9 := keep K0 J2.b
              clear J2 hpq hp hcq hsize
              go_wp2_with fail
              go_at_call 11
              refine (HP _).mono ?_
              rintro e w' ⟨rfl, rfl⟩
              go_wp2
              go_roundw
              case rel => exact ⟨q + 1, p + 1, _, hp', by omega, by go_num, HC', J3, G0, G1⟩
              case measure => simp [intOf]; omega
            · have hin' : ¬ (p : Int) < f + s := by omega
              have hqs : q = s := by omega
              have S' : BdState w (j + 1) wr := ⟨_, _, _, _, _, _, _, _, _, J2, hMM, hDm.out, by rw [hcq.out, hqs, ← HD.out]; exact cur_r hcur f s true hs1 hfs, by omega, hDl.out⟩
              clear J2 hpq hp hcq hqs
              go_wp2
              go_roundw
              case rel => exact ⟨j + 1, by omega, by omega, by go_num, S'⟩
              case measure => simp [intOf]; omega
        · have hlen : (drawnAll (chH f s false R)).length ≤ 40 := by have := change_len hRR f s false hs1; omega
          obtain ⟨D, hD⟩ : ∃ D, drawnAll (chH f s false R) = D := ⟨_, rfl⟩
          have HD : Hid (drawnAll (chH f s false R) = D) := hD
          have hDl : Hid (D.length ≤ j + 1) := by show _ ≤ _; rw [← hD]; have := change_len hRR f s false hs1; omega
          have hDm : Hid (MayP D) := by show MayP D; rw [← hD]; exact change_may f s false hlen
          have HC := cFree_ok _ mo mn mc M ro rn rc R f s I2.m I2.r ⟨hMM, hRR⟩ hreg hlen
          rw [hD] at HC
          clear hD hlen
          go_wp2_with fail
          go_at_call 14
          refine HC.mono ?_
          clear HC
          rintro e w4 ⟨xm, xn, xc, xr, xo, xd, rfl, xM, xR, f1, f2, hb4⟩
          have hbx := below_box w4 (.cells #[.slice xm xn xc, .slice xr xo xd] 25)
          have I4 := (I2.step hb4).step hbx
          have hsz2 := I2.size
          have J := I4.take (mc' := xc) (rc' := xd) (xM.below hbx) (xR.below hbx) (fun a ha => Nat.le_trans hsz2 (f1 a ha)) (fun a ha => Nat.le_trans hsz2 (f2 a ha))
          have e0 := keep (keep g0 hb4) hbx
          have e1 := keep (keep g1 hb4) hbx
          have y0 : (w4.alloc (.cells #[.slice xm xn xc, .slice xr xo xd] 25)).cell? ⟨w4.heap.size, 0, none⟩ = some (.slice xm xn xc) := by go_simp
          have y1 : (w4.alloc (.cells #[.slice xm xn xc, .slice xr xo xd] 25)).cell? ⟨w4.heap.size, 1, none⟩ = some (.slice xr xo xd) := by go_simp
          obtain ⟨⟨u0, d0⟩, ⟨u1, d1⟩, z0, z1⟩ := I4.vz
          have E0 := (cell_other2 (b := w.heap.size + 1 + 1) (x := .slice xm xn xc) (y := .slice xr xo xd) (show w1.heap.size ≠ w.heap.size + 1 + 1 by omega)).trans e0
          have E1 := (cell_other2 (b := w.heap.size + 1 + 1) (x := .slice xm xn xc) (y := .slice xr xo xd) (show w1.heap.size ≠ w.heap.size + 1 + 1 by omega)).trans e1
          obtain ⟨W5, hW5⟩ : ∃ W5, ((w4.alloc (.cells #[.slice xm xn xc, .slice xr xo xd] 25)).setCell ⟨w.heap.size + 1 + 1, 0, none⟩ (.slice xm xn xc)).setCell ⟨w.heap.size + 1 + 1, 1, none⟩ (.slice xr xo xd) = W5 := ⟨_, rfl⟩
          rw [hW5] at J E0 E1
          clear I1 I2 I4 hb4 hbx e0 e1 xM xR f1 f2 g0 g1 hsz2 n0 n1 n2 n3 n4 t2 c0 c1
          go_wp2
          clear hW5 y0 y1 d0 d1 z0 z1
          go_loopw [14] (fun pv wr2 => ∃ (q p : Nat) (cur' : Array Value), Hid (p = f + q) ∧ p ≤ f + s ∧ pv = .int .i64 p ∧ Hid (cur' = stK cur (256 + f) false q) ∧ BdInv w xm xn xc M xr xo xd D cur' wr2 ∧ wr2.cell? ⟨w1.heap.size, 0, none⟩ = some (.int .i64 f) ∧ wr2.cell? ⟨w1.heap.size, 1, none⟩ = some (.int .i64 s)) (fun pv _ => f + s - (intOf pv).toNat)
          case atStart => exact ⟨0, f, cur, rfl, by omega, rfl, rfl, J, E0, E1⟩
          case round =>
            obtain ⟨q, p, cur', hp, hps, rfl, hcq, J2, F0, F1⟩ := hrel
            have hpq := hp.out
            clear J E0 E1
            by_cases hin : p < f + s
            · have hin' : (p : Int) < f + s := by omega
              have hsize : cur'.size = 512 := by rw [hcq.out, stK_size]; exact hcur.size
              have hcell : wr.cell? ⟨w.heap.size + 1 + 1 + 1, 256 + p, none⟩ = some (cur'.getD (256 + p) (.bool false)) := by
                rw [cell_of_row _ _ _ _ _ _ J2.arr]
                have hlt5 : 256 + p < cur'.size := by omega
                simp [Array.getD, hlt5]
              have hfz : wr.frozen? ⟨w.heap.size + 1 + 1 + 1, 256 + p, none⟩ = false := frozen_of_row _ _ _ _ _ J2.arr
              have J3 := J2.mark (256 + p) (.bool false)
              have G0 := (World.cell?_setCell_other wr ⟨w.heap.size + 1 + 1 + 1, 256 + p, none⟩ ⟨w1.heap.size, 0, none⟩ (.bool false) (by intro e; have h9 := congrArg Addr.block e; dsimp only at h9; omega)).trans F0
              have G1 := (World.cell?_setCell_other wr ⟨w.heap.size + 1 + 1 + 1, 256 + p, none⟩ ⟨w1.heap.size, 1, none⟩ (.bool false) (by intro e; have h9 := congrArg Addr.block e; dsimp only at h9; omega)).trans F1
              have HC' : Hid (cur'.setIfInBounds (256 + p) (.bool false) = stK cur (256 + f) false (q + 1)) := by
                show _ = (stK cur (256 + f) false q).setIfInBounds (256 + f + q) (.bool false)
                rw [← hcq.out, show 256 + f + q = 256 + p by omega]
              have hp' : Hid (p + 1 = f + (q + 1)) := by show _ = _; omega
              have t9 := keep K0 J2.b
              clear J2 hpq hp hcq hsize
              go_wp2_with fail
              go_at_call 11
              refine (HP _).mono ?_
              rintro e w' ⟨rfl, rfl⟩
              go_wp2
              go_roundw
              case rel => exact ⟨q + 1, p + 1, _, hp', by omega, by go_num, HC', J3, G0, G1⟩
              case measure => simp [intOf]; omega
            · have hin' : ¬ (p : Int) < f + s := by omega
              have hqs : q = s := by omega
              have S' : BdState w (j + 1) wr := ⟨_, _, _, _, _, _, _, _, _, J2, hMM, hDm.out, by rw [hcq.out, hqs, ← HD.out]; exact cur_r hcur f s false hs1 hfs, by omega, hDl.out⟩
              clear J2 hpq hp hcq hqs
              go_wp2
              go_roundw
              case rel => exact ⟨j + 1, by omega, by omega, by go_num, S'⟩
              case measure => simp [intOf]; omega
      · have hlt3 : ¬ (j : Int) < most := hlt2
        obtain ⟨⟨x0, d0⟩, ⟨x1, d1⟩, z0, z1⟩ := I.r0
        have v0 := I.v0
        have v1 := I.v1
        have hsz := I.size
        obtain ⟨N, hN⟩ : ∃ N, N = 512 := ⟨_, rfl⟩
        have zT : ∀ w, (sizeOf 27).run Try.prog w = .ok N w := by subst hN; exact fun _ => by kernel_rfl
        have aT : ∀ w, (isAgg 27).run Try.prog w = .ok true w := fun _ => by kernel_rfl
        have hl : ∀ W' : World, W'.heap[w.heap.size + 1 + 1 + 1]? = wr.heap[w.heap.size + 1 + 1 + 1]? → (loadCellsFrom ⟨w.heap.size + 1 + 1 + 1, 0, none⟩ 0 N #[]).run Try.prog W' = .ok cur W' := fun W' h => load_row (h.trans I.arr) (by rw [hcur.size, hN])
        have hl1 := hl wr.drew rfl
        have hl2 := hl ((wr.setCell ⟨w.heap.size, 0, none⟩ (.slice mo mn mc)).setCell ⟨w.heap.size, 1, none⟩ (.slice ro rn rc)).drew ((congrArg (·[w.heap.size + 1 + 1 + 1]?) (heap_drew _)).trans (block_other2 (by omega)))
        have hs1 : (storeCells ⟨w.heap.size + 1, 0, none⟩ cur.toList 0).run Try.prog ((wr.setCell ⟨w.heap.size, 0, none⟩ (.slice mo mn mc)).setCell ⟨w.heap.size, 1, none⟩ (.slice ro rn rc)).drew = .ok () (((wr.setCell ⟨w.heap.size, 0, none⟩ (.slice mo mn mc)).setCell ⟨w.heap.size, 1, none⟩ (.slice ro rn rc)).drew.setRow (w.heap.size + 1) cur) :=
          store_row ((congrArg (·[w.heap.size + 1]?) (heap_drew _)).trans ((block_other2 (by omega)).trans I.r1)) (by rw [hcur.size]; simp [zc512]) (cur_oneCell hcur)
        have hcN : cur.size = N := by rw [hcur.size, hN]
        clear hl hN
        go_wp2
        go_region
        all_goals go_wp2
        all_goals
          have hX : ∀ c, c ≠ w.heap.size → c ≠ w.heap.size + 1 → (((wr.setCell ⟨w.heap.size, 0, none⟩ (.slice mo mn mc)).setCell ⟨w.heap.size, 1, none⟩ (.slice ro rn rc)).drew.setRow (w.heap.size + 1) cur).heap[c]? = wr.heap[c]? := fun c h1 h2 => (setRow_other _ _ _ _ h2).trans (block_other2 h1)
          have hX1 : (((wr.setCell ⟨w.heap.size, 0, none⟩ (.slice mo mn mc)).setCell ⟨w.heap.size, 1, none⟩ (.slice ro rn rc)).drew.setRow (w.heap.size + 1) cur).heap[w.heap.size]? = ((wr.setCell ⟨w.heap.size, 0, none⟩ (.slice mo mn mc)).setCell ⟨w.heap.size, 1, none⟩ (.slice ro rn rc)).heap[w.heap.size]? := setRow_other _ _ _ _ (by omega)
          obtain ⟨k0, k1⟩ := res2 d0 d1 (.slice mo mn mc) (.slice ro rn rc)
          have k0' : ((wr.setCell ⟨w.heap.size, 0, none⟩ (.slice mo mn mc)).setCell ⟨w.heap.size, 1, none⟩ (.slice ro rn rc)).cell? ⟨w.heap.size, 0, none⟩ = some (.slice mo mn mc) := (World.cell?_setCell_other _ _ _ _ (by simp)).trans k0
          have m0 := (World.cell?_of_block (a := ⟨w.heap.size, 0, none⟩) hX1).trans k0'
          have m1 := (World.cell?_of_block (a := ⟨w.heap.size, 1, none⟩) hX1).trans k1
          have hrow : (((wr.setCell ⟨w.heap.size, 0, none⟩ (.slice mo mn mc)).setCell ⟨w.heap.size, 1, none⟩ (.slice ro rn rc)).drew.setRow (w.heap.size + 1) cur).heap[w.heap.size + 1]? = some (.cells cur 27 (0, 0)) := setRow_heap _ _ _ _ _ _ ((congrArg (·[w.heap.size + 1]?) (heap_drew _)).trans ((block_other2 (by omega)).trans I.r1))
          have hl3 := load_row (P := Try.prog) hrow hcN
          have hBF : Below w.heap.size w (((wr.setCell ⟨w.heap.size, 0, none⟩ (.slice mo mn mc)).setCell ⟨w.heap.size, 1, none⟩ (.slice ro rn rc)).drew.setRow (w.heap.size + 1) cur) := below_setRow (below2 I.b (Nat.le_refl _) _ _).drew (by omega) _
          have hRg : ∀ ao' n' l', Regs wr ao' n' l' → Fresh (w.heap.size + 4) ao' → Regs (((wr.setCell ⟨w.heap.size, 0, none⟩ (.slice mo mn mc)).setCell ⟨w.heap.size, 1, none⟩ (.slice ro rn rc)).drew.setRow (w.heap.size + 1) cur) ao' n' l' := by
            intro ao' n' l' hR hF
            refine ⟨hR.len, hR.reach, fun i hi => ?_⟩
            obtain ⟨c, q, ha, h1, h2⟩ := hR.at_ i hi
            have hc := hF _ ha
            dsimp only at hc
            exact ⟨c, q, ha, (World.cell?_of_block (a := ⟨c, _, none⟩) (hX c (by omega) (by omega))).trans h1, (World.cell?_of_block (a := ⟨c, _, none⟩) (hX c (by omega) (by omega))).trans h2⟩
          refine bodyPost_ret (v := .tuple #[.agg #[.slice mo mn mc, .slice ro rn rc], .agg cur, .bool true]) ?_ rfl ⟨mo, mn, mc, M, ro, rn, rc, R, cur, rfl, hRg _ _ _ I.m I.fm, hRg _ _ _ I.r I.fr, hMM, hRR, hcur, by omega, by omega, hBF⟩
          simp [results, Try.results6, go_sem, m0, m1, zT, aT, hl3]
    · have hlt' : ¬ (j : Int) < n := by omega
      obtain ⟨⟨x0, d0⟩, ⟨x1, d1⟩, z0, z1⟩ := I.r0
      have v0 := I.v0
      have v1 := I.v1
      have hsz := I.size
      obtain ⟨N, hN⟩ : ∃ N, N = 512 := ⟨_, rfl⟩
      have zT : ∀ w, (sizeOf 27).run Try.prog w = .ok N w := by subst hN; exact fun _ => by kernel_rfl
      have aT : ∀ w, (isAgg 27).run Try.prog w = .ok true w := fun _ => by kernel_rfl
      have hl : ∀ W' : World, W'.heap[w.heap.size + 1 + 1 + 1]? = wr.heap[w.heap.size + 1 + 1 + 1]? → (loadCellsFrom ⟨w.heap.size + 1 + 1 + 1, 0, none⟩ 0 N #[]).run Try.prog W' = .ok cur W' := fun W' h => load_row (h.trans I.arr) (by rw [hcur.size, hN])
      have hl1 := hl wr.drew rfl
      have hl2 := hl ((wr.setCell ⟨w.heap.size, 0, none⟩ (.slice mo mn mc)).setCell ⟨w.heap.size, 1, none⟩ (.slice ro rn rc)).drew ((congrArg (·[w.heap.size + 1 + 1 + 1]?) (heap_drew _)).trans (block_other2 (by omega)))
      have hs1 : (storeCells ⟨w.heap.size + 1, 0, none⟩ cur.toList 0).run Try.prog ((wr.setCell ⟨w.heap.size, 0, none⟩ (.slice mo mn mc)).setCell ⟨w.heap.size, 1, none⟩ (.slice ro rn rc)).drew = .ok () (((wr.setCell ⟨w.heap.size, 0, none⟩ (.slice mo mn mc)).setCell ⟨w.heap.size, 1, none⟩ (.slice ro rn rc)).drew.setRow (w.heap.size + 1) cur) :=
        store_row ((congrArg (·[w.heap.size + 1]?) (heap_drew _)).trans ((block_other2 (by omega)).trans I.r1)) (by rw [hcur.size]; simp [zc512]) (cur_oneCell hcur)
      have hcN : cur.size = N := by rw [hcur.size, hN]
      clear hl hN
      go_wp2
      go_region
      all_goals go_wp2
      all_goals
        have hX : ∀ c, c ≠ w.heap.size → c ≠ w.heap.size + 1 → (((wr.setCell ⟨w.heap.size, 0, none⟩ (.slice mo mn mc)).setCell ⟨w.heap.size, 1, none⟩ (.slice ro rn rc)).drew.setRow (w.heap.size + 1) cur).heap[c]? = wr.heap[c]? := fun c h1 h2 => (setRow_other _ _ _ _ h2).trans (block_other2 h1)
        have hX1 : (((wr.setCell ⟨w.heap.size, 0, none⟩ (.slice mo mn mc)).setCell ⟨w.heap.size, 1, none⟩ (.slice ro rn rc)).drew.setRow (w.heap.size + 1) cur).heap[w.heap.size]? = ((wr.setCell ⟨w.heap.size, 0, none⟩ (.slice mo mn mc)).setCell ⟨w.heap.size, 1, none⟩ (.slice ro rn rc)).heap[w.heap.size]? := setRow_other _ _ _ _ (by omega)
        obtain ⟨k0, k1⟩ := res2 d0 d1 (.slice mo mn mc) (.slice ro rn rc)
        have k0' : ((wr.setCell ⟨w.heap.size, 0, none⟩ (.slice mo mn mc)).setCell ⟨w.heap.size, 1, none⟩ (.slice ro rn rc)).cell? ⟨w.heap.size, 0, none⟩ = some (.slice mo mn mc) := (World.cell?_setCell_other _ _ _ _ (by simp)).trans k0
        have m0 := (World.cell?_of_block (a := ⟨w.heap.size, 0, none⟩) hX1).trans k0'
        have m1 := (World.cell?_of_block (a := ⟨w.heap.size, 1, none⟩) hX1).trans k1
        have hrow : (((wr.setCell ⟨w.heap.size, 0, none⟩ (.slice mo mn mc)).setCell ⟨w.heap.size, 1, none⟩ (.slice ro rn rc)).drew.setRow (w.heap.size + 1) cur).heap[w.heap.size + 1]? = some (.cells cur 27 (0, 0)) := setRow_heap _ _ _ _ _ _ ((congrArg (·[w.heap.size + 1]?) (heap_drew _)).trans ((block_other2 (by omega)).trans I.r1))
        have hl3 := load_row (P := Try.prog) hrow hcN
        have hBF : Below w.heap.size w (((wr.setCell ⟨w.heap.size, 0, none⟩ (.slice mo mn mc)).setCell ⟨w.heap.size, 1, none⟩ (.slice ro rn rc)).drew.setRow (w.heap.size + 1) cur) := below_setRow (below2 I.b (Nat.le_refl _) _ _).drew (by omega) _
        have hRg : ∀ ao' n' l', Regs wr ao' n' l' → Fresh (w.heap.size + 4) ao' → Regs (((wr.setCell ⟨w.heap.size, 0, none⟩ (.slice mo mn mc)).setCell ⟨w.heap.size, 1, none⟩ (.slice ro rn rc)).drew.setRow (w.heap.size + 1) cur) ao' n' l' := by
          intro ao' n' l' hR hF
          refine ⟨hR.len, hR.reach, fun i hi => ?_⟩
          obtain ⟨c, q, ha, h1, h2⟩ := hR.at_ i hi
          have hc := hF _ ha
          dsimp only at hc
          exact ⟨c, q, ha, (World.cell?_of_block (a := ⟨c, _, none⟩) (hX c (by omega) (by omega))).trans h1, (World.cell?_of_block (a := ⟨c, _, none⟩) (hX c (by omega) (by omega))).trans h2⟩
        refine bodyPost_ret (v := .tuple #[.agg #[.slice mo mn mc, .slice ro rn rc], .agg cur, .bool true]) ?_ rfl ⟨mo, mn, mc, M, ro, rn, rc, R, cur, rfl, hRg _ _ _ I.m I.fm, hRg _ _ _ I.r I.fr, hMM, hRR, hcur, by omega, by omega, hBF⟩
        simp [results, Try.results6, go_sem, m0, m1, zT, aT, hl3]

end Go.Proofs.Ytfogdgnlbgoakad
