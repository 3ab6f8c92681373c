/-
  OWN TEXTS, bundled: ZcChoose, AppK, Bu2, ZoT, ZcBackI, ZHaP, ZTkP, ZOvl, ZMayB.
-/
import Derived.Test.YtpfafhgllabhbaaDoorBuddyTakesPart3
import Derived.Deep.RegionLaw
import Derived.OwnWalk
import Derived.Lib.AppendZerosOnto
import Derived.Lib.AppendZeros
import Derived.Lib.Overlaps
import Derived.Laws.Externs
import Derived.Test.YtpfafhgllabhbaaDoorBuddyTakesPart2

/-
  OWN TEXT. Contract of the code: buddy.choose.
-/
namespace Go.Proofs.YtpfafhgllabhbaaDoor
open Go Go.RowKit Go.Proofs.YtpfafhgllabhbaaDoor.Kit

theorem found_at {e : Ending} {l : List Bk} {g : Bk → Bool} (h : FoundAt e l g) : e = .returned (.int .i64 (fidx g l)) := by
  rcases h with ⟨k, hk, rfl, h1, h2⟩ | ⟨rfl, h⟩
  · rw [fidx_some hk h1 h2]
  · rw [fidx_none h]

set_option maxHeartbeats 1000000 in
theorem chooseF_any (W : World) (b1 b2 : Nat) (o t : Int) (ba bo bt : Int) (c1 : W.cell? ⟨b1, 0, none⟩ = some (.int .i64 o)) (c2 : W.cell? ⟨b2, 0, none⟩ = some (.int .i64 t)) :
    Calls Tryd.prog 39 (#[.agg #[.int .i64 ba, .int .i64 bo, .int .i64 bt]] ++ #[.pointer (some ⟨b1, 0, none⟩), .pointer (some ⟨b2, 0, none⟩)]) W fun e W' => e = .returned (.bool (isT o t ⟨ba, bo, bt⟩)) ∧ Below W.heap.size W W' := by
  have hb0 := below_box W (.cells #[.int .i64 ba, .int .i64 bo, .int .i64 bt] 42)
  have d1 := keep c1 hb0
  have d2 := keep c2 hb0
  clear c1 c2
  by_cases g1 : bo = o
  · have HF : Hid ((bt == t) = isT o t ⟨ba, bo, bt⟩) := by
      show _ = decide (_ ∧ _)
      rw [show (bt == t) = decide (bt = t) from rfl]
      simp [g1]
    have g1' : (bo == o) = true := by simpa using g1
    clear g1
    go_enter Tryd.func39, Tryd.ntmps39
    go_wp2
    go_ret
    exact ⟨ret_bool HF.out, hb0⟩
  · have HF : Hid (false = isT o t ⟨ba, bo, bt⟩) := by
      show _ = decide (_ ∧ _)
      simp [g1]
    have g1' : (bo == o) = false := by simpa using g1
    clear g1
    go_enter Tryd.func39, Tryd.ntmps39
    go_wp2
    go_ret
    exact ⟨ret_bool HF.out, hb0⟩
theorem chooseF_call (args : Array Value) (W : World) : (callFunc 39 args).run Tryd.prog W = .ok (.enter 39 args) W := by kernel_rfl

set_option maxHeartbeats 1000000 in
theorem chooseL_any (W : World) (fb : Nat) (fo : Option Addr) (fn fc : Nat) (l : List Bk) (o t : Int) (c : W.cell? ⟨fb, 0, none⟩ = some (.slice fo fn fc)) (h : Blks W fo fn l) :
    Calls Tryd.prog 37 (#[.int .i64 o, .int .i64 t] ++ #[.pointer (some ⟨fb, 0, none⟩)]) W fun e W' => e = .returned (.int .i64 (fidx (isT o t) l)) ∧ Below W.heap.size W W' := by
  have hb0 : Below W.heap.size W ((W.alloc (.cells #[.int .i64 o] 3)).alloc (.cells #[.int .i64 t] 3)) := ((Below.refl _ _).alloc (Nat.le_refl _) _).alloc (by simp) _
  have p1 : ((W.alloc (.cells #[.int .i64 o] 3)).alloc (.cells #[.int .i64 t] 3)).cell? ⟨W.heap.size, 0, none⟩ = some (.int .i64 o) := by go_simp
  have p2 : ((W.alloc (.cells #[.int .i64 o] 3)).alloc (.cells #[.int .i64 t] 3)).cell? ⟨W.heap.size + 1, 0, none⟩ = some (.int .i64 t) := by go_simp
  have c' := keep c hb0
  have HI := bIndex_any _ 39 #[.pointer (some ⟨W.heap.size, 0, none⟩), .pointer (some ⟨W.heap.size + 1, 0, none⟩)] fo fn fc l (isT o t) (h.below hb0) chooseF_call (fun i hi V hb => chooseF_any V _ _ o t _ _ _ (keep p1 hb) (keep p2 hb))
  go_enter Tryd.func37, Tryd.ntmps37
  go_wp2_with fail
  go_at_call 38
  refine HI.mono ?_
  rintro e w1 ⟨hf, hb⟩
  obtain rfl := found_at hf
  clear HI
  go_wp2
  go_ret
  exact ⟨rfl, hb0.trans (hb.mono hb0.size)⟩
theorem chooseL_call (args : Array Value) (W : World) : (callFunc 37 args).run Tryd.prog W = .ok (.enter 37 args) W := by kernel_rfl

theorem ix0 (W : World) (x y : Int) : (Instr.index 68 (.agg #[.int .i64 x, .int .i64 y]) (.int .i64 0)).run Tryd.prog W = .ok (.int .i64 x) W := by
  kernel_rfl
theorem ix1 (W : World) (x y : Int) : (Instr.index 68 (.agg #[.int .i64 x, .int .i64 y]) (.int .i64 1)).run Tryd.prog W = .ok (.int .i64 y) W := by
  kernel_rfl

/-- Which types are asked instead, as the package's table has them. -/
structure TabAt (w : World) : Prop where
  a0 : w.cell? ⟨0, 0, none⟩ = some (.int .i64 2)
  a1 : w.cell? ⟨0, 1, none⟩ = some (.int .i64 1)
  a2 : w.cell? ⟨0, 2, none⟩ = some (.int .i64 2)
  a3 : w.cell? ⟨0, 3, none⟩ = some (.int .i64 0)
  a4 : w.cell? ⟨0, 4, none⟩ = some (.int .i64 0)
  a5 : w.cell? ⟨0, 5, none⟩ = some (.int .i64 1)
theorem TabAt.below {w w' : World} (h : TabAt w) (hb : Below w.heap.size w w') : TabAt w' := ⟨keep h.a0 hb, keep h.a1 hb, keep h.a2 hb, keep h.a3 hb, keep h.a4 hb, keep h.a5 hb⟩

set_option maxHeartbeats 4000000 in
theorem choose_any (w : World) (fo : Option Addr) (fn fc : Nat) (l : List Bk) (o t : Int) (h : Blks w fo fn l) (hT : TabAt w) (ho : ordOk o) (ht : typeOk t) :
    Calls Tryd.prog 16 #[.slice fo fn fc, .int .i64 o, .int .i64 t] w fun e w' => e = .returned (.int .i64 (chooseI l o t)) ∧ Below w.heap.size w w' := by
  obtain ⟨o0, o4⟩ := ho
  obtain ⟨t0, t2⟩ := ht
  have i0 := ix0
  have i1 := ix1
  have hb0 := below_box w (.cells #[.slice fo fn fc] 22)
  have p1 : (w.alloc (.cells #[.slice fo fn fc] 22)).cell? ⟨w.heap.size, 0, none⟩ = some (.slice fo fn fc) := by go_simp
  obtain ⟨W0, hW0⟩ : ∃ W0, w.alloc (.cells #[.slice fo fn fc] 22) = W0 := ⟨_, rfl⟩
  rw [hW0] at hb0 p1
  have HW0 : Hid _ := hW0
  have hB0 := h.below hb0
  have T0 := hT.below hb0
  obtain ⟨U, hU⟩ : ∃ U, upI l t (5 - o).toNat o = U := ⟨_, rfl⟩
  have HU : Hid (upI l t (5 - o).toNat o = U) := hU
  obtain ⟨D, hD⟩ : ∃ D, dnI l (other1 t) (other2 t) o (5 - o).toNat = D := ⟨_, rfl⟩
  have HD : Hid (dnI l (other1 t) (other2 t) o (5 - o).toNat = D) := hD
  have HCh : Hid (chooseI l o t = if 0 ≤ U then U else D) := by show _ = _; unfold chooseI; rw [hU, hD]
  clear hD
  clear hW0 hU
  go_enter Tryd.func16, Tryd.ntmps16
  go_wp2_with (rw [HW0.out])
  clear HW0
  go_loopw [8] (fun ov wr => ∃ O : Int, ov = .int .i64 O ∧ o ≤ O ∧ O ≤ 5 ∧ Hid (upI l t (5 - O).toNat O = U) ∧ Below W0.heap.size W0 wr) (fun ov _ => (5 - intOf ov).toNat)
  case atStart => exact ⟨o, rfl, by omega, by omega, HU, Below.refl _ _⟩
  case round =>
    obtain ⟨O, rfl, h1, h2, hG, hb⟩ := hrel
    clear HU
    have pW := keep p1 hb
    by_cases hlt : O ≤ 4
    · have HL := chooseL_any wr w.heap.size fo fn fc l O t pW (hB0.below hb)
      obtain ⟨m, hm⟩ : ∃ m, (5 - O).toNat = m + 1 := ⟨(5 - O).toNat - 1, by omega⟩
      have hm2 : (5 - (O + 1)).toNat = m := by omega
      have hG1 : Hid ((if 0 ≤ fidx (isT O t) l then fidx (isT O t) l else upI l t m (O + 1)) = U) := by have := hG.out; rw [hm] at this; exact this
      obtain ⟨X, hX⟩ : ∃ X, fidx (isT O t) l = X := ⟨_, rfl⟩
      rw [hX] at HL hG1
      clear hG hX
      go_wp2_with fail
      go_at_call 37
      refine HL.mono ?_
      rintro e w1 ⟨rfl, hb1⟩
      have hb' := hb.trans (hb1.mono hb.size)
      clear HL
      by_cases hx : 0 ≤ X
      · have HR : Hid (X = chooseI l o t) := by
          show _ = _
          have hUX : X = U := by have := hG1.out; rw [if_pos hx] at this; exact this
          rw [HCh.out, ← hUX, if_pos hx]
        clear hG1
        go_wp2
        go_ret
        exact ⟨by rw [HR.out]; rfl, hb0.trans (hb'.mono hb0.size)⟩
      · have hG2 : Hid (upI l t (5 - (O + 1)).toNat (O + 1) = U) := by
          show _ = _
          rw [hm2, ← hG1.out, if_neg hx]
        clear hG1
        go_wp2
        go_roundw
        case rel => exact ⟨O + 1, by go_num, by omega, by omega, hG2, hb'⟩
        case measure => simp [intOf]; omega
    · have HC2 : Hid (chooseI l o t = D) := by
        show _ = _
        have hU1 : U = -1 := by have := hG.out; rw [show (5 - O).toNat = 0 by omega] at this; exact this.symm
        rw [HCh.out, hU1]
        rfl
      clear HCh hG
      go_wp2
      go_loopw [10] (fun ov wq => ∃ (n : Nat) (P : Int), ov = .int .i64 P ∧ P = o + n - 1 ∧ P ≤ 4 ∧ Hid (dnI l (other1 t) (other2 t) o n = D) ∧ Below W0.heap.size W0 wq) (fun ov _ => (intOf ov + 1).toNat)
      case atStart => exact ⟨(5 - o).toNat, 4, rfl, by omega, by omega, HD, hb⟩
      case round =>
        obtain ⟨n, P, rfl, hP, hP4, hN, hbq⟩ := hrel
        clear HD
        have pQ := keep p1 hbq
        have TQ := T0.below hbq
        have HP : Hid (P = o + n - 1) := hP
        by_cases hge : o ≤ P
        · obtain ⟨m, rfl⟩ : ∃ m, n = m + 1 := ⟨n - 1, by omega⟩
          have hPm : P = o + m := by omega
          have HPm : Hid (P = o + m) := hPm
          clear hP HP
          rcases (show t = 0 ∨ t = 1 ∨ t = 2 by omega) with rfl | rfl | rfl
          · obtain ⟨X, hX⟩ : ∃ X, fidx (isT P 2) l = X := ⟨_, rfl⟩
            obtain ⟨Y, hY⟩ : ∃ Y, fidx (isT P 1) l = Y := ⟨_, rfl⟩
            have hN1 : Hid ((if 0 ≤ X then X else if 0 ≤ Y then Y else dnI l 2 1 o m) = D) := by
              show _ = _
              have := hN.out
              rw [← hX, ← hY, hPm]
              exact this
            have HLX : Hid (∀ W, Below W0.heap.size W0 W → Calls Tryd.prog 37 (#[.int .i64 P, .int .i64 2] ++ #[.pointer (some ⟨w.heap.size, 0, none⟩)]) W fun e W' => e = .returned (.int .i64 X) ∧ Below W.heap.size W W') := fun W hW => by rw [← hX]; exact chooseL_any W w.heap.size fo fn fc l P 2 (keep p1 hW) (hB0.below hW)
            have HLY : Hid (∀ W, Below W0.heap.size W0 W → Calls Tryd.prog 37 (#[.int .i64 P, .int .i64 1] ++ #[.pointer (some ⟨w.heap.size, 0, none⟩)]) W fun e W' => e = .returned (.int .i64 Y) ∧ Below W.heap.size W W') := fun W hW => by rw [← hY]; exact chooseL_any W w.heap.size fo fn fc l P 1 (keep p1 hW) (hB0.below hW)
            have ta := TQ.a0
            have tb := TQ.a1
            clear hX hY hN hPm pQ
            go_wp2
            clear ta tb
            go_loopw [35] (fun kv wi => ∃ k : Nat, k ≤ 2 ∧ kv = .int .i64 k ∧ (1 ≤ k → X < 0) ∧ (2 ≤ k → Y < 0) ∧ Below W0.heap.size W0 wi) (fun kv _ => 2 - (intOf kv).toNat)
            case atStart => exact ⟨0, by omega, rfl, fun g => by omega, fun g => by omega, hbq⟩
            case round =>
              obtain ⟨k, hk, rfl, hk1, hk2, hbi⟩ := hrel
              rcases (show k = 0 ∨ k = 1 ∨ k = 2 by omega) with rfl | rfl | rfl
              · go_wp2_with fail
                go_at_call 37
                refine (HLX.out _ hbi).mono ?_
                rintro e w1 ⟨rfl, hb1⟩
                have hb' := hbi.trans (hb1.mono hbi.size)
                by_cases hx : 0 ≤ X
                · have HR : Hid (X = chooseI l o 0) := by show _ = _; have := hN1.out; rw [if_pos hx] at this; rw [HC2.out]; exact this
                  clear hN1 HLX HLY
                  go_wp2
                  go_ret
                  exact ⟨by rw [HR.out]; rfl, hb0.trans (hb'.mono hb0.size)⟩
                · clear HLX HLY
                  go_wp2
                  go_roundw
                  case rel => exact ⟨1, by omega, by go_num, fun _ => by omega, fun g => by omega, hb'⟩
                  case measure => simp [intOf]
              · have hx := hk1 (by omega)
                go_wp2_with fail
                go_at_call 37
                refine (HLY.out _ hbi).mono ?_
                rintro e w1 ⟨rfl, hb1⟩
                have hb' := hbi.trans (hb1.mono hbi.size)
                by_cases hy : 0 ≤ Y
                · have HR : Hid (Y = chooseI l o 0) := by show _ = _; have := hN1.out; rw [if_neg (by omega), if_pos hy] at this; rw [HC2.out]; exact this
                  clear hN1 HLX HLY
                  go_wp2
                  go_ret
                  exact ⟨by rw [HR.out]; rfl, hb0.trans (hb'.mono hb0.size)⟩
                · clear HLX HLY
                  go_wp2
                  go_roundw
                  case rel => exact ⟨2, by omega, by go_num, fun _ => by omega, fun _ => by omega, hb'⟩
                  case measure => simp [intOf]
              · have hx := hk1 (by omega)
                have hy := hk2 (by omega)
                have hN2 : Hid (dnI l 2 1 o m = D) := by show _ = _; have := hN1.out; rw [if_neg (by omega), if_neg (by omega)] at this; exact this
                clear hN1 HLX HLY
                go_wp2
                go_roundw
                case rel => exact ⟨m, P - 1, by go_num, by have := HPm.out; omega, by omega, hN2, hbi⟩
                case measure => simp [intOf]; omega
          · obtain ⟨X, hX⟩ : ∃ X, fidx (isT P 2) l = X := ⟨_, rfl⟩
            obtain ⟨Y, hY⟩ : ∃ Y, fidx (isT P 0) l = Y := ⟨_, rfl⟩
            have hN1 : Hid ((if 0 ≤ X then X else if 0 ≤ Y then Y else dnI l 2 0 o m) = D) := by
              show _ = _
              have := hN.out
              rw [← hX, ← hY, hPm]
              exact this
            have HLX : Hid (∀ W, Below W0.heap.size W0 W → Calls Tryd.prog 37 (#[.int .i64 P, .int .i64 2] ++ #[.pointer (some ⟨w.heap.size, 0, none⟩)]) W fun e W' => e = .returned (.int .i64 X) ∧ Below W.heap.size W W') := fun W hW => by rw [← hX]; exact chooseL_any W w.heap.size fo fn fc l P 2 (keep p1 hW) (hB0.below hW)
            have HLY : Hid (∀ W, Below W0.heap.size W0 W → Calls Tryd.prog 37 (#[.int .i64 P, .int .i64 0] ++ #[.pointer (some ⟨w.heap.size, 0, none⟩)]) W fun e W' => e = .returned (.int .i64 Y) ∧ Below W.heap.size W W') := fun W hW => by rw [← hY]; exact chooseL_any W w.heap.size fo fn fc l P 0 (keep p1 hW) (hB0.below hW)
            have ta := TQ.a2
            have tb := TQ.a3
            clear hX hY hN hPm pQ
            go_wp2
            clear ta tb
            go_loopw [35] (fun kv wi => ∃ k : Nat, k ≤ 2 ∧ kv = .int .i64 k ∧ (1 ≤ k → X < 0) ∧ (2 ≤ k → Y < 0) ∧ Below W0.heap.size W0 wi) (fun kv _ => 2 - (intOf kv).toNat)
            case atStart => exact ⟨0, by omega, rfl, fun g => by omega, fun g => by omega, hbq⟩
            case round =>
              obtain ⟨k, hk, rfl, hk1, hk2, hbi⟩ := hrel
              rcases (show k = 0 ∨ k = 1 ∨ k = 2 by omega) with rfl | rfl | rfl
              · go_wp2_with fail
                go_at_call 37
                refine (HLX.out _ hbi).mono ?_
                rintro e w1 ⟨rfl, hb1⟩
                have hb' := hbi.trans (hb1.mono hbi.size)
                by_cases hx : 0 ≤ X
                · have HR : Hid (X = chooseI l o 1) := by show _ = _; have := hN1.out; rw [if_pos hx] at this; rw [HC2.out]; exact this
                  clear hN1 HLX HLY
                  go_wp2
                  go_ret
                  exact ⟨by rw [HR.out]; rfl, hb0.trans (hb'.mono hb0.size)⟩
                · clear HLX HLY
                  go_wp2
                  go_roundw
                  case rel => exact ⟨1, by omega, by go_num, fun _ => by omega, fun g => by omega, hb'⟩
                  case measure => simp [intOf]
              · have hx := hk1 (by omega)
                go_wp2_with fail
                go_at_call 37
                refine (HLY.out _ hbi).mono ?_
                rintro e w1 ⟨rfl, hb1⟩
                have hb' := hbi.trans (hb1.mono hbi.size)
                by_cases hy : 0 ≤ Y
                · have HR : Hid (Y = chooseI l o 1) := by show _ = _; have := hN1.out; rw [if_neg (by omega), if_pos hy] at this; rw [HC2.out]; exact this
                  clear hN1 HLX HLY
                  go_wp2
                  go_ret
                  exact ⟨by rw [HR.out]; rfl, hb0.trans (hb'.mono hb0.size)⟩
                · clear HLX HLY
                  go_wp2
                  go_roundw
                  case rel => exact ⟨2, by omega, by go_num, fun _ => by omega, fun _ => by omega, hb'⟩
                  case measure => simp [intOf]
              · have hx := hk1 (by omega)
                have hy := hk2 (by omega)
                have hN2 : Hid (dnI l 2 0 o m = D) := by show _ = _; have := hN1.out; rw [if_neg (by omega), if_neg (by omega)] at this; exact this
                clear hN1 HLX HLY
                go_wp2
                go_roundw
                case rel => exact ⟨m, P - 1, by go_num, by have := HPm.out; omega, by omega, hN2, hbi⟩
                case measure => simp [intOf]; omega
          · obtain ⟨X, hX⟩ : ∃ X, fidx (isT P 0) l = X := ⟨_, rfl⟩
            obtain ⟨Y, hY⟩ : ∃ Y, fidx (isT P 1) l = Y := ⟨_, rfl⟩
            have hN1 : Hid ((if 0 ≤ X then X else if 0 ≤ Y then Y else dnI l 0 1 o m) = D) := by
              show _ = _
              have := hN.out
              rw [← hX, ← hY, hPm]
              exact this
            have HLX : Hid (∀ W, Below W0.heap.size W0 W → Calls Tryd.prog 37 (#[.int .i64 P, .int .i64 0] ++ #[.pointer (some ⟨w.heap.size, 0, none⟩)]) W fun e W' => e = .returned (.int .i64 X) ∧ Below W.heap.size W W') := fun W hW => by rw [← hX]; exact chooseL_any W w.heap.size fo fn fc l P 0 (keep p1 hW) (hB0.below hW)
            have HLY : Hid (∀ W, Below W0.heap.size W0 W → Calls Tryd.prog 37 (#[.int .i64 P, .int .i64 1] ++ #[.pointer (some ⟨w.heap.size, 0, none⟩)]) W fun e W' => e = .returned (.int .i64 Y) ∧ Below W.heap.size W W') := fun W hW => by rw [← hY]; exact chooseL_any W w.heap.size fo fn fc l P 1 (keep p1 hW) (hB0.below hW)
            have ta := TQ.a4
            have tb := TQ.a5
            clear hX hY hN hPm pQ
            go_wp2
            clear ta tb
            go_loopw [35] (fun kv wi => ∃ k : Nat, k ≤ 2 ∧ kv = .int .i64 k ∧ (1 ≤ k → X < 0) ∧ (2 ≤ k → Y < 0) ∧ Below W0.heap.size W0 wi) (fun kv _ => 2 - (intOf kv).toNat)
            case atStart => exact ⟨0, by omega, rfl, fun g => by omega, fun g => by omega, hbq⟩
            case round =>
              obtain ⟨k, hk, rfl, hk1, hk2, hbi⟩ := hrel
              rcases (show k = 0 ∨ k = 1 ∨ k = 2 by omega) with rfl | rfl | rfl
              · go_wp2_with fail
                go_at_call 37
                refine (HLX.out _ hbi).mono ?_
                rintro e w1 ⟨rfl, hb1⟩
                have hb' := hbi.trans (hb1.mono hbi.size)
                by_cases hx : 0 ≤ X
                · have HR : Hid (X = chooseI l o 2) := by show _ = _; have := hN1.out; rw [if_pos hx] at this; rw [HC2.out]; exact this
                  clear hN1 HLX HLY
                  go_wp2
                  go_ret
                  exact ⟨by rw [HR.out]; rfl, hb0.trans (hb'.mono hb0.size)⟩
                · clear HLX HLY
                  go_wp2
                  go_roundw
                  case rel => exact ⟨1, by omega, by go_num, fun _ => by omega, fun g => by omega, hb'⟩
                  case measure => simp [intOf]
              · have hx := hk1 (by omega)
                go_wp2_with fail
                go_at_call 37
                refine (HLY.out _ hbi).mono ?_
                rintro e w1 ⟨rfl, hb1⟩
                have hb' := hbi.trans (hb1.mono hbi.size)
                by_cases hy : 0 ≤ Y
                · have HR : Hid (Y = chooseI l o 2) := by show _ = _; have := hN1.out; rw [if_neg (by omega), if_pos hy] at this; rw [HC2.out]; exact this
                  clear hN1 HLX HLY
                  go_wp2
                  go_ret
                  exact ⟨by rw [HR.out]; rfl, hb0.trans (hb'.mono hb0.size)⟩
                · clear HLX HLY
                  go_wp2
                  go_roundw
                  case rel => exact ⟨2, by omega, by go_num, fun _ => by omega, fun _ => by omega, hb'⟩
                  case measure => simp [intOf]
              · have hx := hk1 (by omega)
                have hy := hk2 (by omega)
                have hN2 : Hid (dnI l 0 1 o m = D) := by show _ = _; have := hN1.out; rw [if_neg (by omega), if_neg (by omega)] at this; exact this
                clear hN1 HLX HLY
                go_wp2
                go_roundw
                case rel => exact ⟨m, P - 1, by go_num, by have := HPm.out; omega, by omega, hN2, hbi⟩
                case measure => simp [intOf]; omega
        · have hn0 : n = 0 := by omega
          have HR : Hid (-1 = chooseI l o t) := by show _ = _; have := hN.out; rw [hn0] at this; rw [HC2.out]; exact this
          clear hN hP
          go_wp2
          go_ret
          exact ⟨by rw [← HR.out]; rfl, hb0.trans (hbq.mono hb0.size)⟩

end Go.Proofs.YtpfafhgllabhbaaDoor

/-
  OWN TEXT. Rows of blocks of k cells that a call owns: append, copy, clear as steps; over whatever program.
-/
namespace Go.Proofs.YtpfafhgllabhbaaDoor.Kit
open Go Go.RowKit

/-- A row: a block of 'cap' elements of 'size' cells each. -/
structure Row (w : World) (e : TypeId) (size g cap : Nat) (cur : List Value) : Prop where
  h : w.heap[g]? = some (.cells cur.toArray e (0, 0))
  len : cur.length = cap * size
  m : cap ≤ maxLen

theorem Row.lt {w : World} {e : TypeId} {size g cap : Nat} {cur : List Value} (h : Row w e size g cap cur) : g < w.heap.size := (Array.getElem?_eq_some_iff.1 h.h).1
theorem Row.but {w w' : World} {e : TypeId} {size g cap c : Nat} {cur : List Value} (h : Row w e size g cap cur) (hb : But c w w') (hne : g ≠ c) : Row w' e size g cap cur :=
  ⟨(hb.block g h.lt hne).trans h.h, h.len, h.m⟩
theorem Row.below {w w' : World} {e : TypeId} {size g cap : Nat} {cur : List Value} (h : Row w e size g cap cur) (hb : Below w.heap.size w w') : Row w' e size g cap cur :=
  ⟨(hb.block g h.lt).trans h.h, h.len, h.m⟩
theorem Row.cell {w : World} {e : TypeId} {size g cap : Nat} {cur : List Value} (h : Row w e size g cap cur) (j : Nat) : w.cell? ⟨g, j, none⟩ = cur[j]? := by
  simp [World.cell?, h.h]
theorem Row.fz {w : World} {e : TypeId} {size g cap : Nat} {cur : List Value} (h : Row w e size g cap cur) (j : Nat) : w.frozen? ⟨g, j, none⟩ = false := by
  simp [World.frozen?, h.h]
theorem add_at (g o j : Nat) : (⟨g, o, none⟩ : Addr).add j = ⟨g, o + j, none⟩ := by unfold Addr.add; split <;> simp_all

theorem Row.of {w : World} {base : Nat} {e : TypeId} {size g n cap : Nat} {xs : List Value} (h : w.ownsRow base e size (.slice (some ⟨g, 0, none⟩) n cap) n xs) :
    base ≤ g ∧ n ≤ cap ∧ ∃ cur, Row w e size g cap cur ∧ cur.take (n * size) = xs := by
  rcases h.2 with ⟨h', _⟩ | ⟨g', cap', cur, h', hb, hg, hn, hm, hs, htake⟩
  · cases h'
  · simp only [Value.slice.injEq, Option.some.injEq, Addr.mk.injEq, and_true, true_and] at h'
    obtain ⟨rfl, rfl⟩ := h'
    exact ⟨hb, hn, cur.toList, ⟨by simpa using hg, by simpa using hs, hm⟩, htake⟩
theorem Row.owns {w : World} {base : Nat} {e : TypeId} {size g n cap : Nat} {cur xs : List Value} (h : Row w e size g cap cur) (hb : base ≤ g) (hn : n ≤ cap) (ht : cur.take (n * size) = xs) :
    w.ownsRow base e size (.slice (some ⟨g, 0, none⟩) n cap) n xs := by
  refine ⟨?_, .inr ⟨g, cap, cur.toArray, rfl, hb, h.h, hn, h.m, by simpa using h.len, by simpa using ht⟩⟩
  rw [← ht, List.length_take, h.len, Nat.min_eq_left (Nat.mul_le_mul_right _ hn)]

theorem splice_take {α : Type} {L cs : List α} {off n : Nat} (h : n ≤ off) (hl : off ≤ L.length) : (splice L off cs).take n = L.take n := by
  unfold splice
  rw [List.take_append_of_le_length (by simp; omega), List.take_take, Nat.min_eq_left h]

/-- append within the capacity, a step of a region that draws. -/
theorem step_append_fits {P : Program} {ops : Array Oper} {o : Oper} {a : Act} {w : World} {K : Act → World → Prop} {Q : Exit → Act → World → Prop} {E : Prop}
    (hg : o.guard = none) (s x : Operand) (t : TypeId) (hop : o.op = Op.call { callee := Callee.builtin Builtin.append, args := #[s, x], argTypes := #[t, t] })
    (e : TypeId) (i : TypeInfo) (size : Nat) (h1 : P.underlying t = some (.slice e)) (h2 : P.info? e = some i) (h4 : i.size = size)
    (base g n cap : Nat) (xs : List Value) (hs : a.eval s = .slice (some ⟨g, 0, none⟩) n cap) (hown : w.ownsRow base e size (.slice (some ⟨g, 0, none⟩) n cap) n xs)
    (xo : Option Addr) (m c : Nat) (news : List Value) (hx : a.eval x = .slice xo m c) (hn : news.length = m * size) (hxo : ∃ ad, xo = some ad ∧ ∀ j u, news[j]? = some u → w.cell? (ad.add j) = some u) (h1c : ∀ u ∈ news, u.oneCell' = true)
    (N : Nat) (hN : n + m = N) (hroom : N ≤ cap)
    (hK : ∀ w', w'.ownsRow base e size (.slice (some ⟨g, 0, none⟩) N cap) N (xs ++ news) → But g w w' → K (a.put o.dst (.slice (some ⟨g, 0, none⟩) N cap)) w') :
    if Region.wanted o (yielded ops a.tmps) = true then Oper.wp P o a w K Q else E := by
  have hw : Region.wanted o (yielded ops a.tmps) = true := by simp [Region.wanted, hg]
  rw [if_pos hw]
  subst hN
  obtain ⟨ad, rfl, hc⟩ := hxo
  obtain ⟨w', hrun, r1, r2⟩ := run_append_fits (P := P) w base t o.type e i size h1 h2 h4 g n cap xs hown ad m c news hn hc h1c hroom
  unfold Oper.wp
  simp [execOp, hop, resolve, invoke, builtin, hs, hx, hrun, Result.andThen]
  exact hK w' r1 ⟨r2.os, r2.tape, r2.output, r2.size, fun k hk hne => r2.block k hk (by intro g; exact hne (by simpa using g))⟩

/-- copy, a step of a region that draws. -/
theorem step_copy_k {P : Program} {ops : Array Oper} {o : Oper} {a : Act} {w : World} {K : Act → World → Prop} {Q : Exit → Act → World → Prop} {E : Prop} (hgd : o.guard = none) (d s : Operand) (dT sT : TypeId)
    (ho : o.op = .call { callee := .builtin .copy, args := #[d, s], argTypes := #[dT, sT] }) (elem : TypeId) (k : Nat) (hu : P.underlying dT = some (.slice elem)) (hsz : (P.info? elem).map (·.size) = some k)
    (dp sp : Option Addr) (dLen dCap sLen sCap : Nat) (hd : a.eval d = .slice dp dLen dCap) (hs : a.eval s = .slice sp sLen sCap)
    (g off : Nat) (cur : List Value) (t : TypeId) (hg : w.heap[g]? = some (.cells cur.toArray t (0, 0))) (cs : List Value) (m : Nat) (hm : Nat.min sLen dLen = m) (hn : cs.length = m * k)
    (hpos : 0 < m → dp = some ⟨g, off, none⟩ ∧ ∃ ad, sp = some ad ∧ ∀ j v, cs[j]? = some v → w.cell? (ad.add j) = some v)
    (hfit : off + cs.length ≤ cur.length) (h1 : ∀ v ∈ cs, v.oneCell' = true)
    (h : ∀ w', Hid (w'.heap[g]? = some (.cells (splice cur off cs).toArray t (0, 0))) → But g w w' → K (a.put o.dst (goInt m)) w') :
    if Region.wanted o (yielded ops a.tmps) = true then Oper.wp P o a w K Q else E := by
  have hw : Region.wanted o (yielded ops a.tmps) = true := by simp [Region.wanted, hgd]
  rw [if_pos hw]
  by_cases h0 : m = 0
  · subst h0
    obtain rfl : cs = [] := List.eq_nil_of_length_eq_zero (by simpa using hn)
    have hrun := run_copy_none_k (P := P) w dT sT o.type elem k dp sp dLen dCap sLen sCap hu hsz hm
    unfold Oper.wp
    simp [execOp, ho, resolve, invoke, builtin, hd, hs, hrun, Result.andThen]
    exact h w (show _ = _ by simpa [splice] using hg) (But.refl _ _)
  · obtain ⟨rfl, ad, rfl, hsrc⟩ := hpos (by omega)
    have hrun := run_copy_row_k (P := P) w dT sT o.type elem k g off dLen dCap ad sLen sCap cur.toArray t cs hu hsz hg (by rw [hm]; exact hn) hsrc (by simpa using hfit) h1
    rw [hm] at hrun
    unfold Oper.wp
    simp [execOp, ho, resolve, invoke, builtin, hd, hs, hrun, Result.andThen]
    exact h _ (show _ = _ by simpa [splice] using setRow_heap w g _ _ t _ hg) (by simpa using but_setRow w g _)

/-- clear of n elements that lie in a row. -/
theorem wpList_clear_k {P : Program} {w : World} {ops : Array Oper} {rest : List Oper} {o : Oper} {a : Act} {Q : Exit → Act → World → Prop} (hgd : o.guard = none) (s : Operand) (t : TypeId)
    (ho : o.op = .call { callee := .builtin .clear, args := #[s], argTypes := #[t] }) (e : TypeId) (z : Value) (k : Nat) (hu : P.underlying t = some (.slice e)) (hv : ∀ w, (zeroValue e).run P w = .ok z w) (hz : z.cells.size = k) (h1 : ∀ v ∈ z.cells, v.oneCell' = true)
    (sp : Option Addr) (n c : Nat) (hs : a.eval s = .slice sp n c) (g off : Nat) (cur : List Value) (hg : w.heap[g]? = some (.cells cur.toArray e (0, 0))) (hpos : 0 < n → sp = some ⟨g, off, none⟩) (hfit : off + n * k ≤ cur.length)
    (h : ∀ (w' : World) (cur' : List Value), Hid (w'.heap[g]? = some (.cells cur'.toArray e (0, 0)) ∧ cur'.length = cur.length ∧ cur'.take off = cur.take off) → But g w w' → wpList P ops Q rest (a.put o.dst (.tuple #[])) w') :
    wpList P ops Q (o :: rest) a w := by
  by_cases h0 : n = 0
  · subst h0
    refine wpList_plain hgd fun K hK => ?_
    have hrun : (Builtin.clear_ #[t] o.type #[.slice sp 0 c]).run P w = .ok (.tuple #[]) w := by
      cases sp <;> simp [Builtin.clear_, run_underlying hu]
    unfold Oper.wp
    simp [execOp, ho, resolve, invoke, builtin, hs, hrun, Result.andThen]
    exact hK _ _ (h w cur ⟨hg, rfl, rfl⟩ (But.refl _ _))
  · obtain rfl := hpos (by omega)
    refine wpList_plain hgd fun K hK => ?_
    obtain ⟨zs, hzs⟩ : ∃ zs, (Builtin.zeroCells z.cells n).toList = zs := ⟨_, rfl⟩
    have hzl : zs.length = n * k := by rw [← hzs, Array.length_toList, size_zeroCells, hz]
    have hz1 : ∀ v ∈ zs, v.oneCell' = true := by
      intro v hv'
      rw [← hzs] at hv'
      obtain ⟨j, hj, rfl⟩ := List.getElem_of_mem hv'
      have hk : 0 < z.cells.size := by
        rcases Nat.eq_zero_or_pos z.cells.size with g | g
        · rw [Array.length_toList, size_zeroCells, g] at hj; omega
        · exact g
      simp only [Array.getElem_toList, Builtin.zeroCells, Array.getElem_map, Array.getElem_range]
      rw [getElem!_pos z.cells _ (Nat.mod_lt _ hk)]
      exact h1 _ (Array.getElem_mem _)
    have hst := run_storeCells_at P g off e zs 0 cur.toArray w hg (by simp; omega) hz1
    have hrun : (Builtin.clear_ #[t] o.type #[.slice (some ⟨g, off, none⟩) n c]).run P w = .ok (.tuple #[]) (w.setRow g (cur.take off ++ zs ++ cur.drop (off + zs.length)).toArray) := by
      obtain ⟨m, rfl⟩ : ∃ m, n = m + 1 := ⟨n - 1, by omega⟩
      simp only [Nat.add_zero] at hst
      simp [Builtin.clear_, run_underlying hu, hv, hzs, hst]
    unfold Oper.wp
    simp [execOp, ho, resolve, invoke, builtin, hs, hrun, Result.andThen]
    refine hK _ _ (h _ (cur.take off ++ zs ++ cur.drop (off + zs.length)) ⟨?_, ?_, ?_⟩ ?_)
    · simpa using setRow_heap w g _ _ e _ hg
    · simp; omega
    · rw [List.append_assoc, List.take_append_of_le_length (by simp; omega), List.take_take, Nat.min_self]
    · simpa using but_setRow w g _

end Go.Proofs.YtpfafhgllabhbaaDoor.Kit

/-
  OWN TEXT. Worlds that differ in two blocks alone; a zone behind a pointer whose rows the call owns; over whatever program. A list without one of its blocks.
-/
namespace Go.Proofs.YtpfafhgllabhbaaDoor.Kit
open Go Go.RowKit

/-- Of what was there only the blocks g and z may differ. -/
structure Bu2 (g z : Nat) (w w' : World) : Prop where
  os : w'.os = w.os
  tape : w'.tape = w.tape
  output : w'.output = w.output
  size : w.heap.size ≤ w'.heap.size
  block : ∀ k, k < w.heap.size → k ≠ g → k ≠ z → w'.heap[k]? = w.heap[k]?
theorem Bu2.refl (g z : Nat) (w : World) : Bu2 g z w w := ⟨rfl, rfl, rfl, Nat.le_refl _, fun _ _ _ _ => rfl⟩
theorem Bu2.trans {g z : Nat} {w w' w'' : World} (h : Bu2 g z w w') (k : Bu2 g z w' w'') : Bu2 g z w w'' :=
  ⟨k.os.trans h.os, k.tape.trans h.tape, k.output.trans h.output, Nat.le_trans h.size k.size, fun j hj h1 h2 => (k.block j (Nat.lt_of_lt_of_le hj h.size) h1 h2).trans (h.block j hj h1 h2)⟩
theorem Bu2.of_but_g {g z : Nat} {w w' : World} (h : But g w w') : Bu2 g z w w' := ⟨h.os, h.tape, h.output, h.size, fun k hk h1 _ => h.block k hk h1⟩
theorem Bu2.of_but_z {g z : Nat} {w w' : World} (h : But z w w') : Bu2 g z w w' := ⟨h.os, h.tape, h.output, h.size, fun k hk _ h1 => h.block k hk h1⟩
theorem Bu2.of_below {g z : Nat} {w w' : World} (h : Below w.heap.size w w') : Bu2 g z w w' := ⟨h.os, h.tape, h.output, h.size, fun k hk _ _ => h.block k hk⟩
theorem Bu2.below {g z B : Nat} {w w' : World} (h : Bu2 g z w w') (hg : B ≤ g) (hz : B ≤ z) (hB : B ≤ w.heap.size) : Below B w w' := ⟨h.os, h.tape, h.output, h.size, fun k hk => h.block k (by omega) (by omega) (by omega)⟩
theorem Bu2.cell {g z c o : Nat} {v : Value} {w w' : World} (h : Bu2 g z w w') (hc : w.cell? ⟨c, o, none⟩ = some v) (h1 : c ≠ g) (h2 : c ≠ z) : w'.cell? ⟨c, o, none⟩ = some v :=
  (World.cell?_of_block (a := ⟨c, o, none⟩) (h.block c (World.block_lt_of_cell? w _ hc) h1 h2)).trans hc
theorem Bu2.zbox {g z b : Nat} {w w' : World} {x y u v : Value} (h : Bu2 g z w w') (hz : ZBox w b x y u v) (h1 : b ≠ g) (h2 : b ≠ z) : ZBox w' b x y u v := by
  have hb := h.block b hz.lt h1 h2
  exact ⟨h.cell hz.c0 h1 h2, h.cell hz.c1 h1 h2, h.cell hz.c2 h1 h2, h.cell hz.c3 h1 h2, (World.frozen?_of_block (a := ⟨b, 0, none⟩) hb).trans hz.z0, (World.frozen?_of_block (a := ⟨b, 1, none⟩) hb).trans hz.z1, (World.frozen?_of_block (a := ⟨b, 2, none⟩) hb).trans hz.z2, (World.frozen?_of_block (a := ⟨b, 3, none⟩) hb).trans hz.z3⟩
theorem Bu2.res {g z b : Nat} {w w' : World} (h : Bu2 g z w w') (hz : Res4 w b) (h1 : b ≠ g) (h2 : b ≠ z) : Res4 w' b := by
  obtain ⟨⟨v0, e0⟩, ⟨v1, e1⟩, ⟨v2, e2⟩, ⟨v3, e3⟩, z0, z1, z2, z3⟩ := hz
  exact (h.zbox ⟨e0, e1, e2, e3, z0, z1, z2, z3⟩ h1 h2).res
theorem Bu2.owns {g z b : Nat} {w w' : World} {base : Nat} {e : TypeId} {size n cap : Nat} {xs : List Value} (h : Bu2 g z w w') (ho : w.ownsRow base e size (.slice (some ⟨b, 0, none⟩) n cap) n xs) (h1 : b ≠ g) (h2 : b ≠ z) : w'.ownsRow base e size (.slice (some ⟨b, 0, none⟩) n cap) n xs := by
  obtain ⟨hb, hn, cur, R, ht⟩ := Row.of ho
  exact Row.owns ⟨(h.block b R.lt h1 h2).trans R.h, R.len, R.m⟩ hb hn ht
/-- The owned row may become another, new one. -/
theorem Bu2.moved {g g' z : Nat} {w w' w'' : World} (h : Bu2 g z w w') (k : Bu2 g' z w' w'') (hg : g' = g ∨ w.heap.size ≤ g') : Bu2 g z w w'' := by
  rcases hg with rfl | hg
  · exact h.trans k
  · exact ⟨k.os.trans h.os, k.tape.trans h.tape, k.output.trans h.output, Nat.le_trans h.size k.size, fun j hj h1 h2 => (k.block j (Nat.lt_of_lt_of_le hj h.size) (by omega) h2).trans (h.block j hj h1 h2)⟩

theorem own_but {w w' : World} {base : Nat} {e : TypeId} {g n cap size c : Nat} {xs : List Value} (h : w.ownsRow base e size (.slice (some ⟨g, 0, none⟩) n cap) n xs) (hb : But c w w') (hne : g ≠ c) :
    w'.ownsRow base e size (.slice (some ⟨g, 0, none⟩) n cap) n xs := by
  obtain ⟨h1, h2, cur, R, ht⟩ := Row.of h
  exact (R.but hb hne).owns h1 h2 ht

/-- Blocks that rise. -/
def Inc (l : List Bk) : Prop := l.Pairwise fun p q => p.a < q.a
theorem Inc.drop {l : List Bk} (h : Inc l) (a o : Int) : Inc (dropB l a o) := List.Pairwise.filter _ h
theorem inc_of_free {f t lo : Int} {pv : Option Bk} {l : List Bk} (h : FreeOk f t lo pv l) : Inc l := by
  suffices H : ∀ (l : List Bk) (lo : Int) (pv : Option Bk), FreeOk f t lo pv l → (∀ b ∈ l, lo ≤ b.a) ∧ Inc l from (H l lo pv h).2
  intro l
  induction l with
  | nil => intro lo pv _; exact ⟨fun b hb => by simp at hb, List.Pairwise.nil⟩
  | cons b l ih =>
    intro lo pv h
    obtain ⟨_, _, h3, _, h5⟩ := h
    obtain ⟨i1, i2⟩ := ih _ _ h5
    have hp := pw_pos b.o
    refine ⟨fun x hx => ?_, List.Pairwise.cons (fun x hx => by have := i1 x hx; omega) i2⟩
    rcases List.mem_cons.1 hx with rfl | hx
    · exact h3
    · have := i1 x hx; omega

theorem drop_none {l : List Bk} {a o : Int} (h : ∀ b ∈ l, isB a o b = false) : dropB l a o = l := by
  unfold dropB
  rw [List.filter_eq_self]
  intro b hb
  rw [h b hb]; rfl
theorem erase_eq {l : List Bk} (hI : Inc l) {a o : Int} {i : Nat} (hi : i < l.length) (h : isB a o (l.getD i .zero) = true) : l.eraseIdx i = dropB l a o := by
  induction l generalizing i with
  | nil => simp at hi
  | cons b l ih =>
    have hI' := List.pairwise_cons.1 hI
    cases i with
    | zero =>
      have hb : isB a o b = true := by simpa using h
      have e : b.a = a := (of_decide_eq_true hb).1
      have : dropB (b :: l) a o = dropB l a o := by unfold dropB; rw [List.filter_cons]; simp [hb]
      rw [this, drop_none (fun x hx => decide_eq_false (fun g => by have := hI'.1 x hx; rw [e, g.1] at this; omega))]
      rfl
    | succ i =>
      have h' : isB a o (l.getD i .zero) = true := by simpa using h
      have hi' : i < l.length := by simpa using hi
      have e : (l.getD i .zero).a = a := (of_decide_eq_true h').1
      have hm : l.getD i .zero ∈ l := by rw [List.getD_eq_getElem?_getD, List.getElem?_eq_getElem hi']; exact List.getElem_mem _
      have hb : isB a o b = false := decide_eq_false (fun g => by have := hI'.1 _ hm; rw [e, g.1] at this; omega)
      have : dropB (b :: l) a o = b :: dropB l a o := by unfold dropB; rw [List.filter_cons]; simp [hb]
      rw [this, List.eraseIdx_cons_succ, ih hI'.2 hi' h']

theorem has_of {l : List Bk} {a o : Int} {i : Nat} (hi : i < l.length) (h : isB a o (l.getD i .zero) = true) : hasB l a o = true := by
  unfold hasB
  rw [List.any_eq_true]
  exact ⟨l[i], List.getElem_mem _, by rw [List.getD_eq_getElem?_getD, List.getElem?_eq_getElem hi] at h; exact h⟩
theorem has_none {l : List Bk} {a o : Int} (h : ∀ j, j < l.length → isB a o (l.getD j .zero) = false) : hasB l a o = false := by
  unfold hasB
  rw [List.any_eq_false]
  intro x hx
  obtain ⟨i, hi, rfl⟩ := List.getElem_of_mem hx
  have := h i hi
  rw [List.getD_eq_getElem?_getD, List.getElem?_eq_getElem hi] at this
  simp only [Option.getD_some] at this
  simp [this]
theorem drop_len {l : List Bk} (hI : Inc l) {a o : Int} {i : Nat} (hi : i < l.length) (h : isB a o (l.getD i .zero) = true) : (dropB l a o).length + 1 = l.length := by
  rw [← erase_eq hI hi h, List.length_eraseIdx_of_lt hi]; omega

end Go.Proofs.YtpfafhgllabhbaaDoor.Kit

/-
  OWN TEXT. A zone behind a pointer whose two rows the call owns.
-/
namespace Go.Proofs.YtpfafhgllabhbaaDoor
open Go Go.RowKit Go.Proofs.YtpfafhgllabhbaaDoor.Kit

/-- A zone behind a pointer whose two rows the call owns. -/
structure Zo (w : World) (base zb g n cap k tn tk : Nat) (z : Zn) : Prop where
  box : ZBox w zb (.int .i64 z.f) (.int .i64 z.t) (.slice (some ⟨g, 0, none⟩) n cap) (.slice (some ⟨k, 0, none⟩) tn tk)
  own : w.ownsRow base 42 3 (.slice (some ⟨g, 0, none⟩) n cap) n (bvals z.free)
  typ : w.ownsRow base 3 1 (.slice (some ⟨k, 0, none⟩) tn tk) tn (vals z.types)
  gz : g ≠ zb
  kz : k ≠ zb
  gk : g ≠ k

theorem Zo.below {w w' : World} {base zb g n cap k tn tk : Nat} {z : Zn} (h : Zo w base zb g n cap k tn tk z) (hb : Below w.heap.size w w') : Zo w' base zb g n cap k tn tk z :=
  ⟨h.box.below hb, owns_below h.own hb (Nat.le_refl _), owns_below h.typ hb (Nat.le_refl _), h.gz, h.kz, h.gk⟩
theorem Zo.glt {w : World} {base zb g n cap k tn tk : Nat} {z : Zn} (h : Zo w base zb g n cap k tn tk z) : g < w.heap.size := (h.own.lt _ rfl).2
theorem Zo.klt {w : World} {base zb g n cap k tn tk : Nat} {z : Zn} (h : Zo w base zb g n cap k tn tk z) : k < w.heap.size := (h.typ.lt _ rfl).2

end Go.Proofs.YtpfafhgllabhbaaDoor

/-
  OWN TEXT. What a function knows that was handed a zone and answers one.
-/
namespace Go.Proofs.YtpfafhgllabhbaaDoor
open Go Go.RowKit Go.Proofs.YtpfafhgllabhbaaDoor.Kit

/-- What a function knows that was handed a zone and answers one: both boxes, the lists. -/
structure CbI (w : World) (fo : Option Addr) (fn fc : Nat) (to_ : Option Addr) (tn tc : Nat) (z : Zn) (W : World) : Prop where
  b : Below w.heap.size w W
  box : ZBox W w.heap.size (.int .i64 z.f) (.int .i64 z.t) (.slice fo fn fc) (.slice to_ tn tc)
  zn : ZnAt W fo fn to_ tn z
  res : Res4 W (w.heap.size + 1)
  size : w.heap.size + 2 ≤ W.heap.size
theorem CbI.step {w : World} {fo : Option Addr} {fn fc : Nat} {to_ : Option Addr} {tn tc : Nat} {z : Zn} {W W' : World} (h : CbI w fo fn fc to_ tn tc z W) (hb : Below W.heap.size W W') : CbI w fo fn fc to_ tn tc z W' :=
  ⟨h.b.trans (hb.mono h.b.size), h.box.below hb, h.zn.below hb, h.res.below hb, Nat.le_trans h.size hb.size⟩
theorem cbI_first (w : World) (fo : Option Addr) (fn fc : Nat) (to_ : Option Addr) (tn tc : Nat) (z : Zn) (h : ZnAt w fo fn to_ tn z) : CbI w fo fn fc to_ tn tc z ((w.alloc (.cells #[.int .i64 z.f, .int .i64 z.t, .slice fo fn fc, .slice to_ tn tc] 25)).alloc (.cells #[.int .i64 0, .int .i64 0, .slice none 0 0, .slice none 0 0] 25)) := by
  have hb2 : Below w.heap.size w ((w.alloc (.cells #[.int .i64 z.f, .int .i64 z.t, .slice fo fn fc, .slice to_ tn tc] 25)).alloc (.cells #[.int .i64 0, .int .i64 0, .slice none 0 0, .slice none 0 0] 25)) := ((Below.refl _ _).alloc (Nat.le_refl _) _).alloc (by simp) _
  refine ⟨hb2, (zbox_new w _ _ _ _ _).below (below_box _ _), h.below hb2, ?_, by simp⟩
  have := zbox_new (w.alloc (.cells #[.int .i64 z.f, .int .i64 z.t, .slice fo fn fc, .slice to_ tn tc] 25)) (.int .i64 0) (.int .i64 0) (.slice none 0 0) (.slice none 0 0) 25
  have h2 := this.res
  simpa using h2

/-- The copy in a variable of its own. -/
theorem zo_new {w3 : World} {B g k fn tn : Nat} {z : Zn} (o1 : w3.ownsRow B 42 3 (.slice (some ⟨g, 0, none⟩) fn fn) fn (bvals z.free)) (o2 : w3.ownsRow B 3 1 (.slice (some ⟨k, 0, none⟩) tn tn) tn (vals z.types)) (hgk : g ≠ k) :
    Zo (w3.alloc (.cells #[.int .i64 z.f, .int .i64 z.t, .slice (some ⟨g, 0, none⟩) fn fn, .slice (some ⟨k, 0, none⟩) tn tn] 25)) B w3.heap.size g fn fn k tn tn z := by
  have hbx := below_box w3 (.cells #[.int .i64 z.f, .int .i64 z.t, .slice (some ⟨g, 0, none⟩) fn fn, .slice (some ⟨k, 0, none⟩) tn tn] 25)
  have h1 : g < w3.heap.size := (o1.lt _ rfl).2
  have h2 : k < w3.heap.size := (o2.lt _ rfl).2
  exact ⟨zbox_new _ _ _ _ _ _, owns_below o1 hbx (Nat.le_refl _), owns_below o2 hbx (Nat.le_refl _), by omega, by omega, hgk⟩

end Go.Proofs.YtpfafhgllabhbaaDoor

/-
  OWN TEXT. What stays free of a block that is halved: plain mathematics.
-/
namespace Go.Proofs.YtpfafhgllabhbaaDoor.Kit

/-- The upper halves, by places: m of them, from order o on. -/
def halvesL (a t o : Int) : Nat → List Bk
  | 0 => []
  | m + 1 => halvesL a t o m ++ [⟨a + pw (o + m), o + m, t⟩]
theorem halvesL_len (a t o : Int) (m : Nat) : (halvesL a t o m).length = m := by
  induction m with
  | zero => rfl
  | succ m ih => simp [halvesL, ih]

end Go.Proofs.YtpfafhgllabhbaaDoor.Kit

/-
  OWN TEXT. A block that is taken: the first that fits, and the halves that go back one by one: plain mathematics.
-/
namespace Go.Proofs.YtpfafhgllabhbaaDoor.Kit

theorem fidx_ge (g : Bk → Bool) (l : List Bk) : -1 ≤ fidx g l := by
  induction l with
  | nil => exact Int.le_refl (-1)
  | cons b l ih =>
    unfold fidx
    split
    · decide
    · split
      · decide
      · omega

theorem pw_succ (o : Int) (h : 0 ≤ o) : pw (o + 1) = 2 * pw o := by
  unfold pw
  have e : (o + 1).toNat = o.toNat + 1 := by omega
  rw [e, Nat.pow_succ]
  omega

/-- The first that fits stands at the first place. -/
theorem find_fidx (g : Bk → Bool) (l : List Bk) : l.find? g = if 0 ≤ fidx g l then some (l.getD (fidx g l).toNat .zero) else none := by
  induction l with
  | nil => rfl
  | cons b l ih =>
    by_cases hb : g b = true
    · rw [List.find?_cons_of_pos hb]
      unfold fidx
      rw [if_pos hb]
      rfl
    · rw [List.find?_cons_of_neg hb, ih]
      have hge := fidx_ge g l
      conv => rhs; unfold fidx
      rw [if_neg hb]
      by_cases hn : fidx g l < 0
      · rw [if_pos hn, if_neg (by omega), if_neg (by decide)]
      · rw [if_neg hn, if_pos (by omega), if_pos (by omega)]
        have e : (fidx g l + 1).toNat = (fidx g l).toNat + 1 := by omega
        rw [e]
        rfl

/-- A block goes between those that begin not later and those that begin later. -/
theorem addB_mid (p q : List Bk) (h : Bk) (hp : ∀ x ∈ p, x.a ≤ h.a) (hq : ∀ x ∈ q, h.a < x.a) : addB (p ++ q) h = p ++ h :: q := by
  induction p with
  | nil =>
    cases q with
    | nil => rfl
    | cons y q =>
      have := hq y (by simp)
      show (if y.a > h.a then h :: y :: q else y :: addB q h) = _
      rw [if_pos (by omega)]
      rfl
  | cons x p ih =>
    have := hp x (by simp)
    show (if x.a > h.a then h :: x :: (p ++ q) else x :: addB (p ++ q) h) = _
    rw [if_neg (by omega), ih (fun y hy => hp y (by simp [hy]))]
    rfl

/-- The upper halves put back one by one, the greatest first. -/
def putH (a t o : Int) : Nat → List Bk → List Bk
  | 0, l => l
  | m + 1, l => putH a t o m (addB l ⟨a + pw (o + m), o + m, t⟩)

theorem putH_mid (a t o : Int) (ho : 0 ≤ o) (p : List Bk) (hp : ∀ x ∈ p, x.a ≤ a) (m : Nat) (q : List Bk) (hq : ∀ x ∈ q, a + pw (o + m) ≤ x.a) :
    putH a t o m (p ++ q) = p ++ halvesL a t o m ++ q := by
  induction m generalizing q with
  | zero => simp [putH, halvesL]
  | succ m ih =>
    have hs : pw (o + (m + 1 : Nat)) = 2 * pw (o + m) := by
      have : o + ((m + 1 : Nat) : Int) = (o + m) + 1 := by omega
      rw [this]
      exact pw_succ (o + m) (by omega)
    have hpos := pw_pos (o + m)
    unfold putH halvesL
    rw [addB_mid p q _ (fun x hx => by have := hp x hx; show x.a ≤ a + pw (o + m); omega) (fun x hx => by have := hq x hx; show a + pw (o + m) < x.a; omega)]
    rw [ih (⟨a + pw (o + m), o + m, t⟩ :: q)]
    · simp
    · intro x hx
      rcases List.mem_cons.1 hx with rfl | hx
      · exact Int.le_refl _
      · have := hq x hx
        omega

theorem dropB_mid (p q : List Bk) (b : Bk) (hp : ∀ x ∈ p, x.a ≠ b.a) (hq : ∀ x ∈ q, x.a ≠ b.a) : dropB (p ++ b :: q) b.a b.o = p ++ q := by
  have k : ∀ l : List Bk, (∀ x ∈ l, x.a ≠ b.a) → l.filter (fun x => !isB b.a b.o x) = l := fun l hl => List.filter_eq_self.2 fun x hx => by
    have := hl x hx
    simp [isB, this]
  unfold dropB
  rw [List.filter_append, k p hp, List.filter_cons, k q hq]
  simp [isB]

/-- Taking a block out and putting its upper halves back is putting them in its place. -/
theorem take_place (p q : List Bk) (b : Bk) (t o : Int) (ho : 0 ≤ o) (hob : o ≤ b.o) (hr : (p ++ b :: q).Pairwise fun x y => x.a + pw x.o ≤ y.a) :
    putH b.a t o (b.o - o).toNat (dropB (p ++ b :: q) b.a b.o) = p ++ halvesL b.a t o (b.o - o).toNat ++ q := by
  obtain ⟨_, h2, h3⟩ := List.pairwise_append.1 hr
  obtain ⟨h4, _⟩ := List.pairwise_cons.1 h2
  have hpb : ∀ x ∈ p, x.a + pw x.o ≤ b.a := fun x hx => h3 x hx b (by simp)
  have hpos := pw_pos b.o
  rw [dropB_mid p q b (fun x hx => by have := hpb x hx; have := pw_pos x.o; omega) (fun x hx => by have := h4 x hx; omega)]
  have e : o + ((b.o - o).toNat : Int) = b.o := by omega
  exact putH_mid b.a t o ho p (fun x hx => by have := hpb x hx; have := pw_pos x.o; omega) _ q (fun x hx => by rw [e]; exact h4 x hx)

end Go.Proofs.YtpfafhgllabhbaaDoor.Kit

/-
  OWN TEXT. A block has a page in common with one of a list; what it is to be decided by a look at each.
-/
namespace Go.Proofs.YtpfafhgllabhbaaDoor.Kit

/-- Another block has a page of it. -/
def ovlP (l : List Bk) (a o : Int) : Prop := ∃ i, i < l.length ∧ (l.getD i .zero).a < a + pw o ∧ a < (l.getD i .zero).a + pw (l.getD i .zero).o

/-- One block has a page below E, and one above a. -/
def ovl1 (E a : Int) (b : Bk) : Bool := decide (b.a < E ∧ a < b.a + pw b.o)
theorem ovl_any (l : List Bk) (a o : Int) : l.any (ovl1 (a + pw o) a) = true ↔ ovlP l a o := by
  rw [List.any_eq_true]
  constructor
  · rintro ⟨x, hx, h⟩
    obtain ⟨i, hi, rfl⟩ := List.getElem_of_mem hx
    have := of_decide_eq_true h
    refine ⟨i, hi, ?_⟩
    rw [List.getD_eq_getElem?_getD, List.getElem?_eq_getElem hi]
    exact this
  · rintro ⟨i, hi, h⟩
    rw [List.getD_eq_getElem?_getD, List.getElem?_eq_getElem hi] at h
    exact ⟨l[i], List.getElem_mem _, decide_eq_true h⟩

end Go.Proofs.YtpfafhgllabhbaaDoor.Kit

/-
  OWN TEXT. A zone that may be stays one when a block comes back: plain mathematics.
-/
namespace Go.Proofs.YtpfafhgllabhbaaDoor.Kit

/-- The first one ends ahead of the second one, and they are not beside each other. -/
def Ahead (p q : Bk) : Prop := p.a + pw p.o ≤ q.a ∧ ¬ besideP p q
/-- Each of them may be in the zone. -/
def AllIn (f t : Int) (l : List Bk) : Prop := ∀ b ∈ l, blkIn f t b.a b.o ∧ typeOk b.t

theorem freeOk_pw {f t lo : Int} {pv : Option Bk} {l : List Bk} (h : FreeOk f t lo pv l) : AllIn f t l ∧ (∀ b ∈ l, lo ≤ b.a) ∧ l.Pairwise Ahead := by
  induction l generalizing lo pv with
  | nil => exact ⟨fun b hb => by simp at hb, fun b hb => by simp at hb, List.Pairwise.nil⟩
  | cons b l ih =>
    obtain ⟨h1, h2, h3, _, h5⟩ := h
    obtain ⟨i1, i2, i3⟩ := ih h5
    have hp := pw_pos b.o
    refine ⟨fun x hx => ?_, fun x hx => ?_, List.Pairwise.cons (fun x hx => ⟨i2 x hx, ?_⟩) i3⟩
    · rcases List.mem_cons.1 hx with rfl | hx
      · exact ⟨h1, h2⟩
      · exact i1 x hx
    · rcases List.mem_cons.1 hx with rfl | hx
      · exact h3
      · have := i2 x hx; omega
    · cases l with
      | nil => simp at hx
      | cons c l =>
        obtain ⟨_, _, k3, k4, _⟩ := h5
        rcases List.mem_cons.1 hx with rfl | hx
        · exact k4 b rfl
        · have := (List.pairwise_cons.1 i3).1 x hx
          rintro ⟨_, e2, e3, _⟩
          have := this.1
          have hc := pw_pos c.o
          rw [← e2] at e3
          omega

theorem freeOk_of {f t lo : Int} {pv : Option Bk} {l : List Bk} (h1 : AllIn f t l) (h2 : ∀ b ∈ l, lo ≤ b.a) (h3 : l.Pairwise Ahead) (h4 : ∀ p, pv = some p → ∀ b ∈ l, ¬ besideP p b) : FreeOk f t lo pv l := by
  induction l generalizing lo pv with
  | nil => trivial
  | cons b l ih =>
    have hb := h1 b (by simp)
    have hp := List.pairwise_cons.1 h3
    exact ⟨hb.1, hb.2, h2 b (by simp), fun p e => h4 p e b (by simp), ih (fun x hx => h1 x (by simp [hx])) (fun x hx => (hp.1 x hx).1) hp.2 (fun p e x hx => by cases e; exact (hp.1 x hx).2)⟩

theorem free_iff {f t : Int} {l : List Bk} : FreeOk f t f none l ↔ AllIn f t l ∧ l.Pairwise Ahead :=
  ⟨fun h => ⟨(freeOk_pw h).1, (freeOk_pw h).2.2⟩, fun ⟨h1, h2⟩ => freeOk_of h1 (fun b hb => (h1 b hb).1.2.1) h2 (fun p e => by cases e)⟩

/-- It has no page in common with any of them. -/
def NoOv (l : List Bk) (a o : Int) : Prop := ∀ b ∈ l, b.a + pw b.o ≤ a ∨ a + pw o ≤ b.a
theorem noOv_of {l : List Bk} {a o : Int} (h : ¬ ovlP l a o) : NoOv l a o := by
  intro b hb
  obtain ⟨i, hi, rfl⟩ := List.getElem_of_mem hb
  by_cases h1 : l[i].a + pw l[i].o ≤ a
  · exact .inl h1
  · by_cases h2 : a + pw o ≤ l[i].a
    · exact .inr h2
    · exact absurd ⟨i, hi, by rw [List.getD_eq_getElem?_getD, List.getElem?_eq_getElem hi]; exact ⟨by simp only [Option.getD_some]; omega, by simp only [Option.getD_some]; omega⟩⟩ h

theorem ahead_or {l : List Bk} (h : l.Pairwise Ahead) {p q : Bk} (hp : p ∈ l) (hq : q ∈ l) (hne : ¬ (p.a = q.a ∧ p.o = q.o)) : Ahead p q ∨ Ahead q p := by
  obtain ⟨i, hi, rfl⟩ := List.getElem_of_mem hp
  obtain ⟨j, hj, rfl⟩ := List.getElem_of_mem hq
  rw [List.pairwise_iff_getElem] at h
  by_cases e : i < j
  · exact .inl (h i j hi hj e)
  · by_cases g : j < i
    · exact .inr (h j i hj hi g)
    · obtain rfl : i = j := by omega
      exact absurd ⟨rfl, rfl⟩ hne

theorem beside_cases {a o : Int} (h0 : 0 ≤ o) (h4 : o < 4) (hm : a % pw o = 0) : pw (o + 1) = 2 * pw o ∧ ((a % pw (o + 1) = 0 ∧ besideA a o = a + pw o) ∨ (¬ a % pw (o + 1) = 0 ∧ besideA a o = a - pw o ∧ a % pw (o + 1) = pw o)) := by
  rcases (show o = 0 ∨ o = 1 ∨ o = 2 ∨ o = 3 by omega) with rfl | rfl | rfl | rfl
  all_goals
    unfold besideA
    simp only [pw_0, pw_1, pw_2, pw_3, pw_4, show (0 : Int) + 1 = 1 from rfl, show (1 : Int) + 1 = 2 from rfl, show (2 : Int) + 1 = 3 from rfl, show (3 : Int) + 1 = 4 from rfl] at hm ⊢
    refine ⟨by omega, ?_⟩
    split
    · exact .inl ⟨by assumption, rfl⟩
    · exact .inr ⟨by assumption, rfl, by omega⟩

/-- What holds of a block that comes back, while it is joined. -/
structure GoI (f t : Int) (l : List Bk) (a o : Int) : Prop where
  all : AllIn f t l
  pw : l.Pairwise Ahead
  blk : blkIn f t a o
  no : NoOv l a o

theorem go_step {f t : Int} {l : List Bk} {a o : Int} (h : GoI f t l a o) (ho : o < 4) (hb : hasB l (besideA a o) o = true) : GoI f t (dropB l (besideA a o) o) (if besideA a o < a then besideA a o else a) (o + 1) := by
  obtain ⟨⟨o0, o4⟩, a1, a2, a3⟩ := h.blk
  have hbi : blkIn f t (besideA a o) o := hasB_in hb (fun b hb => (h.all b hb).1)
  refine ⟨fun b hb => h.all b (dropB_mem hb), List.Pairwise.filter _ h.pw, join_in h.blk hbi ho, fun b hb' => ?_⟩
  have hbl := dropB_mem hb'
  have hnb : isB (besideA a o) o b = false := by
    have := (List.mem_filter.1 hb').2
    simpa using this
  have hno := h.no b hbl
  unfold hasB at hb
  rw [List.any_eq_true] at hb
  obtain ⟨x, hx, hxi⟩ := hb
  obtain ⟨x1, x2⟩ := of_decide_eq_true hxi
  have hor := ahead_or h.pw hbl hx (by rw [x1, x2]; exact of_decide_eq_false hnb)
  have hp := pw_pos b.o
  have hpo := pw_pos o
  obtain ⟨e2, hc⟩ := beside_cases o0 ho a3
  rw [e2]
  unfold Ahead at hor
  rw [x1, x2] at hor
  rcases hc with ⟨_, hc⟩ | ⟨_, hc, _⟩
  · rw [hc] at hor ⊢
    rw [if_neg (by omega)]
    rcases hor with ⟨g, _⟩ | ⟨g, _⟩ <;> omega
  · rw [hc] at hor ⊢
    rw [if_pos (by omega)]
    rcases hor with ⟨g, _⟩ | ⟨g, _⟩ <;> omega

/-- What holds when it is joined. -/
theorem go_all {f t : Int} : ∀ (n : Nat) (l : List Bk) (a o : Int), (4 - o).toNat = n → GoI f t l a o →
    GoI f t (backGo n l a o).1 (backGo n l a o).2.1 (backGo n l a o).2.2 ∧ ((backGo n l a o).2.2 = 4 ∨ hasB (backGo n l a o).1 (besideA (backGo n l a o).2.1 (backGo n l a o).2.2) (backGo n l a o).2.2 = false) := by
  intro n
  induction n with
  | zero =>
    intro l a o hn h
    have := h.blk.1.2
    exact ⟨h, .inl (by show o = 4; omega)⟩
  | succ n ih =>
    intro l a o hn h
    unfold backGo
    by_cases hb : hasB l (besideA a o) o = true
    · rw [if_pos hb]
      exact ih _ _ _ (by omega) (go_step h (by omega) hb)
    · rw [if_neg hb]
      exact ⟨h, .inr (by simpa using hb)⟩

theorem mem_addB {l : List Bk} {b x : Bk} : x ∈ addB l b ↔ x = b ∨ x ∈ l := by
  induction l with
  | nil => simp [addB]
  | cons y l ih =>
    unfold addB
    split
    · simp
    · simp only [List.mem_cons, ih]
      constructor
      · rintro (h | h | h)
        · exact .inr (.inl h)
        · exact .inl h
        · exact .inr (.inr h)
      · rintro (h | h | h)
        · exact .inr (.inl h)
        · exact .inl h
        · exact .inr (.inr h)

theorem addB_pw {l : List Bk} {b : Bk} (h : l.Pairwise Ahead) (hno : NoOv l b.a b.o) (h1 : ∀ x ∈ l, ¬ besideP x b) (h2 : ∀ x ∈ l, ¬ besideP b x) : (addB l b).Pairwise Ahead := by
  have hp := pw_pos b.o
  induction l with
  | nil => exact List.pairwise_singleton _ _
  | cons x l ih =>
    have hx := List.pairwise_cons.1 h
    have hpx := pw_pos x.o
    have hnx := hno x (by simp)
    unfold addB
    split
    · rename_i hg
      refine List.Pairwise.cons (fun y hy => ⟨?_, h2 y hy⟩) h
      have hny := hno y hy
      rcases List.mem_cons.1 hy with rfl | hy'
      · omega
      · have := (hx.1 y hy').1
        have hpy := pw_pos y.o
        omega
    · rename_i hg
      refine List.Pairwise.cons (fun y hy => ?_) (ih hx.2 (fun y hy => hno y (by simp [hy])) (fun y hy => h1 y (by simp [hy])) (fun y hy => h2 y (by simp [hy])))
      rcases mem_addB.1 hy with rfl | hy
      · exact ⟨by omega, h1 x (by simp)⟩
      · exact hx.1 y hy

/-- A ZONE THAT MAY BE stays one when a block comes back. -/
theorem backZ_may {z : Zn} {a o : Int} (h : ZMay z) (hA : blkIn z.f z.t a o) (hv : ¬ ovlP z.free a o) : ZMay (backZ z a o) := by
  obtain ⟨q1, q2⟩ := free_iff.1 h.free
  obtain ⟨G, hl⟩ := go_all (f := z.f) (t := z.t) (4 - o).toNat z.free a o rfl ⟨q1, q2, hA, noOv_of hv⟩
  obtain ⟨R, hR⟩ : ∃ R, backGo (4 - o).toNat z.free a o = R := ⟨_, rfl⟩
  have hz : backZ z a o = ⟨z.f, z.t, addB R.1 ⟨R.2.1, R.2.2, z.types.getD ((R.2.1 - z.f) / 8).toNat 0⟩, z.types⟩ := by unfold backZ; rw [hR]
  rw [hR] at G hl
  obtain ⟨⟨o0, o4⟩, a1, a2, a3⟩ := G.blk
  have hlen := h.len
  have hty : typeOk (z.types.getD ((R.2.1 - z.f) / 8).toNat 0) := h.ty _ (by omega)
  rw [hz]
  refine ⟨h.new, h.len, h.ty, free_iff.2 ⟨fun b hb => ?_, addB_pw G.pw G.no (fun x hx => ?_) (fun x hx => ?_)⟩⟩
  · rcases mem_addB.1 hb with rfl | hb
    · exact ⟨G.blk, hty⟩
    · exact G.all b hb
  · rintro ⟨b1, b2, b3, b4⟩
    dsimp only at b1 b2 b3 b4
    obtain ⟨_, hc⟩ := beside_cases o0 b1 a3
    have hh : besideA R.2.1 R.2.2 = x.a := by
      rcases hc with ⟨g, _⟩ | ⟨_, g, _⟩
      · exfalso
        rw [← b3] at g
        rcases (show R.2.2 = 0 ∨ R.2.2 = 1 ∨ R.2.2 = 2 ∨ R.2.2 = 3 by omega) with e | e | e | e
        all_goals
          rw [e] at g b4
          simp only [pw_0, pw_1, pw_2, pw_3, pw_4, show (0 : Int) + 1 = 1 from rfl, show (1 : Int) + 1 = 2 from rfl, show (2 : Int) + 1 = 3 from rfl, show (3 : Int) + 1 = 4 from rfl] at g b4
          omega
      · omega
    rcases hl with g | g
    · omega
    · rw [hh] at g
      unfold hasB at g
      rw [List.any_eq_false] at g
      exact g x hx (decide_eq_true ⟨rfl, b2⟩)
  · rintro ⟨b1, b2, b3, b4⟩
    dsimp only at b1 b2 b3 b4
    rw [← b2] at b1 b3 b4
    have hh : besideA R.2.1 R.2.2 = x.a := by unfold besideA; rw [if_pos b4]; exact b3
    rcases hl with g | g
    · omega
    · rw [hh] at g
      unfold hasB at g
      rw [List.any_eq_false] at g
      exact g x hx (decide_eq_true ⟨rfl, b2.symm⟩)

end Go.Proofs.YtpfafhgllabhbaaDoor.Kit
