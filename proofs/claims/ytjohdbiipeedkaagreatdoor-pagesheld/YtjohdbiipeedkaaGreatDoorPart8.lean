/-
  OWN TEXTS.
-/
import Derived.Test.YtjohdbiipeedkaaGreatDoorPart7
set_option maxRecDepth 10000
set_option maxHeartbeats 4000000
namespace Go.Proofs.YtjohdbiipeedkaaGreatDoor
open Go Go.RowKit Go.Proofs.YtjohdbiipeedkaaGreatDoor.Kit
theorem found_at {e : Ending} {l : List Bk} {g : Bk → Bool} (h : FoundAt e l g) : e = .returned (.int .i64 (fidx g l)) := by
 rcases h with ⟨k, hk, rfl, h1, h2⟩ | ⟨rfl, h⟩
 ·rw [fidx_some hk h1 h2]
 rw [fidx_none h]
theorem chooseF_any (W : World) (b1 b2 : Nat) (o t : Int) (ba bo bt : Int) (c1 : W.cell? ⟨b1, 0, none⟩ = some (.int .i64 o)) (c2 : W.cell? ⟨b2, 0, none⟩ = some (.int .i64 t)) :
    Calls Tryz.prog 119 (#[.agg #[.int .i64 ba, .int .i64 bo, .int .i64 bt]] ++ #[.pointer (some ⟨b1, 0, none⟩), .pointer (some ⟨b2, 0, none⟩)]) W fun e W' => e = .returned (.bool (isT o t ⟨ba, bo, bt⟩)) ∧ Below W.heap.size W W' := by
 have hb0 := below_box W (.cells #[.int .i64 ba, .int .i64 bo, .int .i64 bt] 40)
 have d1 := keep c1 hb0
 have d2 := keep c2 hb0
 clear c1 c2
 by_cases g1 : bo = o
 ·have HF : Hid ((bt == t) = isT o t ⟨ba, bo, bt⟩) := by
   show _ = decide (_ ∧ _)
   rw [show (bt == t) = decide (bt = t) from rfl]
   simp [g1]
  have g1' : (bo == o) = true := by simpa using g1
  clear g1
  go_enter Tryz.func119, Tryz.ntmps119
  go_wp2
  go_ret
  exact ⟨ret_bool HF.out, hb0⟩
 have HF : Hid (false = isT o t ⟨ba, bo, bt⟩) := by
  show _ = decide (_ ∧ _)
  simp [g1]
 have g1' : (bo == o) = false := by simpa using g1
 clear g1
 go_enter Tryz.func119, Tryz.ntmps119
 go_wp2
 go_ret
 exact ⟨ret_bool HF.out, hb0⟩
theorem chooseF_call (args : Array Value) (W : World) : (callFunc 119 args).run Tryz.prog W = .ok (.enter 119 args) W := by kernel_rfl
theorem chooseL_any (W : World) (fb : Nat) (fo : Option Addr) (fn fc : Nat) (l : List Bk) (o t : Int) (c : W.cell? ⟨fb, 0, none⟩ = some (.slice fo fn fc)) (h : Blks W fo fn l) :
    Calls Tryz.prog 118 (#[.int .i64 o, .int .i64 t] ++ #[.pointer (some ⟨fb, 0, none⟩)]) W fun e W' => e = .returned (.int .i64 (fidx (isT o t) l)) ∧ Below W.heap.size W W' := by
 have hb0 : Below W.heap.size W ((W.alloc (.cells #[.int .i64 o] 3)).alloc (.cells #[.int .i64 t] 3)) := ((Below.refl _ _).alloc (Nat.le_refl _) _).alloc (by simp) _
 have p1 : ((W.alloc (.cells #[.int .i64 o] 3)).alloc (.cells #[.int .i64 t] 3)).cell? ⟨W.heap.size, 0, none⟩ = some (.int .i64 o) := by go_simp
 have p2 : ((W.alloc (.cells #[.int .i64 o] 3)).alloc (.cells #[.int .i64 t] 3)).cell? ⟨W.heap.size + 1, 0, none⟩ = some (.int .i64 t) := by go_simp
 have c' := keep c hb0
 have HI := bIndex_any _ 119 #[.pointer (some ⟨W.heap.size, 0, none⟩), .pointer (some ⟨W.heap.size + 1, 0, none⟩)] fo fn fc l (isT o t) (h.below hb0) chooseF_call (fun i hi V hb => chooseF_any V _ _ o t _ _ _ (keep p1 hb) (keep p2 hb))
 go_enter Tryz.func118, Tryz.ntmps118
 go_wp2_with fail
 go_at_call 39
 refine HI.mono ?_
 rintro e w1 ⟨hf, hb⟩
 obtain rfl := found_at hf
 clear HI
 go_wp2
 go_ret
 exact ⟨rfl, hb0.trans (hb.mono hb0.size)⟩
theorem ix0 (W : World) (x y : Int) : (Instr.index 147 (.agg #[.int .i64 x, .int .i64 y]) (.int .i64 0)).run Tryz.prog W = .ok (.int .i64 x) W := by
 kernel_rfl
theorem ix1 (W : World) (x y : Int) : (Instr.index 147 (.agg #[.int .i64 x, .int .i64 y]) (.int .i64 1)).run Tryz.prog W = .ok (.int .i64 y) W := by
 kernel_rfl
structure TabAt (w : World) : Prop where
 a0 : w.cell? ⟨0, 0, none⟩ = some (.int .i64 2)
 a1 : w.cell? ⟨0, 1, none⟩ = some (.int .i64 1)
 a2 : w.cell? ⟨0, 2, none⟩ = some (.int .i64 2)
 a3 : w.cell? ⟨0, 3, none⟩ = some (.int .i64 0)
 a4 : w.cell? ⟨0, 4, none⟩ = some (.int .i64 0)
 a5 : w.cell? ⟨0, 5, none⟩ = some (.int .i64 1)
theorem TabAt.below {w w' : World} (h : TabAt w) (hb : Below w.heap.size w w') : TabAt w' := ⟨keep h.a0 hb, keep h.a1 hb, keep h.a2 hb, keep h.a3 hb, keep h.a4 hb, keep h.a5 hb⟩
theorem choose_any (w : World) (fo : Option Addr) (fn fc : Nat) (l : List Bk) (o t : Int) (h : Blks w fo fn l) (hT : TabAt w) (ho : ordOk o) (ht : typeOk t) :
    Calls Tryz.prog 107 #[.slice fo fn fc, .int .i64 o, .int .i64 t] w fun e w' => e = .returned (.int .i64 (chooseI l o t)) ∧ Below w.heap.size w w' := by
 obtain ⟨o0, o4⟩ := ho
 obtain ⟨t0, t2⟩ := ht
 have i0 := ix0
 have i1 := ix1
 have hb0 := below_box w (.cells #[.slice fo fn fc] 32)
 have p1 : (w.alloc (.cells #[.slice fo fn fc] 32)).cell? ⟨w.heap.size, 0, none⟩ = some (.slice fo fn fc) := by go_simp
 obtain ⟨W0, hW0⟩ : ∃ W0, w.alloc (.cells #[.slice fo fn fc] 32) = W0 := ⟨_, rfl⟩
 rw [hW0] at hb0 p1
 have HW0 : Hid _ := hW0
 have hB0 := h.below hb0
 have T0 := hT.below hb0
 obtain ⟨U, hU⟩ : ∃ U, upI l t (5 - o).toNat o = U := ⟨_, rfl⟩
 have HU : Hid (upI l t (5 - o).toNat o = U) := hU
 obtain ⟨D, hD⟩ : ∃ D, dnI l (other1 t) (other2 t) o (5 - o).toNat = D := ⟨_, rfl⟩
 have HD : Hid (dnI l (other1 t) (other2 t) o (5 - o).toNat = D) := hD
 have HCh : Hid (chooseI l o t = if 0 ≤ U then U else D) := by show _ = _; unfold chooseI; rw [hU, hD]
 clear hD
 clear hW0 hU
 go_enter Tryz.func107, Tryz.ntmps107
 go_wp2_with (rw [HW0.out])
 clear HW0
 go_loopw [8] (fun ov wr => ∃ O : Int, ov = .int .i64 O ∧ o ≤ O ∧ O ≤ 5 ∧ Hid (upI l t (5 - O).toNat O = U) ∧ Below W0.heap.size W0 wr) (fun ov _ => (5 - intOf ov).toNat)
 case atStart => exact ⟨o, rfl, by omega, by omega, HU, Below.refl _ _⟩
 case round =>
  obtain ⟨O, rfl, h1, h2, hG, hb⟩ := hrel
  clear HU
  have pW := keep p1 hb
  by_cases hlt : O ≤ 4
  ·have HL := chooseL_any wr w.heap.size fo fn fc l O t pW (hB0.below hb)
   obtain ⟨m, hm⟩ : ∃ m, (5 - O).toNat = m + 1 := ⟨(5 - O).toNat - 1, by omega⟩
   have hm2 : (5 - (O + 1)).toNat = m := by omega
   have hG1 : Hid ((if 0 ≤ fidx (isT O t) l then fidx (isT O t) l else upI l t m (O + 1)) = U) := by have := hG.out; rw [hm] at this; exact this
   obtain ⟨X, hX⟩ : ∃ X, fidx (isT O t) l = X := ⟨_, rfl⟩
   rw [hX] at HL hG1
   clear hG hX
   go_wp2_with fail
   go_at_call 118
   refine HL.mono ?_
   rintro e w1 ⟨rfl, hb1⟩
   have hb' := hb.trans (hb1.mono hb.size)
   clear HL
   by_cases hx : 0 ≤ X
   ·have HR : Hid (X = chooseI l o t) := by
     show _ = _
     have hUX : X = U := by have := hG1.out; rw [if_pos hx] at this; exact this
     rw [HCh.out, ← hUX, if_pos hx]
    clear hG1
    go_wp2
    go_ret
    exact ⟨by rw [HR.out]; rfl, hb0.trans (hb'.mono hb0.size)⟩
   have hG2 : Hid (upI l t (5 - (O + 1)).toNat (O + 1) = U) := by
    show _ = _
    rw [hm2, ← hG1.out, if_neg hx]
   clear hG1
   go_wp2
   go_roundw
   case rel => exact ⟨O + 1, by go_num, by omega, by omega, hG2, hb'⟩
   case measure => simp [intOf]; omega
  have HC2 : Hid (chooseI l o t = D) := by
   show _ = _
   have hU1 : U = -1 := by have := hG.out; rw [show (5 - O).toNat = 0 by omega] at this; exact this.symm
   rw [HCh.out, hU1]
   rfl
  clear HCh hG
  go_wp2
  go_loopw [10] (fun ov wq => ∃ (n : Nat) (P : Int), ov = .int .i64 P ∧ P = o + n - 1 ∧ P ≤ 4 ∧ Hid (dnI l (other1 t) (other2 t) o n = D) ∧ Below W0.heap.size W0 wq) (fun ov _ => (intOf ov + 1).toNat)
  case atStart => exact ⟨(5 - o).toNat, 4, rfl, by omega, by omega, HD, hb⟩
  case round =>
   obtain ⟨n, P, rfl, hP, hP4, hN, hbq⟩ := hrel
   clear HD
   have pQ := keep p1 hbq
   have TQ := T0.below hbq
   have HP : Hid (P = o + n - 1) := hP
   by_cases hge : o ≤ P
   ·obtain ⟨m, rfl⟩ : ∃ m, n = m + 1 := ⟨n - 1, by omega⟩
    have hPm : P = o + m := by omega
    have HPm : Hid (P = o + m) := hPm
    clear hP HP
    rcases (show t = 0 ∨ t = 1 ∨ t = 2 by omega) with rfl | rfl | rfl
    ·obtain ⟨X, hX⟩ : ∃ X, fidx (isT P 2) l = X := ⟨_, rfl⟩
     obtain ⟨Y, hY⟩ : ∃ Y, fidx (isT P 1) l = Y := ⟨_, rfl⟩
     have hN1 : Hid ((if 0 ≤ X then X else if 0 ≤ Y then Y else dnI l 2 1 o m) = D) := by
      show _ = _
      have := hN.out
      rw [← hX, ← hY, hPm]
      exact this
     have HLX : Hid (∀ W, Below W0.heap.size W0 W → Calls Tryz.prog 118 (#[.int .i64 P, .int .i64 2] ++ #[.pointer (some ⟨w.heap.size, 0, none⟩)]) W fun e W' => e = .returned (.int .i64 X) ∧ Below W.heap.size W W') := fun W hW => by rw [← hX]; exact chooseL_any W w.heap.size fo fn fc l P 2 (keep p1 hW) (hB0.below hW)
     have HLY : Hid (∀ W, Below W0.heap.size W0 W → Calls Tryz.prog 118 (#[.int .i64 P, .int .i64 1] ++ #[.pointer (some ⟨w.heap.size, 0, none⟩)]) W fun e W' => e = .returned (.int .i64 Y) ∧ Below W.heap.size W W') := fun W hW => by rw [← hY]; exact chooseL_any W w.heap.size fo fn fc l P 1 (keep p1 hW) (hB0.below hW)
     have ta := TQ.a0
     have tb := TQ.a1
     clear hX hY hN hPm pQ
     go_wp2
     clear ta tb
     go_loopw [35] (fun kv wi => ∃ k : Nat, k ≤ 2 ∧ kv = .int .i64 k ∧ (1 ≤ k → X < 0) ∧ (2 ≤ k → Y < 0) ∧ Below W0.heap.size W0 wi) (fun kv _ => 2 - (intOf kv).toNat)
     case atStart => exact ⟨0, by omega, rfl, fun g => by omega, fun g => by omega, hbq⟩
     case round =>
      obtain ⟨k, hk, rfl, hk1, hk2, hbi⟩ := hrel
      rcases (show k = 0 ∨ k = 1 ∨ k = 2 by omega) with rfl | rfl | rfl
      ·go_wp2_with fail
       go_at_call 118
       refine (HLX.out _ hbi).mono ?_
       rintro e w1 ⟨rfl, hb1⟩
       have hb' := hbi.trans (hb1.mono hbi.size)
       by_cases hx : 0 ≤ X
       ·have HR : Hid (X = chooseI l o 0) := by show _ = _; have := hN1.out; rw [if_pos hx] at this; rw [HC2.out]; exact this
        clear hN1 HLX HLY
        go_wp2
        go_ret
        exact ⟨by rw [HR.out]; rfl, hb0.trans (hb'.mono hb0.size)⟩
       clear HLX HLY
       go_wp2
       go_roundw
       case rel => exact ⟨1, by omega, by go_num, fun _ => by omega, fun g => by omega, hb'⟩
       case measure => simp [intOf]
      ·have hx := hk1 (by omega)
       go_wp2_with fail
       go_at_call 118
       refine (HLY.out _ hbi).mono ?_
       rintro e w1 ⟨rfl, hb1⟩
       have hb' := hbi.trans (hb1.mono hbi.size)
       by_cases hy : 0 ≤ Y
       ·have HR : Hid (Y = chooseI l o 0) := by show _ = _; have := hN1.out; rw [if_neg (by omega), if_pos hy] at this; rw [HC2.out]; exact this
        clear hN1 HLX HLY
        go_wp2
        go_ret
        exact ⟨by rw [HR.out]; rfl, hb0.trans (hb'.mono hb0.size)⟩
       clear HLX HLY
       go_wp2
       go_roundw
       case rel => exact ⟨2, by omega, by go_num, fun _ => by omega, fun _ => by omega, hb'⟩
       case measure => simp [intOf]
      have hx := hk1 (by omega)
      have hy := hk2 (by omega)
      have hN2 : Hid (dnI l 2 1 o m = D) := by show _ = _; have := hN1.out; rw [if_neg (by omega), if_neg (by omega)] at this; exact this
      clear hN1 HLX HLY
      go_wp2
      go_roundw
      case rel => exact ⟨m, P - 1, by go_num, by have := HPm.out; omega, by omega, hN2, hbi⟩
      case measure => simp [intOf]; omega
    ·obtain ⟨X, hX⟩ : ∃ X, fidx (isT P 2) l = X := ⟨_, rfl⟩
     obtain ⟨Y, hY⟩ : ∃ Y, fidx (isT P 0) l = Y := ⟨_, rfl⟩
     have hN1 : Hid ((if 0 ≤ X then X else if 0 ≤ Y then Y else dnI l 2 0 o m) = D) := by
      show _ = _
      have := hN.out
      rw [← hX, ← hY, hPm]
      exact this
     have HLX : Hid (∀ W, Below W0.heap.size W0 W → Calls Tryz.prog 118 (#[.int .i64 P, .int .i64 2] ++ #[.pointer (some ⟨w.heap.size, 0, none⟩)]) W fun e W' => e = .returned (.int .i64 X) ∧ Below W.heap.size W W') := fun W hW => by rw [← hX]; exact chooseL_any W w.heap.size fo fn fc l P 2 (keep p1 hW) (hB0.below hW)
     have HLY : Hid (∀ W, Below W0.heap.size W0 W → Calls Tryz.prog 118 (#[.int .i64 P, .int .i64 0] ++ #[.pointer (some ⟨w.heap.size, 0, none⟩)]) W fun e W' => e = .returned (.int .i64 Y) ∧ Below W.heap.size W W') := fun W hW => by rw [← hY]; exact chooseL_any W w.heap.size fo fn fc l P 0 (keep p1 hW) (hB0.below hW)
     have ta := TQ.a2
     have tb := TQ.a3
     clear hX hY hN hPm pQ
     go_wp2
     clear ta tb
     go_loopw [35] (fun kv wi => ∃ k : Nat, k ≤ 2 ∧ kv = .int .i64 k ∧ (1 ≤ k → X < 0) ∧ (2 ≤ k → Y < 0) ∧ Below W0.heap.size W0 wi) (fun kv _ => 2 - (intOf kv).toNat)
     case atStart => exact ⟨0, by omega, rfl, fun g => by omega, fun g => by omega, hbq⟩
     case round =>
      obtain ⟨k, hk, rfl, hk1, hk2, hbi⟩ := hrel
      rcases (show k = 0 ∨ k = 1 ∨ k = 2 by omega) with rfl | rfl | rfl
      ·go_wp2_with fail
       go_at_call 118
       refine (HLX.out _ hbi).mono ?_
       rintro e w1 ⟨rfl, hb1⟩
       have hb' := hbi.trans (hb1.mono hbi.size)
       by_cases hx : 0 ≤ X
       ·have HR : Hid (X = chooseI l o 1) := by show _ = _; have := hN1.out; rw [if_pos hx] at this; rw [HC2.out]; exact this
        clear hN1 HLX HLY
        go_wp2
        go_ret
        exact ⟨by rw [HR.out]; rfl, hb0.trans (hb'.mono hb0.size)⟩
       clear HLX HLY
       go_wp2
       go_roundw
       case rel => exact ⟨1, by omega, by go_num, fun _ => by omega, fun g => by omega, hb'⟩
       case measure => simp [intOf]
      ·have hx := hk1 (by omega)
       go_wp2_with fail
       go_at_call 118
       refine (HLY.out _ hbi).mono ?_
       rintro e w1 ⟨rfl, hb1⟩
       have hb' := hbi.trans (hb1.mono hbi.size)
       by_cases hy : 0 ≤ Y
       ·have HR : Hid (Y = chooseI l o 1) := by show _ = _; have := hN1.out; rw [if_neg (by omega), if_pos hy] at this; rw [HC2.out]; exact this
        clear hN1 HLX HLY
        go_wp2
        go_ret
        exact ⟨by rw [HR.out]; rfl, hb0.trans (hb'.mono hb0.size)⟩
       clear HLX HLY
       go_wp2
       go_roundw
       case rel => exact ⟨2, by omega, by go_num, fun _ => by omega, fun _ => by omega, hb'⟩
       case measure => simp [intOf]
      have hx := hk1 (by omega)
      have hy := hk2 (by omega)
      have hN2 : Hid (dnI l 2 0 o m = D) := by show _ = _; have := hN1.out; rw [if_neg (by omega), if_neg (by omega)] at this; exact this
      clear hN1 HLX HLY
      go_wp2
      go_roundw
      case rel => exact ⟨m, P - 1, by go_num, by have := HPm.out; omega, by omega, hN2, hbi⟩
      case measure => simp [intOf]; omega
    obtain ⟨X, hX⟩ : ∃ X, fidx (isT P 0) l = X := ⟨_, rfl⟩
    obtain ⟨Y, hY⟩ : ∃ Y, fidx (isT P 1) l = Y := ⟨_, rfl⟩
    have hN1 : Hid ((if 0 ≤ X then X else if 0 ≤ Y then Y else dnI l 0 1 o m) = D) := by
     show _ = _
     have := hN.out
     rw [← hX, ← hY, hPm]
     exact this
    have HLX : Hid (∀ W, Below W0.heap.size W0 W → Calls Tryz.prog 118 (#[.int .i64 P, .int .i64 0] ++ #[.pointer (some ⟨w.heap.size, 0, none⟩)]) W fun e W' => e = .returned (.int .i64 X) ∧ Below W.heap.size W W') := fun W hW => by rw [← hX]; exact chooseL_any W w.heap.size fo fn fc l P 0 (keep p1 hW) (hB0.below hW)
    have HLY : Hid (∀ W, Below W0.heap.size W0 W → Calls Tryz.prog 118 (#[.int .i64 P, .int .i64 1] ++ #[.pointer (some ⟨w.heap.size, 0, none⟩)]) W fun e W' => e = .returned (.int .i64 Y) ∧ Below W.heap.size W W') := fun W hW => by rw [← hY]; exact chooseL_any W w.heap.size fo fn fc l P 1 (keep p1 hW) (hB0.below hW)
    have ta := TQ.a4
    have tb := TQ.a5
    clear hX hY hN hPm pQ
    go_wp2
    clear ta tb
    go_loopw [35] (fun kv wi => ∃ k : Nat, k ≤ 2 ∧ kv = .int .i64 k ∧ (1 ≤ k → X < 0) ∧ (2 ≤ k → Y < 0) ∧ Below W0.heap.size W0 wi) (fun kv _ => 2 - (intOf kv).toNat)
    case atStart => exact ⟨0, by omega, rfl, fun g => by omega, fun g => by omega, hbq⟩
    case round =>
     obtain ⟨k, hk, rfl, hk1, hk2, hbi⟩ := hrel
     rcases (show k = 0 ∨ k = 1 ∨ k = 2 by omega) with rfl | rfl | rfl
     ·go_wp2_with fail
      go_at_call 118
      refine (HLX.out _ hbi).mono ?_
      rintro e w1 ⟨rfl, hb1⟩
      have hb' := hbi.trans (hb1.mono hbi.size)
      by_cases hx : 0 ≤ X
      ·have HR : Hid (X = chooseI l o 2) := by show _ = _; have := hN1.out; rw [if_pos hx] at this; rw [HC2.out]; exact this
       clear hN1 HLX HLY
       go_wp2
       go_ret
       exact ⟨by rw [HR.out]; rfl, hb0.trans (hb'.mono hb0.size)⟩
      clear HLX HLY
      go_wp2
      go_roundw
      case rel => exact ⟨1, by omega, by go_num, fun _ => by omega, fun g => by omega, hb'⟩
      case measure => simp [intOf]
     ·have hx := hk1 (by omega)
      go_wp2_with fail
      go_at_call 118
      refine (HLY.out _ hbi).mono ?_
      rintro e w1 ⟨rfl, hb1⟩
      have hb' := hbi.trans (hb1.mono hbi.size)
      by_cases hy : 0 ≤ Y
      ·have HR : Hid (Y = chooseI l o 2) := by show _ = _; have := hN1.out; rw [if_neg (by omega), if_pos hy] at this; rw [HC2.out]; exact this
       clear hN1 HLX HLY
       go_wp2
       go_ret
       exact ⟨by rw [HR.out]; rfl, hb0.trans (hb'.mono hb0.size)⟩
      clear HLX HLY
      go_wp2
      go_roundw
      case rel => exact ⟨2, by omega, by go_num, fun _ => by omega, fun _ => by omega, hb'⟩
      case measure => simp [intOf]
     have hx := hk1 (by omega)
     have hy := hk2 (by omega)
     have hN2 : Hid (dnI l 0 1 o m = D) := by show _ = _; have := hN1.out; rw [if_neg (by omega), if_neg (by omega)] at this; exact this
     clear hN1 HLX HLY
     go_wp2
     go_roundw
     case rel => exact ⟨m, P - 1, by go_num, by have := HPm.out; omega, by omega, hN2, hbi⟩
     case measure => simp [intOf]; omega
   have hn0 : n = 0 := by omega
   have HR : Hid (-1 = chooseI l o t) := by show _ = _; have := hN.out; rw [hn0] at this; rw [HC2.out]; exact this
   clear hN hP
   go_wp2
   go_ret
   exact ⟨by rw [← HR.out]; rfl, hb0.trans (hbq.mono hb0.size)⟩
def RetNone3 (c : Int) (e : Ending) : Prop := e = .returned (.tuple #[.agg #[.int .i64 0, .int .i64 0, .slice none 0 0, .slice none 0 0], .int .i64 0, .int .i64 c])
def RetZone3 (B : Nat) (w' : World) (z : Zn) (a : Int) (e : Ending) : Prop :=
 ∃ fo fn fc to_ tn tc, e = .returned (.tuple #[.agg #[.int .i64 z.f, .int .i64 z.t, .slice fo fn fc, .slice to_ tn tc], .int .i64 a, .int .i64 0]) ∧ ZnAt w' fo fn to_ tn z ∧ Fresh B fo ∧ Fresh B to_
theorem zTake_room (w : World) (fo : Option Addr) (fn fc : Nat) (to_ : Option Addr) (tn tc : Nat) (z : Zn) (o t : Int) (h : ZnAt w fo fn to_ tn z) (hM : ZMay z) (hT : TabAt w) (ho : ordOk o) (ht : typeOk t) (hN : chooseI z.free o t < 0) :
    Calls Tryz.prog 90 #[.agg #[.int .i64 z.f, .int .i64 z.t, .slice fo fn fc, .slice to_ tn tc], .int .i64 o, .int .i64 t] w fun e w' => RetNone3 6 e ∧ Below w.heap.size w w' := by
 have I0 := cbI_first w fo fn fc to_ tn tc z h
 have c0 := I0.box.c0
 have c1 := I0.box.c1
 have c2 := I0.box.c2
 have c3 := I0.box.c3
 clear h
 go_enter Tryz.func90, Tryz.ntmps90
 have HO : Hid (inB o 0 4 = true) := inB_t ho
 have HT : Hid (inB t 0 2 = true) := inB_t ht
 go_wp2_with fail
 go_at_call 49
 refine (zCheck_ok _ fo fn fc to_ tn tc z I0.zn hM).mono ?_
 rintro e w1 ⟨rfl, hb⟩
 have I1 := I0.step hb
 clear I0 hb hM c0 c1 c2 c3
 have c0 := I1.box.c0
 have c1 := I1.box.c1
 have c2 := I1.box.c2
 have c3 := I1.box.c3
 go_wp2_with fail
 go_at_call 106
 refine (isOrder_any _ o).mono ?_
 rintro e wq ⟨rfl, rfl⟩
 rw [HO.out]
 go_wp2_with fail
 go_at_call 93
 refine (isType_any _ t).mono ?_
 rintro e wq ⟨rfl, rfl⟩
 rw [HT.out]
 go_wp2_with fail
 go_at_call 107
 refine (choose_any _ fo fn fc z.free o t I1.zn.free (hT.below I1.b) ho ht).mono ?_
 rintro e w2 ⟨rfl, hb2⟩
 have I2 := I1.step hb2
 clear I1 hb2 c0 c1 c2 c3
 have c0 := I2.box.c0
 have c1 := I2.box.c1
 have c2 := I2.box.c2
 have c3 := I2.box.c3
 obtain ⟨C, hC⟩ : ∃ C, chooseI z.free o t = C := ⟨_, rfl⟩
 rw [hC] at hN ⊢
 clear hC
 have R1 := I2.res
 obtain ⟨⟨x0, d0⟩, ⟨x1, d1⟩, ⟨x2, d2⟩, ⟨x3, d3⟩, z0, z1, z2, z3⟩ := id R1
 have hB := I2.b
 have hs := I2.size
 clear I2 c0 c1 c2 c3
 go_wp2
 obtain ⟨k0, k1, k2, k3⟩ := res4 R1 (.int .i64 0) (.int .i64 0) (.slice none 0 0) (.slice none 0 0)
 have hbt := but4 w2 (w.heap.size + 1) (.int .i64 0) (.int .i64 0) (.slice none 0 0) (.slice none 0 0)
 exact bodyPost_ret (v := .tuple #[.agg #[.int .i64 0, .int .i64 0, .slice none 0 0, .slice none 0 0], .int .i64 0, .int .i64 6]) (by simp [results, Tryz.results90, go_sem, k0, k1, k2, k3]) rfl ⟨rfl, hB.trans (hbt.below (by omega) (by omega))⟩
theorem own_type {w : World} {base g n cap : Nat} {l : List Bk} (h : w.ownsRow base 40 3 (.slice (some ⟨g, 0, none⟩) n cap) n (bvals l)) {i : Nat} (hi : i < n) (x : Int) :
    w.cell? ⟨g, i * 3 + 2, none⟩ = some (.int .i64 (l.getD i .zero).t) ∧ w.frozen? ⟨g, i * 3 + 2, none⟩ = false ∧
    (w.setCell ⟨g, i * 3 + 2, none⟩ (.int .i64 x)).ownsRow base 40 3 (.slice (some ⟨g, 0, none⟩) n cap) n (bvals (l.set i ⟨(l.getD i .zero).a, (l.getD i .zero).o, x⟩)) := by
 have hl := bowns_len h
 refine ⟨by rw [h.cellAt _ (by omega), bvals_2 l i (by omega)], h.frozenAt _, ?_⟩
 have := (h.stored (i * 3 + 2) (.int .i64 x)).1
 rwa [bvals_set2 l i x (by omega)] at this
theorem at_world {Q : Exit → Act → World → Prop} {a : Act} {V : World} (S : World → Prop) (hS : S V) (h : ∀ V', S V' → Q .normal a V') : Q .normal a V := h V hS
theorem Zo.types {w : World} {base zb g n cap k tn tk : Nat} {z : Zn} (h : Zo w base zb g n cap k tn tk z) {i : Nat} (hi : i < tn) (t : Int) :
    w.cell? ⟨k, i, none⟩ = some (.int .i64 (z.types.getD i 0)) ∧ w.frozen? ⟨k, i, none⟩ = false ∧ Zo (w.setCell ⟨k, i, none⟩ (.int .i64 t)) base zb g n cap k tn tk ⟨z.f, z.t, z.free, z.types.set i t⟩ ∧ But k w (w.setCell ⟨k, i, none⟩ (.int .i64 t)) := by
 obtain ⟨c1, c2, o⟩ := owns_store h.typ i hi t
 have hbt : But k w (w.setCell ⟨k, i, none⟩ (.int .i64 t)) := (But.refl _ _).setCell _
 exact ⟨c1, c2, ⟨h.box.but hbt (Ne.symm h.kz), own_but h.own hbt h.gk, o, h.gz, h.kz, h.gk⟩, hbt⟩
theorem Zo.btype {w : World} {base zb g n cap k tn tk : Nat} {z : Zn} (h : Zo w base zb g n cap k tn tk z) {i : Nat} (hi : i < n) (t : Int) :
    w.cell? ⟨g, i * 3 + 2, none⟩ = some (.int .i64 (z.free.getD i .zero).t) ∧ w.frozen? ⟨g, i * 3 + 2, none⟩ = false ∧ Zo (w.setCell ⟨g, i * 3 + 2, none⟩ (.int .i64 t)) base zb g n cap k tn tk ⟨z.f, z.t, z.free.set i ⟨(z.free.getD i .zero).a, (z.free.getD i .zero).o, t⟩, z.types⟩ ∧ But g w (w.setCell ⟨g, i * 3 + 2, none⟩ (.int .i64 t)) := by
 obtain ⟨c1, c2, o⟩ := own_type h.own hi t
 have hbt : But g w (w.setCell ⟨g, i * 3 + 2, none⟩ (.int .i64 t)) := (But.refl _ _).setCell _
 exact ⟨c1, c2, ⟨h.box.but hbt (Ne.symm h.gz), o, own_but h.typ hbt (Ne.symm h.gk), h.gz, h.kz, h.gk⟩, hbt⟩
set_option maxHeartbeats 8000000 in
theorem steal_any (w : World) (base zb g n cap k tn tk : Nat) (z : Zn) (ba bo bt t : Int) (F L : Nat) (Z : Zo w base zb g n cap k tn tk z) (hn : n ≤ 300) (h0 : 0 ≤ z.f) (hb : ordOk bo) (h1 : z.f ≤ ba) (h2 : ba + pw bo ≤ 256)
    (hF : (ba - z.f) / 8 = (F : Int)) (hL : (ba + pw bo - 1 - z.f) / 8 = (L : Int)) (hLn : L < tn) (hall : ∀ b ∈ z.free, z.f ≤ b.a ∧ b.a ≤ 256) (htn : tn ≤ 300) :
    Calls Tryz.prog 108 #[.pointer (some ⟨zb, 0, none⟩), .agg #[.int .i64 ba, .int .i64 bo, .int .i64 bt], .int .i64 t] w fun e w' => e = .returned (.tuple #[]) ∧
     Zo w' base zb g n cap k tn tk ⟨z.f, z.t, z.free.map (stealB z.f F L t), setR z.types F t (L + 1 - F)⟩ ∧ Bu2 g k w w' := by
 have hp := pw_pos bo
 have hb0 := below_box w (.cells #[.int .i64 ba, .int .i64 bo, .int .i64 bt] 40)
 have l0 : (w.alloc (.cells #[.int .i64 ba, .int .i64 bo, .int .i64 bt] 40)).cell? ⟨w.heap.size, 0, none⟩ = some (.int .i64 ba) := by go_simp
 have l1 : (w.alloc (.cells #[.int .i64 ba, .int .i64 bo, .int .i64 bt] 40)).cell? ⟨w.heap.size, 1, none⟩ = some (.int .i64 bo) := by go_simp
 have l2 : (w.alloc (.cells #[.int .i64 ba, .int .i64 bo, .int .i64 bt] 40)).cell? ⟨w.heap.size, 2, none⟩ = some (.int .i64 bt) := by go_simp
 obtain ⟨W0, hW0⟩ : ∃ W0, w.alloc (.cells #[.int .i64 ba, .int .i64 bo, .int .i64 bt] 40) = W0 := ⟨_, rfl⟩
 rw [hW0] at hb0 l0 l1 l2
 have HW0 : Hid _ := hW0
 have Z0 := Z.below hb0
 have hgl := Z.glt
 have hkl := Z.klt
 have hzl := Z.box.lt
 obtain ⟨E, hE⟩ : ∃ E, ba + pw bo = E := ⟨_, rfl⟩
 rw [hE] at h2 hL
 have hE1 : z.f ≤ E - 1 := by omega
 have hwE : IntKind.i64.wrap (E - 1) = E - 1 := IntWalk.i64_in _ (by omega)
 have m0 : ∀ wx, Below W0.heap.size W0 wx → wx.cell? ⟨w.heap.size, 0, none⟩ = some (.int .i64 ba) := fun wx h => keep l0 h
 have m1 : ∀ wx, Below W0.heap.size W0 wx → wx.cell? ⟨w.heap.size, 1, none⟩ = some (.int .i64 bo) := fun wx h => keep l1 h
 have m2 : ∀ wx, Below W0.heap.size W0 wx → wx.cell? ⟨w.heap.size, 2, none⟩ = some (.int .i64 bt) := fun wx h => keep l2 h
 have r0 : ∀ wx, Below W0.heap.size W0 wx → wx.cell? ⟨zb, 0, none⟩ = some (.int .i64 z.f) := fun wx h => keep Z0.box.c0 h
 have r1 : ∀ wx, Below W0.heap.size W0 wx → wx.cell? ⟨zb, 1, none⟩ = some (.int .i64 z.t) := fun wx h => keep Z0.box.c1 h
 have r2 : ∀ wx, Below W0.heap.size W0 wx → wx.cell? ⟨zb, 2, none⟩ = some (.slice (some ⟨g, 0, none⟩) n cap) := fun wx h => keep Z0.box.c2 h
 have r3 : ∀ wx, Below W0.heap.size W0 wx → wx.cell? ⟨zb, 3, none⟩ = some (.slice (some ⟨k, 0, none⟩) tn tk) := fun wx h => keep Z0.box.c3 h
 have HG1 : Hid (∀ V, Below W0.heap.size W0 V → Calls Tryz.prog 102 #[.agg #[.int .i64 z.f, .int .i64 z.t, .slice (some ⟨g, 0, none⟩) n cap, .slice (some ⟨k, 0, none⟩) tn tk], .int .i64 ba] V fun e w' => e = .returned (.int .i64 F) ∧ Below W0.heap.size W0 w') := fun V hV => by
  rw [← hF]
  refine (group_any V z.f z.t _ _ n cap tn tk ba h0 h1 (by omega)).mono ?_
  rintro e w' ⟨rfl, hb⟩
  exact ⟨rfl, hV.trans (hb.mono hV.size)⟩
 have HG2 : Hid (∀ V, Below W0.heap.size W0 V → Calls Tryz.prog 102 #[.agg #[.int .i64 z.f, .int .i64 z.t, .slice (some ⟨g, 0, none⟩) n cap, .slice (some ⟨k, 0, none⟩) tn tk], .int .i64 (E - 1)] V fun e w' => e = .returned (.int .i64 L) ∧ Below W0.heap.size W0 w') := fun V hV => by
  rw [← hL]
  refine (group_any V z.f z.t _ _ n cap tn tk (E - 1) h0 hE1 (by omega)).mono ?_
  rintro e w' ⟨rfl, hb⟩
  exact ⟨rfl, hV.trans (hb.mono hV.size)⟩
 have HBe : Hid (∀ V, Below W0.heap.size W0 V → Calls Tryz.prog 95 #[.agg #[.int .i64 ba, .int .i64 bo, .int .i64 bt]] V fun e w' => e = .returned (.int .i64 E) ∧ Below W0.heap.size W0 w') := fun V hV => by
  rw [← hE]
  refine (behind_any V ba bo bt hb (by omega) (by omega)).mono ?_
  rintro e w' ⟨rfl, hb⟩
  exact ⟨rfl, hV.trans (hb.mono hV.size)⟩
 have S0 : Below W0.heap.size W0 W0 := Below.refl _ _
 have hFL' : F ≤ L + 1 := by omega
 clear hW0 hF hL hE Z
 go_enter Tryz.func108, Tryz.ntmps108
 go_wp2_with (rw [HW0.out])
 clear HW0
 go_region_held3 (fun wx => Below W0.heap.size W0 wx) (first | assumption | exact Below.drew (by assumption))
  (first
   | (go_at_call_of 102 ba; refine (HG1.out _ ?_).mono ?_; assumption; rintro e w6 ⟨rfl, hS6⟩)
   | (go_at_call 102; refine (HG2.out _ ?_).mono ?_; assumption; rintro e w7 ⟨rfl, hS7⟩)
   | (go_at_call 95; refine (HBe.out _ ?_).mono ?_; assumption; rintro e w8 ⟨rfl, hS8⟩))
 all_goals
  refine at_world (fun wx => Below W0.heap.size W0 wx) (by assumption) ?_
  intro V hV
  have Z1 := Z0.below hV
  have hU1 : Bu2 g k w V := (Bu2.of_below hb0).trans (.of_below hV)
  clear HG1 HG2 HBe m0 m1 m2 r0 r1 r2 r3 S0 l0 l1 l2 hwE
  go_wp2
  go_loopw [8] (fun ov wr => ∃ c : Nat, F + c ≤ L + 1 ∧ ov = .int .i64 ((F + c : Nat) : Int) ∧ Zo wr base zb g n cap k tn tk ⟨z.f, z.t, z.free, setR z.types F t c⟩ ∧ Bu2 g k w wr) (fun ov _ => L + 1 - (intOf ov).toNat)
  case atStart => exact ⟨0, by omega, rfl, Z1, hU1⟩
  case round =>
   obtain ⟨c, hc, rfl, Zr, hU⟩ := hrel
   clear Z1 hU1
   have y3 := Zr.box.c3
   by_cases hlt : F + c ≤ L
   ·obtain ⟨q1, q2, Z5, hb5⟩ := Zr.types (i := F + c) (by omega) t
    have hU5 := hU.trans (.of_but_z hb5)
    have e1 : (((F + c : Nat) : Int) ≤ (L : Int)) := by omega
    obtain ⟨J, hJ⟩ : ∃ J, F + c = J := ⟨_, rfl⟩
    rw [hJ] at q1 q2 Z5 hU5 e1
    have hJn : J < tn := by omega
    have Z6 : Zo (wr.setCell ⟨k, J, none⟩ (.int .i64 t)) base zb g n cap k tn tk ⟨z.f, z.t, z.free, setR z.types F t (c + 1)⟩ := by
     have : setR z.types F t (c + 1) = (setR z.types F t c).set J t := by rw [← hJ]; rfl
     rw [this]; exact Z5
    have HJ : Hid (F + c = J) := hJ
    rw [hJ]
    clear hJ Zr hU Z5 hb5
    go_wp2
    go_roundw
    case rel => exact ⟨c + 1, by have := HJ.out; omega, by have := HJ.out; rw [show F + (c + 1) = J + 1 by omega]; go_num, Z6, hU5⟩
    case measure => simp [intOf]; omega
   have hcL : c = L + 1 - F := by omega
   have e1 : ¬ (((F + c : Nat) : Int) ≤ (L : Int)) := by omega
   rw [hcL] at Zr
   obtain ⟨T, hT⟩ : ∃ T, setR z.types F t (L + 1 - F) = T := ⟨_, rfl⟩
   rw [hT] at Zr
   obtain ⟨J, hJ⟩ : ∃ J, F + c = J := ⟨_, rfl⟩
   rw [hJ] at e1 ⊢
   have HT : Hid (setR z.types F t (L + 1 - F) = T) := hT
   have y2 := Zr.box.c2
   clear hT hcL hJ y3
   go_wp2
   clear y2
   go_loopw [42] (fun iv wq => ∃ i : Nat, i ≤ n ∧ iv = .int .i64 i ∧ Zo wq base zb g n cap k tn tk ⟨z.f, z.t, stealK z.f F L t z.free i, T⟩ ∧ Bu2 g k w wq) (fun iv _ => n - (intOf iv).toNat)
   case atStart => exact ⟨0, Nat.zero_le _, rfl, by rw [stealK_0]; exact Zr, hU⟩
   case round =>
    obtain ⟨i, hi, rfl, Zq, hUq⟩ := hrel
    clear Zr hU
    have hll : z.free.length = n := by have := bowns_len Zq.own; rw [stealK_len] at this; exact this
    by_cases hin : i < n
    ·obtain ⟨⟨x, y, u⟩, hX⟩ : ∃ b, z.free.getD i .zero = b := ⟨_, rfl⟩
     have hXq : (stealK z.f F L t z.free i).getD i .zero = ⟨x, y, u⟩ := by rw [stealK_at _ _ _ _ (by omega)]; exact hX
     have hsucc := stealK_succ z.f F L t (l := z.free) (by omega) hX
     have hmem : (⟨x, y, u⟩ : Bk) ∈ z.free := by rw [← hX, List.getD_eq_getElem?_getD, List.getElem?_eq_getElem (by omega)]; exact List.getElem_mem _
     obtain ⟨x1, x2⟩ := hall _ hmem
     dsimp only at x1 x2
     obtain ⟨q1, q2, Z5, hb5⟩ := Zq.btype (i := i) hin t
     rw [hXq] at q1 Z5
     dsimp only at q1 Z5
     have qa : wr.cell? ⟨g, i * 3, none⟩ = some (.int .i64 x) := by
      have := Zq.own.cellAt (i * 3) (by omega)
      rw [this]
      have h2 := bvals_0 (stealK z.f F L t z.free i) i (by rw [stealK_len]; omega)
      rw [hXq] at h2
      exact h2
     obtain ⟨G, hG⟩ : ∃ G : Nat, (x - z.f) / 8 = (G : Int) := ⟨((x - z.f) / 8).toNat, by omega⟩
     have HG : Hid (∀ V', Below wr.heap.size wr V' → Calls Tryz.prog 102 #[.agg #[.int .i64 z.f, .int .i64 z.t, .slice (some ⟨g, 0, none⟩) n cap, .slice (some ⟨k, 0, none⟩) tn tk], .int .i64 x] V' fun e w' => e = .returned (.int .i64 G) ∧ Below wr.heap.size wr w') := fun V' hV' => by
      rw [← hG]
      refine (group_any V' z.f z.t _ _ n cap tn tk x h0 x1 x2).mono ?_
      rintro e w' ⟨rfl, hb⟩
      exact ⟨rfl, hV'.trans (hb.mono hV'.size)⟩
     have HSt : Hid (stealB z.f F L t ⟨x, y, u⟩ = if (F : Int) ≤ G ∧ (G : Int) ≤ L then ⟨x, y, t⟩ else ⟨x, y, u⟩) := by
      show _ = _
      unfold stealB
      dsimp only
      rw [hG]
     have s1 : ∀ wx, Below wr.heap.size wr wx → wx.cell? ⟨zb, 0, none⟩ = some (.int .i64 z.f) := fun wx h => keep Zq.box.c0 h
     have s2 : ∀ wx, Below wr.heap.size wr wx → wx.cell? ⟨zb, 1, none⟩ = some (.int .i64 z.t) := fun wx h => keep Zq.box.c1 h
     have s3 : ∀ wx, Below wr.heap.size wr wx → wx.cell? ⟨zb, 2, none⟩ = some (.slice (some ⟨g, 0, none⟩) n cap) := fun wx h => keep Zq.box.c2 h
     have s4 : ∀ wx, Below wr.heap.size wr wx → wx.cell? ⟨zb, 3, none⟩ = some (.slice (some ⟨k, 0, none⟩) tn tk) := fun wx h => keep Zq.box.c3 h
     have s5 : ∀ wx, Below wr.heap.size wr wx → wx.cell? ⟨g, i * 3, none⟩ = some (.int .i64 x) := fun wx h => keep qa h
     have S0 : Below wr.heap.size wr wr := Below.refl _ _
     have hii : (i : Int) < n := by omega
     have HXq : Hid ((stealK z.f F L t z.free i).getD i .zero = ⟨x, y, u⟩) := hXq
     have HSu : Hid (stealK z.f F L t z.free (i + 1) = (stealK z.f F L t z.free i).set i (stealB z.f F L t ⟨x, y, u⟩)) := hsucc
     clear hX hmem hG q1 q2 Z5 hb5 hXq qa hsucc
     go_wp2_with fail
     go_region_held3 (fun wx => Below wr.heap.size wr wx) (first | assumption | exact Below.drew (by assumption))
      (first | (go_at_call 102; refine (HG.out _ ?_).mono ?_; assumption; rintro e w6 ⟨rfl, hS6⟩))
     clear HG s1 s2 s3 s4 s5 S0
     have Z6 := Zq.below hS6
     have hU6 := hUq.trans (.of_below hS6)
     have y2 := Z6.box.c2
     by_cases hst : (F : Int) ≤ G ∧ (G : Int) ≤ L
     ·obtain ⟨q1, q2, Z7, hb7⟩ := Z6.btype (i := i) hin t
      dsimp only at q1 Z7
      rw [HXq.out] at q1 Z7
      dsimp only at q1 Z7
      have hU7 := hU6.trans (.of_but_g hb7)
      have Z8 : Zo (w6.setCell ⟨g, i * 3 + 2, none⟩ (.int .i64 t)) base zb g n cap k tn tk ⟨z.f, z.t, stealK z.f F L t z.free (i + 1), T⟩ := by
       rw [HSu.out, HSt.out, if_pos hst]; exact Z7
      obtain ⟨st1, st2⟩ := hst
      clear Zq Z6 Z7 hb7 hU6 hUq
      go_wp2
      go_roundw
      case rel => exact ⟨i + 1, by omega, by go_num, Z8, hU7⟩
      case measure => simp [intOf]; omega
     have hset : (stealK z.f F L t z.free i).set i ⟨x, y, u⟩ = stealK z.f F L t z.free i := by
      have h3 := HXq.out
      rw [List.getD_eq_getElem?_getD, List.getElem?_eq_getElem (by rw [stealK_len]; omega)] at h3
      simp only [Option.getD_some] at h3
      rw [← h3]
      exact List.set_getElem_self _
     have Z8 : Zo w6 base zb g n cap k tn tk ⟨z.f, z.t, stealK z.f F L t z.free (i + 1), T⟩ := by
      rw [HSu.out, HSt.out, if_neg hst, hset]; exact Z6
     clear Zq hUq hset
     by_cases st1 : (F : Int) ≤ G
     ·have st2 : ¬ (G : Int) ≤ L := fun g => hst ⟨st1, g⟩
      clear Z6 hst
      go_wp2
      go_roundw
      case rel => exact ⟨i + 1, by omega, by go_num, Z8, hU6⟩
      case measure => simp [intOf]; omega
     clear Z6 hst
     go_wp2
     go_roundw
     case rel => exact ⟨i + 1, by omega, by go_num, Z8, hU6⟩
     case measure => simp [intOf]; omega
    have hin' : i = n := by omega
    have ZF := Zq
    rw [hin', ← hll, stealK_all] at ZF
    rw [hll] at ZF
    clear Zq
    go_wp2
    go_end0
    exact ⟨rfl, by rw [HT.out]; exact ZF, hUq⟩
end Go.Proofs.YtjohdbiipeedkaaGreatDoor
namespace Go.Proofs.YtjohdbiipeedkaaGreatDoor.Kit
open Go Go.RowKit
theorem step_append_own {P : Program} {ops : Array Oper} {o : Oper} {a : Act} {w : World} {K : Act → World → Prop} {Q : Exit → Act → World → Prop} {E : Prop}
    (hg : o.guard = none) (s x : Operand) (t : TypeId) (hop : o.op = Op.call { callee := Callee.builtin Builtin.append, args := #[s, x], argTypes := #[t, t] })
    (e : TypeId) (i : TypeInfo) (z : Value) (size bytes : Nat) (h1 : P.underlying t = some (.slice e)) (h2 : P.info? e = some i) (h3 : i.zero = some z) (h4 : i.size = size) (h5 : i.bytes = bytes) (h6 : z.cells.size = size) (h7 : 0 < size)
    (base : Nat) (v : Value) (n : Nat) (xs : List Value) (hs : a.eval s = v) (hown : w.ownsRow base e size v n xs)
    (ad : Addr) (m c : Nat) (news : List Value) (hx : a.eval x = .slice (some ad) m c) (hn : news.length = m * size) (hc : ∀ j u, news[j]? = some u → w.cell? (ad.add j) = some u) (h1c : ∀ u ∈ news, u.oneCell' = true)
    (b1 : n + m ≤ maxLen) (b2 : (n + m) * bytes ≤ 140737488355328) (hbase : base ≤ w.heap.size)
    (hK : ∀ v' w', w'.ownsRow base e size v' (n + m) (xs ++ news) → w.grownBy w' v.ownBlock → K (a.put o.dst v') w') :
    if Region.wanted o (yielded ops a.tmps) = true then Oper.wp P o a w K Q else E := by
 have hw : Region.wanted o (yielded ops a.tmps) = true := by simp [Region.wanted, hg]
 rw [if_pos hw]
 obtain ⟨v', w', hrun, r1, r2, _⟩ := run_append_own (P := P) w base t o.type e i z size bytes h1 h2 h3 h4 h5 h6 h7 v n xs hown ad m c news hn hc h1c b1 b2 hbase
 unfold Oper.wp
 simp [execOp, hop, resolve, invoke, builtin, hs, hx, hrun, Result.andThen]
 exact hK v' w' r1 r2
end Go.Proofs.YtjohdbiipeedkaaGreatDoor.Kit
namespace Go.Proofs.YtjohdbiipeedkaaGreatDoor
open Go Go.RowKit Go.Proofs.YtjohdbiipeedkaaGreatDoor.Kit
theorem halves_any (w : World) (ba bo bt o : Int) (hb : ordOk bo) (h0 : 0 ≤ o) (h1 : o ≤ bo) (ha : 0 ≤ ba) (ha2 : ba ≤ 256) :
    Calls Tryz.prog 110 #[.agg #[.int .i64 ba, .int .i64 bo, .int .i64 bt], .int .i64 o] w fun e w' => ∃ v, e = .returned v ∧ w'.ownsRow w.heap.size 40 3 v (bo - o).toNat (bvals (halvesL ba bt o (bo - o).toNat)) ∧ Below w.heap.size w w' := by
 obtain ⟨i1, hj, hy0, hy1, hy2⟩ := info_parts info_block
 obtain ⟨b0, b4⟩ := hb
 have hb0 := below_box w (.cells #[.int .i64 ba, .int .i64 bo, .int .i64 bt] 40)
 have l0 : (w.alloc (.cells #[.int .i64 ba, .int .i64 bo, .int .i64 bt] 40)).cell? ⟨w.heap.size, 0, none⟩ = some (.int .i64 ba) := by go_simp
 have l1 : (w.alloc (.cells #[.int .i64 ba, .int .i64 bo, .int .i64 bt] 40)).cell? ⟨w.heap.size, 1, none⟩ = some (.int .i64 bo) := by go_simp
 have l2 : (w.alloc (.cells #[.int .i64 ba, .int .i64 bo, .int .i64 bt] 40)).cell? ⟨w.heap.size, 2, none⟩ = some (.int .i64 bt) := by go_simp
 have hs0 : (w.alloc (.cells #[.int .i64 ba, .int .i64 bo, .int .i64 bt] 40)).heap.size = w.heap.size + 1 := by simp
 obtain ⟨W0, hW0⟩ : ∃ W0, w.alloc (.cells #[.int .i64 ba, .int .i64 bo, .int .i64 bt] 40) = W0 := ⟨_, rfl⟩
 rw [hW0] at hb0 l0 l1 l2 hs0
 have HW0 : Hid _ := hW0
 clear hW0
 go_enter Tryz.func110, Tryz.ntmps110
 go_wp2_with (rw [HW0.out])
 clear HW0
 go_loopw [5, 6] (fun vv ov wr => ∃ (m : Nat) (O : Int), ov = .int .i64 O ∧ Hid (O = o + m) ∧ o ≤ O ∧ O ≤ bo ∧ m = (O - o).toNat ∧ wr.ownsRow W0.heap.size 40 3 vv m (bvals (halvesL ba bt o m)) ∧ Below W0.heap.size W0 wr) (fun _ ov _ => (bo - intOf ov).toNat)
 case atStart => exact ⟨0, o, rfl, by show o = o + (0 : Nat); omega, by omega, by omega, by omega, World.ownsRow_nil _ _ _ _, Below.refl _ _⟩
 case round =>
  obtain ⟨m, O, rfl, hO, hO1, hO2, hm, hown, hbw⟩ := hrel
  have k0 := keep l0 hbw
  have k1 := keep l1 hbw
  have k2 := keep l2 hbw
  by_cases hlt : O < bo
  ·have hw1 := wrap_pw O ⟨by omega, by omega⟩
   have hp1 := pw_pos O
   have hp2 := pw_le (o := O) ⟨by omega, by omega⟩
   obtain ⟨P, hP⟩ : ∃ P, pw O = P := ⟨_, rfl⟩
   rw [hP] at hw1 hp1 hp2
   have hw2 : IntKind.i64.wrap (ba + P) = ba + P := IntWalk.i64_in _ (by omega)
   have HE : Hid (bvals (halvesL ba bt o m) ++ [Value.int .i64 (ba + P), .int .i64 O, .int .i64 bt] = bvals (halvesL ba bt o (m + 1))) := by
    show _ = bvals (halvesL ba bt o m ++ [⟨ba + pw (o + m), o + m, bt⟩])
    rw [bvals_append, ← hO.out, hP]
    rfl
   have hml : m + 1 ≤ maxLen := by unfold maxLen; omega
   have hsW := hbw.size
   have ownd : ((wr.alloc (.cells #[.int .i64 (ba + P), .int .i64 O, .int .i64 bt] 40)).drew).ownsRow W0.heap.size 40 3 u5 m (bvals (halvesL ba bt o m)) := (hown.alloc _).drew
   have hcd : ∀ j u, [Value.int .i64 (ba + P), .int .i64 O, .int .i64 bt][j]? = some u → ((wr.alloc (.cells #[.int .i64 (ba + P), .int .i64 O, .int .i64 bt] 40)).drew).cell? ((⟨wr.heap.size, 0, none⟩ : Addr).add j) = some u := fun j u h => by have := cell_three_new wr _ _ _ 40 j u h; simpa using this
   clear hP
   go_wp2
   go_region_law (refine step_append_own rfl (.tmp 14) (.tmp 24) 32 rfl 40 i1 _ 3 24 Tryz.underlying32 hj hy0 hy1 hy2 rfl (by decide) W0.heap.size u5 m (bvals (halvesL ba bt o m)) rfl ownd ⟨wr.heap.size, 0, none⟩ 1 1 [.int .i64 (ba + P), .int .i64 O, .int .i64 bt] rfl rfl hcd (ints_oneCell .i64 [_, _, _]) hml (by omega) (by simp; omega) ?_; intro v' w3 hown' hgrow)
   all_goals
    rw [HE.out] at hown'
    have hb' : Below W0.heap.size W0 w3 := ((hbw.alloc hsW _).drew).grown hgrow (by simp; omega) (fun g hg => (hown.lt g hg).1)
    obtain ⟨bo', c', rfl⟩ := owns_shape hown'
    have hO' : O + 1 = o + ((m + 1 : Nat) : Int) := by have := hO.out; omega
    have hw3 : IntKind.i64.wrap (O + 1) = O + 1 := IntWalk.i64_in _ (by omega)
    have hm' : m + 1 = (O + 1 - o).toNat := by omega
    have HM : Hid _ := hm'
    clear HE hgrow hm hm'
    go_wp2
    go_roundw
    ·exact ⟨m + 1, O + 1, by simp; omega, hO', by omega, by omega, HM.out, hown', hb'⟩
    simp [intOf]; omega
  have hOb : O = bo := by omega
  subst hOb
  subst hm
  go_wp2
  go_ret
  exact ⟨_, rfl, owns_weaken hown (by omega), hb0.trans (hbw.mono (by omega))⟩
def repB (l : List Bk) (i : Nat) (v : List Bk) : List Bk := l.take i ++ (v ++ l.drop (i + 1))
structure RepIn (w : World) (base g N cap i m vc : Nat) (vo : Option Addr) (l vl : List Bk) (cur vs XS : List Value) : Prop where
 row : Row w 40 3 g cap cur
 bg : base ≤ g
 le : N + 1 ≤ cap
 iN : i ≤ N
 N3 : N ≤ 300
 m4 : m ≤ 4
 vsl : vs.length = m * 3
 v1 : ∀ u ∈ vs, u.oneCell' = true
 v0 : vo = none → m = 0 ∧ vc = 0
 vat : 0 < m → ∃ gv cv, vo = some ⟨gv, 0, none⟩ ∧ gv ≠ g ∧ w.heap[gv]? = some (.cells cv (40) (0, 0)) ∧ cv.size = vc * 3 ∧ cv.toList.take (m * 3) = vs
 xl : XS.length = (N - i) * 3
 x1 : ∀ u ∈ XS, u.oneCell' = true
 xat : ∀ j u, XS[j]? = some u → cur[(i + 1) * 3 + j]? = some u
 out : bvals (repB l i vl) = cur.take (i * 3) ++ (vs ++ XS)
 tk : cur.take (i * 3) = bvals (l.take i)
theorem repIn (w : World) (base g N cap i m vc : Nat) (vo : Option Addr) (l vl : List Bk) (hi : i ≤ N) (hN : N ≤ 300) (hm : m ≤ 4) (own : w.ownsRow base 40 3 (.slice (some ⟨g, 0, none⟩) (N + 1) cap) (N + 1) (bvals l)) (bv : Nat) (ov : w.ownsRow bv 40 3 (.slice vo m vc) m (bvals vl)) (hne : g < bv) :
    ∃ cur vs XS, RepIn w base g N cap i m vc vo l vl cur vs XS := by
 have hll := bowns_len own
 have hvl := bowns_len ov
 obtain ⟨hbg, hnc, cur, R, hcur⟩ := Row.of own
 refine ⟨cur, bvals vl, bvals (l.drop (i + 1)), R, hbg, hnc, hi, hN, hm, by rw [length_bvals, hvl], bvals_oneCell _, ?_, ?_, ?_, bvals_oneCell _, ?_, ?_, ?_⟩
 ·intro h
  subst h
  rcases ov.2 with ⟨h', h0⟩ | ⟨g', cap', cur', h', _⟩
  ·simp only [Value.slice.injEq] at h'
   exact ⟨h'.2.1, h'.2.2⟩
  simp at h'
 ·intro h0
  obtain ⟨gv, rfl, hbv, _⟩ := owns_head ov h0
  obtain ⟨_, hmc, cv, R', hcv⟩ := Row.of ov
  exact ⟨gv, cv.toArray, rfl, by omega, R'.h, by simpa using R'.len, by simpa using hcv⟩
 ·rw [length_bvals, List.length_drop, hll]; omega
 ·intro j u hu
  rw [← bvals_drop, List.getElem?_drop] at hu
  rw [← hcur, List.getElem?_take] at hu
  split at hu
  ·exact hu
  cases hu
 ·unfold repB
  rw [bvals_append, bvals_append, take_cut hcur (Nat.mul_le_mul_right 3 (show i ≤ N + 1 by omega)), bvals_take]
 rw [take_cut hcur (Nat.mul_le_mul_right 3 (show i ≤ N + 1 by omega)), bvals_take]
theorem RepIn.src {w : World} {base g N cap i m vc : Nat} {vo : Option Addr} {l vl : List Bk} {cur vs XS : List Value} (h : RepIn w base g N cap i m vc vo l vl cur vs XS) {W : World} (hb : ∀ k, k < w.heap.size → k ≠ g → W.heap[k]? = w.heap[k]?) (h0 : 0 < m) :
    ∃ ad, vo = some ad ∧ ∀ j v, vs[j]? = some v → W.cell? (ad.add j) = some v := by
 obtain ⟨gv, cv, rfl, hne, hg, hs, ht⟩ := h.vat h0
 refine ⟨_, rfl, fun j v hj => ?_⟩
 have hlt := (Array.getElem?_eq_some_iff.1 hg).1
 rw [add_at, Nat.zero_add, cell_of_row _ _ _ _ _ _ ((hb gv hlt hne).trans hg)]
 rw [← ht, List.getElem?_take] at hj
 split at hj
 ·simpa using hj
 cases hj
theorem ov_false' (w : World) (g off lb cb gv la ca : Nat) (cur : List Value) (cv : Array Value) (cap : Nat) (R : Row w 40 3 g cap cur) (hv : w.heap[gv]? = some (.cells cv 40 (0, 0))) (hne : gv ≠ g) (hc : 0 < cv.size) :
    (callFunc 91 #[.slice (some ⟨g, off, none⟩) lb cb, .slice (some ⟨gv, 0, none⟩) la ca]).run Tryz.prog w = .ok (.value (.bool false)) w := by
 have hz : ∀ w, (Go.sizeOf 40).run Tryz.prog w = .ok 3 w := fun w => Tryz.sizeOf40 w
 rw [run_callFunc_extern Tryz.func91 (by kernel_rfl) (by kernel_rfl) (by kernel_rfl) (e := Extern.SlicesOverlaps.overlaps #[32, 32] #[4]) (by kernel_rfl),
  Lib.run_overlaps_apart w 32 4 40 Tryz.underlying32 3 hz ⟨g, off, none⟩ ⟨gv, 0, none⟩ lb cb la ca (Ne.symm hne) 40 40 (cap * 3) cv.size (by simp [World.shape?, R.h, R.len]) (by simp [World.shape?, hv]) (by omega) (by have := R.h; simp [World.frozen?, this]) (by have := R.h; simp [World.frozen?, this])]
 rfl
theorem bRep_shift (w : World) (base g N cap i m vc : Nat) (vo : Option Addr) (l vl : List Bk) (cur vs XS : List Value) (h : RepIn w base g N cap i m vc vo l vl cur vs XS) (hi : i < N) (hm : 2 ≤ m) (hroom : N + m ≤ cap) :
    Calls Tryz.prog 109 #[.slice (some ⟨g, 0, none⟩) (N + 1) cap, .int .i64 i, .int .i64 ((i : Int) + 1), .slice vo m vc] w fun e w' => RetRow w w' base g (N + m) (repB l i vl) e := by
 obtain ⟨gv, cv, rfl, hne, hv, hvs, hvt⟩ := h.vat (by omega)
 have R := h.row
 have hM := R.m
 unfold maxLen at hM
 have hRl := R.len
 have hvl := h.vsl
 have hxl := h.xl
 have hN := h.N3
 have hm4 := h.m4
 have hcv : 0 < cv.size := by have h1 := congrArg List.length hvt; rw [List.length_take, hvl, Array.length_toList] at h1; omega
 have hov : ∀ d off lb cb, (callFunc 91 #[.slice (some ⟨g, off, none⟩) lb cb, .slice (some ⟨gv, 0, none⟩) m vc]).run Tryz.prog (w.drewN d) = .ok (.value (.bool false)) (w.drewN d) := fun d off lb cb => ov_false' _ g off lb cb gv m vc cur cv cap (R.below (below_drawn d)) (((below_drawn d).block gv (Array.getElem?_eq_some_iff.1 hv).1).trans hv) hne hcv
 have b1 : ((i : Int) == (i : Int) + 1) = false := by simp; omega
 have b2 : ((i : Int) + 1 == (N : Int) + 1) = false := by simp; omega
 have b3 : (i : Int) + 1 ≤ (N : Int) + 1 := by omega
 have b4 : ((i : Int) + 1).toNat = i + 1 := by omega
 have b5 : (0 : Int) ≤ (i : Int) + 1 := by omega
 have b6 : IntKind.i64.wrap ((i : Int) + m) = (i : Int) + m := IntWalk.i64_in _ (by omega)
 have b7 : ((i : Int) + m).toNat = i + m := by omega
 have b8 : (0 : Int) ≤ (i : Int) + m := by omega
 have b9 : (i : Int) + m ≤ (i : Int) + m + ((N - i : Nat) : Int) := by omega
 have b10 : ¬ (cap = i + m) := by omega
 have b11 : ¬ (cap = i + 1) := by omega
 have b12 : ¬ (cap = i) := by omega
 have hsum : i + m + (N - i) = N + m := by omega
 have HS : Hid _ := hsum
 clear hsum
 have H : Hid _ := h
 clear h hvt
 go_enter Tryz.func109, Tryz.ntmps109
 go_wp2_with fail
 go_quiet (fail)
 go_wp2_with (simp only [hov])
 have RD := R.below ((below_drawn (w := w) nq).drew)
 have hbd : Below w.heap.size w ((w.drewN nq).drew) := (below_drawn (w := w) nq).drew
 clear hov
 go_region_law (refine step_copy_k rfl (.tmp 126) (.tmp 129) 32 32 rfl 40 3 Tryz.underlying32 size_block (some ⟨g, (i + m) * 3, none⟩) (some ⟨g, (i + 1) * 3, none⟩) (N - i) (cap - (i + m)) (N - i) (cap - (i + 1)) (by simp [Act.eval, Act.put]) (by simp [Act.eval, Act.put]) g ((i + m) * 3) cur 40 RD.h XS (N - i) (by simp only [Nat.min_def]; split <;> omega) hxl (fun _ => ⟨rfl, _, rfl, fun j v hj => by rw [add_at, RD.cell]; exact H.out.xat j v hj⟩) (by omega) H.out.x1 ?_; intro w1 hg1 hb1)
 all_goals
  have hK : ∀ k, k < w.heap.size → k ≠ g → w1.heap[k]? = w.heap[k]? := fun k hk hne => (hb1.block k (by have := hbd.size; omega) hne).trans (hbd.block k hk)
  clear RD
  go_wp2_with (refine wpList_copy_k rfl (.tmp 133) (.tmp 134) 32 32 rfl 40 3 Tryz.underlying32 size_block _ _ _ _ _ _ rfl rfl g (i * 3) (splice cur ((i + m) * 3) XS) 40 hg1.out vs m (by simp only [Nat.min_def]; split <;> omega) hvl (fun _ => ⟨rfl, H.out.src hK (by omega)⟩) (by rw [length_splice _ _ _ (by omega)]; omega) H.out.v1 ?_; intro w2 hg2 hb2)
  go_ret
  have e3 : (i + m) * 3 = i * 3 + vs.length := by omega
  have hl2 : (splice (splice cur ((i + m) * 3) XS) (i * 3) vs).length = cap * 3 := by rw [length_splice _ _ _ (by rw [length_splice _ _ _ (by omega)]; omega), length_splice _ _ _ (by omega)]; exact hRl
  have R2 : Row w2 40 3 g cap (splice (splice cur ((i + m) * 3) XS) (i * 3) vs) := ⟨hg2.out, hl2, R.m⟩
  rw [HS.out]
  refine ⟨g, cap, rfl, R2.owns H.out.bg hroom ?_, ((But.of_below hbd).trans hb1).trans hb2, .inl rfl⟩
  rw [H.out.out, e3, show (N + m) * 3 = i * 3 + vs.length + XS.length by omega]
  exact splice_two_b (by omega)
theorem bRep_less (w : World) (base g N cap i m vc : Nat) (vo : Option Addr) (l vl : List Bk) (cur vs XS : List Value) (h : RepIn w base g N cap i m vc vo l vl cur vs XS) (hi : i < N) (hm : m ≤ 1) :
    Calls Tryz.prog 109 #[.slice (some ⟨g, 0, none⟩) (N + 1) cap, .int .i64 i, .int .i64 ((i : Int) + 1), .slice vo m vc] w fun e w' => RetRow w w' base g (N + m) (repB l i vl) e := by
 have R := h.row
 have hM := R.m
 unfold maxLen at hM
 have hRl := R.len
 have hvl := h.vsl
 have hxl := h.xl
 have hN := h.N3
 have hle := h.le
 have hroom : N + m ≤ cap := by omega
 have b1 : ((i : Int) == (i : Int) + 1) = false := by simp; omega
 have b2 : ((i : Int) + 1 == (N : Int) + 1) = false := by simp; omega
 have b3 : (i : Int) + 1 ≤ (N : Int) + 1 := by omega
 have b4 : ((i : Int) + 1).toNat = i + 1 := by omega
 have b5 : (0 : Int) ≤ (i : Int) + 1 := by omega
 have b6 : IntKind.i64.wrap ((i : Int) + m) = (i : Int) + m := IntWalk.i64_in _ (by omega)
 have b7 : ((i : Int) + m).toNat = i + m := by omega
 have b8 : (0 : Int) ≤ (i : Int) + m := by omega
 have b9 : (i : Int) + m ≤ (i : Int) + m + ((N - i : Nat) : Int) := by omega
 have b10 : ¬ (cap = i + m) := by omega
 have b11 : ¬ (cap = i + 1) := by omega
 have b12 : ¬ (cap = i) := by omega
 have b13 : (i : Int) + m ≤ (i : Int) + 1 := by omega
 have b14 : (i : Int) + m + ((N - i : Nat) : Int) ≤ (N : Int) + 1 := by omega
 have hsum : i + m + (N - i) = N + m := by omega
 have HS : Hid _ := hsum
 have H : Hid _ := h
 clear h hsum
 go_enter Tryz.func109, Tryz.ntmps109
 go_wp2_with fail
 go_quiet (fail)
 have RD := R.below (below_drawn (w := w) nq)
 have hbd : Below w.heap.size w (w.drewN nq) := below_drawn (w := w) nq
 have hK : ∀ k, k < w.heap.size → k ≠ g → (w.drewN nq).heap[k]? = w.heap[k]? := fun k hk hne => hbd.block k hk
 go_wp2_with (refine wpList_copy_k rfl (.tmp 95) (.tmp 96) 32 32 rfl 40 3 Tryz.underlying32 size_block _ _ _ _ _ _ rfl rfl g (i * 3) cur 40 RD.h vs m (by simp only [Nat.min_def]; split <;> omega) hvl (fun h0 => ⟨rfl, H.out.src hK h0⟩) (by omega) H.out.v1 ?_; intro w1 hg1 hb1)
 have hR1 : Row w1 40 3 g cap (splice cur (i * 3) vs) := ⟨hg1.out, by rw [length_splice _ _ _ (by omega)]; exact hRl, R.m⟩
 have hR1d := hR1.below (Below.refl _ _).drew
 have hX : ∀ j v, XS[j]? = some v → (splice cur (i * 3) vs)[(i + 1) * 3 + j]? = some v := fun j v hj => by
  have h1 := H.out.xat j v hj
  unfold splice
  rw [List.getElem?_append_right (by rw [List.length_take]; omega), List.getElem?_append_right (by rw [List.length_take]; omega), List.getElem?_drop]
  rw [← h1]
  congr 1
  rw [List.length_take]
  omega
 have HX : Hid _ := hX
 clear hX hK
 go_region_law (refine step_copy_k rfl (.tmp 103) (.tmp 106) 32 32 rfl 40 3 Tryz.underlying32 size_block (some ⟨g, (i + m) * 3, none⟩) (some ⟨g, (i + 1) * 3, none⟩) (N - i) (cap - (i + m)) (N - i) (cap - (i + 1)) (by simp [Act.eval, Act.put]) (by simp [Act.eval, Act.put]) g ((i + m) * 3) (splice cur (i * 3) vs) 40 hR1d.h XS (N - i) (by simp only [Nat.min_def]; split <;> omega) hxl (fun _ => ⟨rfl, _, rfl, fun j v hj => by rw [add_at, hR1d.cell]; exact HX.out j v hj⟩) (by rw [length_splice _ _ _ (by omega)]; omega) H.out.x1 ?_; intro w2 hg2 hb2)
 all_goals
  have hl2 : (splice (splice cur (i * 3) vs) ((i + m) * 3) XS).length = cap * 3 := by rw [length_splice _ _ _ (by rw [length_splice _ _ _ (by omega)]; omega), length_splice _ _ _ (by omega)]; exact hRl
  clear hR1d HX hR1
  by_cases hq0 : cap = i + m + (N - i)
  ·have hq : (cap = i + m + (N - i)) = True := eq_true hq0
   have HQ : Hid _ := hq0
   clear hq0
   go_wp2_with (refine wpList_clear_k rfl (.tmp 110) 32 rfl 40 _ 3 Tryz.underlying32 zero_block rfl zero_one _ _ _ rfl g ((N + m) * 3) (splice (splice cur (i * 3) vs) ((i + m) * 3) XS) hg2.out (fun h0 => by exfalso; have := HS.out; have := HQ.out; omega) (by have := HS.out; have := HQ.out; omega) ?_; intro w3 cur3 hg3 hb3)
   go_ret
   obtain ⟨g1, g2, g3⟩ := hg3.out
   have e3 : (i + m) * 3 = i * 3 + vs.length := by omega
   have R2 : Row w3 40 3 g cap cur3 := ⟨g1, by rw [g2]; exact hl2, R.m⟩
   rw [HS.out]
   refine ⟨g, cap, rfl, R2.owns H.out.bg hroom ?_, (((But.of_below hbd).trans hb1).trans ((But.of_below (Below.refl _ _).drew).trans hb2)).trans hb3, .inl rfl⟩
   rw [g3, H.out.out, e3, show (N + m) * 3 = i * 3 + vs.length + XS.length by omega]
   exact splice_two_a (by omega)
  go_wp2_with (refine wpList_clear_k rfl (.tmp 110) 32 rfl 40 _ 3 Tryz.underlying32 zero_block rfl zero_one _ _ _ rfl g ((N + m) * 3) (splice (splice cur (i * 3) vs) ((i + m) * 3) XS) hg2.out (fun _ => by rw [HS.out]) (by have := HS.out; omega) ?_; intro w3 cur3 hg3 hb3)
  go_ret
  obtain ⟨g1, g2, g3⟩ := hg3.out
  have e3 : (i + m) * 3 = i * 3 + vs.length := by omega
  have R2 : Row w3 40 3 g cap cur3 := ⟨g1, by rw [g2]; exact hl2, R.m⟩
  rw [HS.out]
  refine ⟨g, cap, rfl, R2.owns H.out.bg hroom ?_, (((But.of_below hbd).trans hb1).trans ((But.of_below (Below.refl _ _).drew).trans hb2)).trans hb3, .inl rfl⟩
  rw [g3, H.out.out, e3, show (N + m) * 3 = i * 3 + vs.length + XS.length by omega]
  exact splice_two_a (by omega)
theorem bRep_grow (w : World) (base g N cap i m vc : Nat) (vo : Option Addr) (l vl : List Bk) (cur vs XS : List Value) (h : RepIn w base g N cap i m vc vo l vl cur vs XS) (hi : i < N) (hroom : cap < N + m) :
    Calls Tryz.prog 109 #[.slice (some ⟨g, 0, none⟩) (N + 1) cap, .int .i64 i, .int .i64 ((i : Int) + 1), .slice vo m vc] w fun e w' => RetRow w w' base g (N + m) (repB l i vl) e := by
 obtain ⟨i1, hj, hy0, hy1, hy2⟩ := info_parts info_block
 have R := h.row
 have hM := R.m
 unfold maxLen at hM
 have hRl := R.len
 have hvl := h.vsl
 have hxl := h.xl
 have hN := h.N3
 have hm4 := h.m4
 have hle := h.le
 have b1 : ((i : Int) == (i : Int) + 1) = false := by simp; omega
 have b2 : ((i : Int) + 1 == (N : Int) + 1) = false := by simp; omega
 have b3 : (i : Int) + 1 ≤ (N : Int) + 1 := by omega
 have b4 : ((i : Int) + 1).toNat = i + 1 := by omega
 have b5 : (0 : Int) ≤ (i : Int) + 1 := by omega
 have b6 : IntKind.i64.wrap ((i : Int) + m) = (i : Int) + m := IntWalk.i64_in _ (by omega)
 have b7 : ((i : Int) + m).toNat = i + m := by omega
 have b8 : (0 : Int) ≤ (i : Int) + m := by omega
 have b9 : (i : Int) + m ≤ (i : Int) + m + ((N - i : Nat) : Int) := by omega
 have b11 : ¬ (cap = i + 1) := by omega
 have b12 : ¬ (cap = i) := by omega
 have b13 : (cap : Int) < (i : Int) + m + ((N - i : Nat) : Int) := by omega
 obtain ⟨K, hK⟩ : ∃ K : Nat, (i : Int) + m + ((N - i : Nat) : Int) - i = (K : Int) := ⟨m + (N - i), by omega⟩
 have hKn : K = m + (N - i) := by omega
 have hgr : ∀ W : World, Below w.heap.size w W → W.heap.size = w.heap.size → _ := fun W hW hWs => grow_zeros (P := Tryz.prog) W 32 3 32 40 i1 _ 3 .i64 .i64 Tryz.underlying32 Tryz.underlying3 hj hy0 hy1 (by omega) rfl ⟨g, 0, none⟩ i cap (cur.take (i * 3)) (by rw [List.length_take]; omega) (fun j v hj => by
  rw [add_at, Nat.zero_add, (R.below hW).cell]
  rw [List.getElem?_take] at hj
  split at hj
  ·exact hj
  cases hj) K (by omega) (by omega) (by unfold maxLen; omega) (by rw [hy2]; omega)
 have HG : Hid _ := hgr
 have HKN : Hid _ := hKn
 have H : Hid _ := h
 clear h hgr hKn
 go_enter Tryz.func109, Tryz.ntmps109
 go_wp2_with fail
 go_quiet (fail)
 have hbd : Below w.heap.size w (w.drewN nq) := below_drawn (w := w) nq
 obtain ⟨cap', W, cur', hrun, R', ht, hc', hb'⟩ := HG.out (w.drewN nq) hbd (by simp)
 have hiK : i + K = N + m := by have := HKN.out; omega
 have HR : Hid _ := hrun
 have HIK : Hid _ := hiK
 have hcl' := R'.len
 have hsd : (w.drewN nq).heap.size = w.heap.size := by simp
 rw [hsd] at R' hb'
 have hbW : Below w.heap.size w W := hbd.trans (hb'.mono (by omega))
 have RW := R.below hbW
 have c1 : ¬ (cap' = i) := by omega
 have c2 : ¬ (cap' = i + m) := by omega
 have hKs : ∀ k, k < w.heap.size → k ≠ g → W.heap[k]? = w.heap[k]? := fun k hk hne => hbW.block k hk
 clear hrun HG hiK
 go_wp2_with (first
  | (at_builtin; refine Lib.wpList_append_run _ rfl (.tmp 63) (.tmp 66) 32 3 rfl _ _ rfl rfl _ _ HR.out ?_)
  | (refine wpList_copy_k rfl (.tmp 70) (.tmp 71) 32 32 rfl 40 3 Tryz.underlying32 size_block _ _ _ _ _ _ rfl rfl w.heap.size (i * 3) cur' 40 R'.h vs m (by have := HKN.out; simp only [Nat.min_def]; split <;> omega) hvl (fun h0 => ⟨by simp, H.out.src hKs h0⟩) (by have := HIK.out; omega) H.out.v1 ?_; intro w2 hg2 hb2))
 have RD := (RW.but hb2 (by have := R.lt; omega)).below (Below.refl w2.heap.size w2).drew
 have hgd : w2.drew.heap[w.heap.size]? = some (.cells (splice cur' (i * 3) vs).toArray 40 (0, 0)) := hg2.out
 have b14 : (i : Int) + m ≤ (i : Int) + K := by have := HKN.out; omega
 have b15 : (m : Int) ≤ (K : Int) := by have := HKN.out; omega
 go_region_law (refine step_copy_k rfl (.tmp 78) (.tmp 81) 32 32 rfl 40 3 Tryz.underlying32 size_block (some ⟨w.heap.size, (i + m) * 3, none⟩) (some ⟨g, (i + 1) * 3, none⟩) (i + K - (i + m)) (cap' - (i + m)) (N - i) (cap - (i + 1)) (by simp [Act.eval, Act.put]) (by simp [Act.eval, Act.put]) w.heap.size ((i + m) * 3) (splice cur' (i * 3) vs) 40 hgd XS (N - i) (by have := HKN.out; simp only [Nat.min_def]; split <;> omega) hxl (fun _ => ⟨rfl, _, rfl, fun j v hj => by rw [add_at, RD.cell]; exact H.out.xat j v hj⟩) (by have := HIK.out; rw [length_splice _ _ _ (by omega)]; omega) H.out.x1 ?_; intro w3 hg3 hb3)
 all_goals
  clear RD
  have hik := HIK.out
  go_wp2_with fail
  go_ret
  have e3 : (i + m) * 3 = i * 3 + vs.length := by omega
  have hl2 : (splice (splice cur' (i * 3) vs) ((i + m) * 3) XS).length = cap' * 3 := by rw [length_splice _ _ _ (by rw [length_splice _ _ _ (by omega)]; omega), length_splice _ _ _ (by omega)]; exact hcl'
  have R2 : Row w3 40 3 w.heap.size cap' (splice (splice cur' (i * 3) vs) ((i + m) * 3) XS) := ⟨hg3.out, hl2, R'.m⟩
  try rw [HIK.out]
  refine ⟨w.heap.size, cap', rfl, R2.owns (by have := H.out.bg; have := R.lt; omega) (by omega) ?_, ?_, .inr (Nat.le_refl _)⟩
  ·rw [H.out.out, e3, show (N + m) * 3 = i * 3 + vs.length + XS.length by omega, splice_two_a (by omega), ht]
  have hbl : Below w.heap.size w w3 := hbW.trans ((hb2.trans ((But.of_below (Below.refl _ _).drew).trans hb3)).below (Nat.le_refl _) hbW.size)
  exact .of_below hbl
theorem grown_but {w w' : World} {g : Nat} (h : w.grownBy w' (some g)) : But g w w' :=
 ⟨h.os, h.tape, h.output, h.size, fun k hk hne => h.block k hk (by intro g; exact hne (by simpa using g))⟩
theorem bRep_end (w : World) (base g N cap i m vc : Nat) (vo : Option Addr) (l vl : List Bk) (cur vs XS : List Value) (h : RepIn w base g N cap i m vc vo l vl cur vs XS) (hi : i = N) :
    Calls Tryz.prog 109 #[.slice (some ⟨g, 0, none⟩) (N + 1) cap, .int .i64 i, .int .i64 ((i : Int) + 1), .slice vo m vc] w fun e w' => RetRow w w' base g (N + m) (repB l i vl) e := by
 obtain ⟨i1, hj, hy0, hy1, hy2⟩ := info_parts info_block
 subst hi
 have R := h.row
 have hM := R.m
 have hml : i + m ≤ maxLen := by have := h.N3; have := h.m4; unfold maxLen; omega
 unfold maxLen at hM
 have hRl := R.len
 have hvl := h.vsl
 have hN := h.N3
 have hm4 := h.m4
 have hle := h.le
 have hX : XS = [] := List.eq_nil_of_length_eq_zero (by rw [h.xl]; omega)
 have HO : Hid (bvals (repB l i vl) = bvals (l.take i) ++ vs) := by show _ = _; rw [h.out, h.tk, hX, List.append_nil]
 have own : w.ownsRow base 40 3 (.slice (some ⟨g, 0, none⟩) i cap) i (bvals (l.take i)) := R.owns h.bg (by omega) h.tk
 have hv0 := h.v0
 have hv1 := h.v1
 have hsrc : ∀ ad, vo = some ad → ∀ j u, vs[j]? = some u → w.cell? (ad.add j) = some u := fun ad he j u hu => by
  by_cases h0 : 0 < m
  ·obtain ⟨ad', he', hc⟩ := h.src (W := w) (fun k _ _ => rfl) h0
   rw [he] at he'
   cases he'
   exact hc j u hu
  have : vs = [] := List.eq_nil_of_length_eq_zero (by rw [hvl]; omega)
  rw [this] at hu
  cases hu
 have hbg := h.bg
 have b1 : ((i : Int) == (i : Int) + 1) = false := by simp; omega
 have b2 : ((i : Int) + 1 == (i : Int) + 1) = true := by simp
 have b3 : (i : Int) + 1 ≤ (i : Int) + 1 := by omega
 have b4 : ((i : Int) + 1).toNat = i + 1 := by omega
 have b5 : (0 : Int) ≤ (i : Int) + 1 := by omega
 have b12 : ¬ (cap = i) := by omega
 have HV0 : Hid _ := hv0
 have HSRC : Hid _ := hsrc
 clear h hX hv0 hsrc
 by_cases hroom : i + m ≤ cap
 ·by_cases h0 : m = 0
  ·subst h0
   go_enter Tryz.func109, Tryz.ntmps109
   go_wp2_with (first
    | (at_builtin; refine wpList_append_fits_any _ rfl (.tmp 32) (.tmp 33) 32 rfl base 40 i1 3 Tryz.underlying32 hj hy1 g i cap (bvals (l.take i)) rfl own vo 0 vc vs rfl hvl HV0.out HSRC.out hv1 hroom ?_; intro w1 ho1 hb1; obtain ⟨_, _, cur1, R1, hcur1⟩ := Row.of ho1; have hl1 := R1.len)
    | (refine wpList_clear_k rfl (.tmp 43) 32 rfl 40 _ 3 Tryz.underlying32 zero_block rfl zero_one _ _ _ rfl g (i * 3) cur1 R1.h (fun _ => rfl) (by omega) ?_; intro w2 cur2 hg2 hb2))
   go_ret
   obtain ⟨g1, g2, g3⟩ := hg2.out
   have R2 : Row w2 40 3 g cap cur2 := ⟨g1, by rw [g2]; exact hl1, R1.m⟩
   exact ⟨g, cap, rfl, R2.owns hbg (by omega) (by rw [HO.out, ← hcur1]; exact g3), (grown_but hb1).trans hb2, .inl rfl⟩
  have c1 : ((i : Int) + m < (i : Int) + 1) = False := eq_false (by omega)
  go_enter Tryz.func109, Tryz.ntmps109
  go_wp2_with (at_builtin; refine wpList_append_fits_any _ rfl (.tmp 32) (.tmp 33) 32 rfl base 40 i1 3 Tryz.underlying32 hj hy1 g i cap (bvals (l.take i)) rfl own vo m vc vs rfl hvl HV0.out HSRC.out hv1 hroom ?_; intro w1 ho1 hb1)
  all_goals
   go_ret
   exact ⟨g, cap, rfl, by rw [HO.out]; exact ho1, grown_but hb1, .inl rfl⟩
 have h0 : 0 < m := by omega
 cases vo with
 | none => have := HV0.out rfl; omega
 | some ad =>
  have hold : ∀ j v, (bvals (l.take i))[j]? = some v → w.cell? ((⟨g, 0, none⟩ : Addr).add j) = some v := own.cells rfl
  obtain ⟨cap', W, cur', hrun, R', ht, hc', hb'⟩ := grow_some (P := Tryz.prog) w 32 32 40 i1 _ 3 Tryz.underlying32 hj hy0 hy1 rfl ⟨g, 0, none⟩ i cap (bvals (l.take i)) own.1 hold ad m vc vs hvl (HSRC.out ad rfl) (by omega) hml (by rw [hy2]; omega)
  have ow' := R'.owns (base := base) (n := i + m) (by have := R.lt; omega) hc' ht
  have HR : Hid _ := hrun
  have c1 : ((i : Int) + m < (i : Int) + 1) = False := eq_false (by omega)
  clear hrun
  go_enter Tryz.func109, Tryz.ntmps109
  go_wp2_with (at_builtin; refine Lib.wpList_append_run _ rfl (.tmp 32) (.tmp 33) 32 32 rfl _ _ rfl rfl _ _ HR.out ?_)
  all_goals
   go_ret
   exact ⟨w.heap.size, cap', rfl, by rw [HO.out]; exact ow', .of_below hb', .inr (Nat.le_refl _)⟩
theorem bRep_any (w : World) (base g N cap i m vc bv : Nat) (vo : Option Addr) (l vl : List Bk) (hi : i ≤ N) (hN : N ≤ 300) (hm : m ≤ 4) (own : w.ownsRow base 40 3 (.slice (some ⟨g, 0, none⟩) (N + 1) cap) (N + 1) (bvals l)) (ov : w.ownsRow bv 40 3 (.slice vo m vc) m (bvals vl)) (hne : g < bv) :
    Calls Tryz.prog 109 #[.slice (some ⟨g, 0, none⟩) (N + 1) cap, .int .i64 i, .int .i64 ((i : Int) + 1), .slice vo m vc] w fun e w' => RetRow w w' base g (N + m) (repB l i vl) e := by
 obtain ⟨cur, vs, XS, h⟩ := repIn w base g N cap i m vc vo l vl hi hN hm own bv ov hne
 by_cases h1 : i = N
 ·exact bRep_end w base g N cap i m vc vo l vl cur vs XS h h1
 by_cases h2 : cap < N + m
 ·exact bRep_grow w base g N cap i m vc vo l vl cur vs XS h (by omega) h2
 by_cases h3 : m ≤ 1
 ·exact bRep_less w base g N cap i m vc vo l vl cur vs XS h (by omega) h3
 exact bRep_shift w base g N cap i m vc vo l vl cur vs XS h (by omega) (by omega) (by omega)
theorem blk_end {t a o : Int} (ho : ordOk o) (h1 : a ≤ t - 1) (h2 : a % pw o = 0) (h3 : t % 16 = 0) : a + pw o ≤ t := by
 rcases ord_cases ho with ⟨rfl, e⟩ | ⟨rfl, e⟩ | ⟨rfl, e⟩ | ⟨rfl, e⟩ | ⟨rfl, e⟩ <;> rw [e] at h2 ⊢ <;> omega
theorem own_at {w : World} {base g n cap : Nat} {l : List Bk} (h : w.ownsRow base 40 3 (.slice (some ⟨g, 0, none⟩) n cap) n (bvals l)) {i : Nat} (hi : i < n) {a o t : Int} (hb : l.getD i .zero = ⟨a, o, t⟩) :
    w.cell? ⟨g, i * 3, none⟩ = some (.int .i64 a) ∧ w.cell? ⟨g, i * 3 + 1, none⟩ = some (.int .i64 o) ∧ w.cell? ⟨g, i * 3 + 2, none⟩ = some (.int .i64 t) := by
 obtain ⟨b, off, e, h1, h2, h3⟩ := blks_of_owns h i (by rw [bowns_len h]; exact hi)
 simp only [Option.some.injEq, Addr.mk.injEq, and_true] at e
 obtain ⟨rfl, rfl⟩ := e
 rw [hb] at h1 h2 h3
 simp only [Nat.zero_add] at h1 h2 h3
 exact ⟨h1, h2, h3⟩
theorem tbox_new' (W : World) (q : Bk) (t : TypeId) : (W.alloc (.cells #[.int .i64 q.a, .int .i64 q.o, .int .i64 q.t] t)).cell? ⟨W.heap.size, 0, none⟩ = some (.int .i64 q.a) ∧ (W.alloc (.cells #[.int .i64 q.a, .int .i64 q.o, .int .i64 q.t] t)).cell? ⟨W.heap.size, 1, none⟩ = some (.int .i64 q.o) ∧ (W.alloc (.cells #[.int .i64 q.a, .int .i64 q.o, .int .i64 q.t] t)).cell? ⟨W.heap.size, 2, none⟩ = some (.int .i64 q.t) := ⟨by simp, by simp, by simp⟩
theorem HB6s (z : Zn) (F L : Nat) (t : Int) {i : Nat} {ba bo bt : Int} (hb : z.free.getD i .zero = ⟨ba, bo, bt⟩) (hi : i < z.free.length) (hF : (ba - z.f) / 8 = (F : Int)) (hL : (ba + pw bo - 1 - z.f) / 8 = (L : Int)) : (z.free.map (stealB z.f F L t)).getD i .zero = ⟨ba, bo, t⟩ := by
 rw [map_getD _ hi, hb]
 have hp := pw_pos bo
 unfold stealB
 dsimp only
 rw [if_pos ⟨by omega, by omega⟩]
structure TkF (zb bb g n cap : Nat) (ba bo t : Int) (W : World) : Prop where
 c : W.cell? ⟨zb, 2, none⟩ = some (.slice (some ⟨g, 0, none⟩) n cap)
 e0 : W.cell? ⟨bb, 0, none⟩ = some (.int .i64 ba)
 e1 : W.cell? ⟨bb, 1, none⟩ = some (.int .i64 bo)
 e2 : W.cell? ⟨bb, 2, none⟩ = some (.int .i64 t)
theorem TkF.below {zb bb g n cap : Nat} {ba bo t : Int} {W W' : World} (h : TkF zb bb g n cap ba bo t W) (hb : Below W.heap.size W W') : TkF zb bb g n cap ba bo t W' := ⟨keep h.c hb, keep h.e0 hb, keep h.e1 hb, keep h.e2 hb⟩
theorem TkF.but {zb bb g n cap c : Nat} {ba bo t : Int} {W W' : World} (h : TkF zb bb g n cap ba bo t W) (hb : But c W W') (h1 : zb ≠ c) (h2 : bb ≠ c) : TkF zb bb g n cap ba bo t W' := ⟨hb.cell h.c h1, hb.cell h.e0 h2, hb.cell h.e1 h2, hb.cell h.e2 h2⟩
set_option maxHeartbeats 8000000 in
theorem zTake_plain (w : World) (fo : Option Addr) (N fc : Nat) (to_ : Option Addr) (tn tc : Nat) (z : Zn) (o t ba bo bt : Int) (i : Nat) (h : ZnAt w fo (N + 1) to_ tn z) (hM : ZMay z) (hT : TabAt w) (ho : ordOk o) (ht : typeOk t) (hC : chooseI z.free o t = i) (hiN : i ≤ N) (hb : z.free.getD i .zero = ⟨ba, bo, bt⟩) (hob : o ≤ bo) (hst : (bt == t) = true ∨ bo < 2) :
    Calls Tryz.prog 90 #[.agg #[.int .i64 z.f, .int .i64 z.t, .slice fo (N + 1) fc, .slice to_ tn tc], .int .i64 o, .int .i64 t] w fun e w' => RetZone3 w.heap.size w' ⟨z.f, z.t, repB z.free i (halvesL ba bt o (bo - o).toNat), z.types⟩ ba e ∧ Below w.heap.size w w' := by
 have I0 := cbI_first w fo (N + 1) fc to_ tn tc z h
 have c0 := I0.box.c0
 have c1 := I0.box.c1
 have c2 := I0.box.c2
 have c3 := I0.box.c3
 have hlen : z.free.length = N + 1 := h.free.len
 have hbl := may_len hM
 have htr := h.types.reach
 have hN3 : N ≤ 300 := by omega
 obtain ⟨n1, n2, n3, n4, n5⟩ := hM.new
 obtain ⟨⟨o0, o4⟩, a1, a2, a3⟩ := (freeOk_at hM.free (k := i) (by omega) hb).1
 dsimp only at o0 o4 a1 a2 a3
 have htl : tn ≤ 300 := by have h1 := hM.len; have h2 : z.types.length = tn := h.types.len; omega
 have HAll : Hid (∀ b ∈ z.free, z.f ≤ b.a ∧ b.a ≤ 256) := fun b hb => by obtain ⟨_, q1, q2, _⟩ := may_blk hM b hb; omega
 have HEnd : Hid (ba + pw bo ≤ 256) := by
  show _ ≤ _
  have hp := blk_end (o := bo) ⟨o0, o4⟩ a2 a3 n5
  omega
 have HB : Hid _ := hb
 have HC : Hid _ := hC
 have HL : Hid _ := hlen
 have HO : Hid (inB o 0 4 = true) := inB_t ho
 have HT : Hid (inB t 0 2 = true) := inB_t ht
 have k1 : ¬ ((i : Int) < 0) := by omega
 have k2 : (i : Int) < (N : Int) + 1 := by omega
 have k3 : IntKind.i64.wrap ((i : Int) + 1) = (i : Int) + 1 := IntWalk.i64_in _ (by omega)
 clear h hb hC hlen
 go_enter Tryz.func90, Tryz.ntmps90
 go_wp2_with fail
 go_at_call 49
 refine (zCheck_ok _ fo (N + 1) fc to_ tn tc z I0.zn hM).mono ?_
 rintro e w1 ⟨rfl, hb⟩
 have I1 := I0.step hb
 clear I0 hb c0 c1 c2 c3
 have c0 := I1.box.c0
 have c1 := I1.box.c1
 have c2 := I1.box.c2
 have c3 := I1.box.c3
 go_wp2_with fail
 go_at_call 106
 refine (isOrder_any _ o).mono ?_
 rintro e wq ⟨rfl, rfl⟩
 rw [HO.out]
 go_wp2_with fail
 go_at_call 93
 refine (isType_any _ t).mono ?_
 rintro e wq ⟨rfl, rfl⟩
 rw [HT.out]
 go_wp2_with fail
 go_at_call 107
 refine (choose_any _ fo (N + 1) fc z.free o t I1.zn.free (hT.below I1.b) ho ht).mono ?_
 rintro e w2 ⟨rfl, hb2⟩
 rw [HC.out]
 have I2 := I1.step hb2
 clear I1 hb2 c0 c1 c2 c3
 have c0 := I2.box.c0
 have c1 := I2.box.c1
 have c2 := I2.box.c2
 have c3 := I2.box.c3
 go_wp2_with fail
 go_at_call 60
 refine (zCopy_own _ fo (N + 1) fc to_ tn tc z I2.zn).mono ?_
 rintro e w3 ⟨g, k, rfl, o1, o2, hgk, hb3⟩
 have I3 := I2.step hb3
 have hf1 := owns_fresh o1 _ rfl
 have hf2 := owns_fresh o2 _ rfl
 have Z4 := zo_new o1 o2 hgk
 have hbx := below_box w3 (.cells #[.int .i64 z.f, .int .i64 z.t, .slice (some ⟨g, 0, none⟩) (N + 1) (N + 1), .slice (some ⟨k, 0, none⟩) tn tn] 54)
 have I4 := I3.step hbx
 have hs2 := I2.size
 have hs3 := I3.size
 obtain ⟨W4, hW4⟩ : ∃ W4, w3.alloc (.cells #[.int .i64 z.f, .int .i64 z.t, .slice (some ⟨g, 0, none⟩) (N + 1) (N + 1), .slice (some ⟨k, 0, none⟩) tn tn] 54) = W4 := ⟨_, rfl⟩
 rw [hW4] at I4 Z4
 have HW4 : Hid _ := hW4
 dsimp only at hf1 hf2
 have hgl := Z4.glt
 have hkl := Z4.klt
 have hzl := Z4.box.lt
 obtain ⟨d0, d1, d2⟩ := own_at Z4.own (i := i) (by omega) HB.out
 have y2 := Z4.box.c2
 have hb5 := below_box W4 (.cells #[.int .i64 ba, .int .i64 bo, .int .i64 bt] 40)
 have I5 := I4.step hb5
 have Z5 := Z4.below hb5
 have T5 := tbox_new' W4 ⟨ba, bo, bt⟩ 40
 have hs5 : W4.heap.size < (W4.alloc (.cells #[.int .i64 ba, .int .i64 bo, .int .i64 bt] 40)).heap.size := by simp
 obtain ⟨W5, hW5⟩ : ∃ W5, W4.alloc (.cells #[.int .i64 ba, .int .i64 bo, .int .i64 bt] 40) = W5 := ⟨_, rfl⟩
 dsimp only at T5
 rw [hW5] at I5 Z5 T5 hs5
 have HW5 : Hid _ := hW5
 obtain ⟨e0, e1, e2⟩ := T5
 have y5 := Z5.box.c2
 obtain ⟨f0, f1, f2⟩ := own_at Z5.own (i := i) (by omega) HB.out
 clear I2 I3 hb3 c0 c1 c2 c3 o1 o2 hbx hW4 hW5 hb5
 have hst' : (bt == t) = true ∨ ((bt == t) = false ∧ ¬ (2 ≤ bo)) := by
  cases s1 : (bt == t) with
  | true => exact .inl rfl
  | false => rw [s1] at hst; exact .inr ⟨rfl, by rcases hst with q | q; cases q; omega⟩
 clear hst
 have R5 := I5.res
 have B5 := I5.b
 have hf3 : w.heap.size + 2 ≤ W5.heap.size := I5.size
 rcases hst' with s1 | ⟨s1, s2⟩
 ·have s3 : (bt != t) = false := by simpa using s1
  clear I5
  go_wp2_with (first | rw [HW4.out] | rw [HW5.out])
  clear s1 s3 I4 Z4 HW4 HW5 d0 d1 d2 e0 e1 e2 y2
  have hb7 := below_box W5 (.cells #[.int .i64 ba, .int .i64 bo, .int .i64 bt] 40)
  have Z7 := Z5.below hb7
  have R7 := R5.below hb7
  have B7 := B5.trans (hb7.mono B5.size)
  have T7 := tbox_new' W5 ⟨ba, bo, bt⟩ 40
  have hs7 : W5.heap.size < (W5.alloc (.cells #[.int .i64 ba, .int .i64 bo, .int .i64 bt] 40)).heap.size := by simp
  have gz7 := Z5.gz
  have kz7 := Z5.kz
  have gk7 := Z5.gk
  have hz7 := Z5.box.lt
  have hg7 := Z5.glt
  have hk7 := Z5.klt
  dsimp only at T7
  obtain ⟨W7, hW7⟩ : ∃ W7, W5.alloc (.cells #[.int .i64 ba, .int .i64 bo, .int .i64 bt] 40) = W7 := ⟨_, rfl⟩
  rw [hW7] at Z7 R7 B7 T7 hs7 ⊢
  obtain ⟨g0, g1, g2⟩ := T7
  have S0 : TkF w3.heap.size W5.heap.size g (N + 1) (N + 1) ba bo bt W7 := ⟨Z7.box.c2, g0, g1, g2⟩
  have S1 := S0.below (Below.refl W7.heap.size W7).drew
  have hBd := (Below.refl W7.heap.size W7).drew
  have m1 : ∀ wx, TkF w3.heap.size W5.heap.size g (N + 1) (N + 1) ba bo bt wx → wx.cell? ⟨w3.heap.size, 2, none⟩ = some (.slice (some ⟨g, 0, none⟩) (N + 1) (N + 1)) := fun wx h => h.c
  have m2 : ∀ wx, TkF w3.heap.size W5.heap.size g (N + 1) (N + 1) ba bo bt wx → wx.cell? ⟨W5.heap.size, 0, none⟩ = some (.int .i64 ba) := fun wx h => h.e0
  have m3 : ∀ wx, TkF w3.heap.size W5.heap.size g (N + 1) (N + 1) ba bo bt wx → wx.cell? ⟨W5.heap.size, 1, none⟩ = some (.int .i64 bo) := fun wx h => h.e1
  have m4 : ∀ wx, TkF w3.heap.size W5.heap.size g (N + 1) (N + 1) ba bo bt wx → wx.cell? ⟨W5.heap.size, 2, none⟩ = some (.int .i64 bt) := fun wx h => h.e2
  have HH : Hid (∀ V, Below W7.heap.size W7 V → Calls Tryz.prog 110 #[.agg #[.int .i64 ba, .int .i64 bo, .int .i64 bt], .int .i64 o] V fun e w' => ∃ v, e = .returned v ∧ w'.ownsRow W7.heap.size 40 3 v (bo - o).toNat (bvals (halvesL ba bt o (bo - o).toNat)) ∧ Below W7.heap.size W7 w') := fun V hV => by
   refine (halves_any V ba bo bt o ⟨o0, o4⟩ ho.1 hob (by omega) (by omega)).mono ?_
   rintro e w' ⟨v, rfl, ow, hb⟩
   exact ⟨v, rfl, owns_weaken ow hV.size, hV.trans (hb.mono hV.size)⟩
  have HR : Hid (∀ V vo vc, Below W7.heap.size W7 V → V.ownsRow W7.heap.size 40 3 (.slice vo (bo - o).toNat vc) (bo - o).toNat (bvals (halvesL ba bt o (bo - o).toNat)) → Calls Tryz.prog 109 #[.slice (some ⟨g, 0, none⟩) (N + 1) (N + 1), .int .i64 i, .int .i64 ((i : Int) + 1), .slice vo (bo - o).toNat vc] V fun e w' => RetRow V w' w2.heap.size g (N + (bo - o).toNat) (repB z.free i (halvesL ba bt o (bo - o).toNat)) e) := fun V vo vc hV ov =>
   bRep_any V w2.heap.size g N (N + 1) i (bo - o).toNat vc W7.heap.size vo z.free (halvesL ba bt o (bo - o).toNat) hiN hN3 (by have := ho.1; omega) (owns_below Z7.own hV (Nat.le_refl _)) ov (by omega)
  go_wp2_with fail
  refine wp_region_peel (S := fun wx => TkF w3.heap.size W5.heap.size g (N + 1) (N + 1) ba bo bt wx) 10 _ (by kernel_rfl) (by kernel_rfl) rfl ?_
  simp only [List.take_succ_cons, List.take_zero]
  refine tkH 0 (.pointer (some ⟨w3.heap.size, 2, none⟩)) S1 (h:=?_)
  refine tkH 1 (.slice (some ⟨g, 0, none⟩) (N + 1) (N + 1)) S1 (h:=?_)
  refine tkH 2 (.int .i64 (i : Int)) S1 (h:=?_)
  refine tkH 3 (.int .i64 (i : Int)) S1 (h:=?_)
  refine tkH 4 (.int .i64 ((i : Int) + 1)) S1 (h:=?_)
  refine tkH 5 (.agg #[.int .i64 ba, .int .i64 bo, .int .i64 bt]) S1 (h:=?_)
  refine tkH 6 (.int .i64 o) S1 (h:=?_)
  refine oneH 7 (by kernel_rfl) rfl rfl (fun K1 hK1 => ?_)
  go_simp
  refine (HH.out _ hBd).mono ?_
  rintro e w8 ⟨v, rfl, ow8, hb8⟩
  obtain ⟨vo, vc, rfl⟩ := owns_shape ow8
  have hS8 := S0.below hb8
  refine hK1 _ _ hS8 ?_
  try simp only [Act.put, List.setIfInBounds_toArray, List.set_cons_zero, List.set_cons_succ]
  refine oneH 8 (by kernel_rfl) rfl rfl (fun K2 hK2 => ?_)
  go_simp
  refine (HR.out _ vo vc hb8 ow8).mono ?_
  rintro e w9 ⟨g', cap', rfl, ow9, hb9, hg9⟩
  have hS9 := hS8.but hb9 (by omega) (by omega)
  have X9 := (Z7.box.below hb8).but hb9 (by omega)
  refine hK2 _ _ hS9 ?_
  try simp only [Act.put, List.setIfInBounds_toArray, List.set_cons_zero, List.set_cons_succ]
  refine tkH 9 (.pointer (some ⟨w3.heap.size, 2, none⟩)) hS9 (h:=?_)
  refine wpAnyH_done (by kernel_rfl) ?_ _
  show Oper.wp _ _ _ _ _ _
  have x2 := X9.c2
  have x2z := X9.z2
  have hg9' : g' = g ∨ W7.heap.size ≤ g' := by rcases hg9 with q | q; exact .inl q; exact .inr (Nat.le_trans hb8.size q)
  have hbt : But w3.heap.size w9 (w9.setCell ⟨w3.heap.size, 2, none⟩ (.slice (some ⟨g', 0, none⟩) (N + (bo - o).toNat) cap')) := (But.refl _ _).setCell _
  have X10 := X9.set2 (.slice (some ⟨g', 0, none⟩) (N + (bo - o).toNat) cap')
  have R10 := ((R7.below hb8).but hb9 (by omega)).but hbt (by omega)
  have q0 := hbt.cell hS9.e0 (by omega)
  have ow10 := own_but ow9 hbt (by omega)
  have ty10 := own_but (own_but (owns_below Z7.typ hb8 (Nat.le_refl _)) hb9 (Ne.symm gk7)) hbt (by omega)
  have B10 : Below w.heap.size w (w9.setCell ⟨w3.heap.size, 2, none⟩ (.slice (some ⟨g', 0, none⟩) (N + (bo - o).toNat) cap')) := B7.trans ((hb8.mono (B7.size)).trans ((hb9.below (by omega) (Nat.le_trans B7.size hb8.size)).trans (hbt.below (by omega) (Nat.le_trans B7.size (Nat.le_trans hb8.size hb9.size)))))
  have hs9 : W7.heap.size ≤ (w9.setCell ⟨w3.heap.size, 2, none⟩ (.slice (some ⟨g', 0, none⟩) (N + (bo - o).toNat) cap')).heap.size := Nat.le_trans hb8.size (Nat.le_trans hb9.size hbt.size)
  obtain ⟨w10, hw10⟩ : ∃ w10, w9.setCell ⟨w3.heap.size, 2, none⟩ (.slice (some ⟨g', 0, none⟩) (N + (bo - o).toNat) cap') = w10 := ⟨_, rfl⟩
  rw [hw10] at X10 R10 q0 ow10 ty10 B10 hs9
  have HW10 : Hid _ := hw10
  obtain ⟨p0, p1, p2, p3, _, _, _, _⟩ := id X10
  obtain ⟨⟨u0, d0⟩, ⟨u1, d1⟩, ⟨u2, d2⟩, ⟨u3, d3⟩, z0, z1, z2, z3⟩ := id R10
  clear hw10 hbt HH HR m1 m2 m3 m4 S0 S1 hS8 hS9 X9 R7 Z7 hb8 hb9 ow8 ow9 B7 hBd g0 g1 g2
  go_wp2_with (rw [HW10.out])
  have ne1 : ¬ (W5.heap.size = w.heap.size + 1) := by omega
  have ne2 : ¬ (w.heap.size + 1 = W5.heap.size) := by omega
  have RD := R10.below (Below.refl w10.heap.size w10).drew
  obtain ⟨k0, k1, k2, k3⟩ := res4 R10 (.int .i64 z.f) (.int .i64 z.t) (.slice (some ⟨g', 0, none⟩) (N + (bo - o).toNat) cap') (.slice (some ⟨k, 0, none⟩) tn tn)
  have hbt := but4 w10.drew (w.heap.size + 1) (.int .i64 z.f) (.int .i64 z.t) (.slice (some ⟨g', 0, none⟩) (N + (bo - o).toNat) cap') (.slice (some ⟨k, 0, none⟩) tn tn)
  have Bl : Below w10.heap.size w10 w10.drew := (Below.refl w10.heap.size w10).drew
  have BF := blks_own (owns_below ow10 Bl (Nat.le_refl _)) (by have := ho.1; omega)
  have NF := nums_of_owns (owns_below ty10 Bl (Nat.le_refl _)) htr
  have BB := (B10.trans (Bl.mono B10.size)).trans (hbt.below (B := w.heap.size) (by omega) (Nat.le_trans B10.size Bl.size))
  have FIN : RetZone3 w.heap.size ((((w10.drew.setCell ⟨w.heap.size + 1, 0, none⟩ (.int .i64 z.f)).setCell ⟨w.heap.size + 1, 1, none⟩ (.int .i64 z.t)).setCell ⟨w.heap.size + 1, 2, none⟩ (.slice (some ⟨g', 0, none⟩) (N + (bo - o).toNat) cap')).setCell ⟨w.heap.size + 1, 3, none⟩ (.slice (some ⟨k, 0, none⟩) tn tn)) ⟨z.f, z.t, repB z.free i (halvesL ba bt o (bo - o).toNat), z.types⟩ ba (.returned (.tuple #[.agg #[.int .i64 z.f, .int .i64 z.t, .slice (some ⟨g', 0, none⟩) (N + (bo - o).toNat) cap', .slice (some ⟨k, 0, none⟩) tn tn], .int .i64 ba, .int .i64 0])) := ⟨_, _, _, _, _, _, rfl, hbt.zn ⟨BF, NF⟩ (fun a ha => by cases ha; dsimp only; omega) (fun a ha => by cases ha; dsimp only; omega), fun a ha => by cases ha; dsimp only; omega, fun a ha => by cases ha; dsimp only; omega⟩
  have HFIN : Hid _ := FIN
  have HBB : Hid _ := BB
  clear FIN BB BF NF X10 ow10 ty10 B10 R10 RD hbt Bl
  go_region
  all_goals
   try go_wp2_with fail
   exact bodyPost_ret (v := .tuple #[.agg #[.int .i64 z.f, .int .i64 z.t, .slice (some ⟨g', 0, none⟩) (N + (bo - o).toNat) cap', .slice (some ⟨k, 0, none⟩) tn tn], .int .i64 ba, .int .i64 0]) (by simp [results, Tryz.results90, go_sem, k0, k1, k2, k3]) rfl ⟨HFIN.out, HBB.out⟩
 have s3 : (bt != t) = true := by simpa using s1
 clear I5
 go_wp2_with (first | rw [HW4.out] | rw [HW5.out])
 clear s1 s2 s3 I4 Z4 HW4 HW5 d0 d1 d2 e0 e1 e2 y2
 have hb7 := below_box W5 (.cells #[.int .i64 ba, .int .i64 bo, .int .i64 bt] 40)
 have Z7 := Z5.below hb7
 have R7 := R5.below hb7
 have B7 := B5.trans (hb7.mono B5.size)
 have T7 := tbox_new' W5 ⟨ba, bo, bt⟩ 40
 have hs7 : W5.heap.size < (W5.alloc (.cells #[.int .i64 ba, .int .i64 bo, .int .i64 bt] 40)).heap.size := by simp
 have gz7 := Z5.gz
 have kz7 := Z5.kz
 have gk7 := Z5.gk
 have hz7 := Z5.box.lt
 have hg7 := Z5.glt
 have hk7 := Z5.klt
 dsimp only at T7
 obtain ⟨W7, hW7⟩ : ∃ W7, W5.alloc (.cells #[.int .i64 ba, .int .i64 bo, .int .i64 bt] 40) = W7 := ⟨_, rfl⟩
 rw [hW7] at Z7 R7 B7 T7 hs7 ⊢
 obtain ⟨g0, g1, g2⟩ := T7
 have S0 : TkF w3.heap.size W5.heap.size g (N + 1) (N + 1) ba bo bt W7 := ⟨Z7.box.c2, g0, g1, g2⟩
 have S1 := S0.below (Below.refl W7.heap.size W7).drew
 have hBd := (Below.refl W7.heap.size W7).drew
 have m1 : ∀ wx, TkF w3.heap.size W5.heap.size g (N + 1) (N + 1) ba bo bt wx → wx.cell? ⟨w3.heap.size, 2, none⟩ = some (.slice (some ⟨g, 0, none⟩) (N + 1) (N + 1)) := fun wx h => h.c
 have m2 : ∀ wx, TkF w3.heap.size W5.heap.size g (N + 1) (N + 1) ba bo bt wx → wx.cell? ⟨W5.heap.size, 0, none⟩ = some (.int .i64 ba) := fun wx h => h.e0
 have m3 : ∀ wx, TkF w3.heap.size W5.heap.size g (N + 1) (N + 1) ba bo bt wx → wx.cell? ⟨W5.heap.size, 1, none⟩ = some (.int .i64 bo) := fun wx h => h.e1
 have m4 : ∀ wx, TkF w3.heap.size W5.heap.size g (N + 1) (N + 1) ba bo bt wx → wx.cell? ⟨W5.heap.size, 2, none⟩ = some (.int .i64 bt) := fun wx h => h.e2
 have HH : Hid (∀ V, Below W7.heap.size W7 V → Calls Tryz.prog 110 #[.agg #[.int .i64 ba, .int .i64 bo, .int .i64 bt], .int .i64 o] V fun e w' => ∃ v, e = .returned v ∧ w'.ownsRow W7.heap.size 40 3 v (bo - o).toNat (bvals (halvesL ba bt o (bo - o).toNat)) ∧ Below W7.heap.size W7 w') := fun V hV => by
  refine (halves_any V ba bo bt o ⟨o0, o4⟩ ho.1 hob (by omega) (by omega)).mono ?_
  rintro e w' ⟨v, rfl, ow, hb⟩
  exact ⟨v, rfl, owns_weaken ow hV.size, hV.trans (hb.mono hV.size)⟩
 have HR : Hid (∀ V vo vc, Below W7.heap.size W7 V → V.ownsRow W7.heap.size 40 3 (.slice vo (bo - o).toNat vc) (bo - o).toNat (bvals (halvesL ba bt o (bo - o).toNat)) → Calls Tryz.prog 109 #[.slice (some ⟨g, 0, none⟩) (N + 1) (N + 1), .int .i64 i, .int .i64 ((i : Int) + 1), .slice vo (bo - o).toNat vc] V fun e w' => RetRow V w' w2.heap.size g (N + (bo - o).toNat) (repB z.free i (halvesL ba bt o (bo - o).toNat)) e) := fun V vo vc hV ov =>
  bRep_any V w2.heap.size g N (N + 1) i (bo - o).toNat vc W7.heap.size vo z.free (halvesL ba bt o (bo - o).toNat) hiN hN3 (by have := ho.1; omega) (owns_below Z7.own hV (Nat.le_refl _)) ov (by omega)
 go_wp2_with fail
 refine wp_region_peel (S := fun wx => TkF w3.heap.size W5.heap.size g (N + 1) (N + 1) ba bo bt wx) 10 _ (by kernel_rfl) (by kernel_rfl) rfl ?_
 simp only [List.take_succ_cons, List.take_zero]
 refine tkH 0 (.pointer (some ⟨w3.heap.size, 2, none⟩)) S1 (h:=?_)
 refine tkH 1 (.slice (some ⟨g, 0, none⟩) (N + 1) (N + 1)) S1 (h:=?_)
 refine tkH 2 (.int .i64 (i : Int)) S1 (h:=?_)
 refine tkH 3 (.int .i64 (i : Int)) S1 (h:=?_)
 refine tkH 4 (.int .i64 ((i : Int) + 1)) S1 (h:=?_)
 refine tkH 5 (.agg #[.int .i64 ba, .int .i64 bo, .int .i64 bt]) S1 (h:=?_)
 refine tkH 6 (.int .i64 o) S1 (h:=?_)
 refine oneH 7 (by kernel_rfl) rfl rfl (fun K1 hK1 => ?_)
 go_simp
 refine (HH.out _ hBd).mono ?_
 rintro e w8 ⟨v, rfl, ow8, hb8⟩
 obtain ⟨vo, vc, rfl⟩ := owns_shape ow8
 have hS8 := S0.below hb8
 refine hK1 _ _ hS8 ?_
 try simp only [Act.put, List.setIfInBounds_toArray, List.set_cons_zero, List.set_cons_succ]
 refine oneH 8 (by kernel_rfl) rfl rfl (fun K2 hK2 => ?_)
 go_simp
 refine (HR.out _ vo vc hb8 ow8).mono ?_
 rintro e w9 ⟨g', cap', rfl, ow9, hb9, hg9⟩
 have hS9 := hS8.but hb9 (by omega) (by omega)
 have X9 := (Z7.box.below hb8).but hb9 (by omega)
 refine hK2 _ _ hS9 ?_
 try simp only [Act.put, List.setIfInBounds_toArray, List.set_cons_zero, List.set_cons_succ]
 refine tkH 9 (.pointer (some ⟨w3.heap.size, 2, none⟩)) hS9 (h:=?_)
 refine wpAnyH_done (by kernel_rfl) ?_ _
 show Oper.wp _ _ _ _ _ _
 have x2 := X9.c2
 have x2z := X9.z2
 have hg9' : g' = g ∨ W7.heap.size ≤ g' := by rcases hg9 with q | q; exact .inl q; exact .inr (Nat.le_trans hb8.size q)
 have hbt : But w3.heap.size w9 (w9.setCell ⟨w3.heap.size, 2, none⟩ (.slice (some ⟨g', 0, none⟩) (N + (bo - o).toNat) cap')) := (But.refl _ _).setCell _
 have X10 := X9.set2 (.slice (some ⟨g', 0, none⟩) (N + (bo - o).toNat) cap')
 have R10 := ((R7.below hb8).but hb9 (by omega)).but hbt (by omega)
 have q0 := hbt.cell hS9.e0 (by omega)
 have ow10 := own_but ow9 hbt (by omega)
 have ty10 := own_but (own_but (owns_below Z7.typ hb8 (Nat.le_refl _)) hb9 (Ne.symm gk7)) hbt (by omega)
 have B10 : Below w.heap.size w (w9.setCell ⟨w3.heap.size, 2, none⟩ (.slice (some ⟨g', 0, none⟩) (N + (bo - o).toNat) cap')) := B7.trans ((hb8.mono (B7.size)).trans ((hb9.below (by omega) (Nat.le_trans B7.size hb8.size)).trans (hbt.below (by omega) (Nat.le_trans B7.size (Nat.le_trans hb8.size hb9.size)))))
 have hs9 : W7.heap.size ≤ (w9.setCell ⟨w3.heap.size, 2, none⟩ (.slice (some ⟨g', 0, none⟩) (N + (bo - o).toNat) cap')).heap.size := Nat.le_trans hb8.size (Nat.le_trans hb9.size hbt.size)
 obtain ⟨w10, hw10⟩ : ∃ w10, w9.setCell ⟨w3.heap.size, 2, none⟩ (.slice (some ⟨g', 0, none⟩) (N + (bo - o).toNat) cap') = w10 := ⟨_, rfl⟩
 rw [hw10] at X10 R10 q0 ow10 ty10 B10 hs9
 have HW10 : Hid _ := hw10
 obtain ⟨p0, p1, p2, p3, _, _, _, _⟩ := id X10
 obtain ⟨⟨u0, d0⟩, ⟨u1, d1⟩, ⟨u2, d2⟩, ⟨u3, d3⟩, z0, z1, z2, z3⟩ := id R10
 clear hw10 hbt HH HR m1 m2 m3 m4 S0 S1 hS8 hS9 X9 R7 Z7 hb8 hb9 ow8 ow9 B7 hBd g0 g1 g2
 go_wp2_with (rw [HW10.out])
 have ne1 : ¬ (W5.heap.size = w.heap.size + 1) := by omega
 have ne2 : ¬ (w.heap.size + 1 = W5.heap.size) := by omega
 have RD := R10.below (Below.refl w10.heap.size w10).drew
 obtain ⟨k0, k1, k2, k3⟩ := res4 R10 (.int .i64 z.f) (.int .i64 z.t) (.slice (some ⟨g', 0, none⟩) (N + (bo - o).toNat) cap') (.slice (some ⟨k, 0, none⟩) tn tn)
 have hbt := but4 w10.drew (w.heap.size + 1) (.int .i64 z.f) (.int .i64 z.t) (.slice (some ⟨g', 0, none⟩) (N + (bo - o).toNat) cap') (.slice (some ⟨k, 0, none⟩) tn tn)
 have Bl : Below w10.heap.size w10 w10.drew := (Below.refl w10.heap.size w10).drew
 have BF := blks_own (owns_below ow10 Bl (Nat.le_refl _)) (by have := ho.1; omega)
 have NF := nums_of_owns (owns_below ty10 Bl (Nat.le_refl _)) htr
 have BB := (B10.trans (Bl.mono B10.size)).trans (hbt.below (B := w.heap.size) (by omega) (Nat.le_trans B10.size Bl.size))
 have FIN : RetZone3 w.heap.size ((((w10.drew.setCell ⟨w.heap.size + 1, 0, none⟩ (.int .i64 z.f)).setCell ⟨w.heap.size + 1, 1, none⟩ (.int .i64 z.t)).setCell ⟨w.heap.size + 1, 2, none⟩ (.slice (some ⟨g', 0, none⟩) (N + (bo - o).toNat) cap')).setCell ⟨w.heap.size + 1, 3, none⟩ (.slice (some ⟨k, 0, none⟩) tn tn)) ⟨z.f, z.t, repB z.free i (halvesL ba bt o (bo - o).toNat), z.types⟩ ba (.returned (.tuple #[.agg #[.int .i64 z.f, .int .i64 z.t, .slice (some ⟨g', 0, none⟩) (N + (bo - o).toNat) cap', .slice (some ⟨k, 0, none⟩) tn tn], .int .i64 ba, .int .i64 0])) := ⟨_, _, _, _, _, _, rfl, hbt.zn ⟨BF, NF⟩ (fun a ha => by cases ha; dsimp only; omega) (fun a ha => by cases ha; dsimp only; omega), fun a ha => by cases ha; dsimp only; omega, fun a ha => by cases ha; dsimp only; omega⟩
 have HFIN : Hid _ := FIN
 have HBB : Hid _ := BB
 clear FIN BB BF NF X10 ow10 ty10 B10 R10 RD hbt Bl
 go_region
 all_goals
  try go_wp2_with fail
  exact bodyPost_ret (v := .tuple #[.agg #[.int .i64 z.f, .int .i64 z.t, .slice (some ⟨g', 0, none⟩) (N + (bo - o).toNat) cap', .slice (some ⟨k, 0, none⟩) tn tn], .int .i64 ba, .int .i64 0]) (by simp [results, Tryz.results90, go_sem, k0, k1, k2, k3]) rfl ⟨HFIN.out, HBB.out⟩
set_option maxHeartbeats 8000000 in
theorem zTake_steal (w : World) (fo : Option Addr) (N fc : Nat) (to_ : Option Addr) (tn tc : Nat) (z : Zn) (o t ba bo bt : Int) (i : Nat) (h : ZnAt w fo (N + 1) to_ tn z) (hM : ZMay z) (hT : TabAt w) (ho : ordOk o) (ht : typeOk t) (hC : chooseI z.free o t = i) (hiN : i ≤ N) (hb : z.free.getD i .zero = ⟨ba, bo, bt⟩) (hob : o ≤ bo) (F L : Nat) (hF : (ba - z.f) / 8 = (F : Int)) (hL : (ba + pw bo - 1 - z.f) / 8 = (L : Int)) (hLn : L < tn) (s1 : (bt == t) = false) (s2 : 2 ≤ bo) :
    Calls Tryz.prog 90 #[.agg #[.int .i64 z.f, .int .i64 z.t, .slice fo (N + 1) fc, .slice to_ tn tc], .int .i64 o, .int .i64 t] w fun e w' => RetZone3 w.heap.size w' ⟨z.f, z.t, repB (z.free.map (stealB z.f F L t)) i (halvesL ba t o (bo - o).toNat), (setR z.types F t (L + 1 - F))⟩ ba e ∧ Below w.heap.size w w' := by
 have I0 := cbI_first w fo (N + 1) fc to_ tn tc z h
 have c0 := I0.box.c0
 have c1 := I0.box.c1
 have c2 := I0.box.c2
 have c3 := I0.box.c3
 have hlen : z.free.length = N + 1 := h.free.len
 have hbl := may_len hM
 have htr := h.types.reach
 have hN3 : N ≤ 300 := by omega
 obtain ⟨n1, n2, n3, n4, n5⟩ := hM.new
 obtain ⟨⟨o0, o4⟩, a1, a2, a3⟩ := (freeOk_at hM.free (k := i) (by omega) hb).1
 dsimp only at o0 o4 a1 a2 a3
 have htl : tn ≤ 300 := by have h1 := hM.len; have h2 : z.types.length = tn := h.types.len; omega
 have HAll : Hid (∀ b ∈ z.free, z.f ≤ b.a ∧ b.a ≤ 256) := fun b hb => by obtain ⟨_, q1, q2, _⟩ := may_blk hM b hb; omega
 have HEnd : Hid (ba + pw bo ≤ 256) := by
  show _ ≤ _
  have hp := blk_end (o := bo) ⟨o0, o4⟩ a2 a3 n5
  omega
 have HB : Hid _ := hb
 have HC : Hid _ := hC
 have HL : Hid _ := hlen
 have HO : Hid (inB o 0 4 = true) := inB_t ho
 have HT : Hid (inB t 0 2 = true) := inB_t ht
 have k1 : ¬ ((i : Int) < 0) := by omega
 have k2 : (i : Int) < (N : Int) + 1 := by omega
 have k3 : IntKind.i64.wrap ((i : Int) + 1) = (i : Int) + 1 := IntWalk.i64_in _ (by omega)
 clear h hb hC hlen
 go_enter Tryz.func90, Tryz.ntmps90
 go_wp2_with fail
 go_at_call 49
 refine (zCheck_ok _ fo (N + 1) fc to_ tn tc z I0.zn hM).mono ?_
 rintro e w1 ⟨rfl, hb⟩
 have I1 := I0.step hb
 clear I0 hb c0 c1 c2 c3
 have c0 := I1.box.c0
 have c1 := I1.box.c1
 have c2 := I1.box.c2
 have c3 := I1.box.c3
 go_wp2_with fail
 go_at_call 106
 refine (isOrder_any _ o).mono ?_
 rintro e wq ⟨rfl, rfl⟩
 rw [HO.out]
 go_wp2_with fail
 go_at_call 93
 refine (isType_any _ t).mono ?_
 rintro e wq ⟨rfl, rfl⟩
 rw [HT.out]
 go_wp2_with fail
 go_at_call 107
 refine (choose_any _ fo (N + 1) fc z.free o t I1.zn.free (hT.below I1.b) ho ht).mono ?_
 rintro e w2 ⟨rfl, hb2⟩
 rw [HC.out]
 have I2 := I1.step hb2
 clear I1 hb2 c0 c1 c2 c3
 have c0 := I2.box.c0
 have c1 := I2.box.c1
 have c2 := I2.box.c2
 have c3 := I2.box.c3
 go_wp2_with fail
 go_at_call 60
 refine (zCopy_own _ fo (N + 1) fc to_ tn tc z I2.zn).mono ?_
 rintro e w3 ⟨g, k, rfl, o1, o2, hgk, hb3⟩
 have I3 := I2.step hb3
 have hf1 := owns_fresh o1 _ rfl
 have hf2 := owns_fresh o2 _ rfl
 have Z4 := zo_new o1 o2 hgk
 have hbx := below_box w3 (.cells #[.int .i64 z.f, .int .i64 z.t, .slice (some ⟨g, 0, none⟩) (N + 1) (N + 1), .slice (some ⟨k, 0, none⟩) tn tn] 54)
 have I4 := I3.step hbx
 have hs2 := I2.size
 have hs3 := I3.size
 obtain ⟨W4, hW4⟩ : ∃ W4, w3.alloc (.cells #[.int .i64 z.f, .int .i64 z.t, .slice (some ⟨g, 0, none⟩) (N + 1) (N + 1), .slice (some ⟨k, 0, none⟩) tn tn] 54) = W4 := ⟨_, rfl⟩
 rw [hW4] at I4 Z4
 have HW4 : Hid _ := hW4
 dsimp only at hf1 hf2
 have hgl := Z4.glt
 have hkl := Z4.klt
 have hzl := Z4.box.lt
 obtain ⟨d0, d1, d2⟩ := own_at Z4.own (i := i) (by omega) HB.out
 have y2 := Z4.box.c2
 have hb5 := below_box W4 (.cells #[.int .i64 ba, .int .i64 bo, .int .i64 bt] 40)
 have I5 := I4.step hb5
 have Z5 := Z4.below hb5
 have T5 := tbox_new' W4 ⟨ba, bo, bt⟩ 40
 have hs5 : W4.heap.size < (W4.alloc (.cells #[.int .i64 ba, .int .i64 bo, .int .i64 bt] 40)).heap.size := by simp
 obtain ⟨W5, hW5⟩ : ∃ W5, W4.alloc (.cells #[.int .i64 ba, .int .i64 bo, .int .i64 bt] 40) = W5 := ⟨_, rfl⟩
 dsimp only at T5
 rw [hW5] at I5 Z5 T5 hs5
 have HW5 : Hid _ := hW5
 obtain ⟨e0, e1, e2⟩ := T5
 have y5 := Z5.box.c2
 obtain ⟨f0, f1, f2⟩ := own_at Z5.own (i := i) (by omega) HB.out
 clear I2 I3 hb3 c0 c1 c2 c3 o1 o2 hbx hW4 hW5 hb5
 have s3 : (bt != t) = true := by simpa using s1
 have HS := steal_any W5 w2.heap.size w3.heap.size g (N + 1) (N + 1) k tn tn z ba bo bt t F L Z5 (by have := HL.out; omega) n1 ⟨o0, o4⟩ a1 HEnd.out hF hL hLn HAll.out htl
 have HF : Hid _ := hF
 have HL2 : Hid _ := hL
 clear hF hL
 go_wp2_with (first | rw [HW4.out] | rw [HW5.out])
 go_at_call 108
 refine HS.mono ?_
 rintro e W6 ⟨rfl, Z6, hU6⟩
 have HB6 : Hid ((z.free.map (stealB z.f F L t)).getD i .zero = ⟨ba, bo, t⟩) := HB6s z F L t HB.out (by rw [HL.out]; omega) HF.out HL2.out
 obtain ⟨f0, f1, f2⟩ := own_at Z6.own (i := i) (by omega) HB6.out
 have y6 := Z6.box.c2
 have hs6 := hU6.size
 have R6 := hU6.res I5.res (by omega) (by omega)
 have B6 : Below w.heap.size w W6 := I5.b.trans (hU6.below (by omega) (by omega) (by omega))
 clear I4 I5 Z4 Z5 HS HW4 HW5 hU6 d0 d1 d2 e0 e1 e2 y2 y5
 go_wp2_with fail
 have hb7 := below_box W6 (.cells #[.int .i64 ba, .int .i64 bo, .int .i64 t] 40)
 have Z7 := Z6.below hb7
 have R7 := R6.below hb7
 have B7 := B6.trans (hb7.mono B6.size)
 have T7 := tbox_new' W6 ⟨ba, bo, t⟩ 40
 have hs7 : W6.heap.size < (W6.alloc (.cells #[.int .i64 ba, .int .i64 bo, .int .i64 t] 40)).heap.size := by simp
 have gz7 := Z6.gz
 have kz7 := Z6.kz
 have gk7 := Z6.gk
 have hz7 := Z6.box.lt
 have hg7 := Z6.glt
 have hk7 := Z6.klt
 dsimp only at T7
 obtain ⟨W7, hW7⟩ : ∃ W7, W6.alloc (.cells #[.int .i64 ba, .int .i64 bo, .int .i64 t] 40) = W7 := ⟨_, rfl⟩
 rw [hW7] at Z7 R7 B7 T7 hs7 ⊢
 obtain ⟨g0, g1, g2⟩ := T7
 have S0 : TkF w3.heap.size W6.heap.size g (N + 1) (N + 1) ba bo t W7 := ⟨Z7.box.c2, g0, g1, g2⟩
 have S1 := S0.below (Below.refl W7.heap.size W7).drew
 have hBd := (Below.refl W7.heap.size W7).drew
 have m1 : ∀ wx, TkF w3.heap.size W6.heap.size g (N + 1) (N + 1) ba bo t wx → wx.cell? ⟨w3.heap.size, 2, none⟩ = some (.slice (some ⟨g, 0, none⟩) (N + 1) (N + 1)) := fun wx h => h.c
 have m2 : ∀ wx, TkF w3.heap.size W6.heap.size g (N + 1) (N + 1) ba bo t wx → wx.cell? ⟨W6.heap.size, 0, none⟩ = some (.int .i64 ba) := fun wx h => h.e0
 have m3 : ∀ wx, TkF w3.heap.size W6.heap.size g (N + 1) (N + 1) ba bo t wx → wx.cell? ⟨W6.heap.size, 1, none⟩ = some (.int .i64 bo) := fun wx h => h.e1
 have m4 : ∀ wx, TkF w3.heap.size W6.heap.size g (N + 1) (N + 1) ba bo t wx → wx.cell? ⟨W6.heap.size, 2, none⟩ = some (.int .i64 t) := fun wx h => h.e2
 have HH : Hid (∀ V, Below W7.heap.size W7 V → Calls Tryz.prog 110 #[.agg #[.int .i64 ba, .int .i64 bo, .int .i64 t], .int .i64 o] V fun e w' => ∃ v, e = .returned v ∧ w'.ownsRow W7.heap.size 40 3 v (bo - o).toNat (bvals (halvesL ba t o (bo - o).toNat)) ∧ Below W7.heap.size W7 w') := fun V hV => by
  refine (halves_any V ba bo t o ⟨o0, o4⟩ ho.1 hob (by omega) (by omega)).mono ?_
  rintro e w' ⟨v, rfl, ow, hb⟩
  exact ⟨v, rfl, owns_weaken ow hV.size, hV.trans (hb.mono hV.size)⟩
 have HR : Hid (∀ V vo vc, Below W7.heap.size W7 V → V.ownsRow W7.heap.size 40 3 (.slice vo (bo - o).toNat vc) (bo - o).toNat (bvals (halvesL ba t o (bo - o).toNat)) → Calls Tryz.prog 109 #[.slice (some ⟨g, 0, none⟩) (N + 1) (N + 1), .int .i64 i, .int .i64 ((i : Int) + 1), .slice vo (bo - o).toNat vc] V fun e w' => RetRow V w' w2.heap.size g (N + (bo - o).toNat) (repB (z.free.map (stealB z.f F L t)) i (halvesL ba t o (bo - o).toNat)) e) := fun V vo vc hV ov =>
  bRep_any V w2.heap.size g N (N + 1) i (bo - o).toNat vc W7.heap.size vo (z.free.map (stealB z.f F L t)) (halvesL ba t o (bo - o).toNat) hiN hN3 (by have := ho.1; omega) (owns_below Z7.own hV (Nat.le_refl _)) ov (by omega)
 go_wp2_with fail
 refine wp_region_peel (S := fun wx => TkF w3.heap.size W6.heap.size g (N + 1) (N + 1) ba bo t wx) 10 _ (by kernel_rfl) (by kernel_rfl) rfl ?_
 simp only [List.take_succ_cons, List.take_zero]
 refine tkH 0 (.pointer (some ⟨w3.heap.size, 2, none⟩)) S1 (h:=?_)
 refine tkH 1 (.slice (some ⟨g, 0, none⟩) (N + 1) (N + 1)) S1 (h:=?_)
 refine tkH 2 (.int .i64 (i : Int)) S1 (h:=?_)
 refine tkH 3 (.int .i64 (i : Int)) S1 (h:=?_)
 refine tkH 4 (.int .i64 ((i : Int) + 1)) S1 (h:=?_)
 refine tkH 5 (.agg #[.int .i64 ba, .int .i64 bo, .int .i64 t]) S1 (h:=?_)
 refine tkH 6 (.int .i64 o) S1 (h:=?_)
 refine oneH 7 (by kernel_rfl) rfl rfl (fun K1 hK1 => ?_)
 go_simp
 refine (HH.out _ hBd).mono ?_
 rintro e w8 ⟨v, rfl, ow8, hb8⟩
 obtain ⟨vo, vc, rfl⟩ := owns_shape ow8
 have hS8 := S0.below hb8
 refine hK1 _ _ hS8 ?_
 try simp only [Act.put, List.setIfInBounds_toArray, List.set_cons_zero, List.set_cons_succ]
 refine oneH 8 (by kernel_rfl) rfl rfl (fun K2 hK2 => ?_)
 go_simp
 refine (HR.out _ vo vc hb8 ow8).mono ?_
 rintro e w9 ⟨g', cap', rfl, ow9, hb9, hg9⟩
 have hS9 := hS8.but hb9 (by omega) (by omega)
 have X9 := (Z7.box.below hb8).but hb9 (by omega)
 refine hK2 _ _ hS9 ?_
 try simp only [Act.put, List.setIfInBounds_toArray, List.set_cons_zero, List.set_cons_succ]
 refine tkH 9 (.pointer (some ⟨w3.heap.size, 2, none⟩)) hS9 (h:=?_)
 refine wpAnyH_done (by kernel_rfl) ?_ _
 show Oper.wp _ _ _ _ _ _
 have x2 := X9.c2
 have x2z := X9.z2
 have hg9' : g' = g ∨ W7.heap.size ≤ g' := by rcases hg9 with q | q; exact .inl q; exact .inr (Nat.le_trans hb8.size q)
 have hbt : But w3.heap.size w9 (w9.setCell ⟨w3.heap.size, 2, none⟩ (.slice (some ⟨g', 0, none⟩) (N + (bo - o).toNat) cap')) := (But.refl _ _).setCell _
 have X10 := X9.set2 (.slice (some ⟨g', 0, none⟩) (N + (bo - o).toNat) cap')
 have R10 := ((R7.below hb8).but hb9 (by omega)).but hbt (by omega)
 have q0 := hbt.cell hS9.e0 (by omega)
 have ow10 := own_but ow9 hbt (by omega)
 have ty10 := own_but (own_but (owns_below Z7.typ hb8 (Nat.le_refl _)) hb9 (Ne.symm gk7)) hbt (by omega)
 have B10 : Below w.heap.size w (w9.setCell ⟨w3.heap.size, 2, none⟩ (.slice (some ⟨g', 0, none⟩) (N + (bo - o).toNat) cap')) := B7.trans ((hb8.mono (B7.size)).trans ((hb9.below (by omega) (Nat.le_trans B7.size hb8.size)).trans (hbt.below (by omega) (Nat.le_trans B7.size (Nat.le_trans hb8.size hb9.size)))))
 have hs9 : W7.heap.size ≤ (w9.setCell ⟨w3.heap.size, 2, none⟩ (.slice (some ⟨g', 0, none⟩) (N + (bo - o).toNat) cap')).heap.size := Nat.le_trans hb8.size (Nat.le_trans hb9.size hbt.size)
 obtain ⟨w10, hw10⟩ : ∃ w10, w9.setCell ⟨w3.heap.size, 2, none⟩ (.slice (some ⟨g', 0, none⟩) (N + (bo - o).toNat) cap') = w10 := ⟨_, rfl⟩
 rw [hw10] at X10 R10 q0 ow10 ty10 B10 hs9
 have HW10 : Hid _ := hw10
 obtain ⟨p0, p1, p2, p3, _, _, _, _⟩ := id X10
 obtain ⟨⟨u0, d0⟩, ⟨u1, d1⟩, ⟨u2, d2⟩, ⟨u3, d3⟩, z0, z1, z2, z3⟩ := id R10
 clear hw10 hbt HH HR m1 m2 m3 m4 S0 S1 hS8 hS9 X9 R7 Z7 hb8 hb9 ow8 ow9 B7 hBd g0 g1 g2
 go_wp2_with (rw [HW10.out])
 have ne1 : ¬ (W6.heap.size = w.heap.size + 1) := by omega
 have ne2 : ¬ (w.heap.size + 1 = W6.heap.size) := by omega
 have RD := R10.below (Below.refl w10.heap.size w10).drew
 obtain ⟨k0, k1, k2, k3⟩ := res4 R10 (.int .i64 z.f) (.int .i64 z.t) (.slice (some ⟨g', 0, none⟩) (N + (bo - o).toNat) cap') (.slice (some ⟨k, 0, none⟩) tn tn)
 have hbt := but4 w10.drew (w.heap.size + 1) (.int .i64 z.f) (.int .i64 z.t) (.slice (some ⟨g', 0, none⟩) (N + (bo - o).toNat) cap') (.slice (some ⟨k, 0, none⟩) tn tn)
 have Bl : Below w10.heap.size w10 w10.drew := (Below.refl w10.heap.size w10).drew
 have BF := blks_own (owns_below ow10 Bl (Nat.le_refl _)) (by have := ho.1; omega)
 have NF := nums_of_owns (owns_below ty10 Bl (Nat.le_refl _)) htr
 have BB := (B10.trans (Bl.mono B10.size)).trans (hbt.below (B := w.heap.size) (by omega) (Nat.le_trans B10.size Bl.size))
 have FIN : RetZone3 w.heap.size ((((w10.drew.setCell ⟨w.heap.size + 1, 0, none⟩ (.int .i64 z.f)).setCell ⟨w.heap.size + 1, 1, none⟩ (.int .i64 z.t)).setCell ⟨w.heap.size + 1, 2, none⟩ (.slice (some ⟨g', 0, none⟩) (N + (bo - o).toNat) cap')).setCell ⟨w.heap.size + 1, 3, none⟩ (.slice (some ⟨k, 0, none⟩) tn tn)) ⟨z.f, z.t, repB (z.free.map (stealB z.f F L t)) i (halvesL ba t o (bo - o).toNat), (setR z.types F t (L + 1 - F))⟩ ba (.returned (.tuple #[.agg #[.int .i64 z.f, .int .i64 z.t, .slice (some ⟨g', 0, none⟩) (N + (bo - o).toNat) cap', .slice (some ⟨k, 0, none⟩) tn tn], .int .i64 ba, .int .i64 0])) := ⟨_, _, _, _, _, _, rfl, hbt.zn ⟨BF, NF⟩ (fun a ha => by cases ha; dsimp only; omega) (fun a ha => by cases ha; dsimp only; omega), fun a ha => by cases ha; dsimp only; omega, fun a ha => by cases ha; dsimp only; omega⟩
 have HFIN : Hid _ := FIN
 have HBB : Hid _ := BB
 clear FIN BB BF NF X10 ow10 ty10 B10 R10 RD hbt Bl
 go_region
 all_goals
  try go_wp2_with fail
  exact bodyPost_ret (v := .tuple #[.agg #[.int .i64 z.f, .int .i64 z.t, .slice (some ⟨g', 0, none⟩) (N + (bo - o).toNat) cap', .slice (some ⟨k, 0, none⟩) tn tn], .int .i64 ba, .int .i64 0]) (by simp [results, Tryz.results90, go_sem, k0, k1, k2, k3]) rfl ⟨HFIN.out, HBB.out⟩
end Go.Proofs.YtjohdbiipeedkaaGreatDoor
