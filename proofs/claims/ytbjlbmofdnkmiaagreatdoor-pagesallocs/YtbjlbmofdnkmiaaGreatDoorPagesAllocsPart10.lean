/-
  OWN TEXTS.
-/
import Derived.Test.YtbjlbmofdnkmiaaGreatDoorPagesAllocsPart9
set_option maxRecDepth 10000
set_option maxHeartbeats 4000000
namespace Go.Proofs.YtbjlbmofdnkmiaaGreatDoor
open Go Go.RowKit Go.Proofs.YtbjlbmofdnkmiaaGreatDoor.Kit
theorem newOk_nat {f t : Int} (h : newOk f t) : ∃ F T : Nat, f = F ∧ t = T ∧ F ≤ T ∧ T ≤ 256 ∧ F % 16 = 0 ∧ T % 16 = 0 := by
 obtain ⟨h1, h2, h3, h4, h5⟩ := h
 exact ⟨f.toNat, t.toNat, by omega, by omega, by omega, by omega, by omega, by omega⟩
theorem zoneNew_nat (w : World) (f t : Nat) (h1 : f ≤ t) (h2 : t ≤ 256) (h3 : f % 16 = 0) (h4 : t % 16 = 0) :
    Calls Tryz.prog 69 #[.int .i64 f, .int .i64 t] w fun e w' => RetZone w.heap.size w' ⟨f, t, [], List.replicate ((t - f) / 8) 1⟩ e ∧ Below w.heap.size w w' := by
 have e1 : inB f 0 256 = true := inB_t (by omega)
 have e2 : inB t f 256 = true := inB_t (by omega)
 have m1 : (f : Int) % 16 = 0 := by omega
 have m2 : (t : Int) % 16 = 0 := by omega
 obtain ⟨i0, hi, hz0, hz1, hz2⟩ := info_parts info_int
 have hb2 : Below w.heap.size w ((w.alloc (.cells #[.int .i64 0, .int .i64 0, .slice none 0 0, .slice none 0 0] 37)).alloc (.cells #[.int .i64 f, .int .i64 t, .slice none 0 0, .slice none 0 0] 37)) := ((Below.refl _ _).alloc (Nat.le_refl _) _).alloc (by simp) _
 have R0 : Res4 ((w.alloc (.cells #[.int .i64 0, .int .i64 0, .slice none 0 0, .slice none 0 0] 37)).alloc (.cells #[.int .i64 f, .int .i64 t, .slice none 0 0, .slice none 0 0] 37)) w.heap.size := (zbox_new w _ _ _ _ _).res.below (below_box _ _)
 have Z0 : ZBox ((w.alloc (.cells #[.int .i64 0, .int .i64 0, .slice none 0 0, .slice none 0 0] 37)).alloc (.cells #[.int .i64 f, .int .i64 t, .slice none 0 0, .slice none 0 0] 37)) (w.heap.size + 1) (.int .i64 f) (.int .i64 t) (.slice none 0 0) (.slice none 0 0) := by
  have := zbox_new (w.alloc (.cells #[.int .i64 0, .int .i64 0, .slice none 0 0, .slice none 0 0] 37)) (.int .i64 f) (.int .i64 t) (.slice none 0 0) (.slice none 0 0) 37
  simpa using this
 obtain ⟨N, hN⟩ : ∃ N, N = (t - f) / 8 := ⟨_, rfl⟩
 have hN8 : f + 8 * N = t := by omega
 rw [← hN]
 have hs0 : w.heap.size + 2 ≤ ((w.alloc (.cells #[.int .i64 0, .int .i64 0, .slice none 0 0, .slice none 0 0] 37)).alloc (.cells #[.int .i64 f, .int .i64 t, .slice none 0 0, .slice none 0 0] 37)).heap.size := by simp
 clear hN
 obtain ⟨W0, hW0⟩ : ∃ W0, (w.alloc (.cells #[.int .i64 0, .int .i64 0, .slice none 0 0, .slice none 0 0] 37)).alloc (.cells #[.int .i64 f, .int .i64 t, .slice none 0 0, .slice none 0 0] 37) = W0 := ⟨_, rfl⟩
 rw [hW0] at hb2 R0 Z0 hs0
 have HW0 : Hid _ := hW0
 clear hW0
 go_enter Tryz.func69, Tryz.ntmps69
 go_wp2_with (go_at_call 21; refine (in_any _ _ _ _).mono ?_; rintro e w' ⟨rfl, rfl⟩)
 rw [HW0.out]
 clear e1 e2 m1 m2 HW0
 go_loopw [7] (fun pv wr => ∃ (k p c : Nat) (bo : Option Addr), p = f + 8 * k ∧ k ≤ N ∧ pv = .int .i64 p ∧ ZBox wr (w.heap.size + 1) (.int .i64 f) (.int .i64 t) (.slice none 0 0) (.slice bo k c) ∧ wr.ownsRow (w.heap.size + 2) 3 1 (.slice bo k c) k (vals (List.replicate k 1)) ∧ Res4 wr w.heap.size ∧ Below w.heap.size w wr ∧ w.heap.size + 2 ≤ wr.heap.size) (fun pv _ => f + 8 * N - (intOf pv).toNat)
 case atStart => exact ⟨0, f, 0, none, by omega, Nat.zero_le _, rfl, Z0, World.ownsRow_nil _ _ _ _, R0, hb2, hs0⟩
 case round =>
  obtain ⟨k, p, c, bo, hp, hk, rfl, Z, hown, R, hb, hs⟩ := hrel
  clear Z0 R0 hb2 hs0
  by_cases hlt : k < N
  ·have hpt : (p : Int) < t := by omega
   have hml : k + 1 ≤ maxLen := by unfold maxLen; omega
   have hsz : (k + 1) * 8 ≤ 140737488355328 := by omega
   have c3 := Z.c3
   go_wp2_with (at_builtin; refine wpList_append_own _ rfl (.tmp 38) (.tmp 39) 23 rfl (w.heap.size + 2) 3 i0 (.int .i64 0) 1 8 Tryz.underlying23 hi hz0 hz1 hz2 rfl (by decide) _ _ _ rfl (hown.alloc _) ⟨wr.heap.size, 0, none⟩ 1 1 [.int .i64 1] rfl rfl ?c1 ?c2 hml hsz ?c5 ?_)
   case c1 => exact cell_one_new' _ _ _
   case c2 => exact ints_oneCell .i64 [_]
   case c5 => simp; omega
   intro v' w3 hown' hgrow _
   have hb3 : Below (w.heap.size + 2) wr w3 := ((Below.refl _ _).alloc hs _).grown hgrow (by simp; omega) (fun g hg => (hown.lt g hg).1)
   have e9 : vals (List.replicate k 1) ++ [Value.int .i64 1] = vals (List.replicate (k + 1) 1) := by rw [List.replicate_succ', vals_append]; rfl
   rw [e9] at hown'
   obtain ⟨bo', c', rfl⟩ := owns_shape hown'
   have Z3 := Z.belowB hb3 (by omega)
   have R3 := R.belowB hb3 (by omega)
   have hB3 := hb.trans (hb3.mono (by omega))
   have hs3 := Nat.le_trans hs hb3.size
   have Z4 := Z3.set3 (.slice bo' (k + 1) c')
   have own4 := ownsRow_setCell_below hown' (a := ⟨w.heap.size + 1, 3, none⟩) (show w.heap.size + 1 < w.heap.size + 2 by omega) (.slice bo' (k + 1) c')
   have hbt : But (w.heap.size + 1) w3 (w3.setCell ⟨w.heap.size + 1, 3, none⟩ (.slice bo' (k + 1) c')) := (But.refl _ _).setCell _
   have R4 := R3.but hbt (by omega)
   have hB4 := hB3.trans (hbt.below (B := w.heap.size) (by omega) (by omega))
   have hs4 := Nat.le_trans hs3 hbt.size
   have c3' := Z3.c3
   have z3' := Z3.z3
   clear Z R hown hb hs hgrow hb3 Z3 R3 hB3 hs3 hown' hbt e9 c3
   go_wp2
   go_roundw
   case rel => exact ⟨k + 1, f + 8 * (k + 1), c', bo', rfl, by omega, by go_num, Z4, own4, R4, hB4, hs4⟩
   case measure => simp [intOf]; omega
  have hpt : ¬ (p : Int) < t := by omega
  obtain rfl : k = N := by omega
  have c0 := Z.c0
  have c1 := Z.c1
  have c2 := Z.c2
  have c3 := Z.c3
  obtain ⟨⟨x0, d0⟩, ⟨x1, d1⟩, ⟨x2, d2⟩, ⟨x3, d3⟩, z0, z1, z2, z3⟩ := id R
  go_wp2
  obtain ⟨k0, k1, k2, k3⟩ := res4 R (.int .i64 f) (.int .i64 t) (.slice none 0 0) (.slice bo k c)
  have hbt := but4 wr w.heap.size (.int .i64 f) (.int .i64 t) (.slice none 0 0) (.slice bo k c)
  refine bodyPost_ret (v := .tuple #[.agg #[.int .i64 f, .int .i64 t, .slice none 0 0, .slice bo k c], .int .i64 0]) (by simp [results, Tryz.results69, go_sem, k0, k1, k2, k3]) rfl ⟨⟨none, 0, 0, bo, k, c, rfl, ⟨Blks.nil _, hbt.nums (nums_of_owns hown (by omega)) (fun a ha => by have := owns_fresh hown a ha; omega)⟩, fresh_none _, (owns_fresh hown).mono (by omega)⟩, hb.trans (hbt.below (Nat.le_refl _) hb.size)⟩
theorem zoneNew_ok (w : World) (f t : Int) (h : newOk f t) :
    Calls Tryz.prog 69 #[.int .i64 f, .int .i64 t] w fun e w' => RetZone w.heap.size w' (newZ f t) e ∧ Below w.heap.size w w' := by
 obtain ⟨F, T, rfl, rfl, h1, h2, h3, h4⟩ := newOk_nat h
 have e : newZ (F : Int) T = ⟨F, T, [], List.replicate ((T - F) / 8) 1⟩ := by
  unfold newZ newTypes
  have : (((T : Int) - F) / 8).toNat = (T - F) / 8 := by omega
  rw [this]
 rw [e]
 exact zoneNew_nat w F T h1 h2 h3 h4
theorem zoneNew_no (w : World) (f t : Int) (h : ¬ newOk f t) :
    Calls Tryz.prog 69 #[.int .i64 f, .int .i64 t] w fun e w' => RetNone 1 e ∧ Below w.heap.size w w' := by
 have hb1 := below_box w (.cells #[.int .i64 0, .int .i64 0, .slice none 0 0, .slice none 0 0] 37)
 by_cases h1 : 0 ≤ f ∧ f ≤ 256
 ·by_cases h2 : f ≤ t ∧ t ≤ 256
  ·obtain ⟨F, rfl⟩ : ∃ F : Nat, f = F := ⟨f.toNat, by omega⟩
   obtain ⟨T, rfl⟩ : ∃ T : Nat, t = T := ⟨t.toNat, by omega⟩
   have e1 : inB (F : Int) 0 256 = true := inB_t h1
   have e2 : inB (T : Int) F 256 = true := inB_t h2
   by_cases h3 : (F : Int) % 16 = 0
   ·have h4 : ¬ (T : Int) % 16 = 0 := fun g => h ⟨by omega, by omega, by omega, h3, g⟩
    clear h h1 h2
    go_enter Tryz.func69, Tryz.ntmps69
    go_wp2_with (go_at_call 21; refine (in_any _ _ _ _).mono ?_; rintro e w' ⟨rfl, rfl⟩)
    exact bodyPost_ret (v := .tuple #[.agg #[.int .i64 0, .int .i64 0, .slice none 0 0, .slice none 0 0], .int .i64 1]) (by simp [results, Tryz.results69, go_sem]) rfl ⟨rfl, hb1⟩
   clear h h1 h2
   go_enter Tryz.func69, Tryz.ntmps69
   go_wp2_with (go_at_call 21; refine (in_any _ _ _ _).mono ?_; rintro e w' ⟨rfl, rfl⟩)
   exact bodyPost_ret (v := .tuple #[.agg #[.int .i64 0, .int .i64 0, .slice none 0 0, .slice none 0 0], .int .i64 1]) (by simp [results, Tryz.results69, go_sem]) rfl ⟨rfl, hb1⟩
  have e1 : inB f 0 256 = true := inB_t h1
  have e2 : inB t f 256 = false := inB_f h2
  clear h h1 h2
  go_enter Tryz.func69, Tryz.ntmps69
  go_wp2_with (go_at_call 21; refine (in_any _ _ _ _).mono ?_; rintro e w' ⟨rfl, rfl⟩)
  exact bodyPost_ret (v := .tuple #[.agg #[.int .i64 0, .int .i64 0, .slice none 0 0, .slice none 0 0], .int .i64 1]) (by simp [results, Tryz.results69, go_sem]) rfl ⟨rfl, hb1⟩
 have e1 : inB f 0 256 = false := inB_f h1
 clear h h1
 go_enter Tryz.func69, Tryz.ntmps69
 go_wp2_with (go_at_call 21; refine (in_any _ _ _ _).mono ?_; rintro e w' ⟨rfl, rfl⟩)
 exact bodyPost_ret (v := .tuple #[.agg #[.int .i64 0, .int .i64 0, .slice none 0 0, .slice none 0 0], .int .i64 1]) (by simp [results, Tryz.results69, go_sem]) rfl ⟨rfl, hb1⟩
theorem blockMay_any (w : World) (f t : Int) (fo to_ : Option Addr) (fn fc tn tc : Nat) (a o : Int) (h : newOk f t) :
    Calls Tryz.prog 70 #[.agg #[.int .i64 f, .int .i64 t, .slice fo fn fc, .slice to_ tn tc], .int .i64 a, .int .i64 o] w fun e w' => e = .returned (.bool (blkB f t a o)) ∧ Below w.heap.size w w' := by
 obtain ⟨h1, h2, h3, h4, h5⟩ := h
 have hb1 := below_box w (.cells #[.int .i64 f, .int .i64 t, .slice fo fn fc, .slice to_ tn tc] 37)
 by_cases p1 : 0 ≤ o ∧ o ≤ 4
 ·have e1 : inB o 0 4 = true := inB_t p1
  by_cases p2 : f ≤ a ∧ a ≤ t - 1
  ·have e2 : inB a f (t - 1) = true := inB_t p2
   obtain ⟨A, rfl⟩ : ∃ A : Nat, a = A := ⟨a.toNat, by omega⟩
   obtain ⟨P, hP, hP0⟩ : ∃ P : Nat, pw o = P ∧ 0 < P := ⟨(pw o).toNat, by have := pw_pos o; omega, by have := pw_pos o; omega⟩
   have hP1 : ((P : Int) == 0) = false := by simp; omega
   have HR : Hid (blkB f t (A : Int) o = decide ((A : Int) % P = 0)) := by show _ = _; unfold blkB; rw [e1, e2, hP]; rfl
   have hp16 : P ≤ 16 := by have := pw_le (show ordOk o from p1); omega
   have HP : Hid (pw o = P) := hP
   clear hP
   go_enter Tryz.func70, Tryz.ntmps70
   go_wp2_with (go_at_call 21; refine (in_any _ _ _ _).mono ?_; rintro e w' ⟨rfl, rfl⟩)
   go_at_call 47
   refine (power_any _ o p1.1 (by omega)).mono ?_
   rintro e w' ⟨rfl, rfl⟩
   rw [HP.out]
   by_cases d : (A : Int) % (P : Int) = 0
   ·have HR2 : Hid (blkB f t (A : Int) o = true) := by show _ = _; rw [HR.out]; exact decide_eq_true d
    clear HR HP
    go_wp2
    go_ret
    exact ⟨ret_bool HR2.out.symm, hb1⟩
   have HR2 : Hid (blkB f t (A : Int) o = false) := by show _ = _; rw [HR.out]; exact decide_eq_false d
   clear HR HP
   go_wp2
   go_ret
   exact ⟨ret_bool (by rw [HR2.out]; simpa using d), hb1⟩
  have e2 : inB a f (t - 1) = false := inB_f p2
  have HR : Hid (blkB f t a o = false) := by show _ = _; unfold blkB; rw [e1, e2]; rfl
  go_enter Tryz.func70, Tryz.ntmps70
  go_wp2_with (go_at_call 21; refine (in_any _ _ _ _).mono ?_; rintro e w' ⟨rfl, rfl⟩)
  go_ret
  exact ⟨ret_bool HR.out.symm, hb1⟩
 have e1 : inB o 0 4 = false := inB_f p1
 have HR : Hid (blkB f t a o = false) := by show _ = _; unfold blkB; rw [e1]; rfl
 go_enter Tryz.func70, Tryz.ntmps70
 go_wp2_with (go_at_call 21; refine (in_any _ _ _ _).mono ?_; rintro e w' ⟨rfl, rfl⟩)
 go_ret
 exact ⟨ret_bool HR.out.symm, hb1⟩
structure MyInv (w : World) (fo : Option Addr) (fn fc : Nat) (to_ : Option Addr) (tn tc : Nat) (z : Zn) (W : World) : Prop where
 b : Below w.heap.size w W
 box : ZBox W w.heap.size (.int .i64 z.f) (.int .i64 z.t) (.slice fo fn fc) (.slice to_ tn tc)
 zn : ZnAt W fo fn to_ tn z
theorem MyInv.step {w : World} {fo : Option Addr} {fn fc : Nat} {to_ : Option Addr} {tn tc : Nat} {z : Zn} {W W' : World} (h : MyInv w fo fn fc to_ tn tc z W) (hb : Below W.heap.size W W') : MyInv w fo fn fc to_ tn tc z W' :=
 ⟨h.b.trans (hb.mono h.b.size), h.box.below hb, h.zn.below hb⟩
theorem myInv_first (w : World) (fo : Option Addr) (fn fc : Nat) (to_ : Option Addr) (tn tc : Nat) (z : Zn) (h : ZnAt w fo fn to_ tn z) : MyInv w fo fn fc to_ tn tc z (w.alloc (.cells #[.int .i64 z.f, .int .i64 z.t, .slice fo fn fc, .slice to_ tn tc] 37)) :=
 ⟨below_box _ _, zbox_new _ _ _ _ _ _, h.below (below_box _ _)⟩
theorem zoneMay_any (w : World) (fo : Option Addr) (fn fc : Nat) (to_ : Option Addr) (tn tc : Nat) (z : Zn) (h : ZnAt w fo fn to_ tn z) :
    Calls Tryz.prog 44 #[.agg #[.int .i64 z.f, .int .i64 z.t, .slice fo fn fc, .slice to_ tn tc]] w fun e w' => RetIff e (ZMay z) ∧ Below w.heap.size w w' := by
 have I0 := myInv_first w fo fn fc to_ tn tc z h
 clear h
 by_cases hn : newOk z.f z.t
 ·go_enter Tryz.func44, Tryz.ntmps44
  go_wp2_with fail
  go_at_call 69
  refine (zoneNew_ok _ z.f z.t hn).mono ?_
  rintro e w1 ⟨⟨ao, an, ac, bo, bn, bc, rfl, _, _, _⟩, hb1⟩
  have I1 := (I0.step hb1).step (below_box w1 (.cells #[.int .i64 (newZ z.f z.t).f, .int .i64 (newZ z.f z.t).t, .slice ao an ac, .slice bo bn bc] 37))
  clear I0 hb1
  have hbox := I1.box
  have c0 := hbox.c0
  have c1 := hbox.c1
  have c2 := hbox.c2
  have c3 := hbox.c3
  have htl := I1.zn.types.len
  have htr := I1.zn.types.reach
  obtain ⟨h1, h2, h3, h4, h5⟩ := id hn
  by_cases hlen : 8 * (tn : Int) = z.t - z.f
  ·go_wp2
   clear hbox c0 c1 c2 c3
   obtain ⟨W2, hW2⟩ : ∃ W2, w1.alloc (.cells #[.int .i64 (newZ z.f z.t).f, .int .i64 (newZ z.f z.t).t, .slice ao an ac, .slice bo bn bc] 37) = W2 := ⟨_, rfl⟩
   rw [hW2] at I1 ⊢
   clear hW2
   go_loopw [5] (fun iv wr => ∃ k : Nat, k ≤ tn ∧ iv = .int .i64 k ∧ Hid (∀ i, i < k → typeOk (z.types.getD i 0)) ∧ MyInv w fo fn fc to_ tn tc z wr) (fun iv _ => tn - (intOf iv).toNat)
   case atStart => exact ⟨0, Nat.zero_le _, rfl, (fun i hi => absurd hi (Nat.not_lt_zero i)), I1⟩
   case round =>
    obtain ⟨k, hk, rfl, hT, I⟩ := hrel
    clear I1
    have c3 := I.box.c3
    by_cases hlt : k < tn
    ·obtain ⟨b, o, x, rfl, cx, hX⟩ := I.zn.types.at_.at k (by omega)
     by_cases hx : 0 ≤ x ∧ x ≤ 2
     ·have e1 : inB x 0 2 = true := inB_t hx
      have hT' : Hid (∀ i, i < k + 1 → typeOk (z.types.getD i 0)) := fun i hi => by
       by_cases e : i = k
       ·rw [e, hX.out]; exact hx
       exact hT.out i (by omega)
      clear hT hx
      go_wp2_with (go_at_call 21; refine (in_any _ _ _ _).mono ?_; rintro e w' ⟨rfl, rfl⟩)
      go_roundw
      case rel => exact ⟨k + 1, by omega, by go_num, hT', I⟩
      case measure => simp [intOf]; omega
     have e1 : inB x 0 2 = false := inB_f hx
     have HF : Hid (¬ ZMay z) := fun g => hx (by have := g.ty k (by omega); rw [hX.out] at this; exact this)
     have hbb := I.b
     clear hT hx I
     go_wp2_with (go_at_call 21; refine (in_any _ _ _ _).mono ?_; rintro e w' ⟨rfl, rfl⟩)
     go_ret
     exact ⟨⟨false, rfl, fun g => (by cases g), fun g => absurd g HF.out⟩, hbb⟩
    have hty : Hid (∀ i, i < z.types.length → typeOk (z.types.getD i 0)) := fun i hi => hT.out i (by omega)
    have c0 := I.box.c0
    have c2 := I.box.c2
    clear hT
    go_wp2
    clear c0 c2 c3
    go_loopw [6, 7] (fun lv iv wr2 => ∃ (k : Nat) (q : Int), k ≤ fn ∧ iv = .int .i64 k ∧ lv = .int .i64 q ∧ Hid (lowOf z.f (z.free.take k) = q) ∧ Hid (FreeOk z.f z.t z.f none (z.free.take k)) ∧ MyInv w fo fn fc to_ tn tc z wr2) (fun _ iv _ => fn - (intOf iv).toNat)
    case atStart => exact ⟨0, z.f, Nat.zero_le _, rfl, rfl, rfl, trivial, I⟩
    case round =>
     obtain ⟨k2, q, hk2, rfl, rfl, hq, hF, I2⟩ := hrel
     clear I
     have hfl := I2.zn.free.len
     have hfr := I2.zn.free.reach
     have c2 := I2.box.c2
     by_cases hlt2 : k2 < fn
     ·obtain ⟨bb, bf, x, y, u, rfl, x0, x1, x2, hX⟩ := I2.zn.free.at_.at k2 (by omega)
      have htk := take_getD z.free k2 (by omega) hX.out
      have hbx := below_box wr (.cells #[.int .i64 x, .int .i64 y, .int .i64 u] 53)
      have I3 := I2.step hbx
      have y0 : (wr.alloc (.cells #[.int .i64 x, .int .i64 y, .int .i64 u] 53)).cell? ⟨wr.heap.size, 0, none⟩ = some (.int .i64 x) := by go_simp
      have y1 : (wr.alloc (.cells #[.int .i64 x, .int .i64 y, .int .i64 u] 53)).cell? ⟨wr.heap.size, 1, none⟩ = some (.int .i64 y) := by go_simp
      have y2 : (wr.alloc (.cells #[.int .i64 x, .int .i64 y, .int .i64 u] 53)).cell? ⟨wr.heap.size, 2, none⟩ = some (.int .i64 u) := by go_simp
      have b0 := I3.box.c0
      have b1 := I3.box.c1
      have b2 := I3.box.c2
      have b3 := I3.box.c3
      go_wp2_with fail
      go_at_call 70
      refine (blockMay_any _ z.f z.t _ to_ fn fc tn tc x y hn).mono ?_
      rintro e w4 ⟨rfl, hb4⟩
      have I4 := I3.step hb4
      replace y0 := keep y0 hb4
      replace y1 := keep y1 hb4
      replace y2 := keep y2 hb4
      clear I2 I3 hbx b0 b1 b2 b3 c2 x0 x1 x2 hb4
      have hbb := I4.b
      by_cases hB : blkIn z.f z.t x y
      ·have hB2 := (blkB_iff z.f z.t x y).2 hB
       rw [hB2]
       clear hB2
       by_cases hU : 0 ≤ u ∧ u ≤ 2
       ·have e1 : inB u 0 2 = true := inB_t hU
        by_cases hlow : x < q
        ·have HF : Hid (¬ ZMay z) := fun g => by have := (freeOk_at g.free (by omega) hX.out).2.2.1; rw [hq.out] at this; dsimp only at this; omega
         clear hF hq hX htk hty
         go_wp2_with (go_at_call 21; refine (in_any _ _ _ _).mono ?_; rintro e w' ⟨rfl, rfl⟩)
         go_ret
         exact ⟨⟨false, rfl, fun g => (by cases g), fun g => absurd g HF.out⟩, hbb⟩
        obtain ⟨o1, o2, o3, o4⟩ := id hB
        obtain ⟨o5, o6⟩ := id o1
        have hp1 := pw_pos y
        have hp2 := pw_le o1
        have hq' : Hid (lowOf z.f (z.free.take (k2 + 1)) = x + pw y) := by show _ = _; rw [htk, lowOf_snoc]
        have hFk : (∀ p, lastOf none (z.free.take k2) = some p → ¬ besideP p ⟨x, y, u⟩) → Hid (FreeOk z.f z.t z.f none (z.free.take (k2 + 1))) := fun g => by
         show FreeOk _ _ _ _ _
         rw [htk, freeOk_snoc]
         exact ⟨hF.out, hB, hU, by rw [hq.out]; dsimp only; omega, g⟩
        have HFk : Hid _ := hFk
        clear hFk
        have c2 := I4.box.c2
        go_wp2_with (go_at_call 21; refine (in_any _ _ _ _).mono ?_; rintro e w' ⟨rfl, rfl⟩)
        go_quiet ((go_at_call 47; exact Calls.quiet_of_same (power_q y o5 (by omega) _)))
        have hbq := below_drawn (w := w4) nq
        have IE := I4.step hbq
        replace y0 := keep y0 hbq
        replace y1 := keep y1 hbq
        replace y2 := keep y2 hbq
        obtain ⟨W5, hW5⟩ : ∃ W5, w4.drewN nq = W5 := ⟨_, rfl⟩
        rw [hW5] at IE y0 y1 y2 ⊢
        clear hW5 hbq I4 c2 hbb
        have c2 := IE.box.c2
        have hbb := IE.b
        by_cases hk0 : k2 = 0
        ·subst hk0
         have hF' := HFk.out (fun p hp => by cases hp)
         clear HFk hF hq htk
         go_wp2
         go_quiet (fail)
         go_wp2
         go_roundw
         case rel => exact ⟨0 + 1, x + pw y, by omega, by go_num, by go_num, hq', hF', IE.step (below_drawn _)⟩
         case measure => simp [intOf]; omega
        obtain ⟨j, rfl⟩ : ∃ j, k2 = j + 1 := ⟨k2 - 1, by omega⟩
        obtain ⟨bb', bf', x', y', u', he, p0, p1, p2, hX'⟩ := IE.zn.free.at_.at j (by omega)
        cases he
        have hpv := freeOk_at hF.out (k := j) (by simp; omega) (b := ⟨x', y', u'⟩) (by
         have := hX'.out
         rw [List.getD_eq_getElem?_getD, List.getElem?_take, if_pos (by omega), ← List.getD_eq_getElem?_getD]
         exact this)
        obtain ⟨⟨v1, v2, v3, v4⟩, _, _, _⟩ := hpv
        dsimp only at v1 v2 v3 v4
        have hlast : lastOf none (z.free.take (j + 1)) = some ⟨x', y', u'⟩ := by rw [take_getD z.free j (by omega) hX'.out, lastOf_snoc]
        obtain ⟨P, HP'⟩ : ∃ P, pw y = P := ⟨_, rfl⟩
        have HP : Hid (pw y = P) := HP'
        rw [HP'] at hp1 hp2
        have hjj : ((j + 1 : Nat) : Int) = (j : Int) + 1 := by simp
        have hj1 : (j : Int) < fn := by omega
        have hj2 : j < fn := by omega
        have t0 : decide ((0 : Int) < (j : Int) + 1) = true := decide_eq_true (by omega)
        have hno : ¬ besideP ⟨x', y', u'⟩ ⟨x, y, u⟩ → Hid (FreeOk z.f z.t z.f none (z.free.take (j + 1 + 1))) := fun g => HFk.out (fun p hp => by rw [hlast] at hp; cases hp; exact g)
        have Hno : Hid _ := hno
        clear hno
        by_cases q1 : y < 4
        ·obtain ⟨X, rfl⟩ : ∃ X : Nat, x' = X := ⟨x'.toNat, by omega⟩
         obtain ⟨P2, HP2', hP2p, hP2q⟩ : ∃ P2 : Nat, pw (y + 1) = P2 ∧ 0 < P2 ∧ P2 ≤ 16 := ⟨(pw (y + 1)).toNat, by have := pw_pos (y + 1); omega, by have := pw_pos (y + 1); omega, by have := pw_le (o := y + 1) ⟨by omega, by omega⟩; omega⟩
         obtain ⟨Y1, hY1⟩ : ∃ Y1, y + 1 = Y1 := ⟨_, rfl⟩
         have HP2 : Hid (pw Y1 = P2) := by rw [← hY1]; exact HP2'
         have HY1 : Hid (y + 1 = Y1) := hY1
         have hP20 : ((P2 : Int) == 0) = false := by simp; omega
         clear HP2' HP'
         by_cases q2 : y = y'
         ·subst q2
          by_cases q3 : (X : Int) + P = x
          ·have q3' : ((X : Int) + P == x) = true := by simpa using q3
           by_cases q4 : (X : Int) % (P2 : Int) = 0
           ·have q4' : ((X : Int) % (P2 : Int) == 0) = true := by simpa using q4
            have HF : Hid (¬ ZMay z) := fun g => (freeOk_at g.free (by omega) hX.out).2.2.2 _ hlast ⟨q1, rfl, by dsimp only; rw [HP.out]; exact q3, by dsimp only; rw [HY1.out, HP2.out]; exact q4⟩
            clear Hno HFk hF hq htk hlast hX hX' hty q3 q4
            go_wp2
            go_quiet (first | (go_at_call_of 47 Y1; exact Calls.quiet_of_same (power_v Y1 P2 (by omega) (by omega) HP2.out _)) | (go_at_call_of 47 y; exact Calls.quiet_of_same (power_v y P o5 (by omega) HP.out _)))
            go_wp2
            go_ret
            exact ⟨⟨false, rfl, fun g => (by cases g), fun g => absurd g HF.out⟩, below_drewN hbb _⟩
           have q4' : ((X : Int) % (P2 : Int) == 0) = false := by simpa using q4
           have hF' := Hno.out (fun g => q4 (by have := g.2.2.2; dsimp only at this; rw [HY1.out, HP2.out] at this; exact this))
           clear Hno HFk hF hq htk hlast hX hX' hty q3 q4
           go_wp2
           go_quiet (first | (go_at_call_of 47 Y1; exact Calls.quiet_of_same (power_v Y1 P2 (by omega) (by omega) HP2.out _)) | (go_at_call_of 47 y; exact Calls.quiet_of_same (power_v y P o5 (by omega) HP.out _)))
           go_wp2
           go_roundw
           case rel => exact ⟨(j + 1) + 1, x + pw y, by omega, by go_num, by go_num, hq', hF', IE.step (below_drawn _)⟩
           case measure => simp [intOf]; omega
          have q3' : ((X : Int) + P == x) = false := by simpa using q3
          have hF' := Hno.out (fun g => q3 (by have := g.2.2.1; dsimp only at this; rw [HP.out] at this; exact this))
          clear Hno HFk hF hq htk hlast hX hX' hty q3
          go_wp2
          go_quiet (first | (go_at_call_of 47 Y1; exact Calls.quiet_of_same (power_v Y1 P2 (by omega) (by omega) HP2.out _)) | (go_at_call_of 47 y; exact Calls.quiet_of_same (power_v y P o5 (by omega) HP.out _)))
          go_wp2
          go_roundw
          case rel => exact ⟨(j + 1) + 1, x + pw y, by omega, by go_num, by go_num, hq', hF', IE.step (below_drawn _)⟩
          case measure => simp [intOf]; omega
         have q2' : (y' == y) = false := by simp; exact fun g => q2 g.symm
         have hF' := Hno.out (fun g => q2 g.2.1.symm)
         clear Hno HFk hF hq htk hlast hX hX' hty q2
         go_wp2
         go_quiet (first | (go_at_call_of 47 Y1; exact Calls.quiet_of_same (power_v Y1 P2 (by omega) (by omega) HP2.out _)) | (go_at_call_of 47 y; exact Calls.quiet_of_same (power_v y P o5 (by omega) HP.out _)))
         go_wp2
         go_roundw
         case rel => exact ⟨(j + 1) + 1, x + pw y, by omega, by go_num, by go_num, hq', hF', IE.step (below_drawn _)⟩
         case measure => simp [intOf]; omega
        have hF' := Hno.out (fun g => q1 g.1)
        have q1' : decide (y < 4) = false := decide_eq_false q1
        clear Hno HFk hF hq htk hlast hX hX' hty
        go_wp2
        go_quiet (fail)
        go_wp2
        go_roundw
        case rel => exact ⟨(j + 1) + 1, x + pw y, by omega, by go_num, by go_num, hq', hF', IE.step (below_drawn _)⟩
        case measure => simp [intOf]; omega
       have e1 : inB u 0 2 = false := inB_f hU
       have HF : Hid (¬ ZMay z) := fun g => hU (freeOk_at g.free (by omega) hX.out).2.1
       clear hF hq hX htk hty
       go_wp2_with (go_at_call 21; refine (in_any _ _ _ _).mono ?_; rintro e w' ⟨rfl, rfl⟩)
       go_ret
       exact ⟨⟨false, rfl, fun g => (by cases g), fun g => absurd g HF.out⟩, hbb⟩
      have hB2 : blkB z.f z.t x y = false := by
       cases hb : blkB z.f z.t x y with
       | false => rfl
       | true => exact absurd ((blkB_iff z.f z.t x y).1 hb) hB
      rw [hB2]
      have HF : Hid (¬ ZMay z) := fun g => hB (freeOk_at g.free (by omega) hX.out).1
      clear hF hq hX htk hty
      go_wp2
      go_ret
      exact ⟨⟨false, rfl, fun g => (by cases g), fun g => absurd g HF.out⟩, hbb⟩
     have HM : Hid (ZMay z) := ⟨hn, by rw [htl]; exact hlen, hty.out, by have := hF.out; rw [List.take_of_length_le (by omega)] at this; exact this⟩
     have hbb := I2.b
     clear hF hq hty
     go_wp2
     go_ret
     exact ⟨⟨true, rfl, fun _ => HM.out, fun _ => rfl⟩, hbb⟩
  have HF : Hid (¬ ZMay z) := fun g => hlen (by have := g.len; rw [htl] at this; exact this)
  go_wp2
  go_ret
  exact ⟨⟨false, rfl, fun g => (by cases g), fun g => absurd g HF.out⟩, I1.b⟩
 go_enter Tryz.func44, Tryz.ntmps44
 go_wp2_with fail
 go_at_call 69
 refine (zoneNew_no _ z.f z.t hn).mono ?_
 rintro e w1 ⟨rfl, hb1⟩
 have I1 := I0.step hb1
 have HF : Hid (¬ ZMay z) := fun g => hn g.new
 have hbx := I1.b.trans ((below_box w1 (.cells #[.int .i64 0, .int .i64 0, .slice none 0 0, .slice none 0 0] 37)).mono I1.b.size)
 clear I0 I1 hb1 hn
 go_wp2
 go_ret
 exact ⟨⟨false, rfl, fun g => (by cases g), fun g => absurd g HF.out⟩, hbx⟩
structure HmI (W1 W : World) (ab r : Nat) (P : List Bk) : Prop where
 B : Below W1.heap.size W1 W
 A : ∃ ao cap, AllI W ab r P ao cap
 h : W1.heap.size ≤ ab
 hr : W1.heap.size ≤ r
 hl : r < W.heap.size
 apt : Apt [] P
 inp : ∀ i, i < P.length → InP (P.getD i .zero)
theorem HmI.below {W1 W W' : World} {ab r : Nat} {P : List Bk} (h : HmI W1 W ab r P) (hb : Below W.heap.size W W') : HmI W1 W' ab r P := by
 obtain ⟨ao, cap, hA⟩ := h.A
 exact ⟨Below.next h.B hb, ⟨ao, cap, hA.below hb⟩, h.h, h.hr, Nat.lt_of_lt_of_le h.hl hb.size, h.apt, h.inp⟩
theorem hm_add {W1 W : World} {ab r : Nat} {P : List Bk} (h : HmI W1 W ab r P) (b : Bk) (hb : InP b) :
    Calls Tryz.prog 45 #[.agg #[.int .i64 b.a, .int .i64 b.o, .int .i64 b.t], .pointer (some ⟨ab, 0, none⟩)] W fun e w' =>
     ∃ r', (e = .returned (.bool true) ∧ HmI W1 w' ab r' (P ++ [b]) ∧ (r' = r ∨ W.heap.size ≤ r') ∧ Bu2 r ab W w') ∨ (e = .returned (.bool false) ∧ (∀ q, ¬ Apt [] (P ++ [b] ++ q)) ∧ Below W.heap.size W w') := by
 obtain ⟨ao, cap, hA⟩ := h.A
 have hlen := apt_len h.apt h.inp
 refine (heapMayF_any W ab r P ao cap b hA h.inp (by omega) hb).mono ?_
 rintro e w' (⟨rfl, h1, r', ao', cap', h2, h3, h4⟩ | ⟨rfl, h1, h2⟩)
 ·have hsz : W.heap.size ≤ w'.heap.size := h4.size
  refine ⟨r', .inl ⟨rfl, ⟨h.B.trans (h4.below h.hr h.h h.B.size), ⟨_, _, h2⟩, h.h, ?_, ?_, apt_snoc h.apt h1, inP_snoc h.inp hb⟩, h3, h4⟩⟩
  ·have := h.hr; have := h.B.size; rcases h3 with rfl | h3 <;> omega
  rcases h3 with e | h5
  ·have := h.hl; omega
  cases ao' with
  | none =>
   have := h2.own.1
   rw [length_bvals] at this
   rcases h2.own.2 with ⟨e, _⟩ | ⟨g, cp, cur, e, _⟩
   ·have h6 : (P ++ [b]).length = 0 := by injection e
    simp at h6
   injection e with e1; cases e1
  | some ad =>
   have e1 := h2.r ad rfl
   obtain ⟨g, e2, _, h7⟩ := owns_head h2.own (by simp)
   cases e2
   have : g = r' := e1
   omega
 exact ⟨r, .inr ⟨rfl, fun q => not_apt h1, h2⟩⟩
theorem HmI.lab {W1 W : World} {ab r : Nat} {P : List Bk} (h : HmI W1 W ab r P) : ab < W.heap.size := by
 obtain ⟨ao, cap, hA⟩ := h.A
 exact hA.lt
theorem hm_start {W : World} {b : Nat} (h : W.heap[b]? = some (.cells #[.slice none 0 0] 25 (0, 0))) : AllI W b b [] none 0 :=
 ⟨by simp [World.cell?, h], by simp [World.frozen?, h], ⟨rfl, .inl ⟨rfl, rfl⟩⟩, fun a ha => by cases ha⟩
theorem ahead_c (a b : Ls) (po po' : Value) [Decidable (aheadL a b)] (w : World) :
    Calls Tryz.prog 48 #[.agg #[.int .i64 a.c, .int .i64 a.z, .int .i64 a.t, po], .agg #[.int .i64 b.c, .int .i64 b.z, .int .i64 b.t, po']] w fun e w' => e = .returned (.bool (decide (aheadL a b))) ∧ Below w.heap.size w w' :=
 ahead_b w a b po po' _ (by simp)
theorem power_c (o : Int) (h0 : 0 ≤ o) (h1 : o ≤ 4) (w : World) : Calls Tryz.prog 47 #[.int .i64 o] w fun e w' => e = .returned (.int .i64 (pw o)) ∧ Below w.heap.size w w' := by
 refine (power_v o _ (by omega) (by omega) rfl w).mono ?_
 rintro e w' ⟨rfl, rfl⟩
 exact ⟨rfl, Below.refl _ _⟩
abbrev FZ (c : Zc) : List Bk := c.z.free
abbrev FL (c : Lc) : List Bk := c.l.pages.map pgB
theorem free_at {x : Hx} (hz : ZsOk x.hp) {i k : Nat} (hi : i < x.zs.length) (hk : k < (FZ (x.zs.getD i .zero)).length) : InP ((FZ (x.zs.getD i .zero)).getD k .zero) :=
 free_in hz _ (getD_mem (d := Zc.zero) hi) k hk
theorem zone_bd {x : Hx} (hz : ZsOk x.hp) {i : Nat} (hi : i < x.zs.length) : 0 ≤ (x.zs.getD i .zero).z.f ∧ (x.zs.getD i .zero).z.f ≤ (x.zs.getD i .zero).z.t ∧ (x.zs.getD i .zero).z.t ≤ 256 := by
 have h0 := hz.m0.new
 have h1 := hz.m1.new
 rw [zoneOf_hp] at h0 h1
 obtain ⟨a1, a2, a3, _, _⟩ := h0
 obtain ⟨b1, b2, b3, _, _⟩ := h1
 rcases two_zones hz _ (getD_mem (d := Zc.zero) hi) with e | e <;> rw [e] <;> omega
structure LsI (x : Hx) (i : Nat) : Prop where
 ok : ∀ j, j < i → LsOk x.hp (x.ls.getD j .zero).l
 ord : ∀ j, 0 < j → j < i → aheadL (x.ls.getD (j - 1) .zero).l (x.ls.getD j .zero).l
theorem LsI.nil (x : Hx) : LsI x 0 := ⟨fun j h => by omega, fun j _ h => by omega⟩
theorem LsI.succ {x : Hx} {i : Nat} (h : LsI x i) (ho : LsOk x.hp (x.ls.getD i .zero).l) (ha : 0 < i → aheadL (x.ls.getD (i - 1) .zero).l (x.ls.getD i .zero).l) : LsI x (i + 1) := by
 refine ⟨fun j hj => ?_, fun j h0 hj => ?_⟩
 ·by_cases e : j = i
  ·rw [e]; exact ho
  exact h.ok j (by omega)
 by_cases e : j = i
 ·rw [e]; exact ha (by omega)
 exact h.ord j h0 (by omega)
theorem LsI.all {x : Hx} {i : Nat} (h : LsI x i) (hi : x.ls.length ≤ i) : LssOk x.hp := by
 have e : x.hp.lists.length = x.ls.length := by show (x.ls.map _).length = _; rw [List.length_map]
 exact ⟨fun j hj => by rw [listOf_hp]; exact h.ok j (by omega), fun j h0 hj => by rw [listOf_hp, listOf_hp]; exact h.ord j h0 (by omega)⟩
structure LvI (l : List Bk) (i : Nat) : Prop where
 ok : ∀ j, j < i → LvOk (l.getD j .zero)
 ord : ∀ j, 0 < j → j < i → (l.getD (j - 1) .zero).a < (l.getD j .zero).a
theorem LvI.nil (l : List Bk) : LvI l 0 := ⟨fun j h => by omega, fun j _ h => by omega⟩
theorem LvI.succ {l : List Bk} {i : Nat} (h : LvI l i) (ho : LvOk (l.getD i .zero)) (ha : 0 < i → (l.getD (i - 1) .zero).a < (l.getD i .zero).a) : LvI l (i + 1) := by
 refine ⟨fun j hj => ?_, fun j h0 hj => ?_⟩
 ·by_cases e : j = i
  ·rw [e]; exact ho
  exact h.ok j (by omega)
 by_cases e : j = i
 ·rw [e]; exact ha (by omega)
 exact h.ord j h0 (by omega)
theorem placed_x (x : Hx) : placed x.hp = x.zs.flatMap FZ ++ (x.ls.flatMap FL ++ x.live) := by
 unfold placed Hx.hp FZ FL
 simp only [List.flatMap_map]
theorem words_any (w : World) (ao : Option Addr) (n cap : Nat) (xs : List Int) (hn : xs.length = n) (hr : n * 8 ≤ 140737488351232) (hx : IntsAt w ao xs) :
    Calls Tryz.prog 8 #[.slice ao n cap] w fun e w' => ∃ bo c, e = .returned (.slice bo n c) ∧
     w'.ownsRow w.heap.size 3 1 (.slice bo n c) n (vals xs) ∧ Below w.heap.size w w' := by
 obtain ⟨i0, hi, hz0, hz1, hz2⟩ := info_parts info_int
 go_enter Tryz.func8, Tryz.ntmps8
 go_wp2
 go_loopw [3, 4] (fun v i wr => ∃ k : Nat, k ≤ n ∧ i = .int .i64 k ∧ wr.ownsRow w.heap.size 3 1 v k (vals (xs.take k)) ∧ Below w.heap.size w wr) (fun _ i _ => n - (intOf i).toNat)
 case atStart => exact ⟨0, Nat.zero_le _, rfl, World.ownsRow_nil _ _ _ _, Below.refl _ _⟩
 case round =>
  obtain ⟨k, hk, rfl, hown, hb⟩ := hrel
  by_cases hlt : k < n
  ·obtain ⟨b, o, x, rfl, c, hX⟩ := (hx.below hb).at k (by omega)
   have hs := hb.size
   have hml : k + 1 ≤ maxLen := by unfold maxLen; omega
   clear hx
   go_wp2_with (at_builtin; refine wpList_append_own _ rfl (.tmp 11) (.tmp 16) 23 rfl w.heap.size 3 i0 (.int .i64 0) 1 8 Tryz.underlying23 hi hz0 hz1 hz2 rfl (by decide) _ _ _ rfl (hown.alloc _) ⟨wr.heap.size, 0, none⟩ 1 1 [.int .i64 x] rfl rfl ?c1 ?c2 hml ?c4 ?c5 ?_)
   case c1 => exact cell_one_new' _ _ _
   case c2 => exact ints_oneCell .i64 [_]
   case c4 => omega
   case c5 => simp; omega
   intro v' w1 hown' hgrow _
   rw [take_snoc xs k (by omega) hX.out] at hown'
   have hb' : Below w.heap.size w w1 := (hb.alloc hs _).grown hgrow (by simp; omega) (fun g hg => (hown.lt g hg).1)
   clear hown hgrow hb
   go_wp2
   go_roundw
   case rel => exact ⟨k + 1, by omega, by go_num, hown', hb'⟩
   case measure => simp [intOf]; omega
  obtain rfl : k = n := by omega
  obtain ⟨bo, c, rfl⟩ := owns_shape hown
  go_wp2
  go_ret
  exact ⟨bo, c, rfl, by rw [List.take_of_length_le (by omega)] at hown; exact hown, hb⟩
theorem lsPages_first {ls : List Lc} {x : Ls} {k : Nat} (hk : k < ls.length) (h : ∀ j, j < k → ¬ ((ls.getD j .zero).l.c = x.c ∧ (ls.getD j .zero).l.z = x.z ∧ (ls.getD j .zero).l.t = x.t)) (hs : (ls.getD k .zero).l.c = x.c ∧ (ls.getD k .zero).l.z = x.z ∧ (ls.getD k .zero).l.t = x.t) : lsPages (ls.map (·.l)) x = (ls.getD k .zero).l.pages := by
 have hl : (ls.map (·.l)).length = ls.length := List.length_map _
 have e0 : ls.map (·.l) = (ls.map (·.l)).take k ++ (ls.map (·.l)).drop k := (List.take_append_drop k _).symm
 have e1 : ((ls.map (·.l)).take k).find? (fun a => decide (a.c = x.c ∧ a.z = x.z ∧ a.t = x.t)) = none := by
  rw [List.find?_eq_none]
  intro a ha
  obtain ⟨j, hj, _, rfl⟩ := getD_take_mem ha
  rw [getD_l]
  simpa using h j hj
 have e2 : (ls.map (·.l)).drop k = (ls.getD k .zero).l :: (ls.map (·.l)).drop (k + 1) := by
  rw [← getD_l, List.getD_eq_getElem?_getD, List.getElem?_eq_getElem (by omega : k < (ls.map (·.l)).length)]
  exact (List.getElem_cons_drop _).symm
 unfold lsPages
 rw [e0, List.find?_append, e1, Option.none_or, e2, List.find?_cons_of_pos (by simpa using hs)]
 rfl
theorem lsPages_none {ls : List Lc} {x : Ls} (h : ∀ j, j < ls.length → ¬ ((ls.getD j .zero).l.c = x.c ∧ (ls.getD j .zero).l.z = x.z ∧ (ls.getD j .zero).l.t = x.t)) : lsPages (ls.map (·.l)) x = [] := by
 unfold lsPages
 have e1 : (ls.map (·.l)).find? (fun a => decide (a.c = x.c ∧ a.z = x.z ∧ a.t = x.t)) = none := by
  rw [List.find?_eq_none]
  intro a ha
  obtain ⟨j, hj, rfl⟩ := List.getElem_of_mem ha
  have hj' : j < ls.length := by rw [List.length_map] at hj; exact hj
  have := h j hj'
  rw [← getD_l, List.getD_eq_getElem?_getD, List.getElem?_eq_getElem hj] at this
  simpa using this
 rw [e1]
 rfl
theorem listOf_any (w : World) (y : Hx) (x : Ls) (hy : y.At w) :
    Calls Tryz.prog 50 #[.agg #[.slice y.zo y.zn y.zc, .slice y.mo y.mn y.mc, .int .i64 y.cpus, .slice y.lo y.ln y.lc, .slice y.vo y.vn y.vc], .int .i64 x.c, .int .i64 x.z, .int .i64 x.t] w fun e w' => ∃ bo n bc, e = .returned (.slice bo n bc) ∧ w'.ownsRow w.heap.size 3 1 (.slice bo n bc) n (vals (lsPages y.hp.lists x)) ∧ n = (lsPages y.hp.lists x).length ∧ Below w.heap.size w w' := by
 have hlr := hy.lists.reach
 have hll := hy.lists.len
 have B0 := Below.refl w.heap.size w
 refine sx_enter (args := [_, _, _, _]) 52 Tryz.func50 rfl rfl rfl ?_
 refine vS (vR ?_); intro A f
 refine l_box f rfl rfl rfl rfl rfl ?_; clear f A; intro b1 W2 eb1 hb3 rb1 A f; dsimp only [Value.cells] at rb1
 have z_B0_b1 := B0.size; rw [eb1] at z_B0_b1
 replace B0 := Below.next B0 hb3
 revert A; refine vla (h:=vW (vS (vS (vR (vla (h:=vW (vB ?_))))))); intro A f
 refine x_loop (fun n A W => ∃ k : Nat, n = y.ln - k ∧ k ≤ y.ln ∧ Fr A 52 [(1, .int .i64 x.c), (2, .int .i64 x.z), (3, .int .i64 x.t), (4, .pointer (some ⟨b1, 0, none⟩)), (9, .int .i64 (k : Nat))] ∧ Below w.heap.size w W ∧ W.heap[b1]? = some (.cells #[.slice y.zo y.zn y.zc, .slice y.mo y.mn y.mc, .int .i64 y.cpus, .slice y.lo y.ln y.lc, .slice y.vo y.vn y.vc] 27 (0, 0)) ∧ ∀ j, j < k → ¬ ((y.ls.getD j .zero).l.c = x.c ∧ (y.ls.getD j .zero).l.z = x.z ∧ (y.ls.getD j .zero).l.t = x.t)) (n0 := y.ln) (⟨0, rfl, Nat.zero_le _, f.sub ⟨rfl, rfl, rfl, rfl, rfl, trivial⟩, B0, rb1, fun j hj => absurd hj (Nat.not_lt_zero j)⟩) ?_
 clear f A
 clear B0 rb1
 rintro n A W4 ⟨k, hn, hk, f, B0, rb1, hno⟩
 revert A; refine vS (vS (vR (vlm (h:=vlf (h:=vl1 (rowq rb1) (h:=vlz (h:=?_))))))); intro A f
 refine l_if _ f rfl rfl rfl (y_lss rfl rfl rfl) ?_ ?_
 ·clear f A; intro c5 A f
  revert A; refine vW (vC (h:=vK (vT (vS (vB (vS (vR (vlf (h:=vl1 (rowq rb1) (h:=vlm (h:=?_)))))))))))
  obtain ⟨gk, ok, lck, lzk, ltk, lpk, pok, pnk, pck, hak, c0k, c1k, c2k, c3k, hatk, hXk⟩ := hy.lists.at (k) (by omega)
  replace c0k := St.of c0k; replace c1k := St.of c1k; replace c2k := St.of c2k; replace c3k := St.of c3k
  refine vlx (h:=vlf (h:=vld (y_load1 rfl rfl (ag rfl) (St.q c0k B0)) (h:=vlm (h:=?_)))); intro A f
  refine l_if _ f rfl rfl rfl (y_eql rfl rfl rfl) ?_ ?_
  ·clear f A; intro c6 A f
   revert A; refine vlm (h:=vlf (h:=vl1 (rowq rb1) (h:=vlm (h:=vlx (h:=vlf (h:=vld (y_load1 rfl rfl (ag rfl) (St.q c1k B0)) (h:=vlm (h:=?_)))))))); intro A f
   refine l_if _ f rfl rfl rfl (y_eql rfl rfl rfl) ?_ ?_
   ·clear f A; intro c7 A f
    revert A; refine vlp (h:=vlm (h:=vlf (h:=vl1 (rowq rb1) (h:=vlm (h:=vlx (h:=vlf (h:=vld (y_load1 rfl rfl (ag rfl) (St.q c2k B0)) (h:=vlm (h:=?_))))))))); intro A f
    refine l_if _ f rfl rfl rfl (y_eql rfl rfl rfl) ?_ ?_
    ·clear f A; intro c8 A f
     revert A; refine vlp (h:=vW (vC (h:=vS (vR (vlf (h:=vl1 (rowq rb1) (h:=vlm (h:=vlx (h:=vlf (h:=vld (y_load1 rfl rfl (ag rfl) (St.q c3k B0)) (h:=?_))))))))))); intro A f
     refine l_call f rfl rfl rfl (IsCall.mk' (cap := []) rfl rfl rfl) (pl rfl) (words_any _ pok pnk pck lpk hatk.len hatk.reach (hatk.below B0).at_) ?_
     clear f A
     rintro _ W9 ⟨bo, bc, rfl, how, hb10⟩
     refine ⟨_, rfl, ?_⟩
     intro A f
     have hsz := B0.size
     replace B0 := Below.next B0 hb10; replace rb1 := row_next rb1 hb10
     revert A; refine vla (h:=vW (vE (vG (vF (vF (vG (vF ?_))))))); intro A f
     refine x_ret1 f rfl rfl ?_
     have hs : ((y.ls.getD k .zero).l.c = x.c ∧ (y.ls.getD k .zero).l.z = x.z ∧ (y.ls.getD k .zero).l.t = x.t) := by rw [hXk.out]; exact ⟨c6, c7, c8⟩
     exact ⟨bo, pnk, bc, rfl, by rw [show y.hp.lists = y.ls.map (·.l) from rfl, lsPages_first (by have := hy.lists.len; omega) hno hs, hXk.out]; exact owns_weaken how hsz, hatk.len.symm.trans (by rw [show y.hp.lists = y.ls.map (·.l) from rfl, lsPages_first (by have := hy.lists.len; omega) hno hs, hXk.out]), B0⟩
    clear f A; intro c8 A f
    revert A; refine vlp (h:=vW (vD (h:=vK (vU (vT (vR (vlm (h:=vlA (h:=vla (h:=vW ?_)))))))))); intro A f
    refine ⟨y.ln - (k + 1), by omega, k + 1, rfl, by omega, f.sub ⟨rfl, rfl, rfl, rfl, rfl, trivial⟩, B0, rb1, fun j hj => ?_⟩
    by_cases e : j = k
    ·subst e
     rw [hXk.out]
     exact fun h => c8 h.2.2
    exact hno j (by omega)
   clear f A; intro c7 A f
   revert A; refine vlp (h:=vlm (h:=vlO 8 (h:=vlp (h:=vW (vD (h:=vK (vU (vT (vR (vlm (h:=vlA (h:=vla (h:=vW ?_))))))))))))); intro A f
   refine ⟨y.ln - (k + 1), by omega, k + 1, rfl, by omega, f.sub ⟨rfl, rfl, rfl, rfl, rfl, trivial⟩, B0, rb1, fun j hj => ?_⟩
   by_cases e : j = k
   ·subst e
    rw [hXk.out]
    exact fun h => c7 h.2.1
   exact hno j (by omega)
  clear f A; intro c6 A f
  revert A; refine vlm (h:=vlO 8 (h:=vlp (h:=vlm (h:=vlO 8 (h:=vlp (h:=vW (vD (h:=vK (vU (vT (vR (vlm (h:=vlA (h:=vla (h:=vW ?_))))))))))))))); intro A f
  refine ⟨y.ln - (k + 1), by omega, k + 1, rfl, by omega, f.sub ⟨rfl, rfl, rfl, rfl, rfl, trivial⟩, B0, rb1, fun j hj => ?_⟩
  by_cases e : j = k
  ·subst e
   rw [hXk.out]
   exact fun h => c6 h.1
  exact hno j (by omega)
 clear f A; intro c5 A f
 revert A; refine vW (vD (h:=vX (vH (vH (vI (vT (vS (vR (vla (h:=vW (vE ?_))))))))))); intro A f
 refine x_ret1 f rfl rfl ?_
 have e0 : lsPages y.hp.lists x = [] := lsPages_none (fun j hj => hno j (by have := hy.lists.len; omega))
 exact ⟨none, 0, 0, rfl, by rw [e0]; exact World.ownsRow_nil _ _ _ _, by rw [e0]; rfl, B0⟩
theorem below_row {n b : Nat} {w w' : World} {x : Obj} (h : Below n w w') (hr : w.heap[b]? = some x) (hb : b < n) : w'.heap[b]? = some x := by
 rw [h.block b hb]; exact hr
theorem setList_any (w : World) (y : Hx) (x : Ls) (po : Option Addr) (pn pc : Nat) (hy : y.At w) (hord : RiseL y.ls) (hln : y.ln ≤ 100) (hN : Nums w po pn x.pages) :
    Calls Tryz.prog 51 #[.agg #[.slice y.zo y.zn y.zc, .slice y.mo y.mn y.mc, .int .i64 y.cpus, .slice y.lo y.ln y.lc, .slice y.vo y.vn y.vc], .int .i64 x.c, .int .i64 x.z, .int .i64 x.t, .slice po pn pc] w fun e w' => ∃ ls lo ln lc, e = .returned (.agg #[.slice y.zo y.zn y.zc, .slice y.mo y.mn y.mc, .int .i64 y.cpus, .slice lo ln lc, .slice y.vo y.vn y.vc]) ∧ (y.withL ls lo ln lc).At w' ∧ ls.map (·.l) = setLs y.hp.lists x ∧ Below w.heap.size w w' ∧ (∀ a, lo = some a → w.heap.size ≤ a.block) ∧ ∀ l ∈ ls, l ∈ y.ls ∨ l = ⟨x, po, pn, pc⟩ := by
 have hll := hy.lists.len
 have hlr := hy.lists.reach
 have hlp : y.hp.lists.length = y.ln := by show (y.ls.map _).length = _; rw [List.length_map]; exact hll
 have B0 := Below.refl w.heap.size w
 refine sx_enter (args := [_, _, _, _, _]) 96 Tryz.func51 rfl rfl rfl ?_
 refine vS (vR ?_); intro A f
 refine l_box f rfl rfl rfl rfl rfl ?_; clear f A; intro b1 W2 eb1 hb3 rb1 A f; dsimp only [Value.cells] at rb1
 have z_B0_b1 := B0.size; rw [eb1] at z_B0_b1
 replace B0 := Below.next B0 hb3
 refine l_alloc (z := .agg #[.slice none 0 0, .slice none 0 0, .int .i64 0, .slice none 0 0, .slice none 0 0]) f rfl rfl rfl rfl (by kernel_rfl) ?_; clear f A; intro b4 W5 eb4 hb6 rb4 A f; dsimp only [Value.cells] at rb4
 have o_b1_b4 : b1 < b4 := by have := row_lt rb1; omega
 have z_B0_b4 := B0.size; rw [eb4] at z_B0_b4
 replace B0 := Below.next B0 hb6; replace rb1 := row_next rb1 hb6
 revert A; refine vW (vS (vR (vlm (h:=vlm (h:=vlm (h:=vlm (h:=vld (y_build #[.int .i64 x.c, .int .i64 x.z, .int .i64 x.t, .slice po pn pc] rfl rfl (by kernel_rfl)) (h:=?_)))))))); intro A f
 refine l_as (z := .agg #[.int .i64 0, .int .i64 0, .int .i64 0, .slice none 0 0]) f rfl rfl rfl rfl (by kernel_rfl) rfl rfl (fun _ => rfl) (fun _ => rfl) rfl (by intro u hu; simp [Value.cells] at hu; rcases hu with rfl | rfl | rfl | rfl <;> rfl) ?_; clear f A; intro b7 W8 eb7 hb9 rb7 A f
 dsimp only [Value.cells] at rb7
 have hpb7 := hb9
 have o_b1_b7 : b1 < b7 := by have := row_lt rb1; omega
 have o_b4_b7 : b4 < b7 := by have := row_lt rb4; omega
 have z_B0_b7 := B0.size; rw [eb7] at z_B0_b7
 replace B0 := Below.next B0 hb9; replace rb1 := row_next rb1 hb9; replace rb4 := row_next rb4 hb9
 revert A; refine vW (vS (vR (vla (h:=vW (vS (vR (vlm (h:=vlz (h:=vld (y_eql rfl rfl rfl) (h:=vla (h:=vW (vS (vS (vR (vla (h:=vW (vB ?_)))))))))))))))))
 obtain ⟨s1, hs1⟩ : ∃ n, n = W8.heap.size := ⟨_, rfl⟩
 have l1_b1 : b1 < s1 := by rw [hs1]; exact row_lt rb1
 have l1_b4 : b4 < s1 := by rw [hs1]; exact row_lt rb4
 have l1_b7 : b7 < s1 := by rw [hs1]; exact row_lt rb7
 have hw1 : w.heap.size ≤ s1 := by rw [hs1]; exact B0.size
 intro A f
 refine x_loop (fun n A W => ∃ (k : Nat) (lsk : List Lc) (uo : Option Addr) (un uc : Nat) (d : Bool), n = y.ln - k ∧ k ≤ y.ln ∧ Fr A 96 [(1, .int .i64 x.c), (2, .int .i64 x.z), (3, .int .i64 x.t), (5, .pointer (some ⟨b1, 0, none⟩)), (10, .pointer (some ⟨b4, 0, none⟩)), (11, .pointer (some ⟨b7, 0, none⟩)), (12, .slice uo un uc), (13, .bool d), (14, .int .i64 (k : Nat))] ∧ Below w.heap.size w W ∧ W.heap[b1]? = some (.cells #[.slice y.zo y.zn y.zc, .slice y.mo y.mn y.mc, .int .i64 y.cpus, .slice y.lo y.ln y.lc, .slice y.vo y.vn y.vc] 27 (0, 0)) ∧ W.heap[b4]? = some (.cells #[.slice none 0 0, .slice none 0 0, .int .i64 0, .slice none 0 0, .slice none 0 0] 27 (0, 0)) ∧ W.heap[b7]? = some (.cells #[.int .i64 x.c, .int .i64 x.z, .int .i64 x.t, .slice po pn pc] 40 (0, 0)) ∧ W.ownsRow s1 40 4 (.slice uo un uc) un (c4 (lsk.map Lc.q)) ∧ s1 ≤ W.heap.size ∧ un ≤ 2 * k ∧ setFold x (y.hp.lists.take k) = (lsk.map (·.l), d) ∧ ∀ l ∈ lsk, l ∈ y.ls ∨ l = (⟨x, po, pn, pc⟩ : Lc)) (n0 := y.ln) (⟨0, [], none, 0, 0, decide ((pn : Int) = 0), rfl, Nat.zero_le _, f.sub ⟨rfl, rfl, rfl, rfl, rfl, rfl, rfl, rfl, rfl, trivial⟩, B0, rb1, rb4, rb7, World.ownsRow_nil _ _ _ _, Nat.le_of_eq hs1, Nat.zero_le _, by show ([], decide (x.pages.length = 0)) = _; rw [decide_eq_decide.2 (show x.pages.length = 0 ↔ (pn : Int) = 0 by have := hN.len; omega)]; rfl, fun l hl => by cases hl⟩) ?_
 clear f A
 clear B0 rb1 rb4 rb7
 rintro n A W10 ⟨k, lsk, uo, un, uc, d, hn, hk, f, B0, rb1, rb4, rb7, ow, hsl, hul, hF, hmm⟩
 revert A; refine vS (vS (vR (vlm (h:=vlf (h:=vl1 (rowq rb1) (h:=vlz (h:=?_))))))); intro A f
 refine l_if _ f rfl rfl rfl (y_lss rfl rfl rfl) ?_ ?_
 ·clear f A; intro c11 A f
  revert A; refine vW (vC (h:=vK (vT (vS (vB (vS (vS ?_))))))); intro A f
  refine sx_quiet (by kernel_rfl) (by kernel_rfl) ?_
  obtain ⟨gk, ok, lck, lzk, ltk, lpk, pok, pnk, pck, hak, c0k, c1k, c2k, c3k, hatk, hXk⟩ := hy.lists.at (k) (by omega)
  replace c0k := St.of c0k; replace c1k := St.of c1k; replace c2k := St.of c2k; replace c3k := St.of c3k
  have hke : y.ls.getD k .zero = ⟨⟨lck, lzk, ltk, lpk⟩, pok, pnk, pck⟩ := hXk.out
  have hmk : (⟨⟨lck, lzk, ltk, lpk⟩, pok, pnk, pck⟩ : Lc) ∈ y.ls := by rw [← hke]; exact getD_mem (by omega)
  have hka : y.hp.lists.getD k .zero = ⟨lck, lzk, ltk, lpk⟩ := by show (List.map (fun z : Lc => z.l) y.ls).getD k Ls.zero = _; rw [getD_l, hke]
  refine q_if (d = true) f rfl rfl rfl (by rw [Bool.decide_eq_true]; exact y_move rfl rfl) ?_ ?_
  ·clear f A; intro c12 A f
   obtain rfl : d = true := c12
   revert A; refine vqn (h:=vqm (h:=vqO 7 (h:=vqp (h:=vQ ?_)))); intro W14 hb13; replace B0 := Below.next B0 hb13; replace rb1 := row_next rb1 hb13; replace rb4 := row_next rb4 hb13; replace rb7 := row_next rb7 hb13; replace ow := owns_below ow hb13 (Nat.le_refl _); replace hsl := Nat.le_trans hsl hb13.size
   refine vT (vD (h:=vK (vT (vS (vS (vR (vlf (h:=vl1 (rowq rb1) (h:=vlm (h:=vlx (h:=vlf (h:=vld (y_load1 rfl rfl (ag rfl) (St.q c0k B0)) (h:=vlm (h:=?_)))))))))))))); intro A f
   refine l_if _ f rfl rfl rfl (y_eql rfl rfl rfl) ?_ ?_
   ·clear f A; intro c15 A f
    revert A; refine vlm (h:=vlf (h:=vl1 (rowq rb1) (h:=vlm (h:=vlx (h:=vlf (h:=vld (y_load1 rfl rfl (ag rfl) (St.q c1k B0)) (h:=vlm (h:=?_)))))))); intro A f
    refine l_if _ f rfl rfl rfl (y_eql rfl rfl rfl) ?_ ?_
    ·clear f A; intro c16 A f
     revert A; refine vlp (h:=vlm (h:=vlf (h:=vl1 (rowq rb1) (h:=vlm (h:=vlx (h:=vlf (h:=vld (y_load1 rfl rfl (ag rfl) (St.q c2k B0)) (h:=vlm (h:=?_))))))))); intro A f
     refine l_if _ f rfl rfl rfl (y_eql rfl rfl rfl) ?_ ?_
     ·clear f A; intro c17 A f
      revert A; refine vlp (h:=vW (vC (h:=vS (vS (vR (vlm (h:=vln (h:=vW (vD (h:=vK (vT (vX (vH (vI (vT (vR (vlm (h:=vlA (h:=vla (h:=vW ?_))))))))))))))))))))
      have hs : (⟨lck, lzk, ltk, lpk⟩ : Ls).c = x.c ∧ (⟨lck, lzk, ltk, lpk⟩ : Ls).z = x.z ∧ (⟨lck, lzk, ltk, lpk⟩ : Ls).t = x.t := ⟨c15, c16, c17⟩
      have hA : ¬ ((lsk.map (·.l), true).2 = false ∧ aheadL x (⟨lck, lzk, ltk, lpk⟩ : Ls)) := fun h => (by cases h.1)
      have hst : setStep x (lsk.map (·.l), true) (⟨lck, lzk, ltk, lpk⟩ : Ls) = (lsk.map (·.l), true) := by
       unfold setStep
       rw [if_pos hs, if_neg hA]
       simp
      intro A f
      exact ⟨y.ln - (k + 1), by omega, k + 1, lsk, uo, un, uc, true, rfl, by omega, f.sub ⟨rfl, rfl, rfl, rfl, rfl, rfl, rfl, rfl, rfl, trivial⟩, B0, rb1, rb4, rb7, ow, hsl, by omega, by rw [setFold_succ x _ k (by omega) hka, hF, hst], hmm⟩
     clear f A; intro c17 A f
     revert A; refine vlp (h:=vW (vD (h:=vK (vT (vR (vlm (h:=vlf (h:=vl1 (rowq rb1) (h:=vlm (h:=vlx (h:=vld (y_loadN (vs := [_, _, _, _]) rfl rfl (ag rfl) rfl ⟨(St.q c0k B0), (St.q c1k B0), (St.q c2k B0), (St.q c3k B0), trivial⟩) (h:=?_))))))))))))
     obtain ⟨gvW18, hgvW18⟩ : ∃ g, g = W14.heap.size := ⟨_, rfl⟩
     intro A f
     refine l_bs4 f hgvW18 ?_; clear f A; intro W18 hb19 rgvW18 A f
     replace B0 := Below.next B0 hb19; replace rb1 := row_next rb1 hb19; replace rb4 := row_next rb4 hb19; replace rb7 := row_next rb7 hb19; replace ow := owns_below ow hb19 (Nat.le_refl _); replace hsl := Nat.le_trans hsl hb19.size
     refine l_apL (⟨⟨lck, lzk, ltk, lpk⟩, pok, pnk, pck⟩ : Lc) f ow (by omega) (by omega) rgvW18 ?_
     clear f A
     rintro _ W20 ⟨g1W20, d1W20, rfl, ow1W20, hb21⟩ A f
     replace B0 := B0.trans (hb21.mono hw1)
     replace hsl := Nat.le_trans hsl hb21.size
     replace rb1 := below_row hb21 rb1 l1_b1
     replace rb4 := below_row hb21 rb4 l1_b4
     replace rb7 := below_row hb21 rb7 l1_b7
     have hm1W20 : ∀ l ∈ lsk ++ [(⟨⟨lck, lzk, ltk, lpk⟩, pok, pnk, pck⟩ : Lc)], l ∈ y.ls ∨ l = (⟨x, po, pn, pc⟩ : Lc) := fun l hl => by
      rcases List.mem_append.1 hl with h | h
      ·exact hmm l h
      rw [List.mem_singleton] at h
      exact .inl (by rw [h]; exact hmk)
     revert A; refine vla (h:=vN (vU (vT (vR (vlm (h:=vlA (h:=vla (h:=vW ?_))))))))
     have hs : ¬ ((⟨lck, lzk, ltk, lpk⟩ : Ls).c = x.c ∧ (⟨lck, lzk, ltk, lpk⟩ : Ls).z = x.z ∧ (⟨lck, lzk, ltk, lpk⟩ : Ls).t = x.t) := fun h => c17 h.2.2
     have hA : ¬ ((lsk.map (·.l), true).2 = false ∧ aheadL x (⟨lck, lzk, ltk, lpk⟩ : Ls)) := fun h => (by cases h.1)
     have hst : setStep x (lsk.map (·.l), true) (⟨lck, lzk, ltk, lpk⟩ : Ls) = ((lsk ++ [(⟨⟨lck, lzk, ltk, lpk⟩, pok, pnk, pck⟩ : Lc)]).map (·.l), true) := by
      unfold setStep
      rw [if_neg hs, if_neg hA]
      simp
     intro A f
     exact ⟨y.ln - (k + 1), by omega, k + 1, (lsk ++ [(⟨⟨lck, lzk, ltk, lpk⟩, pok, pnk, pck⟩ : Lc)]), (some ⟨g1W20, 0, none⟩), (un + 1), d1W20, true, rfl, by omega, f.sub ⟨rfl, rfl, rfl, rfl, rfl, rfl, rfl, rfl, rfl, trivial⟩, B0, rb1, rb4, rb7, ow1W20, hsl, by omega, by rw [setFold_succ x _ k (by omega) hka, hF, hst], hm1W20⟩
    clear f A; intro c16 A f
    revert A; refine vlp (h:=vlm (h:=vlO 8 (h:=vlp (h:=vW (vD (h:=vK (vT (vR (vlm (h:=vlf (h:=vl1 (rowq rb1) (h:=vlm (h:=vlx (h:=vld (y_loadN (vs := [_, _, _, _]) rfl rfl (ag rfl) rfl ⟨(St.q c0k B0), (St.q c1k B0), (St.q c2k B0), (St.q c3k B0), trivial⟩) (h:=?_)))))))))))))))
    obtain ⟨gvW22, hgvW22⟩ : ∃ g, g = W14.heap.size := ⟨_, rfl⟩
    intro A f
    refine l_bs4 f hgvW22 ?_; clear f A; intro W22 hb23 rgvW22 A f
    replace B0 := Below.next B0 hb23; replace rb1 := row_next rb1 hb23; replace rb4 := row_next rb4 hb23; replace rb7 := row_next rb7 hb23; replace ow := owns_below ow hb23 (Nat.le_refl _); replace hsl := Nat.le_trans hsl hb23.size
    refine l_apL (⟨⟨lck, lzk, ltk, lpk⟩, pok, pnk, pck⟩ : Lc) f ow (by omega) (by omega) rgvW22 ?_
    clear f A
    rintro _ W24 ⟨g1W24, d1W24, rfl, ow1W24, hb25⟩ A f
    replace B0 := B0.trans (hb25.mono hw1)
    replace hsl := Nat.le_trans hsl hb25.size
    replace rb1 := below_row hb25 rb1 l1_b1
    replace rb4 := below_row hb25 rb4 l1_b4
    replace rb7 := below_row hb25 rb7 l1_b7
    have hm1W24 : ∀ l ∈ lsk ++ [(⟨⟨lck, lzk, ltk, lpk⟩, pok, pnk, pck⟩ : Lc)], l ∈ y.ls ∨ l = (⟨x, po, pn, pc⟩ : Lc) := fun l hl => by
     rcases List.mem_append.1 hl with h | h
     ·exact hmm l h
     rw [List.mem_singleton] at h
     exact .inl (by rw [h]; exact hmk)
    revert A; refine vla (h:=vN (vU (vT (vR (vlm (h:=vlA (h:=vla (h:=vW ?_))))))))
    have hs : ¬ ((⟨lck, lzk, ltk, lpk⟩ : Ls).c = x.c ∧ (⟨lck, lzk, ltk, lpk⟩ : Ls).z = x.z ∧ (⟨lck, lzk, ltk, lpk⟩ : Ls).t = x.t) := fun h => c16 h.2.1
    have hA : ¬ ((lsk.map (·.l), true).2 = false ∧ aheadL x (⟨lck, lzk, ltk, lpk⟩ : Ls)) := fun h => (by cases h.1)
    have hst : setStep x (lsk.map (·.l), true) (⟨lck, lzk, ltk, lpk⟩ : Ls) = ((lsk ++ [(⟨⟨lck, lzk, ltk, lpk⟩, pok, pnk, pck⟩ : Lc)]).map (·.l), true) := by
     unfold setStep
     rw [if_neg hs, if_neg hA]
     simp
    intro A f
    exact ⟨y.ln - (k + 1), by omega, k + 1, (lsk ++ [(⟨⟨lck, lzk, ltk, lpk⟩, pok, pnk, pck⟩ : Lc)]), (some ⟨g1W24, 0, none⟩), (un + 1), d1W24, true, rfl, by omega, f.sub ⟨rfl, rfl, rfl, rfl, rfl, rfl, rfl, rfl, rfl, trivial⟩, B0, rb1, rb4, rb7, ow1W24, hsl, by omega, by rw [setFold_succ x _ k (by omega) hka, hF, hst], hm1W24⟩
   clear f A; intro c15 A f
   revert A; refine vlm (h:=vlO 8 (h:=vlp (h:=vlm (h:=vlO 8 (h:=vlp (h:=vW (vD (h:=vK (vT (vR (vlm (h:=vlf (h:=vl1 (rowq rb1) (h:=vlm (h:=vlx (h:=vld (y_loadN (vs := [_, _, _, _]) rfl rfl (ag rfl) rfl ⟨(St.q c0k B0), (St.q c1k B0), (St.q c2k B0), (St.q c3k B0), trivial⟩) (h:=?_)))))))))))))))))
   obtain ⟨gvW26, hgvW26⟩ : ∃ g, g = W14.heap.size := ⟨_, rfl⟩
   intro A f
   refine l_bs4 f hgvW26 ?_; clear f A; intro W26 hb27 rgvW26 A f
   replace B0 := Below.next B0 hb27; replace rb1 := row_next rb1 hb27; replace rb4 := row_next rb4 hb27; replace rb7 := row_next rb7 hb27; replace ow := owns_below ow hb27 (Nat.le_refl _); replace hsl := Nat.le_trans hsl hb27.size
   refine l_apL (⟨⟨lck, lzk, ltk, lpk⟩, pok, pnk, pck⟩ : Lc) f ow (by omega) (by omega) rgvW26 ?_
   clear f A
   rintro _ W28 ⟨g1W28, d1W28, rfl, ow1W28, hb29⟩ A f
   replace B0 := B0.trans (hb29.mono hw1)
   replace hsl := Nat.le_trans hsl hb29.size
   replace rb1 := below_row hb29 rb1 l1_b1
   replace rb4 := below_row hb29 rb4 l1_b4
   replace rb7 := below_row hb29 rb7 l1_b7
   have hm1W28 : ∀ l ∈ lsk ++ [(⟨⟨lck, lzk, ltk, lpk⟩, pok, pnk, pck⟩ : Lc)], l ∈ y.ls ∨ l = (⟨x, po, pn, pc⟩ : Lc) := fun l hl => by
    rcases List.mem_append.1 hl with h | h
    ·exact hmm l h
    rw [List.mem_singleton] at h
    exact .inl (by rw [h]; exact hmk)
   revert A; refine vla (h:=vN (vU (vT (vR (vlm (h:=vlA (h:=vla (h:=vW ?_))))))))
   have hs : ¬ ((⟨lck, lzk, ltk, lpk⟩ : Ls).c = x.c ∧ (⟨lck, lzk, ltk, lpk⟩ : Ls).z = x.z ∧ (⟨lck, lzk, ltk, lpk⟩ : Ls).t = x.t) := fun h => c15 h.1
   have hA : ¬ ((lsk.map (·.l), true).2 = false ∧ aheadL x (⟨lck, lzk, ltk, lpk⟩ : Ls)) := fun h => (by cases h.1)
   have hst : setStep x (lsk.map (·.l), true) (⟨lck, lzk, ltk, lpk⟩ : Ls) = ((lsk ++ [(⟨⟨lck, lzk, ltk, lpk⟩, pok, pnk, pck⟩ : Lc)]).map (·.l), true) := by
    unfold setStep
    rw [if_neg hs, if_neg hA]
    simp
   intro A f
   exact ⟨y.ln - (k + 1), by omega, k + 1, (lsk ++ [(⟨⟨lck, lzk, ltk, lpk⟩, pok, pnk, pck⟩ : Lc)]), (some ⟨g1W28, 0, none⟩), (un + 1), d1W28, true, rfl, by omega, f.sub ⟨rfl, rfl, rfl, rfl, rfl, rfl, rfl, rfl, rfl, trivial⟩, B0, rb1, rb4, rb7, ow1W28, hsl, by omega, by rw [setFold_succ x _ k (by omega) hka, hF, hst], hm1W28⟩
  clear f A; intro c12 A f
  obtain rfl : d = false := (by simpa using c12)
  revert A; refine vqn (h:=vqm (h:=vq4 (rowq rb7) (h:=vqf (h:=vq1 (rowq rb1) (h:=vqm (h:=vqx (h:=vqd (y_loadN (vs := [_, _, _, _]) rfl rfl (ag rfl) rfl ⟨(St.q c0k B0), (St.q c1k B0), (St.q c2k B0), (St.q c3k B0), trivial⟩) (h:=?_)))))))); intro A f
  refine q_callif _ f rfl rfl rfl (IsCall.mk' (cap := []) rfl rfl rfl) (pl rfl) (c_cl (fun wx => ahead_c x ⟨lck, lzk, ltk, lpk⟩ _ _ wx)) ?_ ?_
  ·clear f A; intro c30 A f
   revert A; refine vqp (h:=vQ ?_); intro W32 hb31; replace B0 := Below.next B0 hb31; replace rb1 := row_next rb1 hb31; replace rb4 := row_next rb4 hb31; replace rb7 := row_next rb7 hb31; replace ow := owns_below ow hb31 (Nat.le_refl _); replace hsl := Nat.le_trans hsl hb31.size
   refine vT (vC (h:=vS (vR (vlm (h:=vl4 (rowq rb7) (h:=?_))))))
   obtain ⟨gvW33, hgvW33⟩ : ∃ g, g = W32.heap.size := ⟨_, rfl⟩
   intro A f
   refine l_bs4 f hgvW33 ?_; clear f A; intro W33 hb34 rgvW33 A f
   replace B0 := Below.next B0 hb34; replace rb1 := row_next rb1 hb34; replace rb4 := row_next rb4 hb34; replace rb7 := row_next rb7 hb34; replace ow := owns_below ow hb34 (Nat.le_refl _); replace hsl := Nat.le_trans hsl hb34.size
   refine l_apL (⟨x, po, pn, pc⟩ : Lc) f ow (by omega) (by omega) rgvW33 ?_
   clear f A
   rintro _ W35 ⟨g1W35, d1W35, rfl, ow1W35, hb36⟩ A f
   replace B0 := B0.trans (hb36.mono hw1)
   replace hsl := Nat.le_trans hsl hb36.size
   replace rb1 := below_row hb36 rb1 l1_b1
   replace rb4 := below_row hb36 rb4 l1_b4
   replace rb7 := below_row hb36 rb7 l1_b7
   have hm1W35 : ∀ l ∈ lsk ++ [(⟨x, po, pn, pc⟩ : Lc)], l ∈ y.ls ∨ l = (⟨x, po, pn, pc⟩ : Lc) := fun l hl => by
    rcases List.mem_append.1 hl with h | h
    ·exact hmm l h
    rw [List.mem_singleton] at h
    exact .inr h
   revert A; refine vla (h:=vW (vR (vla (h:=vW (vS (vS (vR (vlf (h:=vl1 (rowq rb1) (h:=vlm (h:=vlx (h:=vlf (h:=vld (y_load1 rfl rfl (ag rfl) (St.q c0k B0)) (h:=vlm (h:=?_))))))))))))))); intro A f
   refine l_if _ f rfl rfl rfl (y_eql rfl rfl rfl) ?_ ?_
   ·clear f A; intro c37 A f
    revert A; refine vlm (h:=vlf (h:=vl1 (rowq rb1) (h:=vlm (h:=vlx (h:=vlf (h:=vld (y_load1 rfl rfl (ag rfl) (St.q c1k B0)) (h:=vlm (h:=?_)))))))); intro A f
    refine l_if _ f rfl rfl rfl (y_eql rfl rfl rfl) ?_ ?_
    ·clear f A; intro c38 A f
     revert A; refine vlp (h:=vlm (h:=vlf (h:=vl1 (rowq rb1) (h:=vlm (h:=vlx (h:=vlf (h:=vld (y_load1 rfl rfl (ag rfl) (St.q c2k B0)) (h:=vlm (h:=?_))))))))); intro A f
     refine l_if _ f rfl rfl rfl (y_eql rfl rfl rfl) ?_ ?_
     ·clear f A; intro c39 A f
      revert A; refine vlp (h:=vW (vC (h:=vS (vS (vR (vlm (h:=vln (h:=vW (vD (h:=vK (vT (vX (vH (vI (vT (vR (vlm (h:=vlA (h:=vla (h:=vW ?_))))))))))))))))))))
      have hs : (⟨lck, lzk, ltk, lpk⟩ : Ls).c = x.c ∧ (⟨lck, lzk, ltk, lpk⟩ : Ls).z = x.z ∧ (⟨lck, lzk, ltk, lpk⟩ : Ls).t = x.t := ⟨c37, c38, c39⟩
      intro A f
      exfalso
      have h1 := c30
      unfold aheadL at h1
      dsimp only at h1 hs
      omega
     clear f A; intro c39 A f
     revert A; refine vlp (h:=vW (vD (h:=vK (vT (vR (vlm (h:=vlf (h:=vl1 (rowq rb1) (h:=vlm (h:=vlx (h:=vld (y_loadN (vs := [_, _, _, _]) rfl rfl (ag rfl) rfl ⟨(St.q c0k B0), (St.q c1k B0), (St.q c2k B0), (St.q c3k B0), trivial⟩) (h:=?_))))))))))))
     obtain ⟨gvW40, hgvW40⟩ : ∃ g, g = W35.heap.size := ⟨_, rfl⟩
     intro A f
     refine l_bs4 f hgvW40 ?_; clear f A; intro W40 hb41 rgvW40 A f
     replace B0 := Below.next B0 hb41; replace rb1 := row_next rb1 hb41; replace rb4 := row_next rb4 hb41; replace rb7 := row_next rb7 hb41; replace ow1W35 := owns_below ow1W35 hb41 (Nat.le_refl _); replace hsl := Nat.le_trans hsl hb41.size
     refine l_apL (⟨⟨lck, lzk, ltk, lpk⟩, pok, pnk, pck⟩ : Lc) f ow1W35 (by omega) (by omega) rgvW40 ?_
     clear f A
     rintro _ W42 ⟨g2W42, d2W42, rfl, ow2W42, hb43⟩ A f
     replace B0 := B0.trans (hb43.mono hw1)
     replace hsl := Nat.le_trans hsl hb43.size
     replace rb1 := below_row hb43 rb1 l1_b1
     replace rb4 := below_row hb43 rb4 l1_b4
     replace rb7 := below_row hb43 rb7 l1_b7
     have hm2W42 : ∀ l ∈ (lsk ++ [(⟨x, po, pn, pc⟩ : Lc)]) ++ [(⟨⟨lck, lzk, ltk, lpk⟩, pok, pnk, pck⟩ : Lc)], l ∈ y.ls ∨ l = (⟨x, po, pn, pc⟩ : Lc) := fun l hl => by
      rcases List.mem_append.1 hl with h | h
      ·exact hm1W35 l h
      rw [List.mem_singleton] at h
      exact .inl (by rw [h]; exact hmk)
     revert A; refine vla (h:=vN (vU (vT (vR (vlm (h:=vlA (h:=vla (h:=vW ?_))))))))
     have hs : ¬ ((⟨lck, lzk, ltk, lpk⟩ : Ls).c = x.c ∧ (⟨lck, lzk, ltk, lpk⟩ : Ls).z = x.z ∧ (⟨lck, lzk, ltk, lpk⟩ : Ls).t = x.t) := fun h => c39 h.2.2
     have hA : (lsk.map (·.l), false).2 = false ∧ aheadL x (⟨lck, lzk, ltk, lpk⟩ : Ls) := ⟨rfl, c30⟩
     have hst : setStep x (lsk.map (·.l), false) (⟨lck, lzk, ltk, lpk⟩ : Ls) = (((lsk ++ [(⟨x, po, pn, pc⟩ : Lc)]) ++ [(⟨⟨lck, lzk, ltk, lpk⟩, pok, pnk, pck⟩ : Lc)]).map (·.l), true) := by
      unfold setStep
      rw [if_neg hs, if_pos hA]
      simp
     intro A f
     exact ⟨y.ln - (k + 1), by omega, k + 1, ((lsk ++ [(⟨x, po, pn, pc⟩ : Lc)]) ++ [(⟨⟨lck, lzk, ltk, lpk⟩, pok, pnk, pck⟩ : Lc)]), (some ⟨g2W42, 0, none⟩), ((un + 1) + 1), d2W42, true, rfl, by omega, f.sub ⟨rfl, rfl, rfl, rfl, rfl, rfl, rfl, rfl, rfl, trivial⟩, B0, rb1, rb4, rb7, ow2W42, hsl, by omega, by rw [setFold_succ x _ k (by omega) hka, hF, hst], hm2W42⟩
    clear f A; intro c38 A f
    revert A; refine vlp (h:=vlm (h:=vlO 8 (h:=vlp (h:=vW (vD (h:=vK (vT (vR (vlm (h:=vlf (h:=vl1 (rowq rb1) (h:=vlm (h:=vlx (h:=vld (y_loadN (vs := [_, _, _, _]) rfl rfl (ag rfl) rfl ⟨(St.q c0k B0), (St.q c1k B0), (St.q c2k B0), (St.q c3k B0), trivial⟩) (h:=?_)))))))))))))))
    obtain ⟨gvW44, hgvW44⟩ : ∃ g, g = W35.heap.size := ⟨_, rfl⟩
    intro A f
    refine l_bs4 f hgvW44 ?_; clear f A; intro W44 hb45 rgvW44 A f
    replace B0 := Below.next B0 hb45; replace rb1 := row_next rb1 hb45; replace rb4 := row_next rb4 hb45; replace rb7 := row_next rb7 hb45; replace ow1W35 := owns_below ow1W35 hb45 (Nat.le_refl _); replace hsl := Nat.le_trans hsl hb45.size
    refine l_apL (⟨⟨lck, lzk, ltk, lpk⟩, pok, pnk, pck⟩ : Lc) f ow1W35 (by omega) (by omega) rgvW44 ?_
    clear f A
    rintro _ W46 ⟨g2W46, d2W46, rfl, ow2W46, hb47⟩ A f
    replace B0 := B0.trans (hb47.mono hw1)
    replace hsl := Nat.le_trans hsl hb47.size
    replace rb1 := below_row hb47 rb1 l1_b1
    replace rb4 := below_row hb47 rb4 l1_b4
    replace rb7 := below_row hb47 rb7 l1_b7
    have hm2W46 : ∀ l ∈ (lsk ++ [(⟨x, po, pn, pc⟩ : Lc)]) ++ [(⟨⟨lck, lzk, ltk, lpk⟩, pok, pnk, pck⟩ : Lc)], l ∈ y.ls ∨ l = (⟨x, po, pn, pc⟩ : Lc) := fun l hl => by
     rcases List.mem_append.1 hl with h | h
     ·exact hm1W35 l h
     rw [List.mem_singleton] at h
     exact .inl (by rw [h]; exact hmk)
    revert A; refine vla (h:=vN (vU (vT (vR (vlm (h:=vlA (h:=vla (h:=vW ?_))))))))
    have hs : ¬ ((⟨lck, lzk, ltk, lpk⟩ : Ls).c = x.c ∧ (⟨lck, lzk, ltk, lpk⟩ : Ls).z = x.z ∧ (⟨lck, lzk, ltk, lpk⟩ : Ls).t = x.t) := fun h => c38 h.2.1
    have hA : (lsk.map (·.l), false).2 = false ∧ aheadL x (⟨lck, lzk, ltk, lpk⟩ : Ls) := ⟨rfl, c30⟩
    have hst : setStep x (lsk.map (·.l), false) (⟨lck, lzk, ltk, lpk⟩ : Ls) = (((lsk ++ [(⟨x, po, pn, pc⟩ : Lc)]) ++ [(⟨⟨lck, lzk, ltk, lpk⟩, pok, pnk, pck⟩ : Lc)]).map (·.l), true) := by
     unfold setStep
     rw [if_neg hs, if_pos hA]
     simp
    intro A f
    exact ⟨y.ln - (k + 1), by omega, k + 1, ((lsk ++ [(⟨x, po, pn, pc⟩ : Lc)]) ++ [(⟨⟨lck, lzk, ltk, lpk⟩, pok, pnk, pck⟩ : Lc)]), (some ⟨g2W46, 0, none⟩), ((un + 1) + 1), d2W46, true, rfl, by omega, f.sub ⟨rfl, rfl, rfl, rfl, rfl, rfl, rfl, rfl, rfl, trivial⟩, B0, rb1, rb4, rb7, ow2W46, hsl, by omega, by rw [setFold_succ x _ k (by omega) hka, hF, hst], hm2W46⟩
   clear f A; intro c37 A f
   revert A; refine vlm (h:=vlO 8 (h:=vlp (h:=vlm (h:=vlO 8 (h:=vlp (h:=vW (vD (h:=vK (vT (vR (vlm (h:=vlf (h:=vl1 (rowq rb1) (h:=vlm (h:=vlx (h:=vld (y_loadN (vs := [_, _, _, _]) rfl rfl (ag rfl) rfl ⟨(St.q c0k B0), (St.q c1k B0), (St.q c2k B0), (St.q c3k B0), trivial⟩) (h:=?_)))))))))))))))))
   obtain ⟨gvW48, hgvW48⟩ : ∃ g, g = W35.heap.size := ⟨_, rfl⟩
   intro A f
   refine l_bs4 f hgvW48 ?_; clear f A; intro W48 hb49 rgvW48 A f
   replace B0 := Below.next B0 hb49; replace rb1 := row_next rb1 hb49; replace rb4 := row_next rb4 hb49; replace rb7 := row_next rb7 hb49; replace ow1W35 := owns_below ow1W35 hb49 (Nat.le_refl _); replace hsl := Nat.le_trans hsl hb49.size
   refine l_apL (⟨⟨lck, lzk, ltk, lpk⟩, pok, pnk, pck⟩ : Lc) f ow1W35 (by omega) (by omega) rgvW48 ?_
   clear f A
   rintro _ W50 ⟨g2W50, d2W50, rfl, ow2W50, hb51⟩ A f
   replace B0 := B0.trans (hb51.mono hw1)
   replace hsl := Nat.le_trans hsl hb51.size
   replace rb1 := below_row hb51 rb1 l1_b1
   replace rb4 := below_row hb51 rb4 l1_b4
   replace rb7 := below_row hb51 rb7 l1_b7
   have hm2W50 : ∀ l ∈ (lsk ++ [(⟨x, po, pn, pc⟩ : Lc)]) ++ [(⟨⟨lck, lzk, ltk, lpk⟩, pok, pnk, pck⟩ : Lc)], l ∈ y.ls ∨ l = (⟨x, po, pn, pc⟩ : Lc) := fun l hl => by
    rcases List.mem_append.1 hl with h | h
    ·exact hm1W35 l h
    rw [List.mem_singleton] at h
    exact .inl (by rw [h]; exact hmk)
   revert A; refine vla (h:=vN (vU (vT (vR (vlm (h:=vlA (h:=vla (h:=vW ?_))))))))
   have hs : ¬ ((⟨lck, lzk, ltk, lpk⟩ : Ls).c = x.c ∧ (⟨lck, lzk, ltk, lpk⟩ : Ls).z = x.z ∧ (⟨lck, lzk, ltk, lpk⟩ : Ls).t = x.t) := fun h => c37 h.1
   have hA : (lsk.map (·.l), false).2 = false ∧ aheadL x (⟨lck, lzk, ltk, lpk⟩ : Ls) := ⟨rfl, c30⟩
   have hst : setStep x (lsk.map (·.l), false) (⟨lck, lzk, ltk, lpk⟩ : Ls) = (((lsk ++ [(⟨x, po, pn, pc⟩ : Lc)]) ++ [(⟨⟨lck, lzk, ltk, lpk⟩, pok, pnk, pck⟩ : Lc)]).map (·.l), true) := by
    unfold setStep
    rw [if_neg hs, if_pos hA]
    simp
   intro A f
   exact ⟨y.ln - (k + 1), by omega, k + 1, ((lsk ++ [(⟨x, po, pn, pc⟩ : Lc)]) ++ [(⟨⟨lck, lzk, ltk, lpk⟩, pok, pnk, pck⟩ : Lc)]), (some ⟨g2W50, 0, none⟩), ((un + 1) + 1), d2W50, true, rfl, by omega, f.sub ⟨rfl, rfl, rfl, rfl, rfl, rfl, rfl, rfl, rfl, trivial⟩, B0, rb1, rb4, rb7, ow2W50, hsl, by omega, by rw [setFold_succ x _ k (by omega) hka, hF, hst], hm2W50⟩
  clear f A; intro c30 A f
  revert A; refine vqp (h:=vQ ?_); intro W53 hb52; replace B0 := Below.next B0 hb52; replace rb1 := row_next rb1 hb52; replace rb4 := row_next rb4 hb52; replace rb7 := row_next rb7 hb52; replace ow := owns_below ow hb52 (Nat.le_refl _); replace hsl := Nat.le_trans hsl hb52.size
  refine vT (vD (h:=vK (vT (vS (vS (vR (vlf (h:=vl1 (rowq rb1) (h:=vlm (h:=vlx (h:=vlf (h:=vld (y_load1 rfl rfl (ag rfl) (St.q c0k B0)) (h:=vlm (h:=?_)))))))))))))); intro A f
  refine l_if _ f rfl rfl rfl (y_eql rfl rfl rfl) ?_ ?_
  ·clear f A; intro c54 A f
   revert A; refine vlm (h:=vlf (h:=vl1 (rowq rb1) (h:=vlm (h:=vlx (h:=vlf (h:=vld (y_load1 rfl rfl (ag rfl) (St.q c1k B0)) (h:=vlm (h:=?_)))))))); intro A f
   refine l_if _ f rfl rfl rfl (y_eql rfl rfl rfl) ?_ ?_
   ·clear f A; intro c55 A f
    revert A; refine vlp (h:=vlm (h:=vlf (h:=vl1 (rowq rb1) (h:=vlm (h:=vlx (h:=vlf (h:=vld (y_load1 rfl rfl (ag rfl) (St.q c2k B0)) (h:=vlm (h:=?_))))))))); intro A f
    refine l_if _ f rfl rfl rfl (y_eql rfl rfl rfl) ?_ ?_
    ·clear f A; intro c56 A f
     revert A; refine vlp (h:=vW (vC (h:=vS (vS (vR (vlm (h:=vln (h:=vW (vC (h:=vS (vR (vlm (h:=vl4 (rowq rb7) (h:=?_))))))))))))))
     obtain ⟨gvW57, hgvW57⟩ : ∃ g, g = W53.heap.size := ⟨_, rfl⟩
     intro A f
     refine l_bs4 f hgvW57 ?_; clear f A; intro W57 hb58 rgvW57 A f
     replace B0 := Below.next B0 hb58; replace rb1 := row_next rb1 hb58; replace rb4 := row_next rb4 hb58; replace rb7 := row_next rb7 hb58; replace ow := owns_below ow hb58 (Nat.le_refl _); replace hsl := Nat.le_trans hsl hb58.size
     refine l_apL (⟨x, po, pn, pc⟩ : Lc) f ow (by omega) (by omega) rgvW57 ?_
     clear f A
     rintro _ W59 ⟨g1W59, d1W59, rfl, ow1W59, hb60⟩ A f
     replace B0 := B0.trans (hb60.mono hw1)
     replace hsl := Nat.le_trans hsl hb60.size
     replace rb1 := below_row hb60 rb1 l1_b1
     replace rb4 := below_row hb60 rb4 l1_b4
     replace rb7 := below_row hb60 rb7 l1_b7
     have hm1W59 : ∀ l ∈ lsk ++ [(⟨x, po, pn, pc⟩ : Lc)], l ∈ y.ls ∨ l = (⟨x, po, pn, pc⟩ : Lc) := fun l hl => by
      rcases List.mem_append.1 hl with h | h
      ·exact hmm l h
      rw [List.mem_singleton] at h
      exact .inr h
     revert A; refine vla (h:=vW (vR (vla (h:=vW (vX (vH (vI (vT (vR (vlm (h:=vlA (h:=vla (h:=vW ?_)))))))))))))
     have hs : (⟨lck, lzk, ltk, lpk⟩ : Ls).c = x.c ∧ (⟨lck, lzk, ltk, lpk⟩ : Ls).z = x.z ∧ (⟨lck, lzk, ltk, lpk⟩ : Ls).t = x.t := ⟨c54, c55, c56⟩
     have hA : ¬ ((lsk.map (·.l), false).2 = false ∧ aheadL x (⟨lck, lzk, ltk, lpk⟩ : Ls)) := fun h => c30 h.2
     have hst : setStep x (lsk.map (·.l), false) (⟨lck, lzk, ltk, lpk⟩ : Ls) = ((lsk ++ [(⟨x, po, pn, pc⟩ : Lc)]).map (·.l), true) := by
      unfold setStep
      rw [if_pos hs, if_neg hA]
      simp
     intro A f
     exact ⟨y.ln - (k + 1), by omega, k + 1, (lsk ++ [(⟨x, po, pn, pc⟩ : Lc)]), (some ⟨g1W59, 0, none⟩), (un + 1), d1W59, true, rfl, by omega, f.sub ⟨rfl, rfl, rfl, rfl, rfl, rfl, rfl, rfl, rfl, trivial⟩, B0, rb1, rb4, rb7, ow1W59, hsl, by omega, by rw [setFold_succ x _ k (by omega) hka, hF, hst], hm1W59⟩
    clear f A; intro c56 A f
    revert A; refine vlp (h:=vW (vD (h:=vK (vT (vR (vlm (h:=vlf (h:=vl1 (rowq rb1) (h:=vlm (h:=vlx (h:=vld (y_loadN (vs := [_, _, _, _]) rfl rfl (ag rfl) rfl ⟨(St.q c0k B0), (St.q c1k B0), (St.q c2k B0), (St.q c3k B0), trivial⟩) (h:=?_))))))))))))
    obtain ⟨gvW61, hgvW61⟩ : ∃ g, g = W53.heap.size := ⟨_, rfl⟩
    intro A f
    refine l_bs4 f hgvW61 ?_; clear f A; intro W61 hb62 rgvW61 A f
    replace B0 := Below.next B0 hb62; replace rb1 := row_next rb1 hb62; replace rb4 := row_next rb4 hb62; replace rb7 := row_next rb7 hb62; replace ow := owns_below ow hb62 (Nat.le_refl _); replace hsl := Nat.le_trans hsl hb62.size
    refine l_apL (⟨⟨lck, lzk, ltk, lpk⟩, pok, pnk, pck⟩ : Lc) f ow (by omega) (by omega) rgvW61 ?_
    clear f A
    rintro _ W63 ⟨g1W63, d1W63, rfl, ow1W63, hb64⟩ A f
    replace B0 := B0.trans (hb64.mono hw1)
    replace hsl := Nat.le_trans hsl hb64.size
    replace rb1 := below_row hb64 rb1 l1_b1
    replace rb4 := below_row hb64 rb4 l1_b4
    replace rb7 := below_row hb64 rb7 l1_b7
    have hm1W63 : ∀ l ∈ lsk ++ [(⟨⟨lck, lzk, ltk, lpk⟩, pok, pnk, pck⟩ : Lc)], l ∈ y.ls ∨ l = (⟨x, po, pn, pc⟩ : Lc) := fun l hl => by
     rcases List.mem_append.1 hl with h | h
     ·exact hmm l h
     rw [List.mem_singleton] at h
     exact .inl (by rw [h]; exact hmk)
    revert A; refine vla (h:=vN (vU (vT (vR (vlm (h:=vlA (h:=vla (h:=vW ?_))))))))
    have hs : ¬ ((⟨lck, lzk, ltk, lpk⟩ : Ls).c = x.c ∧ (⟨lck, lzk, ltk, lpk⟩ : Ls).z = x.z ∧ (⟨lck, lzk, ltk, lpk⟩ : Ls).t = x.t) := fun h => c56 h.2.2
    have hA : ¬ ((lsk.map (·.l), false).2 = false ∧ aheadL x (⟨lck, lzk, ltk, lpk⟩ : Ls)) := fun h => c30 h.2
    have hst : setStep x (lsk.map (·.l), false) (⟨lck, lzk, ltk, lpk⟩ : Ls) = ((lsk ++ [(⟨⟨lck, lzk, ltk, lpk⟩, pok, pnk, pck⟩ : Lc)]).map (·.l), false) := by
     unfold setStep
     rw [if_neg hs, if_neg hA]
     simp
    intro A f
    exact ⟨y.ln - (k + 1), by omega, k + 1, (lsk ++ [(⟨⟨lck, lzk, ltk, lpk⟩, pok, pnk, pck⟩ : Lc)]), (some ⟨g1W63, 0, none⟩), (un + 1), d1W63, false, rfl, by omega, f.sub ⟨rfl, rfl, rfl, rfl, rfl, rfl, rfl, rfl, rfl, trivial⟩, B0, rb1, rb4, rb7, ow1W63, hsl, by omega, by rw [setFold_succ x _ k (by omega) hka, hF, hst], hm1W63⟩
   clear f A; intro c55 A f
   revert A; refine vlp (h:=vlm (h:=vlO 8 (h:=vlp (h:=vW (vD (h:=vK (vT (vR (vlm (h:=vlf (h:=vl1 (rowq rb1) (h:=vlm (h:=vlx (h:=vld (y_loadN (vs := [_, _, _, _]) rfl rfl (ag rfl) rfl ⟨(St.q c0k B0), (St.q c1k B0), (St.q c2k B0), (St.q c3k B0), trivial⟩) (h:=?_)))))))))))))))
   obtain ⟨gvW65, hgvW65⟩ : ∃ g, g = W53.heap.size := ⟨_, rfl⟩
   intro A f
   refine l_bs4 f hgvW65 ?_; clear f A; intro W65 hb66 rgvW65 A f
   replace B0 := Below.next B0 hb66; replace rb1 := row_next rb1 hb66; replace rb4 := row_next rb4 hb66; replace rb7 := row_next rb7 hb66; replace ow := owns_below ow hb66 (Nat.le_refl _); replace hsl := Nat.le_trans hsl hb66.size
   refine l_apL (⟨⟨lck, lzk, ltk, lpk⟩, pok, pnk, pck⟩ : Lc) f ow (by omega) (by omega) rgvW65 ?_
   clear f A
   rintro _ W67 ⟨g1W67, d1W67, rfl, ow1W67, hb68⟩ A f
   replace B0 := B0.trans (hb68.mono hw1)
   replace hsl := Nat.le_trans hsl hb68.size
   replace rb1 := below_row hb68 rb1 l1_b1
   replace rb4 := below_row hb68 rb4 l1_b4
   replace rb7 := below_row hb68 rb7 l1_b7
   have hm1W67 : ∀ l ∈ lsk ++ [(⟨⟨lck, lzk, ltk, lpk⟩, pok, pnk, pck⟩ : Lc)], l ∈ y.ls ∨ l = (⟨x, po, pn, pc⟩ : Lc) := fun l hl => by
    rcases List.mem_append.1 hl with h | h
    ·exact hmm l h
    rw [List.mem_singleton] at h
    exact .inl (by rw [h]; exact hmk)
   revert A; refine vla (h:=vN (vU (vT (vR (vlm (h:=vlA (h:=vla (h:=vW ?_))))))))
   have hs : ¬ ((⟨lck, lzk, ltk, lpk⟩ : Ls).c = x.c ∧ (⟨lck, lzk, ltk, lpk⟩ : Ls).z = x.z ∧ (⟨lck, lzk, ltk, lpk⟩ : Ls).t = x.t) := fun h => c55 h.2.1
   have hA : ¬ ((lsk.map (·.l), false).2 = false ∧ aheadL x (⟨lck, lzk, ltk, lpk⟩ : Ls)) := fun h => c30 h.2
   have hst : setStep x (lsk.map (·.l), false) (⟨lck, lzk, ltk, lpk⟩ : Ls) = ((lsk ++ [(⟨⟨lck, lzk, ltk, lpk⟩, pok, pnk, pck⟩ : Lc)]).map (·.l), false) := by
    unfold setStep
    rw [if_neg hs, if_neg hA]
    simp
   intro A f
   exact ⟨y.ln - (k + 1), by omega, k + 1, (lsk ++ [(⟨⟨lck, lzk, ltk, lpk⟩, pok, pnk, pck⟩ : Lc)]), (some ⟨g1W67, 0, none⟩), (un + 1), d1W67, false, rfl, by omega, f.sub ⟨rfl, rfl, rfl, rfl, rfl, rfl, rfl, rfl, rfl, trivial⟩, B0, rb1, rb4, rb7, ow1W67, hsl, by omega, by rw [setFold_succ x _ k (by omega) hka, hF, hst], hm1W67⟩
  clear f A; intro c54 A f
  revert A; refine vlm (h:=vlO 8 (h:=vlp (h:=vlm (h:=vlO 8 (h:=vlp (h:=vW (vD (h:=vK (vT (vR (vlm (h:=vlf (h:=vl1 (rowq rb1) (h:=vlm (h:=vlx (h:=vld (y_loadN (vs := [_, _, _, _]) rfl rfl (ag rfl) rfl ⟨(St.q c0k B0), (St.q c1k B0), (St.q c2k B0), (St.q c3k B0), trivial⟩) (h:=?_)))))))))))))))))
  obtain ⟨gvW69, hgvW69⟩ : ∃ g, g = W53.heap.size := ⟨_, rfl⟩
  intro A f
  refine l_bs4 f hgvW69 ?_; clear f A; intro W69 hb70 rgvW69 A f
  replace B0 := Below.next B0 hb70; replace rb1 := row_next rb1 hb70; replace rb4 := row_next rb4 hb70; replace rb7 := row_next rb7 hb70; replace ow := owns_below ow hb70 (Nat.le_refl _); replace hsl := Nat.le_trans hsl hb70.size
  refine l_apL (⟨⟨lck, lzk, ltk, lpk⟩, pok, pnk, pck⟩ : Lc) f ow (by omega) (by omega) rgvW69 ?_
  clear f A
  rintro _ W71 ⟨g1W71, d1W71, rfl, ow1W71, hb72⟩ A f
  replace B0 := B0.trans (hb72.mono hw1)
  replace hsl := Nat.le_trans hsl hb72.size
  replace rb1 := below_row hb72 rb1 l1_b1
  replace rb4 := below_row hb72 rb4 l1_b4
  replace rb7 := below_row hb72 rb7 l1_b7
  have hm1W71 : ∀ l ∈ lsk ++ [(⟨⟨lck, lzk, ltk, lpk⟩, pok, pnk, pck⟩ : Lc)], l ∈ y.ls ∨ l = (⟨x, po, pn, pc⟩ : Lc) := fun l hl => by
   rcases List.mem_append.1 hl with h | h
   ·exact hmm l h
   rw [List.mem_singleton] at h
   exact .inl (by rw [h]; exact hmk)
  revert A; refine vla (h:=vN (vU (vT (vR (vlm (h:=vlA (h:=vla (h:=vW ?_))))))))
  have hs : ¬ ((⟨lck, lzk, ltk, lpk⟩ : Ls).c = x.c ∧ (⟨lck, lzk, ltk, lpk⟩ : Ls).z = x.z ∧ (⟨lck, lzk, ltk, lpk⟩ : Ls).t = x.t) := fun h => c54 h.1
  have hA : ¬ ((lsk.map (·.l), false).2 = false ∧ aheadL x (⟨lck, lzk, ltk, lpk⟩ : Ls)) := fun h => c30 h.2
  have hst : setStep x (lsk.map (·.l), false) (⟨lck, lzk, ltk, lpk⟩ : Ls) = ((lsk ++ [(⟨⟨lck, lzk, ltk, lpk⟩, pok, pnk, pck⟩ : Lc)]).map (·.l), false) := by
   unfold setStep
   rw [if_neg hs, if_neg hA]
   simp
  intro A f
  exact ⟨y.ln - (k + 1), by omega, k + 1, (lsk ++ [(⟨⟨lck, lzk, ltk, lpk⟩, pok, pnk, pck⟩ : Lc)]), (some ⟨g1W71, 0, none⟩), (un + 1), d1W71, false, rfl, by omega, f.sub ⟨rfl, rfl, rfl, rfl, rfl, rfl, rfl, rfl, rfl, trivial⟩, B0, rb1, rb4, rb7, ow1W71, hsl, by omega, by rw [setFold_succ x _ k (by omega) hka, hF, hst], hm1W71⟩
 clear f A; intro c11 A f
 revert A; refine vW (vD (h:=vX (vH (vH (vI (vT (vS (vS (vR ?_))))))))); intro A f
 refine l_if (d = true) f rfl rfl rfl (by rw [Bool.decide_eq_true]; exact y_move rfl rfl) ?_ ?_
 ·clear f A; intro c73 A f
  obtain rfl : d = true := c73
  revert A; refine vln (h:=vW (vD (h:=vK (vT (vS (vR (vlm (h:=vlf (h:=?_))))))))); intro A f
  refine vls f rb1 ?_
  clear rb1; intro W74 hb75 rb1; dsimp only [setL, over, Value.cells] at rb1; replace B0 := Below.thenBut B0 hb75 (by omega); replace rb4 := But.row hb75 rb4 (by omega); replace rb7 := But.row hb75 rb7 (by omega); replace ow := owns_butN ow hb75 (fun a ha => by have := (owns_blk ow a ha).1; omega)
  revert A; refine vW (vS (vR (vl5 (rowq rb1) (h:=?_)))); intro A f
  refine vls f rb4 ?_
  clear rb4; intro W76 hb77 rb4; dsimp only [setL, over, Value.cells] at rb4; replace B0 := Below.thenBut B0 hb77 (by omega); replace rb1 := But.row hb77 rb1 (by omega); replace rb7 := But.row hb77 rb7 (by omega); replace ow := owns_butN ow hb77 (fun a ha => by have := (owns_blk ow a ha).1; omega)
  revert A; refine vW (vE ?_); intro A f
  refine x_retc f rfl rfl (ag rfl) rb4 rfl ?_
  have ek : k = y.ln := by omega
  rw [List.take_of_length_le (by omega)] at hF
  have hfe := setFold_eq (riseP_of hord) x
  rw [show y.ls.map (·.l) = y.hp.lists from rfl, hF] at hfe
  refine ⟨lsk, uo, un, uc, rfl, at_withL (HRest.of (hy.below B0)) ow (by omega) (fun l hl => ?_), ?_, B0, fun a ha => Nat.le_trans hw1 (owns_blk ow a ha).1, hmm⟩
  ·rcases hmm l hl with h | h
   ·exact (hy.lists.at_ l h).below B0
   rw [h]
   exact hN.below B0
  rw [← hfe]
  simp
 clear f A; intro c73 A f
 obtain rfl : d = false := (by simpa using c73)
 revert A; refine vln (h:=vW (vC (h:=vR (vlm (h:=vl4 (rowq rb7) (h:=?_))))))
 obtain ⟨gvW78, hgvW78⟩ : ∃ g, g = W10.heap.size := ⟨_, rfl⟩
 intro A f
 refine l_bs4 f hgvW78 ?_; clear f A; intro W78 hb79 rgvW78 A f
 replace B0 := Below.next B0 hb79; replace rb1 := row_next rb1 hb79; replace rb4 := row_next rb4 hb79; replace rb7 := row_next rb7 hb79; replace ow := owns_below ow hb79 (Nat.le_refl _); replace hsl := Nat.le_trans hsl hb79.size
 refine l_apL (⟨x, po, pn, pc⟩ : Lc) f ow (by omega) (by omega) rgvW78 ?_
 clear f A
 rintro _ W80 ⟨g6W80, d6W80, rfl, ow6W80, hb81⟩ A f
 replace B0 := B0.trans (hb81.mono hw1)
 replace hsl := Nat.le_trans hsl hb81.size
 replace rb1 := below_row hb81 rb1 l1_b1
 replace rb4 := below_row hb81 rb4 l1_b4
 replace rb7 := below_row hb81 rb7 l1_b7
 have hm6W80 : ∀ l ∈ lsk ++ [(⟨x, po, pn, pc⟩ : Lc)], l ∈ y.ls ∨ l = (⟨x, po, pn, pc⟩ : Lc) := fun l hl => by
  rcases List.mem_append.1 hl with h | h
  ·exact hmm l h
  rw [List.mem_singleton] at h
  exact .inr h
 revert A; refine vla (h:=vW (vS (vR (vlm (h:=vlf (h:=?_)))))); intro A f
 refine vls f rb1 ?_
 clear rb1; intro W82 hb83 rb1; dsimp only [setL, over, Value.cells] at rb1; replace B0 := Below.thenBut B0 hb83 (by omega); replace rb4 := But.row hb83 rb4 (by omega); replace rb7 := But.row hb83 rb7 (by omega); replace ow6W80 := owns_butN ow6W80 hb83 (fun a ha => by have := (owns_blk ow6W80 a ha).1; omega)
 revert A; refine vW (vS (vR (vl5 (rowq rb1) (h:=?_)))); intro A f
 refine vls f rb4 ?_
 clear rb4; intro W84 hb85 rb4; dsimp only [setL, over, Value.cells] at rb4; replace B0 := Below.thenBut B0 hb85 (by omega); replace rb1 := But.row hb85 rb1 (by omega); replace rb7 := But.row hb85 rb7 (by omega); replace ow6W80 := owns_butN ow6W80 hb85 (fun a ha => by have := (owns_blk ow6W80 a ha).1; omega)
 revert A; refine vW (vE ?_); intro A f
 refine x_retc f rfl rfl (ag rfl) rb4 rfl ?_
 have ek : k = y.ln := by omega
 rw [List.take_of_length_le (by omega)] at hF
 have hfe := setFold_eq (riseP_of hord) x
 rw [show y.ls.map (·.l) = y.hp.lists from rfl, hF] at hfe
 refine ⟨(lsk ++ [(⟨x, po, pn, pc⟩ : Lc)]), (some ⟨g6W80, 0, none⟩), (un + 1), d6W80, rfl, at_withL (HRest.of (hy.below B0)) ow6W80 (by omega) (fun l hl => ?_), ?_, B0, fun a ha => Nat.le_trans hw1 (owns_blk ow6W80 a ha).1, hm6W80⟩
 ·rcases hm6W80 l hl with h | h
  ·exact (hy.lists.at_ l h).below B0
  rw [h]
  exact hN.below B0
 rw [← hfe]
 simp
theorem blocksCopy_any (w : World) (ao : Option Addr) (n cap : Nat) (l : List Bk) (h : Blks w ao n l) :
    Calls Tryz.prog 9 #[.slice ao n cap] w fun e w' => ∃ bo c, e = .returned (.slice bo n c) ∧
     w'.ownsRow w.heap.size 53 3 (.slice bo n c) n (bvals l) ∧ Below w.heap.size w w' := by
 obtain ⟨i0, hi, hz0, hz1, hz2⟩ := info_parts info_block
 obtain ⟨hn, hr, hx⟩ := h
 go_enter Tryz.func9, Tryz.ntmps9
 go_wp2
 go_loopw [3, 4] (fun v i wr => ∃ k : Nat, k ≤ n ∧ i = .int .i64 k ∧ wr.ownsRow w.heap.size 53 3 v k (bvals (l.take k)) ∧ Below w.heap.size w wr) (fun _ i _ => n - (intOf i).toNat)
 case atStart => exact ⟨0, Nat.zero_le _, rfl, World.ownsRow_nil _ _ _ _, Below.refl _ _⟩
 case round =>
  obtain ⟨k, hk, rfl, hown, hb⟩ := hrel
  have hs := hb.size
  by_cases hlt : k < n
  ·obtain ⟨b, o, x, y, z, rfl, c1, c2, c3, hX⟩ := (hx.below hb).at k (by omega)
   have hml : k + 1 ≤ maxLen := by unfold maxLen; omega
   clear hx
   go_wp2_with (at_builtin; refine wpList_append_own _ rfl (.tmp 11) (.tmp 16) 25 rfl w.heap.size 53 i0 (.agg #[.int .i64 0, .int .i64 0, .int .i64 0]) 3 24 Tryz.underlying25 hi hz0 hz1 hz2 rfl (by decide) _ _ _ rfl (hown.alloc _) ⟨wr.heap.size, 0, none⟩ 1 1 [.int .i64 x, .int .i64 y, .int .i64 z] rfl rfl ?c1 ?c2 hml ?c4 ?c5 ?_)
   case c1 => exact cell_three_new _ _ _ _ _
   case c2 => exact ints_oneCell .i64 [_, _, _]
   case c4 => omega
   case c5 => simp; omega
   intro v' w1 hown' hgrow _
   rw [btake_snoc l k (by omega) hX.out] at hown'
   have hb' : Below w.heap.size w w1 := (hb.alloc hs _).grown hgrow (by simp; omega) (fun g hg => (hown.lt g hg).1)
   clear hown hgrow hb
   go_wp2
   go_roundw
   case rel => exact ⟨k + 1, by omega, by go_num, hown', hb'⟩
   case measure => simp [intOf]; omega
  obtain rfl : k = n := by omega
  obtain ⟨bo, c, rfl⟩ := owns_shape hown
  go_wp2
  go_ret
  exact ⟨bo, c, rfl, by rw [List.take_of_length_le (by omega)] at hown; exact hown, hb⟩
structure CopyS (w W0 wx : World) : Prop where
 b : Below (w.heap.size + 1) W0 wx
 r : Res4 wx (w.heap.size + 1)
 s : W0.heap.size ≤ wx.heap.size
def cont (wx : World) (b i : Nat) : Value := (wx.cell? ⟨b, i, none⟩).getD undef
theorem cont_eq {wx : World} {b i : Nat} (h : ∃ v, wx.cell? ⟨b, i, none⟩ = some v) : wx.cell? ⟨b, i, none⟩ = some (cont wx b i) := by
 obtain ⟨v, e⟩ := h
 unfold cont
 rw [e]; rfl
theorem CopyS.drew {w W0 : World} (h : CopyS w W0 W0) : CopyS w W0 W0.drew := ⟨h.b.drew, h.r.belowB (B := W0.heap.size) (Below.refl _ _).drew (by obtain ⟨v, e⟩ := h.r.d0; have := World.block_lt_of_cell? W0 _ e; exact this), h.s⟩
theorem CopyS.step {w W0 W W' : World} (h : CopyS w W0 W) (hb : Below W.heap.size W W') (hs : w.heap.size + 1 ≤ W.heap.size) : CopyS w W0 W' := ⟨h.b.trans (hb.mono hs), h.r.below hb, Nat.le_trans h.s hb.size⟩
theorem CopyS.store {w W0 W : World} (h : CopyS w W0 W) (x y u v : Value) : CopyS w W0 ((((W.setCell ⟨w.heap.size + 1, 0, none⟩ x).setCell ⟨w.heap.size + 1, 1, none⟩ y).setCell ⟨w.heap.size + 1, 2, none⟩ u).setCell ⟨w.heap.size + 1, 3, none⟩ v) := by
 obtain ⟨⟨v0, e0⟩, ⟨v1, e1⟩, ⟨v2, e2⟩, ⟨v3, e3⟩, z0, z1, z2, z3⟩ := h.r
 have hbt := but4 W (w.heap.size + 1) x y u v
 have hlt := World.block_lt_of_cell? W _ e0
 dsimp only at hlt
 exact ⟨h.b.trans (hbt.below (Nat.le_refl _) (by omega)), (ZBox.set4 ⟨e0, e1, e2, e3, z0, z1, z2, z3⟩ x y u v).res, Nat.le_trans h.s hbt.size⟩
theorem zoneCopy_any (w : World) (fo : Option Addr) (fn fc : Nat) (to_ : Option Addr) (tn tc : Nat) (z : Zn) (h : ZnAt w fo fn to_ tn z) :
    Calls Tryz.prog 10 #[.agg #[.int .i64 z.f, .int .i64 z.t, .slice fo fn fc, .slice to_ tn tc]] w fun e w' => RetZ w.heap.size w' z e ∧ Below w.heap.size w w' := by
 obtain ⟨f, t, free, types⟩ := z
 obtain ⟨hf, ht⟩ := h
 dsimp only at hf ht ⊢
 obtain ⟨W0, hW0⟩ : ∃ W0, (w.alloc (.cells #[.int .i64 f, .int .i64 t, .slice fo fn fc, .slice to_ tn tc] 37)).alloc (.cells #[.int .i64 0, .int .i64 0, .slice none 0 0, .slice none 0 0] 37) = W0 := ⟨_, rfl⟩
 have hb0 : Below w.heap.size w W0 := by rw [← hW0]; exact ((Below.refl _ _).alloc (Nat.le_refl _) _).alloc (by simp) _
 have Z0 : ZBox W0 w.heap.size (.int .i64 f) (.int .i64 t) (.slice fo fn fc) (.slice to_ tn tc) := by rw [← hW0]; exact (zbox_new w _ _ _ _ _).below (below_box _ _)
 have R0 : Res4 W0 (w.heap.size + 1) := by
  rw [← hW0]
  have := zbox_new (w.alloc (.cells #[.int .i64 f, .int .i64 t, .slice fo fn fc, .slice to_ tn tc] 37)) (.int .i64 0) (.int .i64 0) (.slice none 0 0) (.slice none 0 0) 37
  have h2 := this.res
  simpa using h2
 have hs0 : w.heap.size + 2 = W0.heap.size := by rw [← hW0]; simp
 have S0 : CopyS w W0 W0 := ⟨Below.refl _ _, R0, Nat.le_refl _⟩
 have hz := Z0.lt
 have q0 : ∀ wx, CopyS w W0 wx → wx.cell? ⟨w.heap.size, 0, none⟩ = some (.int .i64 f) := fun wx h => (h.b.cell (p := ⟨w.heap.size, 0, none⟩) (show w.heap.size < w.heap.size + 1 by omega)).trans Z0.c0
 have q1 : ∀ wx, CopyS w W0 wx → wx.cell? ⟨w.heap.size, 1, none⟩ = some (.int .i64 t) := fun wx h => (h.b.cell (p := ⟨w.heap.size, 1, none⟩) (show w.heap.size < w.heap.size + 1 by omega)).trans Z0.c1
 have q2 : ∀ wx, CopyS w W0 wx → wx.cell? ⟨w.heap.size, 2, none⟩ = some (.slice fo fn fc) := fun wx h => (h.b.cell (p := ⟨w.heap.size, 2, none⟩) (show w.heap.size < w.heap.size + 1 by omega)).trans Z0.c2
 have q3 : ∀ wx, CopyS w W0 wx → wx.cell? ⟨w.heap.size, 3, none⟩ = some (.slice to_ tn tc) := fun wx h => (h.b.cell (p := ⟨w.heap.size, 3, none⟩) (show w.heap.size < w.heap.size + 1 by omega)).trans Z0.c3
 have d0 : ∀ wx, CopyS w W0 wx → wx.cell? ⟨w.heap.size + 1, 0, none⟩ = some (cont wx (w.heap.size + 1) 0) := fun wx h => cont_eq h.r.d0
 have d1 : ∀ wx, CopyS w W0 wx → wx.cell? ⟨w.heap.size + 1, 1, none⟩ = some (cont wx (w.heap.size + 1) 1) := fun wx h => cont_eq h.r.d1
 have d2 : ∀ wx, CopyS w W0 wx → wx.cell? ⟨w.heap.size + 1, 2, none⟩ = some (cont wx (w.heap.size + 1) 2) := fun wx h => cont_eq h.r.d2
 have d3 : ∀ wx, CopyS w W0 wx → wx.cell? ⟨w.heap.size + 1, 3, none⟩ = some (cont wx (w.heap.size + 1) 3) := fun wx h => cont_eq h.r.d3
 have z0 : ∀ wx, CopyS w W0 wx → wx.frozen? ⟨w.heap.size + 1, 0, none⟩ = false := fun wx h => h.r.z0
 have z1 : ∀ wx, CopyS w W0 wx → wx.frozen? ⟨w.heap.size + 1, 1, none⟩ = false := fun wx h => h.r.z1
 have z2 : ∀ wx, CopyS w W0 wx → wx.frozen? ⟨w.heap.size + 1, 2, none⟩ = false := fun wx h => h.r.z2
 have z3 : ∀ wx, CopyS w W0 wx → wx.frozen? ⟨w.heap.size + 1, 3, none⟩ = false := fun wx h => h.r.z3
 have HB : Hid (∀ W, CopyS w W0 W → Calls Tryz.prog 9 #[.slice fo fn fc] W fun e w' => ∃ bo c, e = .returned (.slice bo fn c) ∧ (Blks w' bo fn free ∧ Fresh W0.heap.size bo ∧ Below W.heap.size W w') ∧ CopyS w W0 w') := fun W hS => by
  have hs := hS.s
  refine (blocksCopy_any W fo fn fc free (hf.below (hb0.trans (hS.b.mono (by omega))))).mono ?_
  rintro e w' ⟨bo, c, rfl, own, hb⟩
  exact ⟨bo, c, rfl, ⟨blks_own own hf.reach, (owns_fresh own).mono hs, hb⟩, hS.step hb (by omega)⟩
 have HW : Hid (∀ W, CopyS w W0 W → Calls Tryz.prog 8 #[.slice to_ tn tc] W fun e w' => ∃ bo c, e = .returned (.slice bo tn c) ∧ (Nums w' bo tn types ∧ Fresh W0.heap.size bo ∧ Below W.heap.size W w') ∧ CopyS w W0 w') := fun W hS => by
  have hs := hS.s
  refine (words_any W to_ tn tc types ht.len ht.reach (ht.below (hb0.trans (hS.b.mono (by omega)))).at_).mono ?_
  rintro e w' ⟨bo, c, rfl, own, hb⟩
  exact ⟨bo, c, rfl, ⟨nums_of_owns own ht.reach, (owns_fresh own).mono hs, hb⟩, hS.step hb (by omega)⟩
 go_enter Tryz.func10, Tryz.ntmps10
 go_wp2_with fail
 clear hf ht hW0 Z0 R0 hz
 go_region_held3 (fun wx => CopyS w W0 wx) (first | assumption | exact CopyS.drew (by assumption) | exact CopyS.store (by assumption) _ _ _ _)
  (first
   | (go_at_call 9; refine (HB.out _ ?_).mono ?_; assumption; rintro e w3 ⟨bo, c, rfl, g1, hS3⟩)
   | (go_at_call 8; refine (HW.out _ ?_).mono ?_; assumption; rintro e w4 ⟨bo2, c2, rfl, g2, hS4⟩))
 obtain ⟨g11, g12, g13⟩ := g1
 obtain ⟨g21, g22, g23⟩ := g2
 have hR4 := hS4.r
 have hB4 := hb0.trans (hS4.b.mono (Nat.le_succ _))
 replace g11 := g11.below g23
 have hs4 := hS4.s
 clear q0 q1 q2 q3 d0 d1 d2 d3 z0 z1 z2 z3 HB HW S0 hS3 hS4
 go_wp2
 obtain ⟨k0, k1, k2, k3⟩ := res4 hR4 (.int .i64 f) (.int .i64 t) (.slice bo fn c) (.slice bo2 tn c2)
 have hbt := but4 w4 (w.heap.size + 1) (.int .i64 f) (.int .i64 t) (.slice bo fn c) (.slice bo2 tn c2)
 refine bodyPost_ret (v := .agg #[.int .i64 f, .int .i64 t, .slice bo fn c, .slice bo2 tn c2]) (by simp [results, Tryz.results10, go_sem, k0, k1, k2, k3]) rfl ⟨⟨bo, fn, c, bo2, tn, c2, rfl, ?_, g12.mono (by omega), g22.mono (by omega)⟩, hB4.trans (hbt.below (by omega) (by omega))⟩
 exact hbt.zn ⟨g11, g21⟩ (fun a ha => by have := g12 a ha; omega) (fun a ha => by have := g22 a ha; omega)
end Go.Proofs.YtbjlbmofdnkmiaaGreatDoor
namespace Go.Proofs.YtbjlbmofdnkmiaaGreatDoor.Kit
def giveK : Nat → Zn → Int → Option Zn
 | 0, z, _ => some z
 | n + 1, z, p => if z.free.any (ovl1 (p + pw 0) p) = true then none else giveK n (backZ z p 0) (p + 1)
def giveOk (z : Zn) (a s : Int) : Prop := z.f ≤ a ∧ a ≤ z.t ∧ 0 ≤ s ∧ s ≤ z.t - a
def hit (a o p : Int) : Nat := if a ≤ p ∧ p < a + pw o then 1 else 0
def cnt : List Bk → Int → Nat
 | [], _ => 0
 | b :: l, p => hit b.a b.o p + cnt l p
theorem cnt_append (l m : List Bk) (p : Int) : cnt (l ++ m) p = cnt l p + cnt m p := by
 induction l with
 | nil => simp [cnt]
 | cons b l ih => simp only [List.cons_append, cnt, ih]; omega
theorem cnt_one (b : Bk) (p : Int) : cnt [b] p = hit b.a b.o p := by simp [cnt]
theorem rise_ne {b : Bk} {l : List Bk} (h : (b :: l).Pairwise Ahead) : ∀ x ∈ l, x.a ≠ b.a := fun x hx => by
 have := ((List.pairwise_cons.1 h).1 x hx).1
 have := pw_pos b.o
 omega
theorem drop_same {l : List Bk} {a o : Int} (h : ∀ x ∈ l, x.a ≠ a) : dropB l a o = l := by
 unfold dropB
 rw [List.filter_eq_self]
 intro b hb
 have : isB a o b = false := decide_eq_false (fun g => h b hb g.1)
 rw [this]; rfl
theorem cnt_drop {l : List Bk} (hl : l.Pairwise Ahead) {a o : Int} (h : hasB l a o = true) (p : Int) : cnt l p = cnt (dropB l a o) p + hit a o p := by
 induction l with
 | nil => simp [hasB] at h
 | cons b l ih =>
  by_cases hb : isB a o b = true
  ·obtain ⟨e1, e2⟩ := of_decide_eq_true hb
   have e : dropB (b :: l) a o = dropB l a o := by unfold dropB; rw [List.filter_cons]; simp [hb]
   rw [e, drop_same (fun x hx => by rw [← e1]; exact rise_ne hl x hx)]
   simp only [cnt, e1, e2]
   omega
  have hb' : isB a o b = false := by simpa using hb
  have e : dropB (b :: l) a o = b :: dropB l a o := by unfold dropB; rw [List.filter_cons]; simp [hb']
  have h' : hasB l a o = true := by simpa [hasB, hb'] using h
  rw [e]
  simp only [cnt, ih (List.pairwise_cons.1 hl).2 h']
  omega
theorem cnt_add (l : List Bk) (b : Bk) (p : Int) : cnt (addB l b) p = cnt l p + hit b.a b.o p := by
 induction l with
 | nil => simp [addB, cnt]
 | cons x l ih =>
  unfold addB
  split
  ·simp only [cnt]; omega
  simp only [cnt, ih]; omega
theorem hit_join {a o : Int} (h0 : 0 ≤ o) (h4 : o < 4) (hm : a % pw o = 0) (p : Int) : (if besideA a o < a then besideA a o else a) % pw (o + 1) = 0 ∧ hit (if besideA a o < a then besideA a o else a) (o + 1) p = hit a o p + hit (besideA a o) o p := by
 obtain ⟨e, h | h⟩ := beside_cases h0 h4 hm
 ·have hp := pw_pos o
  rw [h.2, if_neg (by omega)]
  refine ⟨h.1, ?_⟩
  unfold hit
  rw [e]
  repeat' split
  all_goals omega
 have hp := pw_pos o
 rw [h.2.1, if_pos (by omega)]
 refine ⟨?_, ?_⟩
 ·have h3 := h.2.2
  rw [e] at h3 ⊢
  have := Int.emod_add_mul_ediv a (2 * pw o)
  rw [h3] at this
  have e2 : a - pw o = 2 * pw o * (a / (2 * pw o)) := by omega
  rw [e2]
  exact Int.mul_emod_right _ _
 unfold hit
 rw [e]
 repeat' split
 all_goals omega
theorem drop_ahead {l : List Bk} (h : l.Pairwise Ahead) (a o : Int) : (dropB l a o).Pairwise Ahead := List.Pairwise.filter _ h
theorem cnt_go : ∀ (n : Nat) (l : List Bk) (a o : Int), (4 - o).toNat = n → 0 ≤ o → a % pw o = 0 → l.Pairwise Ahead → ∀ p, cnt (backGo n l a o).1 p + hit (backGo n l a o).2.1 (backGo n l a o).2.2 p = cnt l p + hit a o p := by
 intro n
 induction n with
 | zero => intro l a o _ _ _ _ p; rfl
 | succ n ih =>
  intro l a o hn h0 hm hl p
  unfold backGo
  split
  ·rename_i hb
   obtain ⟨j1, j2⟩ := hit_join h0 (by omega) hm p
   rw [ih _ _ _ (by omega) (by omega) j1 (drop_ahead hl _ _) p, j2, cnt_drop hl hb p]
   omega
  rfl
theorem cnt_back {z : Zn} {a o : Int} (h : z.free.Pairwise Ahead) (h0 : 0 ≤ o) (hm : a % pw o = 0) (p : Int) : cnt (backZ z a o).free p = cnt z.free p + hit a o p := by
 show cnt (addB _ _) p = _
 rw [cnt_add]
 exact cnt_go (4 - o).toNat z.free a o rfl h0 hm h p
theorem cnt_ge {l : List Bk} {i : Nat} (hi : i < l.length) (p : Int) : hit (l.getD i .zero).a (l.getD i .zero).o p ≤ cnt l p := by
 rw [cut_at l hi, cnt_append]
 simp only [cnt]
 have e : (l.take i ++ l.getD i .zero :: l.drop (i + 1)).getD i .zero = l.getD i .zero := by rw [← cut_at l hi]
 rw [e]
 omega
theorem no_ovl {l : List Bk} {a o : Int} (h : ∀ p, cnt l p + hit a o p ≤ 1) : ¬ ovlP l a o := by
 rintro ⟨i, hi, h1, h2⟩
 have hp := pw_pos o
 have hq := pw_pos (l.getD i .zero).o
 by_cases c : a ≤ (l.getD i .zero).a
 ·have k := h (l.getD i .zero).a
  have g := cnt_ge hi (l.getD i .zero).a
  have e1 : hit (l.getD i .zero).a (l.getD i .zero).o (l.getD i .zero).a = 1 := if_pos ⟨by omega, by omega⟩
  have e2 : hit a o (l.getD i .zero).a = 1 := if_pos ⟨c, h1⟩
  omega
 have k := h a
 have g := cnt_ge hi a
 have e1 : hit (l.getD i .zero).a (l.getD i .zero).o a = 1 := if_pos ⟨by omega, h2⟩
 have e2 : hit a o a = 1 := if_pos ⟨by omega, by omega⟩
 omega
structure ZI (z : Zn) (aw : List Bk) : Prop where
 may : ZMay z
 f : z.f = 16
 t : z.t = 112
 all : ∀ b ∈ aw, blkIn 16 112 b.a b.o
 cnt : ∀ p, cnt z.free p + cnt aw p = if 18 ≤ p ∧ p < 108 then 1 else 0
theorem ZI.sum {z : Zn} {aw : List Bk} (h : ZI z aw) (p : Int) : Kit.cnt z.free p + Kit.cnt aw p ≤ 1 := by
 rw [h.cnt p]
 split <;> omega
def firstZ : Option Zn := giveK 90 (newZ 16 112) 18
end Go.Proofs.YtbjlbmofdnkmiaaGreatDoor.Kit
namespace Go.Proofs.YtbjlbmofdnkmiaaGreatDoor
open Go Go.RowKit Go.Proofs.YtbjlbmofdnkmiaaGreatDoor.Kit
def AptZ (ao : Option Addr) (n g : Nat) : Prop := n = 0 ∨ ∀ a, ao = some a → a.block ≠ g
theorem AptZ.fresh {ao : Option Addr} {n g B : Nat} (h : Fresh B ao) (hg : g < B) : AptZ ao n g := .inr fun a ha => by have := h a ha; omega
theorem Blks.apt {w w' : World} {ao : Option Addr} {n g : Nat} {l : List Bk} (h : Blks w ao n l) (hb : But g w w') (ha : AptZ ao n g) : Blks w' ao n l := by
 refine ⟨h.len, h.reach, fun i hi => ?_⟩
 obtain ⟨b, o, e, c1, c2, c3⟩ := h.at_ i hi
 have hne : b ≠ g := by
  rcases ha with q | q
  ·have := h.len; omega
  exact q _ e
 exact ⟨b, o, e, hb.cell c1 hne, hb.cell c2 hne, hb.cell c3 hne⟩
theorem Nums.apt {w w' : World} {ao : Option Addr} {n g : Nat} {l : List Int} (h : Nums w ao n l) (hb : But g w w') (ha : AptZ ao n g) : Nums w' ao n l := by
 refine ⟨h.len, h.reach, fun i hi => ?_⟩
 obtain ⟨b, o, e, c1⟩ := h.at_ i hi
 have hne : b ≠ g := by
  rcases ha with q | q
  ·have := h.len; omega
  exact q _ e
 exact ⟨b, o, e, hb.cell c1 hne⟩
theorem ZnAt.apt {w w' : World} {fo to_ : Option Addr} {fn tn g : Nat} {z : Zn} (h : ZnAt w fo fn to_ tn z) (hb : But g w w') (h1 : AptZ fo fn g) (h2 : AptZ to_ tn g) : ZnAt w' fo fn to_ tn z := ⟨Blks.apt h.free hb h1, Nums.apt h.types hb h2⟩
theorem apt_blks {w : World} {ao : Option Addr} {n g : Nat} {l : List Bk} (h : Blks w ao n l) (hg : w.heap.size ≤ g) : AptZ ao n g := by
 by_cases h0 : n = 0
 ·exact .inl h0
 refine .inr fun a ha => ?_
 obtain ⟨b, o, e, c1, _⟩ := h.at_ 0 (by have := h.len; omega)
 have := World.block_lt_of_cell? w _ c1
 rw [e] at ha
 cases ha
 dsimp only at this ⊢
 omega
theorem apt_nums {w : World} {ao : Option Addr} {n g : Nat} {l : List Int} (h : Nums w ao n l) (hg : w.heap.size ≤ g) : AptZ ao n g := by
 by_cases h0 : n = 0
 ·exact .inl h0
 refine .inr fun a ha => ?_
 obtain ⟨b, o, e, c1⟩ := h.at_ 0 (by have := h.len; omega)
 have := World.block_lt_of_cell? w _ c1
 rw [e] at ha
 cases ha
 dsimp only at this ⊢
 omega
structure KzI (w : World) (zb : Nat) (z : Zn) (aw : List Bk) (fo : Option Addr) (fn fc : Nat) (to_ : Option Addr) (tn tc : Nat) (ao : Option Addr) (m cap : Nat) (W : World) : Prop where
 b : Below w.heap.size w W
 res : Res4 W w.heap.size
 zb1 : w.heap.size < zb
 box : ZBox W zb (.int .i64 z.f) (.int .i64 z.t) (.slice fo fn fc) (.slice to_ tn tc)
 zn : ZnAt W fo fn to_ tn z
 own : W.ownsRow (zb + 1) 53 3 (.slice ao m cap) m (bvals aw)
 a1 : ∀ g, ao = some g → AptZ fo fn g.block ∧ AptZ to_ tn g.block
 a2 : Fresh (w.heap.size + 1) fo
 a3 : Fresh (w.heap.size + 1) to_
theorem KzI.below {w : World} {zb : Nat} {z : Zn} {aw : List Bk} {fo : Option Addr} {fn fc : Nat} {to_ : Option Addr} {tn tc : Nat} {ao : Option Addr} {m cap : Nat} {W W' : World} (h : KzI w zb z aw fo fn fc to_ tn tc ao m cap W) (hb : Below W.heap.size W W') : KzI w zb z aw fo fn fc to_ tn tc ao m cap W' :=
 ⟨h.b.trans (hb.mono h.b.size), h.res.below hb, h.zb1, h.box.below hb, h.zn.below hb, owns_below h.own hb (Nat.le_refl _), h.a1, h.a2, h.a3⟩
theorem row_but {w w' : World} {base : Nat} {ao : Option Addr} {m cap c : Nat} {xs : List Value} {e : TypeId} {k : Nat} (h : w.ownsRow base e k (.slice ao m cap) m xs) (hb : But c w w') (hc : c < base) : w'.ownsRow base e k (.slice ao m cap) m xs := by
 refine ⟨h.1, ?_⟩
 rcases h.2 with hn | ⟨g, cap', cur, e1, hbg, hg, rest⟩
 ·exact .inl hn
 exact .inr ⟨g, cap', cur, e1, hbg, (hb.block g (Array.getElem?_eq_some_iff.1 hg).1 (by omega)).trans hg, rest⟩
theorem KzI.newRow {w : World} {zb : Nat} {z : Zn} {aw aw' : List Bk} {fo : Option Addr} {fn fc : Nat} {to_ : Option Addr} {tn tc : Nat} {g m cap m' cap' : Nat} {W V : World} (h : KzI w zb z aw fo fn fc to_ tn tc (some ⟨g, 0, none⟩) m cap W) (hb : But g W V) (hg : zb < g) (ho : V.ownsRow (zb + 1) 53 3 (.slice (some ⟨g, 0, none⟩) m' cap') m' (bvals aw')) :
    KzI w zb z aw' fo fn fc to_ tn tc (some ⟨g, 0, none⟩) m' cap' V := by
 obtain ⟨p1, p2⟩ := h.a1 _ rfl
 have z1 := h.zb1
 exact ⟨h.b.trans (hb.below (by omega) h.b.size), h.res.but hb (by omega), h.zb1, h.box.but hb (by omega), ZnAt.apt h.zn hb p1 p2, ho, fun g' hg' => by cases hg'; exact ⟨p1, p2⟩, h.a2, h.a3⟩
theorem KzI.grown {w : World} {zb : Nat} {z : Zn} {aw aw' : List Bk} {fo : Option Addr} {fn fc : Nat} {to_ : Option Addr} {tn tc : Nat} {ao : Option Addr} {g' m cap m' cap' : Nat} {W V : World} (h : KzI w zb z aw fo fn fc to_ tn tc ao m cap W) (ho : V.ownsRow (zb + 1) 53 3 (.slice (some ⟨g', 0, none⟩) m' cap') m' (bvals aw')) (hc : (ao = some ⟨g', 0, none⟩ ∧ But g' W V) ∨ (g' = W.heap.size ∧ Below W.heap.size W V)) :
    KzI w zb z aw' fo fn fc to_ tn tc (some ⟨g', 0, none⟩) m' cap' V := by
 rcases hc with ⟨rfl, hb⟩ | ⟨rfl, hb⟩
 ·exact h.newRow hb (owns_fresh ho _ rfl) ho
 have h' := h.below hb
 exact ⟨h'.b, h'.res, h'.zb1, h'.box, h'.zn, ho, fun g hg => by cases hg; exact ⟨apt_blks h.zn.free (Nat.le_refl _), apt_nums h.zn.types (Nat.le_refl _)⟩, h'.a2, h'.a3⟩
end Go.Proofs.YtbjlbmofdnkmiaaGreatDoor
