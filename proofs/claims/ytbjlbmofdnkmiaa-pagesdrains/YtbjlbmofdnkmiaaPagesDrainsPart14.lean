/-
  OWN TEXTS, bundled: RefZn, RefZa, RefW, RefZb, HCp.
-/
import Derived.Test.YtbjlbmofdnkmiaaPagesDrainsPart13
import Derived.Test.YtbjlbmofdnkmiaaPagesDrainsPart4
import Derived.Test.YtbjlbmofdnkmiaaPagesDrainsPart5
import Derived.Deep.RegionHeld3
import Derived.Test.YtbjlbmofdnkmiaaPagesDrainsPart9

/-
  OWN TEXT. Contracts of the document's answer: ZoneNew.
-/
namespace Go.Proofs.Ytbjlbmofdnkmiaa
open Go Go.RowKit Go.Proofs.Ytbjlbmofdnkmiaa.Kit

/-- The empty zone, as cells. -/
theorem newOk_nat {f t : Int} (h : newOk f t) : ∃ F T : Nat, f = F ∧ t = T ∧ F ≤ T ∧ T ≤ 256 ∧ F % 16 = 0 ∧ T % 16 = 0 := by
  obtain ⟨h1, h2, h3, h4, h5⟩ := h
  exact ⟨f.toNat, t.toNat, by omega, by omega, by omega, by omega, by omega, by omega⟩

set_option maxRecDepth 4000 in
set_option maxHeartbeats 2000000 in
theorem zoneNew_nat (w : World) (f t : Nat) (h1 : f ≤ t) (h2 : t ≤ 256) (h3 : f % 16 = 0) (h4 : t % 16 = 0) :
    Calls Try.prog 24 #[.int .i64 f, .int .i64 t] w fun e w' => RetZone w.heap.size w' ⟨f, t, [], List.replicate ((t - f) / 8) 1⟩ e ∧ Below w.heap.size w w' := by
  have e1 : inB f 0 256 = true := inB_t (by omega)
  have e2 : inB t f 256 = true := inB_t (by omega)
  have m1 : (f : Int) % 16 = 0 := by omega
  have m2 : (t : Int) % 16 = 0 := by omega
  obtain ⟨i0, hi, hz0, hz1, hz2⟩ := info_parts info_int
  have hb2 : Below w.heap.size w ((w.alloc (.cells #[.int .i64 0, .int .i64 0, .slice none 0 0, .slice none 0 0] 44)).alloc (.cells #[.int .i64 f, .int .i64 t, .slice none 0 0, .slice none 0 0] 44)) := ((Below.refl _ _).alloc (Nat.le_refl _) _).alloc (by simp) _
  have R0 : Res4 ((w.alloc (.cells #[.int .i64 0, .int .i64 0, .slice none 0 0, .slice none 0 0] 44)).alloc (.cells #[.int .i64 f, .int .i64 t, .slice none 0 0, .slice none 0 0] 44)) w.heap.size := (zbox_new w _ _ _ _ _).res.below (below_box _ _)
  have Z0 : ZBox ((w.alloc (.cells #[.int .i64 0, .int .i64 0, .slice none 0 0, .slice none 0 0] 44)).alloc (.cells #[.int .i64 f, .int .i64 t, .slice none 0 0, .slice none 0 0] 44)) (w.heap.size + 1) (.int .i64 f) (.int .i64 t) (.slice none 0 0) (.slice none 0 0) := by
    have := zbox_new (w.alloc (.cells #[.int .i64 0, .int .i64 0, .slice none 0 0, .slice none 0 0] 44)) (.int .i64 f) (.int .i64 t) (.slice none 0 0) (.slice none 0 0) 44
    simpa using this
  obtain ⟨N, hN⟩ : ∃ N, N = (t - f) / 8 := ⟨_, rfl⟩
  have hN8 : f + 8 * N = t := by omega
  rw [← hN]
  have hs0 : w.heap.size + 2 ≤ ((w.alloc (.cells #[.int .i64 0, .int .i64 0, .slice none 0 0, .slice none 0 0] 44)).alloc (.cells #[.int .i64 f, .int .i64 t, .slice none 0 0, .slice none 0 0] 44)).heap.size := by simp
  clear hN
  obtain ⟨W0, hW0⟩ : ∃ W0, (w.alloc (.cells #[.int .i64 0, .int .i64 0, .slice none 0 0, .slice none 0 0] 44)).alloc (.cells #[.int .i64 f, .int .i64 t, .slice none 0 0, .slice none 0 0] 44) = W0 := ⟨_, rfl⟩
  rw [hW0] at hb2 R0 Z0 hs0
  have HW0 : Hid _ := hW0
  clear hW0
  go_enter Try.func24, Try.ntmps24
  go_wp2_with (go_at_call 25; refine (in_any _ _ _ _).mono ?_; rintro e w' ⟨rfl, rfl⟩)
  rw [HW0.out]
  clear e1 e2 m1 m2 HW0
  go_loopw [7] (fun pv wr => ∃ (k p c : Nat) (bo : Option Addr), p = f + 8 * k ∧ k ≤ N ∧ pv = .int .i64 p ∧ ZBox wr (w.heap.size + 1) (.int .i64 f) (.int .i64 t) (.slice none 0 0) (.slice bo k c) ∧ wr.ownsRow (w.heap.size + 2) 3 1 (.slice bo k c) k (vals (List.replicate k 1)) ∧ Res4 wr w.heap.size ∧ Below w.heap.size w wr ∧ w.heap.size + 2 ≤ wr.heap.size) (fun pv _ => f + 8 * N - (intOf pv).toNat)
  case atStart => exact ⟨0, f, 0, none, by omega, Nat.zero_le _, rfl, Z0, World.ownsRow_nil _ _ _ _, R0, hb2, hs0⟩
  case round =>
    obtain ⟨k, p, c, bo, hp, hk, rfl, Z, hown, R, hb, hs⟩ := hrel
    clear Z0 R0 hb2 hs0
    by_cases hlt : k < N
    · have hpt : (p : Int) < t := by omega
      have hml : k + 1 ≤ maxLen := by unfold maxLen; omega
      have hsz : (k + 1) * 8 ≤ 140737488355328 := by omega
      have c3 := Z.c3
      go_wp2_with (at_builtin; refine wpList_append_own _ rfl (.tmp 38) (.tmp 39) 24 rfl (w.heap.size + 2) 3 i0 (.int .i64 0) 1 8 Try.underlying24 hi hz0 hz1 hz2 rfl (by decide) _ _ _ rfl (hown.alloc _) ⟨wr.heap.size, 0, none⟩ 1 1 [.int .i64 1] rfl rfl ?c1 ?c2 hml hsz ?c5 ?_)
      case c1 => exact cell_one_new' _ _ _
      case c2 => exact ints_oneCell .i64 [_]
      case c5 => simp; omega
      intro v' w3 hown' hgrow _
      have hb3 : Below (w.heap.size + 2) wr w3 := ((Below.refl _ _).alloc hs _).grown hgrow (by simp; omega) (fun g hg => (hown.lt g hg).1)
      have e9 : vals (List.replicate k 1) ++ [Value.int .i64 1] = vals (List.replicate (k + 1) 1) := by rw [List.replicate_succ', vals_append]; rfl
      rw [e9] at hown'
      obtain ⟨bo', c', rfl⟩ := owns_shape hown'
      have Z3 := Z.belowB hb3 (by omega)
      have R3 := R.belowB hb3 (by omega)
      have hB3 := hb.trans (hb3.mono (by omega))
      have hs3 := Nat.le_trans hs hb3.size
      have Z4 := Z3.set3 (.slice bo' (k + 1) c')
      have own4 := ownsRow_setCell_below hown' (a := ⟨w.heap.size + 1, 3, none⟩) (show w.heap.size + 1 < w.heap.size + 2 by omega) (.slice bo' (k + 1) c')
      have hbt : But (w.heap.size + 1) w3 (w3.setCell ⟨w.heap.size + 1, 3, none⟩ (.slice bo' (k + 1) c')) := (But.refl _ _).setCell _
      have R4 := R3.but hbt (by omega)
      have hB4 := hB3.trans (hbt.below (B := w.heap.size) (by omega) (by omega))
      have hs4 := Nat.le_trans hs3 hbt.size
      have c3' := Z3.c3
      have z3' := Z3.z3
      clear Z R hown hb hs hgrow hb3 Z3 R3 hB3 hs3 hown' hbt e9 c3
      go_wp2
      go_roundw
      case rel => exact ⟨k + 1, f + 8 * (k + 1), c', bo', rfl, by omega, by go_num, Z4, own4, R4, hB4, hs4⟩
      case measure => simp [intOf]; omega
    · have hpt : ¬ (p : Int) < t := by omega
      obtain rfl : k = N := by omega
      have c0 := Z.c0
      have c1 := Z.c1
      have c2 := Z.c2
      have c3 := Z.c3
      obtain ⟨⟨x0, d0⟩, ⟨x1, d1⟩, ⟨x2, d2⟩, ⟨x3, d3⟩, z0, z1, z2, z3⟩ := id R
      go_wp2
      obtain ⟨k0, k1, k2, k3⟩ := res4 R (.int .i64 f) (.int .i64 t) (.slice none 0 0) (.slice bo k c)
      have hbt := but4 wr w.heap.size (.int .i64 f) (.int .i64 t) (.slice none 0 0) (.slice bo k c)
      refine bodyPost_ret (v := .tuple #[.agg #[.int .i64 f, .int .i64 t, .slice none 0 0, .slice bo k c], .int .i64 0]) (by simp [results, Try.results24, go_sem, k0, k1, k2, k3]) rfl ⟨⟨none, 0, 0, bo, k, c, rfl, ⟨Blks.nil _, hbt.nums (nums_of_owns hown (by omega)) (fun a ha => by have := owns_fresh hown a ha; omega)⟩, fresh_none _, (owns_fresh hown).mono (by omega)⟩, hb.trans (hbt.below (Nat.le_refl _) hb.size)⟩

theorem zoneNew_ok (w : World) (f t : Int) (h : newOk f t) :
    Calls Try.prog 24 #[.int .i64 f, .int .i64 t] w fun e w' => RetZone w.heap.size w' (newZ f t) e ∧ Below w.heap.size w w' := by
  obtain ⟨F, T, rfl, rfl, h1, h2, h3, h4⟩ := newOk_nat h
  have e : newZ (F : Int) T = ⟨F, T, [], List.replicate ((T - F) / 8) 1⟩ := by
    unfold newZ newTypes
    have : (((T : Int) - F) / 8).toNat = (T - F) / 8 := by omega
    rw [this]
  rw [e]
  exact zoneNew_nat w F T h1 h2 h3 h4

set_option maxRecDepth 4000 in
set_option maxHeartbeats 2000000 in
theorem zoneNew_no (w : World) (f t : Int) (h : ¬ newOk f t) :
    Calls Try.prog 24 #[.int .i64 f, .int .i64 t] w fun e w' => RetNone 1 e ∧ Below w.heap.size w w' := by
  have hb1 := below_box w (.cells #[.int .i64 0, .int .i64 0, .slice none 0 0, .slice none 0 0] 44)
  by_cases h1 : 0 ≤ f ∧ f ≤ 256
  · by_cases h2 : f ≤ t ∧ t ≤ 256
    · obtain ⟨F, rfl⟩ : ∃ F : Nat, f = F := ⟨f.toNat, by omega⟩
      obtain ⟨T, rfl⟩ : ∃ T : Nat, t = T := ⟨t.toNat, by omega⟩
      have e1 : inB (F : Int) 0 256 = true := inB_t h1
      have e2 : inB (T : Int) F 256 = true := inB_t h2
      by_cases h3 : (F : Int) % 16 = 0
      · have h4 : ¬ (T : Int) % 16 = 0 := fun g => h ⟨by omega, by omega, by omega, h3, g⟩
        clear h h1 h2
        go_enter Try.func24, Try.ntmps24
        go_wp2_with (go_at_call 25; refine (in_any _ _ _ _).mono ?_; rintro e w' ⟨rfl, rfl⟩)
        exact bodyPost_ret (v := .tuple #[.agg #[.int .i64 0, .int .i64 0, .slice none 0 0, .slice none 0 0], .int .i64 1]) (by simp [results, Try.results24, go_sem]) rfl ⟨rfl, hb1⟩
      · clear h h1 h2
        go_enter Try.func24, Try.ntmps24
        go_wp2_with (go_at_call 25; refine (in_any _ _ _ _).mono ?_; rintro e w' ⟨rfl, rfl⟩)
        exact bodyPost_ret (v := .tuple #[.agg #[.int .i64 0, .int .i64 0, .slice none 0 0, .slice none 0 0], .int .i64 1]) (by simp [results, Try.results24, go_sem]) rfl ⟨rfl, hb1⟩
    · have e1 : inB f 0 256 = true := inB_t h1
      have e2 : inB t f 256 = false := inB_f h2
      clear h h1 h2
      go_enter Try.func24, Try.ntmps24
      go_wp2_with (go_at_call 25; refine (in_any _ _ _ _).mono ?_; rintro e w' ⟨rfl, rfl⟩)
      exact bodyPost_ret (v := .tuple #[.agg #[.int .i64 0, .int .i64 0, .slice none 0 0, .slice none 0 0], .int .i64 1]) (by simp [results, Try.results24, go_sem]) rfl ⟨rfl, hb1⟩
  · have e1 : inB f 0 256 = false := inB_f h1
    clear h h1
    go_enter Try.func24, Try.ntmps24
    go_wp2_with (go_at_call 25; refine (in_any _ _ _ _).mono ?_; rintro e w' ⟨rfl, rfl⟩)
    exact bodyPost_ret (v := .tuple #[.agg #[.int .i64 0, .int .i64 0, .slice none 0 0, .slice none 0 0], .int .i64 1]) (by simp [results, Try.results24, go_sem]) rfl ⟨rfl, hb1⟩

end Go.Proofs.Ytbjlbmofdnkmiaa

/-
  OWN TEXT. Contract of the document's answer: blockMay.
-/
namespace Go.Proofs.Ytbjlbmofdnkmiaa
open Go Go.RowKit Go.Proofs.Ytbjlbmofdnkmiaa.Kit

set_option maxHeartbeats 2000000 in
theorem blockMay_any (w : World) (f t : Int) (fo to_ : Option Addr) (fn fc tn tc : Nat) (a o : Int) (h : newOk f t) :
    Calls Try.prog 61 #[.agg #[.int .i64 f, .int .i64 t, .slice fo fn fc, .slice to_ tn tc], .int .i64 a, .int .i64 o] w fun e w' => e = .returned (.bool (blkB f t a o)) ∧ Below w.heap.size w w' := by
  obtain ⟨h1, h2, h3, h4, h5⟩ := h
  have hb1 := below_box w (.cells #[.int .i64 f, .int .i64 t, .slice fo fn fc, .slice to_ tn tc] 44)
  by_cases p1 : 0 ≤ o ∧ o ≤ 4
  · have e1 : inB o 0 4 = true := inB_t p1
    by_cases p2 : f ≤ a ∧ a ≤ t - 1
    · have e2 : inB a f (t - 1) = true := inB_t p2
      obtain ⟨A, rfl⟩ : ∃ A : Nat, a = A := ⟨a.toNat, by omega⟩
      obtain ⟨P, hP, hP0⟩ : ∃ P : Nat, pw o = P ∧ 0 < P := ⟨(pw o).toNat, by have := pw_pos o; omega, by have := pw_pos o; omega⟩
      have hP1 : ((P : Int) == 0) = false := by simp; omega
      have HR : Hid (blkB f t (A : Int) o = decide ((A : Int) % P = 0)) := by show _ = _; unfold blkB; rw [e1, e2, hP]; rfl
      have hp16 : P ≤ 16 := by have := pw_le (show ordOk o from p1); omega
      have HP : Hid (pw o = P) := hP
      clear hP
      go_enter Try.func61, Try.ntmps61
      go_wp2_with (go_at_call 25; refine (in_any _ _ _ _).mono ?_; rintro e w' ⟨rfl, rfl⟩)
      go_at_call 39
      refine (power_any _ o p1.1 (by omega)).mono ?_
      rintro e w' ⟨rfl, rfl⟩
      rw [HP.out]
      by_cases d : (A : Int) % (P : Int) = 0
      · have HR2 : Hid (blkB f t (A : Int) o = true) := by show _ = _; rw [HR.out]; exact decide_eq_true d
        clear HR HP
        go_wp2
        go_ret
        exact ⟨ret_bool HR2.out.symm, hb1⟩
      · have HR2 : Hid (blkB f t (A : Int) o = false) := by show _ = _; rw [HR.out]; exact decide_eq_false d
        clear HR HP
        go_wp2
        go_ret
        exact ⟨ret_bool (by rw [HR2.out]; simpa using d), hb1⟩
    · have e2 : inB a f (t - 1) = false := inB_f p2
      have HR : Hid (blkB f t a o = false) := by show _ = _; unfold blkB; rw [e1, e2]; rfl
      go_enter Try.func61, Try.ntmps61
      go_wp2_with (go_at_call 25; refine (in_any _ _ _ _).mono ?_; rintro e w' ⟨rfl, rfl⟩)
      go_ret
      exact ⟨ret_bool HR.out.symm, hb1⟩
  · have e1 : inB o 0 4 = false := inB_f p1
    have HR : Hid (blkB f t a o = false) := by show _ = _; unfold blkB; rw [e1]; rfl
    go_enter Try.func61, Try.ntmps61
    go_wp2_with (go_at_call 25; refine (in_any _ _ _ _).mono ?_; rintro e w' ⟨rfl, rfl⟩)
    go_ret
    exact ⟨ret_bool HR.out.symm, hb1⟩

end Go.Proofs.Ytbjlbmofdnkmiaa

/-
  OWN TEXT. Contract of the document's answer: words.
-/
namespace Go.Proofs.Ytbjlbmofdnkmiaa
open Go Go.RowKit Go.Proofs.Ytbjlbmofdnkmiaa.Kit

set_option maxHeartbeats 400000 in
theorem words_any (w : World) (ao : Option Addr) (n cap : Nat) (xs : List Int) (hn : xs.length = n) (hr : n * 8 ≤ 140737488351232) (hx : IntsAt w ao xs) :
    Calls Try.prog 42 #[.slice ao n cap] w fun e w' => ∃ bo c, e = .returned (.slice bo n c) ∧
      w'.ownsRow w.heap.size 3 1 (.slice bo n c) n (vals xs) ∧ Below w.heap.size w w' := by
  obtain ⟨i0, hi, hz0, hz1, hz2⟩ := info_parts info_int
  go_enter Try.func42, Try.ntmps42
  go_wp2
  go_loopw [3, 4] (fun v i wr => ∃ k : Nat, k ≤ n ∧ i = .int .i64 k ∧ wr.ownsRow w.heap.size 3 1 v k (vals (xs.take k)) ∧ Below w.heap.size w wr) (fun _ i _ => n - (intOf i).toNat)
  case atStart => exact ⟨0, Nat.zero_le _, rfl, World.ownsRow_nil _ _ _ _, Below.refl _ _⟩
  case round =>
    obtain ⟨k, hk, rfl, hown, hb⟩ := hrel
    by_cases hlt : k < n
    · obtain ⟨b, o, x, rfl, c, hX⟩ := (hx.below hb).at k (by omega)
      have hs := hb.size
      have hml : k + 1 ≤ maxLen := by unfold maxLen; omega
      clear hx
      go_wp2_with (at_builtin; refine wpList_append_own _ rfl (.tmp 11) (.tmp 16) 24 rfl w.heap.size 3 i0 (.int .i64 0) 1 8 Try.underlying24 hi hz0 hz1 hz2 rfl (by decide) _ _ _ rfl (hown.alloc _) ⟨wr.heap.size, 0, none⟩ 1 1 [.int .i64 x] rfl rfl ?c1 ?c2 hml ?c4 ?c5 ?_)
      case c1 => exact cell_one_new' _ _ _
      case c2 => exact ints_oneCell .i64 [_]
      case c4 => omega
      case c5 => simp; omega
      intro v' w1 hown' hgrow _
      rw [take_snoc xs k (by omega) hX.out] at hown'
      have hb' : Below w.heap.size w w1 := (hb.alloc hs _).grown hgrow (by simp; omega) (fun g hg => (hown.lt g hg).1)
      clear hown hgrow hb
      go_wp2
      go_roundw
      case rel => exact ⟨k + 1, by omega, by go_num, hown', hb'⟩
      case measure => simp [intOf]; omega
    · obtain rfl : k = n := by omega
      obtain ⟨bo, c, rfl⟩ := owns_shape hown
      go_wp2
      go_ret
      exact ⟨bo, c, rfl, by rw [List.take_of_length_le (by omega)] at hown; exact hown, hb⟩

end Go.Proofs.Ytbjlbmofdnkmiaa

/-
  OWN TEXT. Contracts of the document's answer: blocks, ZoneCopy.
-/
namespace Go.Proofs.Ytbjlbmofdnkmiaa
open Go Go.RowKit Go.Proofs.Ytbjlbmofdnkmiaa.Kit

set_option maxHeartbeats 1000000 in
theorem blocksCopy_any (w : World) (ao : Option Addr) (n cap : Nat) (l : List Bk) (h : Blks w ao n l) :
    Calls Try.prog 43 #[.slice ao n cap] w fun e w' => ∃ bo c, e = .returned (.slice bo n c) ∧
      w'.ownsRow w.heap.size 63 3 (.slice bo n c) n (bvals l) ∧ Below w.heap.size w w' := by
  obtain ⟨i0, hi, hz0, hz1, hz2⟩ := info_parts info_block
  obtain ⟨hn, hr, hx⟩ := h
  go_enter Try.func43, Try.ntmps43
  go_wp2
  go_loopw [3, 4] (fun v i wr => ∃ k : Nat, k ≤ n ∧ i = .int .i64 k ∧ wr.ownsRow w.heap.size 63 3 v k (bvals (l.take k)) ∧ Below w.heap.size w wr) (fun _ i _ => n - (intOf i).toNat)
  case atStart => exact ⟨0, Nat.zero_le _, rfl, World.ownsRow_nil _ _ _ _, Below.refl _ _⟩
  case round =>
    obtain ⟨k, hk, rfl, hown, hb⟩ := hrel
    have hs := hb.size
    by_cases hlt : k < n
    · obtain ⟨b, o, x, y, z, rfl, c1, c2, c3, hX⟩ := (hx.below hb).at k (by omega)
      have hml : k + 1 ≤ maxLen := by unfold maxLen; omega
      clear hx
      go_wp2_with (at_builtin; refine wpList_append_own _ rfl (.tmp 11) (.tmp 16) 26 rfl w.heap.size 63 i0 (.agg #[.int .i64 0, .int .i64 0, .int .i64 0]) 3 24 Try.underlying26 hi hz0 hz1 hz2 rfl (by decide) _ _ _ rfl (hown.alloc _) ⟨wr.heap.size, 0, none⟩ 1 1 [.int .i64 x, .int .i64 y, .int .i64 z] rfl rfl ?c1 ?c2 hml ?c4 ?c5 ?_)
      case c1 => exact cell_three_new _ _ _ _ _
      case c2 => exact ints_oneCell .i64 [_, _, _]
      case c4 => omega
      case c5 => simp; omega
      intro v' w1 hown' hgrow _
      rw [btake_snoc l k (by omega) hX.out] at hown'
      have hb' : Below w.heap.size w w1 := (hb.alloc hs _).grown hgrow (by simp; omega) (fun g hg => (hown.lt g hg).1)
      clear hown hgrow hb
      go_wp2
      go_roundw
      case rel => exact ⟨k + 1, by omega, by go_num, hown', hb'⟩
      case measure => simp [intOf]; omega
    · obtain rfl : k = n := by omega
      obtain ⟨bo, c, rfl⟩ := owns_shape hown
      go_wp2
      go_ret
      exact ⟨bo, c, rfl, by rw [List.take_of_length_le (by omega)] at hown; exact hown, hb⟩

/-- What is held while a zone is copied: the argument's block and what lies below it; the result's block may be written. -/
structure CopyS (w W0 wx : World) : Prop where
  b : Below (w.heap.size + 1) W0 wx
  r : Res4 wx (w.heap.size + 1)
  s : W0.heap.size ≤ wx.heap.size

/-- What lies in a cell. -/
def cont (wx : World) (b i : Nat) : Value := (wx.cell? ⟨b, i, none⟩).getD undef
theorem cont_eq {wx : World} {b i : Nat} (h : ∃ v, wx.cell? ⟨b, i, none⟩ = some v) : wx.cell? ⟨b, i, none⟩ = some (cont wx b i) := by
  obtain ⟨v, e⟩ := h
  unfold cont
  rw [e]; rfl

theorem CopyS.drew {w W0 : World} (h : CopyS w W0 W0) : CopyS w W0 W0.drew := ⟨h.b.drew, h.r.belowB (B := W0.heap.size) (Below.refl _ _).drew (by obtain ⟨v, e⟩ := h.r.d0; have := World.block_lt_of_cell? W0 _ e; exact this), h.s⟩
theorem CopyS.step {w W0 W W' : World} (h : CopyS w W0 W) (hb : Below W.heap.size W W') (hs : w.heap.size + 1 ≤ W.heap.size) : CopyS w W0 W' := ⟨h.b.trans (hb.mono hs), h.r.below hb, Nat.le_trans h.s hb.size⟩
theorem CopyS.store {w W0 W : World} (h : CopyS w W0 W) (x y u v : Value) : CopyS w W0 ((((W.setCell ⟨w.heap.size + 1, 0, none⟩ x).setCell ⟨w.heap.size + 1, 1, none⟩ y).setCell ⟨w.heap.size + 1, 2, none⟩ u).setCell ⟨w.heap.size + 1, 3, none⟩ v) := by
  obtain ⟨⟨v0, e0⟩, ⟨v1, e1⟩, ⟨v2, e2⟩, ⟨v3, e3⟩, z0, z1, z2, z3⟩ := h.r
  have hbt := but4 W (w.heap.size + 1) x y u v
  have hlt := World.block_lt_of_cell? W _ e0
  dsimp only at hlt
  exact ⟨h.b.trans (hbt.below (Nat.le_refl _) (by omega)), (ZBox.set4 ⟨e0, e1, e2, e3, z0, z1, z2, z3⟩ x y u v).res, Nat.le_trans h.s hbt.size⟩

set_option maxHeartbeats 2000000 in
theorem zoneCopy_any (w : World) (fo : Option Addr) (fn fc : Nat) (to_ : Option Addr) (tn tc : Nat) (z : Zn) (h : ZnAt w fo fn to_ tn z) :
    Calls Try.prog 44 #[.agg #[.int .i64 z.f, .int .i64 z.t, .slice fo fn fc, .slice to_ tn tc]] w fun e w' => RetZ w.heap.size w' z e ∧ Below w.heap.size w w' := by
  obtain ⟨f, t, free, types⟩ := z
  obtain ⟨hf, ht⟩ := h
  dsimp only at hf ht ⊢
  obtain ⟨W0, hW0⟩ : ∃ W0, (w.alloc (.cells #[.int .i64 f, .int .i64 t, .slice fo fn fc, .slice to_ tn tc] 44)).alloc (.cells #[.int .i64 0, .int .i64 0, .slice none 0 0, .slice none 0 0] 44) = W0 := ⟨_, rfl⟩
  have hb0 : Below w.heap.size w W0 := by rw [← hW0]; exact ((Below.refl _ _).alloc (Nat.le_refl _) _).alloc (by simp) _
  have Z0 : ZBox W0 w.heap.size (.int .i64 f) (.int .i64 t) (.slice fo fn fc) (.slice to_ tn tc) := by rw [← hW0]; exact (zbox_new w _ _ _ _ _).below (below_box _ _)
  have R0 : Res4 W0 (w.heap.size + 1) := by
    rw [← hW0]
    have := zbox_new (w.alloc (.cells #[.int .i64 f, .int .i64 t, .slice fo fn fc, .slice to_ tn tc] 44)) (.int .i64 0) (.int .i64 0) (.slice none 0 0) (.slice none 0 0) 44
    have h2 := this.res
    simpa using h2
  have hs0 : w.heap.size + 2 = W0.heap.size := by rw [← hW0]; simp
  have S0 : CopyS w W0 W0 := ⟨Below.refl _ _, R0, Nat.le_refl _⟩
  have hz := Z0.lt
  have q0 : ∀ wx, CopyS w W0 wx → wx.cell? ⟨w.heap.size, 0, none⟩ = some (.int .i64 f) := fun wx h => (h.b.cell (p := ⟨w.heap.size, 0, none⟩) (show w.heap.size < w.heap.size + 1 by omega)).trans Z0.c0
  have q1 : ∀ wx, CopyS w W0 wx → wx.cell? ⟨w.heap.size, 1, none⟩ = some (.int .i64 t) := fun wx h => (h.b.cell (p := ⟨w.heap.size, 1, none⟩) (show w.heap.size < w.heap.size + 1 by omega)).trans Z0.c1
  have q2 : ∀ wx, CopyS w W0 wx → wx.cell? ⟨w.heap.size, 2, none⟩ = some (.slice fo fn fc) := fun wx h => (h.b.cell (p := ⟨w.heap.size, 2, none⟩) (show w.heap.size < w.heap.size + 1 by omega)).trans Z0.c2
  have q3 : ∀ wx, CopyS w W0 wx → wx.cell? ⟨w.heap.size, 3, none⟩ = some (.slice to_ tn tc) := fun wx h => (h.b.cell (p := ⟨w.heap.size, 3, none⟩) (show w.heap.size < w.heap.size + 1 by omega)).trans Z0.c3
  have d0 : ∀ wx, CopyS w W0 wx → wx.cell? ⟨w.heap.size + 1, 0, none⟩ = some (cont wx (w.heap.size + 1) 0) := fun wx h => cont_eq h.r.d0
  have d1 : ∀ wx, CopyS w W0 wx → wx.cell? ⟨w.heap.size + 1, 1, none⟩ = some (cont wx (w.heap.size + 1) 1) := fun wx h => cont_eq h.r.d1
  have d2 : ∀ wx, CopyS w W0 wx → wx.cell? ⟨w.heap.size + 1, 2, none⟩ = some (cont wx (w.heap.size + 1) 2) := fun wx h => cont_eq h.r.d2
  have d3 : ∀ wx, CopyS w W0 wx → wx.cell? ⟨w.heap.size + 1, 3, none⟩ = some (cont wx (w.heap.size + 1) 3) := fun wx h => cont_eq h.r.d3
  have z0 : ∀ wx, CopyS w W0 wx → wx.frozen? ⟨w.heap.size + 1, 0, none⟩ = false := fun wx h => h.r.z0
  have z1 : ∀ wx, CopyS w W0 wx → wx.frozen? ⟨w.heap.size + 1, 1, none⟩ = false := fun wx h => h.r.z1
  have z2 : ∀ wx, CopyS w W0 wx → wx.frozen? ⟨w.heap.size + 1, 2, none⟩ = false := fun wx h => h.r.z2
  have z3 : ∀ wx, CopyS w W0 wx → wx.frozen? ⟨w.heap.size + 1, 3, none⟩ = false := fun wx h => h.r.z3
  have HB : Hid (∀ W, CopyS w W0 W → Calls Try.prog 43 #[.slice fo fn fc] W fun e w' => ∃ bo c, e = .returned (.slice bo fn c) ∧ (Blks w' bo fn free ∧ Fresh W0.heap.size bo ∧ Below W.heap.size W w') ∧ CopyS w W0 w') := fun W hS => by
    have hs := hS.s
    refine (blocksCopy_any W fo fn fc free (hf.below (hb0.trans (hS.b.mono (by omega))))).mono ?_
    rintro e w' ⟨bo, c, rfl, own, hb⟩
    exact ⟨bo, c, rfl, ⟨blks_own own hf.reach, (owns_fresh own).mono hs, hb⟩, hS.step hb (by omega)⟩
  have HW : Hid (∀ W, CopyS w W0 W → Calls Try.prog 42 #[.slice to_ tn tc] W fun e w' => ∃ bo c, e = .returned (.slice bo tn c) ∧ (Nums w' bo tn types ∧ Fresh W0.heap.size bo ∧ Below W.heap.size W w') ∧ CopyS w W0 w') := fun W hS => by
    have hs := hS.s
    refine (words_any W to_ tn tc types ht.len ht.reach (ht.below (hb0.trans (hS.b.mono (by omega)))).at_).mono ?_
    rintro e w' ⟨bo, c, rfl, own, hb⟩
    exact ⟨bo, c, rfl, ⟨nums_of_owns own ht.reach, (owns_fresh own).mono hs, hb⟩, hS.step hb (by omega)⟩
  go_enter Try.func44, Try.ntmps44
  go_wp2_with fail
  clear hf ht hW0 Z0 R0 hz
  go_region_held3 (fun wx => CopyS w W0 wx) (first | assumption | exact CopyS.drew (by assumption) | exact CopyS.store (by assumption) _ _ _ _)
    (first
      | (go_at_call 43; refine (HB.out _ ?_).mono ?_; assumption; rintro e w3 ⟨bo, c, rfl, g1, hS3⟩)
      | (go_at_call 42; refine (HW.out _ ?_).mono ?_; assumption; rintro e w4 ⟨bo2, c2, rfl, g2, hS4⟩))
  obtain ⟨g11, g12, g13⟩ := g1
  obtain ⟨g21, g22, g23⟩ := g2
  have hR4 := hS4.r
  have hB4 := hb0.trans (hS4.b.mono (Nat.le_succ _))
  replace g11 := g11.below g23
  have hs4 := hS4.s
  clear q0 q1 q2 q3 d0 d1 d2 d3 z0 z1 z2 z3 HB HW S0 hS3 hS4
  go_wp2
  obtain ⟨k0, k1, k2, k3⟩ := res4 hR4 (.int .i64 f) (.int .i64 t) (.slice bo fn c) (.slice bo2 tn c2)
  have hbt := but4 w4 (w.heap.size + 1) (.int .i64 f) (.int .i64 t) (.slice bo fn c) (.slice bo2 tn c2)
  refine bodyPost_ret (v := .agg #[.int .i64 f, .int .i64 t, .slice bo fn c, .slice bo2 tn c2]) (by simp [results, Try.results44, go_sem, k0, k1, k2, k3]) rfl ⟨⟨bo, fn, c, bo2, tn, c2, rfl, ?_, g12.mono (by omega), g22.mono (by omega)⟩, hB4.trans (hbt.below (by omega) (by omega))⟩
  exact hbt.zn ⟨g11, g21⟩ (fun a ha => by have := g12 a ha; omega) (fun a ha => by have := g22 a ha; omega)

end Go.Proofs.Ytbjlbmofdnkmiaa

/-
  OWN TEXT. A heap that is being copied, list by list.
-/
namespace Go.Proofs.Ytbjlbmofdnkmiaa
open Go Go.RowKit Go.Proofs.Ytbjlbmofdnkmiaa.Kit

/-- No element but those of the row of lists lies in block b. -/
structure AwayZ (b : Nat) (y : Hx) : Prop where
  f : ∀ z ∈ y.zs, 0 < z.z.free.length → ∀ a, z.fo = some a → a.block ≠ b
  t : ∀ z ∈ y.zs, 0 < z.z.types.length → ∀ a, z.to_ = some a → a.block ≠ b
  m : 0 < y.mins.length → ∀ a, y.mo = some a → a.block ≠ b
  p : ∀ l ∈ y.ls, 0 < l.l.pages.length → ∀ a, l.po = some a → a.block ≠ b
  v : 0 < y.live.length → ∀ a, y.vo = some a → a.block ≠ b
/-- The rows of zones and lists are the call's own. -/
structure HcpI (W : World) (s : Nat) (y : Hx) : Prop where
  oz : W.ownsRow s 44 4 (.slice y.zo y.zn y.zc) y.zn (c4 (y.zs.map Zc.q))
  ol : W.ownsRow s 57 4 (.slice y.lo y.ln y.lc) y.ln (c4 (y.ls.map Lc.q))
  at_ : y.At W
  az : ∀ a, y.zo = some a → Away a.block y
  al : ∀ a, y.lo = some a → AwayZ a.block y
  zl : ∀ a b, y.zo = some a → y.lo = some b → a.block ≠ b.block
theorem HcpI.below {W W' : World} {s : Nat} {y : Hx} (h : HcpI W s y) (hb : Below W.heap.size W W') : HcpI W' s y :=
  ⟨owns_below h.oz hb (Nat.le_refl _), owns_below h.ol hb (Nat.le_refl _), h.at_.below hb, h.az, h.al, h.zl⟩
theorem owns_blk {w : World} {base : Nat} {e : TypeId} {ao : Option Addr} {n cap size : Nat} {xs : List Value} (h : w.ownsRow base e size (.slice ao n cap) n xs) : ∀ a, ao = some a → base ≤ a.block ∧ a.block < w.heap.size ∧ a.off = 0 ∧ a = ⟨a.block, 0, none⟩ := by
  intro a ha
  rcases h.2 with ⟨h', _⟩ | ⟨g, cap', cur, h', hb, hg, _⟩
  · simp only [Value.slice.injEq] at h'
    rw [h'.1] at ha
    cases ha
  · simp only [Value.slice.injEq] at h'
    rw [h'.1] at ha
    cases ha
    exact ⟨hb, (Array.getElem?_eq_some_iff.1 hg).1, rfl, rfl⟩
theorem owns_butN {W W' : World} {b base : Nat} {e : TypeId} {ao : Option Addr} {n cap size : Nat} {xs : List Value} (h : W.ownsRow base e size (.slice ao n cap) n xs) (hb : But b W W') (hne : ∀ a, ao = some a → a.block ≠ b) : W'.ownsRow base e size (.slice ao n cap) n xs := by
  cases ao with
  | none => exact ⟨h.1, by rcases h.2 with q | ⟨_, _, _, q, _⟩; exact .inl q; cases q⟩
  | some a =>
    have e1 := (owns_blk h a rfl).2.2.2
    have e2 := hne a rfl
    rw [e1] at h ⊢
    exact own_but h hb e2
/-- Into a block that is not of it. -/
theorem HcpI.but {W W' : World} {s b : Nat} {y : Hx} (h : HcpI W s y) (hb : But b W W') (hz : ∀ a, y.zo = some a → a.block ≠ b) (hl : ∀ a, y.lo = some a → a.block ≠ b) (ha : Away b y) : HcpI W' s y := by
  refine ⟨?_, ?_, at_but h.at_ hb (fun _ => hz) ha, h.az, h.al, h.zl⟩
  · exact owns_butN h.oz hb hz
  · exact owns_butN h.ol hb hl
/-- With a zone more. -/
def Kit.Hx.addZ (y : Hx) (z : Zc) (g cap : Nat) : Hx := { y with zs := y.zs ++ [z], zo := some ⟨g, 0, none⟩, zn := y.zn + 1, zc := cap }
theorem HcpI.addZ {W W' : World} {s g cap q : Nat} {y : Hx} {z : Zc} (h : HcpI W s y) (hn : (y.zn + 1) * 64 ≤ 140737488351232) (hqW : q ≤ W.heap.size) (hzq : ∀ a, y.zo = some a → a.block < q) (hlq : ∀ a, y.lo = some a → a.block < q) (hz : z.At W) (h1 : ∀ a, z.fo = some a → q ≤ a.block) (h2 : ∀ a, z.to_ = some a → q ≤ a.block)
    (ho : W'.ownsRow s 44 4 (.slice (some ⟨g, 0, none⟩) (y.zn + 1) cap) (y.zn + 1) (c4 (y.zs.map Zc.q) ++ [z.q.a, z.q.b, z.q.c, z.q.d])) (hc : (y.zo = some ⟨g, 0, none⟩ ∧ But g W W') ∨ (g = W.heap.size ∧ Below W.heap.size W W')) : HcpI W' s (y.addZ z g cap) := by
  have hm : ((y.zs ++ [z]).map Zc.q) = y.zs.map Zc.q ++ [z.q] := by simp
  have hc4 : c4 ((y.zs ++ [z]).map Zc.q) = c4 (y.zs.map Zc.q) ++ [z.q.a, z.q.b, z.q.c, z.q.d] := by rw [hm, c4_append]; rfl
  have ho' : W'.ownsRow s 44 4 (.slice (some ⟨g, 0, none⟩) (y.zn + 1) cap) (y.zn + 1) (c4 ((y.zs ++ [z]).map Zc.q)) := by rw [hc4]; exact ho
  have hmem : ∀ c ∈ y.zs ++ [z], c ∈ y.zs ∨ c = z := fun c hc => by simpa using hc
  -- nothing old lies in the row
  have hAw : Away g y := by
    rcases hc with ⟨e, _⟩ | ⟨e, _⟩
    · exact h.az _ e
    · exact away_old h.at_ (Nat.le_of_eq e.symm)
  have hgl : ∀ a, y.lo = some a → g ≠ a.block := by
    intro a ha
    have := hlq a ha
    rcases hc with ⟨e, _⟩ | ⟨e, _⟩
    · exact h.zl _ a e ha
    · omega
  have hgq : (y.zo = some ⟨g, 0, none⟩ ∧ g < q) ∨ g = W.heap.size := by
    rcases hc with ⟨e, _⟩ | ⟨e, _⟩
    · exact .inl ⟨e, hzq _ e⟩
    · exact .inr e
  -- the parts stand
  have hAt : (∀ c ∈ y.zs ++ [z], c.At W') ∧ Nums W' y.mo y.mn y.mins ∧ Lsts W' y.lo y.ln y.ls ∧ Blks W' y.vo y.vn y.live ∧ W'.ownsRow s 57 4 (.slice y.lo y.ln y.lc) y.ln (c4 (y.ls.map Lc.q)) := by
    rcases hc with ⟨e, hb⟩ | ⟨e, hb⟩
    · have hgqq := hzq _ e
      refine ⟨fun c hc => ?_, nums_but h.at_.mins hb hAw.m, ⟨h.at_.lists.len, h.at_.lists.reach, ?_, fun l hl => nums_but (h.at_.lists.at_ l hl) hb (hAw.p l hl)⟩, blks_but h.at_.live hb hAw.v, ?_⟩
      · rcases hmem c hc with hc | rfl
        · exact ⟨blks_but (h.at_.zones.at_ c hc).free hb (hAw.f c hc), nums_but (h.at_.zones.at_ c hc).types hb (hAw.t c hc)⟩
        · exact hb.zn hz (fun a ha => by have := h1 a ha; dsimp only at hgqq; omega) (fun a ha => by have := h2 a ha; dsimp only at hgqq; omega)
      · by_cases h0 : 0 < y.ls.length
        · exact h.at_.lists.cells.but hb (hAw.l h0)
        · intro i hi; rw [List.length_map] at hi; omega
      · exact owns_butN h.ol hb (fun a ha => Ne.symm (hgl a ha))
    · refine ⟨fun c hc => ?_, h.at_.mins.below hb, h.at_.lists.below hb, h.at_.live.below hb, owns_below h.ol hb (Nat.le_refl _)⟩
      rcases hmem c hc with hc | rfl
      · exact (h.at_.zones.at_ c hc).below hb
      · exact hz.below hb
  have hzn := h.at_.zones.len
  refine ⟨ho', hAt.2.2.2.2, ⟨⟨by show (y.zs ++ [z]).length = y.zn + 1; simp [hzn], hn, c4_of_owns ho', hAt.1⟩, hAt.2.1, hAt.2.2.1, hAt.2.2.2.1⟩, ?_, ?_, ?_⟩
  · intro a ha
    cases ha
    refine ⟨fun c hc h0 a ha => ?_, fun c hc h0 a ha => ?_, hAw.m, hAw.l, hAw.p, hAw.v⟩
    · rcases hmem c hc with hc | rfl
      · exact hAw.f c hc h0 a ha
      · have h5 := h1 a ha
        have h6 := blks_lt hz.free h0 a ha
        show _ ≠ g
        rcases hgq with ⟨_, h7⟩ | h7 <;> omega
    · rcases hmem c hc with hc | rfl
      · exact hAw.t c hc h0 a ha
      · have h5 := h2 a ha
        have h6 := nums_lt hz.types h0 a ha
        show _ ≠ g
        rcases hgq with ⟨_, h7⟩ | h7 <;> omega
  · intro a ha
    have hA := h.al a ha
    have := hlq a ha
    refine ⟨fun c hc h0 b hb => ?_, fun c hc h0 b hb => ?_, hA.m, hA.p, hA.v⟩
    · rcases hmem c hc with hc | rfl
      · exact hA.f c hc h0 b hb
      · have h5 := h1 b hb
        omega
    · rcases hmem c hc with hc | rfl
      · exact hA.t c hc h0 b hb
      · have h5 := h2 b hb
        omega
  · intro a b ha hb
    cases ha
    exact hgl b hb

/-- With a list more. -/
def Kit.Hx.addL (y : Hx) (l : Lc) (g cap : Nat) : Hx := { y with ls := y.ls ++ [l], lo := some ⟨g, 0, none⟩, ln := y.ln + 1, lc := cap }
theorem HcpI.addL {W W' : World} {s g cap q : Nat} {y : Hx} {l : Lc} (h : HcpI W s y) (hn : (y.ln + 1) * 48 ≤ 140737488351232) (hqW : q ≤ W.heap.size) (hzq : ∀ a, y.zo = some a → a.block < q) (hlq : ∀ a, y.lo = some a → a.block < q) (hz : l.At W) (h1 : ∀ a, l.po = some a → q ≤ a.block)
    (ho : W'.ownsRow s 57 4 (.slice (some ⟨g, 0, none⟩) (y.ln + 1) cap) (y.ln + 1) (c4 (y.ls.map Lc.q) ++ [l.q.a, l.q.b, l.q.c, l.q.d])) (hc : (y.lo = some ⟨g, 0, none⟩ ∧ But g W W') ∨ (g = W.heap.size ∧ Below W.heap.size W W')) : HcpI W' s (y.addL l g cap) := by
  have hm : ((y.ls ++ [l]).map Lc.q) = y.ls.map Lc.q ++ [l.q] := by simp
  have hc4 : c4 ((y.ls ++ [l]).map Lc.q) = c4 (y.ls.map Lc.q) ++ [l.q.a, l.q.b, l.q.c, l.q.d] := by rw [hm, c4_append]; rfl
  have ho' : W'.ownsRow s 57 4 (.slice (some ⟨g, 0, none⟩) (y.ln + 1) cap) (y.ln + 1) (c4 ((y.ls ++ [l]).map Lc.q)) := by rw [hc4]; exact ho
  have hmem : ∀ c ∈ y.ls ++ [l], c ∈ y.ls ∨ c = l := fun c hc => by simpa using hc
  have hAw : AwayZ g y := by
    rcases hc with ⟨e, _⟩ | ⟨e, _⟩
    · exact h.al _ e
    · have := away_old h.at_ (Nat.le_of_eq e.symm)
      exact ⟨this.f, this.t, this.m, this.p, this.v⟩
  have hgz : ∀ a, y.zo = some a → a.block ≠ g := by
    intro a ha
    have := hzq a ha
    rcases hc with ⟨e, _⟩ | ⟨e, _⟩
    · exact h.zl a _ ha e
    · omega
  have hgq : (y.lo = some ⟨g, 0, none⟩ ∧ g < q) ∨ g = W.heap.size := by
    rcases hc with ⟨e, _⟩ | ⟨e, _⟩
    · exact .inl ⟨e, hlq _ e⟩
    · exact .inr e
  have hAt : (∀ c ∈ y.ls ++ [l], c.At W') ∧ Nums W' y.mo y.mn y.mins ∧ Zons W' y.zo y.zn y.zs ∧ Blks W' y.vo y.vn y.live ∧ W'.ownsRow s 44 4 (.slice y.zo y.zn y.zc) y.zn (c4 (y.zs.map Zc.q)) := by
    rcases hc with ⟨e, hb⟩ | ⟨e, hb⟩
    · have hgqq := hlq _ e
      refine ⟨fun c hc => ?_, nums_but h.at_.mins hb hAw.m, ⟨h.at_.zones.len, h.at_.zones.reach, ?_, fun z hz => ⟨blks_but (h.at_.zones.at_ z hz).free hb (hAw.f z hz), nums_but (h.at_.zones.at_ z hz).types hb (hAw.t z hz)⟩⟩, blks_but h.at_.live hb hAw.v, owns_butN h.oz hb hgz⟩
      · rcases hmem c hc with hc | rfl
        · exact nums_but (h.at_.lists.at_ c hc) hb (hAw.p c hc)
        · exact nums_but hz hb (fun _ a ha => by have := h1 a ha; dsimp only at hgqq; omega)
      · by_cases h0 : 0 < y.zs.length
        · exact h.at_.zones.cells.but hb hgz
        · intro i hi; rw [List.length_map] at hi; omega
    · refine ⟨fun c hc => ?_, h.at_.mins.below hb, h.at_.zones.below hb, h.at_.live.below hb, owns_below h.oz hb (Nat.le_refl _)⟩
      rcases hmem c hc with hc | rfl
      · exact (h.at_.lists.at_ c hc).below hb
      · exact hz.below hb
  have hln := h.at_.lists.len
  refine ⟨hAt.2.2.2.2, ho', ⟨hAt.2.2.1, hAt.2.1, ⟨by show (y.ls ++ [l]).length = y.ln + 1; simp [hln], hn, c4_of_owns ho', hAt.1⟩, hAt.2.2.2.1⟩, ?_, ?_, ?_⟩
  · intro a ha
    have hA := h.az a ha
    have := hzq a ha
    refine ⟨hA.f, hA.t, hA.m, fun _ b hb => ?_, fun c hc h0 b hb => ?_, hA.v⟩
    · cases hb
      exact Ne.symm (hgz a ha)
    · rcases hmem c hc with hc | rfl
      · exact hA.p c hc h0 b hb
      · have h5 := h1 b hb
        omega
  · intro a ha
    cases ha
    refine ⟨hAw.f, hAw.t, hAw.m, fun c hc h0 b hb => ?_, hAw.v⟩
    rcases hmem c hc with hc | rfl
    · exact hAw.p c hc h0 b hb
    · have h5 := h1 b hb
      have h6 := nums_lt hz h0 b hb
      show _ ≠ g
      rcases hgq with ⟨_, h7⟩ | h7 <;> omega
  · intro a b ha hb
    cases hb
    exact hgz a ha
theorem HcpI.hz {W : World} {s : Nat} {y : Hx} (h : HcpI W s y) (hn : 0 < y.zn) : ∃ gz, HZ W s gz y := by
  obtain ⟨g, e, hb, _⟩ := owns_head h.oz hn
  exact ⟨g, h.oz, e, h.at_, h.az _ e, hb⟩

/-- In the midst of HeapCopy: x is copied, y is what there is of the copy, in the variable b3. -/
structure HcQ (w W : World) (b1 b4 b3 : Nat) (x y : Hx) : Prop where
  B : Below w.heap.size w W
  r1 : W.heap[b1]? = some (.cells #[.slice x.zo x.zn x.zc, .slice x.mo x.mn x.mc, .int .i64 x.cpus, .slice x.lo x.ln x.lc, .slice x.vo x.vn x.vc] 28 (0, 0))
  r4 : W.heap[b4]? = some (.cells #[.slice none 0 0, .slice none 0 0, .int .i64 0, .slice none 0 0, .slice none 0 0] 28 (0, 0))
  r3 : W.heap[b3]? = some (.cells #[.slice y.zo y.zn y.zc, .slice y.mo y.mn y.mc, .int .i64 y.cpus, .slice y.lo y.ln y.lc, .slice y.vo y.vn y.vc] 28 (0, 0))
  C : HcpI W w.heap.size y
  z3 : ∀ a, y.zo = some a → a.block ≠ b3 ∧ a.block ≠ b1 ∧ a.block ≠ b4
  l3 : ∀ a, y.lo = some a → a.block ≠ b3 ∧ a.block ≠ b1 ∧ a.block ≠ b4
  a3 : Away b3 y
  a4 : Away b4 y
  a5 : ∀ b, b < w.heap.size → Away b y
  e1 : y.mins = x.mins
  e2 : y.cpus = x.cpus
  e3 : y.live = x.live
  d : w.heap.size ≤ b1 ∧ w.heap.size ≤ b4 ∧ w.heap.size ≤ b3 ∧ b1 ≠ b3 ∧ b4 ≠ b3
theorem HcQ.below {w W W' : World} {b1 b4 b3 : Nat} {x y : Hx} (h : HcQ w W b1 b4 b3 x y) (hb : Below W.heap.size W W') : HcQ w W' b1 b4 b3 x y :=
  ⟨Below.next h.B hb, row_next h.r1 hb, row_next h.r4 hb, row_next h.r3 hb, h.C.below hb, h.z3, h.l3, h.a3, h.a4, h.a5, h.e1, h.e2, h.e3, h.d⟩
/-- The lists' own blocks are there. -/
theorem HcQ.lt {w W : World} {b1 b4 b3 : Nat} {x y : Hx} (h : HcQ w W b1 b4 b3 x y) : b1 < W.heap.size ∧ b4 < W.heap.size ∧ b3 < W.heap.size ∧ (∀ a, y.zo = some a → a.block < W.heap.size) ∧ (∀ a, y.lo = some a → a.block < W.heap.size) :=
  ⟨row_lt h.r1, row_lt h.r4, row_lt h.r3, fun a ha => (owns_blk h.C.oz a ha).2.1, fun a ha => (owns_blk h.C.ol a ha).2.1⟩
/-- A zone is appended, and stored. -/
theorem HcQ.addZ {w W W1 W2 : World} {b1 b4 b3 q g cap : Nat} {x y : Hx} {z : Zc} (h : HcQ w W b1 b4 b3 x y) (hn : (y.zn + 1) * 64 ≤ 140737488351232) (hqW : q ≤ W.heap.size) (hq : b1 < q ∧ b4 < q ∧ b3 < q ∧ (∀ a, y.zo = some a → a.block < q) ∧ (∀ a, y.lo = some a → a.block < q)) (hz : z.At W) (h1 : ∀ a, z.fo = some a → q ≤ a.block) (h2 : ∀ a, z.to_ = some a → q ≤ a.block)
    (ho : W1.ownsRow w.heap.size 44 4 (.slice (some ⟨g, 0, none⟩) (y.zn + 1) cap) (y.zn + 1) (c4 (y.zs.map Zc.q) ++ [z.q.a, z.q.b, z.q.c, z.q.d])) (hc : (y.zo = some ⟨g, 0, none⟩ ∧ But g W W1) ∨ (g = W.heap.size ∧ Below W.heap.size W W1))
    (hb : But b3 W1 W2) (hr : W2.heap[b3]? = some (.cells #[.slice (some ⟨g, 0, none⟩) (y.zn + 1) cap, .slice y.mo y.mn y.mc, .int .i64 y.cpus, .slice y.lo y.ln y.lc, .slice y.vo y.vn y.vc] 28 (0, 0))) : HcQ w W2 b1 b4 b3 x (y.addZ z g cap) := by
  obtain ⟨l1, l4, l3, lz, ll⟩ := hq
  have hC := h.C.addZ hn hqW lz ll hz h1 h2 ho hc
  have hg : g ≠ b3 ∧ g ≠ b1 ∧ g ≠ b4 := by
    rcases hc with ⟨e, _⟩ | ⟨e, _⟩
    · exact h.z3 _ e
    · omega
  have hgw : w.heap.size ≤ g := (owns_blk ho _ rfl).1
  have hd := h.d
  have hbw := h.B.size
  have hB1 : Below w.heap.size w W1 := by
    rcases hc with ⟨_, k⟩ | ⟨_, k⟩
    · exact h.B.trans (k.below hgw h.B.size)
    · exact Below.next h.B k
  have hrow : ∀ {b : Nat} {o : Obj}, W.heap[b]? = some o → b ≠ g → W1.heap[b]? = some o := by
    intro b o hb hne
    rcases hc with ⟨_, k⟩ | ⟨_, k⟩
    · exact But.row k hb hne
    · exact row_next hb k
  have hA : Away b3 (y.addZ z g cap) := by
    have hmem : ∀ c ∈ y.zs ++ [z], c ∈ y.zs ∨ c = z := fun c hc => by simpa using hc
    refine ⟨fun c hc h0 a ha => ?_, fun c hc h0 a ha => ?_, h.a3.m, h.a3.l, h.a3.p, h.a3.v⟩
    · rcases hmem c hc with hc | rfl
      · exact h.a3.f c hc h0 a ha
      · have := h1 a ha; omega
    · rcases hmem c hc with hc | rfl
      · exact h.a3.t c hc h0 a ha
      · have := h2 a ha; omega
  have hA4 : Away b4 (y.addZ z g cap) := by
    have hmem : ∀ c ∈ y.zs ++ [z], c ∈ y.zs ∨ c = z := fun c hc => by simpa using hc
    refine ⟨fun c hc h0 a ha => ?_, fun c hc h0 a ha => ?_, h.a4.m, h.a4.l, h.a4.p, h.a4.v⟩
    · rcases hmem c hc with hc | rfl
      · exact h.a4.f c hc h0 a ha
      · have := h1 a ha; omega
    · rcases hmem c hc with hc | rfl
      · exact h.a4.t c hc h0 a ha
      · have := h2 a ha; omega
  have hA5 : ∀ b5, b5 < w.heap.size → Away b5 (y.addZ z g cap) := by
    intro b5 hb5
    have hmem : ∀ c ∈ y.zs ++ [z], c ∈ y.zs ∨ c = z := fun c hc => by simpa using hc
    refine ⟨fun c hc h0 a ha => ?_, fun c hc h0 a ha => ?_, (h.a5 b5 hb5).m, (h.a5 b5 hb5).l, (h.a5 b5 hb5).p, (h.a5 b5 hb5).v⟩
    · rcases hmem c hc with hc | rfl
      · exact (h.a5 b5 hb5).f c hc h0 a ha
      · have := h1 a ha; omega
    · rcases hmem c hc with hc | rfl
      · exact (h.a5 b5 hb5).t c hc h0 a ha
      · have := h2 a ha; omega
  exact ⟨hB1.trans (hb.below hd.2.2.1 hB1.size), But.row hb (hrow h.r1 (Ne.symm hg.2.1)) hd.2.2.2.1, But.row hb (hrow h.r4 (Ne.symm hg.2.2)) hd.2.2.2.2, hr,
    hC.but hb (fun a ha => by cases ha; exact hg.1) (fun a ha => (h.l3 a ha).1) hA, fun a ha => by cases ha; exact hg, h.l3, hA, hA4, hA5, h.e1, h.e2, h.e3, hd⟩

/-- A list is appended, and stored. -/
theorem HcQ.addL {w W W1 W2 : World} {b1 b4 b3 q g cap : Nat} {x y : Hx} {l : Lc} (h : HcQ w W b1 b4 b3 x y) (hn : (y.ln + 1) * 48 ≤ 140737488351232) (hqW : q ≤ W.heap.size) (hq : b1 < q ∧ b4 < q ∧ b3 < q ∧ (∀ a, y.zo = some a → a.block < q) ∧ (∀ a, y.lo = some a → a.block < q)) (hz : l.At W) (h1 : ∀ a, l.po = some a → q ≤ a.block)
    (ho : W1.ownsRow w.heap.size 57 4 (.slice (some ⟨g, 0, none⟩) (y.ln + 1) cap) (y.ln + 1) (c4 (y.ls.map Lc.q) ++ [l.q.a, l.q.b, l.q.c, l.q.d])) (hc : (y.lo = some ⟨g, 0, none⟩ ∧ But g W W1) ∨ (g = W.heap.size ∧ Below W.heap.size W W1))
    (hb : But b3 W1 W2) (hr : W2.heap[b3]? = some (.cells #[.slice y.zo y.zn y.zc, .slice y.mo y.mn y.mc, .int .i64 y.cpus, .slice (some ⟨g, 0, none⟩) (y.ln + 1) cap, .slice y.vo y.vn y.vc] 28 (0, 0))) : HcQ w W2 b1 b4 b3 x (y.addL l g cap) := by
  obtain ⟨l1, l4, l3, lz, ll⟩ := hq
  have hC := h.C.addL hn hqW lz ll hz h1 ho hc
  have hg : g ≠ b3 ∧ g ≠ b1 ∧ g ≠ b4 := by
    rcases hc with ⟨e, _⟩ | ⟨e, _⟩
    · exact h.l3 _ e
    · omega
  have hgw : w.heap.size ≤ g := (owns_blk ho _ rfl).1
  have hd := h.d
  have hbw := h.B.size
  have hB1 : Below w.heap.size w W1 := by
    rcases hc with ⟨_, k⟩ | ⟨_, k⟩
    · exact h.B.trans (k.below hgw h.B.size)
    · exact Below.next h.B k
  have hrow : ∀ {b : Nat} {o : Obj}, W.heap[b]? = some o → b ≠ g → W1.heap[b]? = some o := by
    intro b o hb hne
    rcases hc with ⟨_, k⟩ | ⟨_, k⟩
    · exact But.row k hb hne
    · exact row_next hb k
  have hA : Away b3 (y.addL l g cap) := by
    have hmem : ∀ c ∈ y.ls ++ [l], c ∈ y.ls ∨ c = l := fun c hc => by simpa using hc
    refine ⟨h.a3.f, h.a3.t, h.a3.m, fun _ a ha => (by cases ha; exact hg.1), fun c hc h0 a ha => ?_, h.a3.v⟩
    rcases hmem c hc with hc | rfl
    · exact h.a3.p c hc h0 a ha
    · have := h1 a ha; omega
  have hA4 : Away b4 (y.addL l g cap) := by
    have hmem : ∀ c ∈ y.ls ++ [l], c ∈ y.ls ∨ c = l := fun c hc => by simpa using hc
    refine ⟨h.a4.f, h.a4.t, h.a4.m, fun _ a ha => (by cases ha; exact hg.2.2), fun c hc h0 a ha => ?_, h.a4.v⟩
    rcases hmem c hc with hc | rfl
    · exact h.a4.p c hc h0 a ha
    · have := h1 a ha; omega
  have hA5 : ∀ b5, b5 < w.heap.size → Away b5 (y.addL l g cap) := by
    intro b5 hb5
    have hmem : ∀ c ∈ y.ls ++ [l], c ∈ y.ls ∨ c = l := fun c hc => by simpa using hc
    refine ⟨(h.a5 b5 hb5).f, (h.a5 b5 hb5).t, (h.a5 b5 hb5).m, fun _ a ha => (by cases ha; show g ≠ b5; omega), fun c hc h0 a ha => ?_, (h.a5 b5 hb5).v⟩
    rcases hmem c hc with hc | rfl
    · exact (h.a5 b5 hb5).p c hc h0 a ha
    · have := h1 a ha; omega
  exact ⟨hB1.trans (hb.below hd.2.2.1 hB1.size), But.row hb (hrow h.r1 (Ne.symm hg.2.1)) hd.2.2.2.1, But.row hb (hrow h.r4 (Ne.symm hg.2.2)) hd.2.2.2.2, hr,
    hC.but hb (fun a ha => (h.z3 a ha).1) (fun a ha => by cases ha; exact hg.1) hA, h.z3, fun a ha => by cases ha; exact hg, hA, hA4, hA5, h.e1, h.e2, h.e3, hd⟩

end Go.Proofs.Ytbjlbmofdnkmiaa
