/-
  OWN TEXTS, bundled: RefZp, RefZn, RefZa, RefW, RefZb, ZGivP, ZCnt, ZInv, KzT, RefZc.
-/
import Derived.Test.YtpfafhgllabhbaaDoorBuddyTakesPart8
import Derived.Test.YtpfafhgllabhbaaDoorBuddyTakesPart2
import Derived.Test.YtpfafhgllabhbaaDoorBuddyTakesPart1
import Derived.Deep.RegionHeld3
import Derived.Test.YtpfafhgllabhbaaDoorBuddyTakesPart4
import Derived.Test.YtpfafhgllabhbaaDoorBuddyTakesPart5

/-
  OWN TEXT. Contracts of the document's answer: power.
-/
namespace Go.Proofs.YtpfafhgllabhbaaDoor
open Go Go.RowKit Go.Proofs.YtpfafhgllabhbaaDoor.Kit

set_option maxHeartbeats 1000000 in
theorem power_nat (w : World) (n : Nat) (hn : n ≤ 8) :
    Calls Tryd.prog 24 #[.int .i64 n] w fun e w' => e = .returned (.int .i64 ((2 ^ n : Nat) : Int)) ∧ w = w' := by
  obtain ⟨P, hP⟩ : ∃ P : Nat, 2 ^ n = P := ⟨_, rfl⟩
  rw [hP]
  have HP : Hid (2 ^ n = P) := hP
  clear hP
  go_enter Tryd.func24, Tryd.ntmps24
  go_wp2
  go_loopw [0, 3] (fun nv pv wr => ∃ k q : Nat, k ≤ n ∧ q ≤ 256 ∧ nv = .int .i64 k ∧ pv = .int .i64 q ∧ Hid (q * 2 ^ k = P) ∧ w = wr) (fun nv _ _ => (intOf nv).toNat)
  case atStart => exact ⟨n, 1, Nat.le_refl _, by omega, rfl, rfl, by show _ = _; rw [Nat.one_mul]; exact HP.out, rfl⟩
  case round =>
    obtain ⟨k, q, hk, hq, rfl, rfl, hI, rfl⟩ := hrel
    cases k with
    | zero =>
      obtain rfl : q = P := by have := hI.out; simpa using this
      clear hI HP
      go_wp2
      go_ret
      exact ⟨rfl, rfl⟩
    | succ k =>
      have hI2 : Hid (2 * q * 2 ^ k = P) := by have := hI.out; show _ = _; rw [← this, Nat.pow_succ]; rw [Nat.mul_comm 2 q, Nat.mul_assoc, Nat.mul_comm 2]
      have hq3 : 2 * q ≤ 256 := by
        have h1 := hI2.out
        have h2 := HP.out
        have h3 : P ≤ 256 := by rw [← h2]; exact Nat.le_trans (Nat.pow_le_pow_right (by omega) hn) (by decide)
        have h4 := Nat.two_pow_pos k
        have h5 : 2 * q * 1 ≤ 2 * q * 2 ^ k := Nat.mul_le_mul_left _ h4
        omega
      have t1 : (0 : Int) < ((k + 1 : Nat) : Int) := by omega
      clear hI HP
      go_wp2
      go_roundw
      case rel => exact ⟨k, 2 * q, by omega, hq3, by go_num, by go_num, hI2, trivial⟩
      case measure => simp [intOf]

theorem power_any (w : World) (o : Int) (h0 : 0 ≤ o) (h : o ≤ 8) :
    Calls Tryd.prog 24 #[.int .i64 o] w fun e w' => e = .returned (.int .i64 (pw o)) ∧ w = w' := by
  obtain ⟨n, rfl⟩ : ∃ n : Nat, o = n := ⟨o.toNat, by omega⟩
  exact power_nat w n (by omega)

/-- The same, as a quiet region asks for it. -/
theorem power_q (o : Int) (h0 : 0 ≤ o) (h : o ≤ 8) (w : World) :
    Calls Tryd.prog 24 #[.int .i64 o] w fun e w' => e = .returned (.int .i64 (pw o)) ∧ w' = w :=
  (power_any w o h0 h).mono fun _ _ ⟨h1, h2⟩ => ⟨h1, h2.symm⟩

/-- The same, the power under a name. -/
theorem power_v (o v : Int) (h0 : 0 ≤ o) (h : o ≤ 8) (hv : pw o = v) (w : World) :
    Calls Tryd.prog 24 #[.int .i64 o] w fun e w' => e = .returned (.int .i64 v) ∧ w' = w := by
  subst hv; exact power_q o h0 h w

end Go.Proofs.YtpfafhgllabhbaaDoor

/-
  OWN TEXT. Contracts of the document's answer: ZoneNew.
-/
namespace Go.Proofs.YtpfafhgllabhbaaDoor
open Go Go.RowKit Go.Proofs.YtpfafhgllabhbaaDoor.Kit

/-- The empty zone, as cells. -/
theorem newOk_nat {f t : Int} (h : newOk f t) : ∃ F T : Nat, f = F ∧ t = T ∧ F ≤ T ∧ T ≤ 256 ∧ F % 16 = 0 ∧ T % 16 = 0 := by
  obtain ⟨h1, h2, h3, h4, h5⟩ := h
  exact ⟨f.toNat, t.toNat, by omega, by omega, by omega, by omega, by omega, by omega⟩

set_option maxHeartbeats 2000000 in
theorem zoneNew_nat (w : World) (f t : Nat) (h1 : f ≤ t) (h2 : t ≤ 256) (h3 : f % 16 = 0) (h4 : t % 16 = 0) :
    Calls Tryd.prog 46 #[.int .i64 f, .int .i64 t] w fun e w' => RetZone w.heap.size w' ⟨f, t, [], List.replicate ((t - f) / 8) 1⟩ e ∧ Below w.heap.size w w' := by
  have e1 : inB f 0 256 = true := inB_t (by omega)
  have e2 : inB t f 256 = true := inB_t (by omega)
  have m1 : (f : Int) % 16 = 0 := by omega
  have m2 : (t : Int) % 16 = 0 := by omega
  obtain ⟨i0, hi, hz0, hz1, hz2⟩ := info_parts info_int
  have hb2 : Below w.heap.size w ((w.alloc (.cells #[.int .i64 0, .int .i64 0, .slice none 0 0, .slice none 0 0] 25)).alloc (.cells #[.int .i64 f, .int .i64 t, .slice none 0 0, .slice none 0 0] 25)) := ((Below.refl _ _).alloc (Nat.le_refl _) _).alloc (by simp) _
  have R0 : Res4 ((w.alloc (.cells #[.int .i64 0, .int .i64 0, .slice none 0 0, .slice none 0 0] 25)).alloc (.cells #[.int .i64 f, .int .i64 t, .slice none 0 0, .slice none 0 0] 25)) w.heap.size := (zbox_new w _ _ _ _ _).res.below (below_box _ _)
  have Z0 : ZBox ((w.alloc (.cells #[.int .i64 0, .int .i64 0, .slice none 0 0, .slice none 0 0] 25)).alloc (.cells #[.int .i64 f, .int .i64 t, .slice none 0 0, .slice none 0 0] 25)) (w.heap.size + 1) (.int .i64 f) (.int .i64 t) (.slice none 0 0) (.slice none 0 0) := by
    have := zbox_new (w.alloc (.cells #[.int .i64 0, .int .i64 0, .slice none 0 0, .slice none 0 0] 25)) (.int .i64 f) (.int .i64 t) (.slice none 0 0) (.slice none 0 0) 25
    simpa using this
  obtain ⟨N, hN⟩ : ∃ N, N = (t - f) / 8 := ⟨_, rfl⟩
  have hN8 : f + 8 * N = t := by omega
  rw [← hN]
  have hs0 : w.heap.size + 2 ≤ ((w.alloc (.cells #[.int .i64 0, .int .i64 0, .slice none 0 0, .slice none 0 0] 25)).alloc (.cells #[.int .i64 f, .int .i64 t, .slice none 0 0, .slice none 0 0] 25)).heap.size := by simp
  clear hN
  obtain ⟨W0, hW0⟩ : ∃ W0, (w.alloc (.cells #[.int .i64 0, .int .i64 0, .slice none 0 0, .slice none 0 0] 25)).alloc (.cells #[.int .i64 f, .int .i64 t, .slice none 0 0, .slice none 0 0] 25) = W0 := ⟨_, rfl⟩
  rw [hW0] at hb2 R0 Z0 hs0
  have HW0 : Hid _ := hW0
  clear hW0
  go_enter Tryd.func46, Tryd.ntmps46
  go_wp2_with (go_at_call 21; refine (in_any _ _ _ _).mono ?_; rintro e w' ⟨rfl, rfl⟩)
  rw [HW0.out]
  clear e1 e2 m1 m2 HW0
  go_loopw [7] (fun pv wr => ∃ (k p c : Nat) (bo : Option Addr), p = f + 8 * k ∧ k ≤ N ∧ pv = .int .i64 p ∧ ZBox wr (w.heap.size + 1) (.int .i64 f) (.int .i64 t) (.slice none 0 0) (.slice bo k c) ∧ wr.ownsRow (w.heap.size + 2) 3 1 (.slice bo k c) k (vals (List.replicate k 1)) ∧ Res4 wr w.heap.size ∧ Below w.heap.size w wr ∧ w.heap.size + 2 ≤ wr.heap.size) (fun pv _ => f + 8 * N - (intOf pv).toNat)
  case atStart => exact ⟨0, f, 0, none, by omega, Nat.zero_le _, rfl, Z0, World.ownsRow_nil _ _ _ _, R0, hb2, hs0⟩
  case round =>
    obtain ⟨k, p, c, bo, hp, hk, rfl, Z, hown, R, hb, hs⟩ := hrel
    clear Z0 R0 hb2 hs0
    by_cases hlt : k < N
    · have hpt : (p : Int) < t := by omega
      have hml : k + 1 ≤ maxLen := by unfold maxLen; omega
      have hsz : (k + 1) * 8 ≤ 140737488355328 := by omega
      have c3 := Z.c3
      go_wp2_with (at_builtin; refine wpList_append_own _ rfl (.tmp 38) (.tmp 39) 23 rfl (w.heap.size + 2) 3 i0 (.int .i64 0) 1 8 Tryd.underlying23 hi hz0 hz1 hz2 rfl (by decide) _ _ _ rfl (hown.alloc _) ⟨wr.heap.size, 0, none⟩ 1 1 [.int .i64 1] rfl rfl ?c1 ?c2 hml hsz ?c5 ?_)
      case c1 => exact cell_one_new' _ _ _
      case c2 => exact ints_oneCell .i64 [_]
      case c5 => simp; omega
      intro v' w3 hown' hgrow _
      have hb3 : Below (w.heap.size + 2) wr w3 := ((Below.refl _ _).alloc hs _).grown hgrow (by simp; omega) (fun g hg => (hown.lt g hg).1)
      have e9 : vals (List.replicate k 1) ++ [Value.int .i64 1] = vals (List.replicate (k + 1) 1) := by rw [List.replicate_succ', vals_append]; rfl
      rw [e9] at hown'
      obtain ⟨bo', c', rfl⟩ := owns_shape hown'
      have Z3 := Z.belowB hb3 (by omega)
      have R3 := R.belowB hb3 (by omega)
      have hB3 := hb.trans (hb3.mono (by omega))
      have hs3 := Nat.le_trans hs hb3.size
      have Z4 := Z3.set3 (.slice bo' (k + 1) c')
      have own4 := ownsRow_setCell_below hown' (a := ⟨w.heap.size + 1, 3, none⟩) (show w.heap.size + 1 < w.heap.size + 2 by omega) (.slice bo' (k + 1) c')
      have hbt : But (w.heap.size + 1) w3 (w3.setCell ⟨w.heap.size + 1, 3, none⟩ (.slice bo' (k + 1) c')) := (But.refl _ _).setCell _
      have R4 := R3.but hbt (by omega)
      have hB4 := hB3.trans (hbt.below (B := w.heap.size) (by omega) (by omega))
      have hs4 := Nat.le_trans hs3 hbt.size
      have c3' := Z3.c3
      have z3' := Z3.z3
      clear Z R hown hb hs hgrow hb3 Z3 R3 hB3 hs3 hown' hbt e9 c3
      go_wp2
      go_roundw
      case rel => exact ⟨k + 1, f + 8 * (k + 1), c', bo', rfl, by omega, by go_num, Z4, own4, R4, hB4, hs4⟩
      case measure => simp [intOf]; omega
    · have hpt : ¬ (p : Int) < t := by omega
      obtain rfl : k = N := by omega
      have c0 := Z.c0
      have c1 := Z.c1
      have c2 := Z.c2
      have c3 := Z.c3
      obtain ⟨⟨x0, d0⟩, ⟨x1, d1⟩, ⟨x2, d2⟩, ⟨x3, d3⟩, z0, z1, z2, z3⟩ := id R
      go_wp2
      obtain ⟨k0, k1, k2, k3⟩ := res4 R (.int .i64 f) (.int .i64 t) (.slice none 0 0) (.slice bo k c)
      have hbt := but4 wr w.heap.size (.int .i64 f) (.int .i64 t) (.slice none 0 0) (.slice bo k c)
      refine bodyPost_ret (v := .tuple #[.agg #[.int .i64 f, .int .i64 t, .slice none 0 0, .slice bo k c], .int .i64 0]) (by simp [results, Tryd.results46, go_sem, k0, k1, k2, k3]) rfl ⟨⟨none, 0, 0, bo, k, c, rfl, ⟨Blks.nil _, hbt.nums (nums_of_owns hown (by omega)) (fun a ha => by have := owns_fresh hown a ha; omega)⟩, fresh_none _, (owns_fresh hown).mono (by omega)⟩, hb.trans (hbt.below (Nat.le_refl _) hb.size)⟩

theorem zoneNew_ok (w : World) (f t : Int) (h : newOk f t) :
    Calls Tryd.prog 46 #[.int .i64 f, .int .i64 t] w fun e w' => RetZone w.heap.size w' (newZ f t) e ∧ Below w.heap.size w w' := by
  obtain ⟨F, T, rfl, rfl, h1, h2, h3, h4⟩ := newOk_nat h
  have e : newZ (F : Int) T = ⟨F, T, [], List.replicate ((T - F) / 8) 1⟩ := by
    unfold newZ newTypes
    have : (((T : Int) - F) / 8).toNat = (T - F) / 8 := by omega
    rw [this]
  rw [e]
  exact zoneNew_nat w F T h1 h2 h3 h4

set_option maxHeartbeats 2000000 in
theorem zoneNew_no (w : World) (f t : Int) (h : ¬ newOk f t) :
    Calls Tryd.prog 46 #[.int .i64 f, .int .i64 t] w fun e w' => RetNone 1 e ∧ Below w.heap.size w w' := by
  have hb1 := below_box w (.cells #[.int .i64 0, .int .i64 0, .slice none 0 0, .slice none 0 0] 25)
  by_cases h1 : 0 ≤ f ∧ f ≤ 256
  · by_cases h2 : f ≤ t ∧ t ≤ 256
    · obtain ⟨F, rfl⟩ : ∃ F : Nat, f = F := ⟨f.toNat, by omega⟩
      obtain ⟨T, rfl⟩ : ∃ T : Nat, t = T := ⟨t.toNat, by omega⟩
      have e1 : inB (F : Int) 0 256 = true := inB_t h1
      have e2 : inB (T : Int) F 256 = true := inB_t h2
      by_cases h3 : (F : Int) % 16 = 0
      · have h4 : ¬ (T : Int) % 16 = 0 := fun g => h ⟨by omega, by omega, by omega, h3, g⟩
        clear h h1 h2
        go_enter Tryd.func46, Tryd.ntmps46
        go_wp2_with (go_at_call 21; refine (in_any _ _ _ _).mono ?_; rintro e w' ⟨rfl, rfl⟩)
        exact bodyPost_ret (v := .tuple #[.agg #[.int .i64 0, .int .i64 0, .slice none 0 0, .slice none 0 0], .int .i64 1]) (by simp [results, Tryd.results46, go_sem]) rfl ⟨rfl, hb1⟩
      · clear h h1 h2
        go_enter Tryd.func46, Tryd.ntmps46
        go_wp2_with (go_at_call 21; refine (in_any _ _ _ _).mono ?_; rintro e w' ⟨rfl, rfl⟩)
        exact bodyPost_ret (v := .tuple #[.agg #[.int .i64 0, .int .i64 0, .slice none 0 0, .slice none 0 0], .int .i64 1]) (by simp [results, Tryd.results46, go_sem]) rfl ⟨rfl, hb1⟩
    · have e1 : inB f 0 256 = true := inB_t h1
      have e2 : inB t f 256 = false := inB_f h2
      clear h h1 h2
      go_enter Tryd.func46, Tryd.ntmps46
      go_wp2_with (go_at_call 21; refine (in_any _ _ _ _).mono ?_; rintro e w' ⟨rfl, rfl⟩)
      exact bodyPost_ret (v := .tuple #[.agg #[.int .i64 0, .int .i64 0, .slice none 0 0, .slice none 0 0], .int .i64 1]) (by simp [results, Tryd.results46, go_sem]) rfl ⟨rfl, hb1⟩
  · have e1 : inB f 0 256 = false := inB_f h1
    clear h h1
    go_enter Tryd.func46, Tryd.ntmps46
    go_wp2_with (go_at_call 21; refine (in_any _ _ _ _).mono ?_; rintro e w' ⟨rfl, rfl⟩)
    exact bodyPost_ret (v := .tuple #[.agg #[.int .i64 0, .int .i64 0, .slice none 0 0, .slice none 0 0], .int .i64 1]) (by simp [results, Tryd.results46, go_sem]) rfl ⟨rfl, hb1⟩

end Go.Proofs.YtpfafhgllabhbaaDoor

/-
  OWN TEXT. Contract of the document's answer: blockMay.
-/
namespace Go.Proofs.YtpfafhgllabhbaaDoor
open Go Go.RowKit Go.Proofs.YtpfafhgllabhbaaDoor.Kit

set_option maxHeartbeats 2000000 in
theorem blockMay_any (w : World) (f t : Int) (fo to_ : Option Addr) (fn fc tn tc : Nat) (a o : Int) (h : newOk f t) :
    Calls Tryd.prog 47 #[.agg #[.int .i64 f, .int .i64 t, .slice fo fn fc, .slice to_ tn tc], .int .i64 a, .int .i64 o] w fun e w' => e = .returned (.bool (blkB f t a o)) ∧ Below w.heap.size w w' := by
  obtain ⟨h1, h2, h3, h4, h5⟩ := h
  have hb1 := below_box w (.cells #[.int .i64 f, .int .i64 t, .slice fo fn fc, .slice to_ tn tc] 25)
  by_cases p1 : 0 ≤ o ∧ o ≤ 4
  · have e1 : inB o 0 4 = true := inB_t p1
    by_cases p2 : f ≤ a ∧ a ≤ t - 1
    · have e2 : inB a f (t - 1) = true := inB_t p2
      obtain ⟨A, rfl⟩ : ∃ A : Nat, a = A := ⟨a.toNat, by omega⟩
      obtain ⟨P, hP, hP0⟩ : ∃ P : Nat, pw o = P ∧ 0 < P := ⟨(pw o).toNat, by have := pw_pos o; omega, by have := pw_pos o; omega⟩
      have hP1 : ((P : Int) == 0) = false := by simp; omega
      have HR : Hid (blkB f t (A : Int) o = decide ((A : Int) % P = 0)) := by show _ = _; unfold blkB; rw [e1, e2, hP]; rfl
      have hp16 : P ≤ 16 := by have := pw_le (show ordOk o from p1); omega
      have HP : Hid (pw o = P) := hP
      clear hP
      go_enter Tryd.func47, Tryd.ntmps47
      go_wp2_with (go_at_call 21; refine (in_any _ _ _ _).mono ?_; rintro e w' ⟨rfl, rfl⟩)
      go_at_call 24
      refine (power_any _ o p1.1 (by omega)).mono ?_
      rintro e w' ⟨rfl, rfl⟩
      rw [HP.out]
      by_cases d : (A : Int) % (P : Int) = 0
      · have HR2 : Hid (blkB f t (A : Int) o = true) := by show _ = _; rw [HR.out]; exact decide_eq_true d
        clear HR HP
        go_wp2
        go_ret
        exact ⟨ret_bool HR2.out.symm, hb1⟩
      · have HR2 : Hid (blkB f t (A : Int) o = false) := by show _ = _; rw [HR.out]; exact decide_eq_false d
        clear HR HP
        go_wp2
        go_ret
        exact ⟨ret_bool (by rw [HR2.out]; simpa using d), hb1⟩
    · have e2 : inB a f (t - 1) = false := inB_f p2
      have HR : Hid (blkB f t a o = false) := by show _ = _; unfold blkB; rw [e1, e2]; rfl
      go_enter Tryd.func47, Tryd.ntmps47
      go_wp2_with (go_at_call 21; refine (in_any _ _ _ _).mono ?_; rintro e w' ⟨rfl, rfl⟩)
      go_ret
      exact ⟨ret_bool HR.out.symm, hb1⟩
  · have e1 : inB o 0 4 = false := inB_f p1
    have HR : Hid (blkB f t a o = false) := by show _ = _; unfold blkB; rw [e1]; rfl
    go_enter Tryd.func47, Tryd.ntmps47
    go_wp2_with (go_at_call 21; refine (in_any _ _ _ _).mono ?_; rintro e w' ⟨rfl, rfl⟩)
    go_ret
    exact ⟨ret_bool HR.out.symm, hb1⟩

end Go.Proofs.YtpfafhgllabhbaaDoor

/-
  OWN TEXT. Contract of the document's answer: words.
-/
namespace Go.Proofs.YtpfafhgllabhbaaDoor
open Go Go.RowKit Go.Proofs.YtpfafhgllabhbaaDoor.Kit

set_option maxHeartbeats 400000 in
theorem words_any (w : World) (ao : Option Addr) (n cap : Nat) (xs : List Int) (hn : xs.length = n) (hr : n * 8 ≤ 140737488351232) (hx : IntsAt w ao xs) :
    Calls Tryd.prog 13 #[.slice ao n cap] w fun e w' => ∃ bo c, e = .returned (.slice bo n c) ∧
      w'.ownsRow w.heap.size 3 1 (.slice bo n c) n (vals xs) ∧ Below w.heap.size w w' := by
  obtain ⟨i0, hi, hz0, hz1, hz2⟩ := info_parts info_int
  go_enter Tryd.func13, Tryd.ntmps13
  go_wp2
  go_loopw [3, 4] (fun v i wr => ∃ k : Nat, k ≤ n ∧ i = .int .i64 k ∧ wr.ownsRow w.heap.size 3 1 v k (vals (xs.take k)) ∧ Below w.heap.size w wr) (fun _ i _ => n - (intOf i).toNat)
  case atStart => exact ⟨0, Nat.zero_le _, rfl, World.ownsRow_nil _ _ _ _, Below.refl _ _⟩
  case round =>
    obtain ⟨k, hk, rfl, hown, hb⟩ := hrel
    by_cases hlt : k < n
    · obtain ⟨b, o, x, rfl, c, hX⟩ := (hx.below hb).at k (by omega)
      have hs := hb.size
      have hml : k + 1 ≤ maxLen := by unfold maxLen; omega
      clear hx
      go_wp2_with (at_builtin; refine wpList_append_own _ rfl (.tmp 11) (.tmp 16) 23 rfl w.heap.size 3 i0 (.int .i64 0) 1 8 Tryd.underlying23 hi hz0 hz1 hz2 rfl (by decide) _ _ _ rfl (hown.alloc _) ⟨wr.heap.size, 0, none⟩ 1 1 [.int .i64 x] rfl rfl ?c1 ?c2 hml ?c4 ?c5 ?_)
      case c1 => exact cell_one_new' _ _ _
      case c2 => exact ints_oneCell .i64 [_]
      case c4 => omega
      case c5 => simp; omega
      intro v' w1 hown' hgrow _
      rw [take_snoc xs k (by omega) hX.out] at hown'
      have hb' : Below w.heap.size w w1 := (hb.alloc hs _).grown hgrow (by simp; omega) (fun g hg => (hown.lt g hg).1)
      clear hown hgrow hb
      go_wp2
      go_roundw
      case rel => exact ⟨k + 1, by omega, by go_num, hown', hb'⟩
      case measure => simp [intOf]; omega
    · obtain rfl : k = n := by omega
      obtain ⟨bo, c, rfl⟩ := owns_shape hown
      go_wp2
      go_ret
      exact ⟨bo, c, rfl, by rw [List.take_of_length_le (by omega)] at hown; exact hown, hb⟩

end Go.Proofs.YtpfafhgllabhbaaDoor

/-
  OWN TEXT. Contracts of the document's answer: blocks, ZoneCopy.
-/
namespace Go.Proofs.YtpfafhgllabhbaaDoor
open Go Go.RowKit Go.Proofs.YtpfafhgllabhbaaDoor.Kit

set_option maxHeartbeats 1000000 in
theorem blocksCopy_any (w : World) (ao : Option Addr) (n cap : Nat) (l : List Bk) (h : Blks w ao n l) :
    Calls Tryd.prog 12 #[.slice ao n cap] w fun e w' => ∃ bo c, e = .returned (.slice bo n c) ∧
      w'.ownsRow w.heap.size 42 3 (.slice bo n c) n (bvals l) ∧ Below w.heap.size w w' := by
  obtain ⟨i0, hi, hz0, hz1, hz2⟩ := info_parts info_block
  obtain ⟨hn, hr, hx⟩ := h
  go_enter Tryd.func12, Tryd.ntmps12
  go_wp2
  go_loopw [3, 4] (fun v i wr => ∃ k : Nat, k ≤ n ∧ i = .int .i64 k ∧ wr.ownsRow w.heap.size 42 3 v k (bvals (l.take k)) ∧ Below w.heap.size w wr) (fun _ i _ => n - (intOf i).toNat)
  case atStart => exact ⟨0, Nat.zero_le _, rfl, World.ownsRow_nil _ _ _ _, Below.refl _ _⟩
  case round =>
    obtain ⟨k, hk, rfl, hown, hb⟩ := hrel
    have hs := hb.size
    by_cases hlt : k < n
    · obtain ⟨b, o, x, y, z, rfl, c1, c2, c3, hX⟩ := (hx.below hb).at k (by omega)
      have hml : k + 1 ≤ maxLen := by unfold maxLen; omega
      clear hx
      go_wp2_with (at_builtin; refine wpList_append_own _ rfl (.tmp 11) (.tmp 16) 22 rfl w.heap.size 42 i0 (.agg #[.int .i64 0, .int .i64 0, .int .i64 0]) 3 24 Tryd.underlying22 hi hz0 hz1 hz2 rfl (by decide) _ _ _ rfl (hown.alloc _) ⟨wr.heap.size, 0, none⟩ 1 1 [.int .i64 x, .int .i64 y, .int .i64 z] rfl rfl ?c1 ?c2 hml ?c4 ?c5 ?_)
      case c1 => exact cell_three_new _ _ _ _ _
      case c2 => exact ints_oneCell .i64 [_, _, _]
      case c4 => omega
      case c5 => simp; omega
      intro v' w1 hown' hgrow _
      rw [btake_snoc l k (by omega) hX.out] at hown'
      have hb' : Below w.heap.size w w1 := (hb.alloc hs _).grown hgrow (by simp; omega) (fun g hg => (hown.lt g hg).1)
      clear hown hgrow hb
      go_wp2
      go_roundw
      case rel => exact ⟨k + 1, by omega, by go_num, hown', hb'⟩
      case measure => simp [intOf]; omega
    · obtain rfl : k = n := by omega
      obtain ⟨bo, c, rfl⟩ := owns_shape hown
      go_wp2
      go_ret
      exact ⟨bo, c, rfl, by rw [List.take_of_length_le (by omega)] at hown; exact hown, hb⟩

/-- What is held while a zone is copied: the argument's block and what lies below it; the result's block may be written. -/
structure CopyS (w W0 wx : World) : Prop where
  b : Below (w.heap.size + 1) W0 wx
  r : Res4 wx (w.heap.size + 1)
  s : W0.heap.size ≤ wx.heap.size

/-- What lies in a cell. -/
def cont (wx : World) (b i : Nat) : Value := (wx.cell? ⟨b, i, none⟩).getD undef
theorem cont_eq {wx : World} {b i : Nat} (h : ∃ v, wx.cell? ⟨b, i, none⟩ = some v) : wx.cell? ⟨b, i, none⟩ = some (cont wx b i) := by
  obtain ⟨v, e⟩ := h
  unfold cont
  rw [e]; rfl

theorem CopyS.drew {w W0 : World} (h : CopyS w W0 W0) : CopyS w W0 W0.drew := ⟨h.b.drew, h.r.belowB (B := W0.heap.size) (Below.refl _ _).drew (by obtain ⟨v, e⟩ := h.r.d0; have := World.block_lt_of_cell? W0 _ e; exact this), h.s⟩
theorem CopyS.step {w W0 W W' : World} (h : CopyS w W0 W) (hb : Below W.heap.size W W') (hs : w.heap.size + 1 ≤ W.heap.size) : CopyS w W0 W' := ⟨h.b.trans (hb.mono hs), h.r.below hb, Nat.le_trans h.s hb.size⟩
theorem CopyS.store {w W0 W : World} (h : CopyS w W0 W) (x y u v : Value) : CopyS w W0 ((((W.setCell ⟨w.heap.size + 1, 0, none⟩ x).setCell ⟨w.heap.size + 1, 1, none⟩ y).setCell ⟨w.heap.size + 1, 2, none⟩ u).setCell ⟨w.heap.size + 1, 3, none⟩ v) := by
  obtain ⟨⟨v0, e0⟩, ⟨v1, e1⟩, ⟨v2, e2⟩, ⟨v3, e3⟩, z0, z1, z2, z3⟩ := h.r
  have hbt := but4 W (w.heap.size + 1) x y u v
  have hlt := World.block_lt_of_cell? W _ e0
  dsimp only at hlt
  exact ⟨h.b.trans (hbt.below (Nat.le_refl _) (by omega)), (ZBox.set4 ⟨e0, e1, e2, e3, z0, z1, z2, z3⟩ x y u v).res, Nat.le_trans h.s hbt.size⟩

set_option maxHeartbeats 2000000 in
theorem zoneCopy_any (w : World) (fo : Option Addr) (fn fc : Nat) (to_ : Option Addr) (tn tc : Nat) (z : Zn) (h : ZnAt w fo fn to_ tn z) :
    Calls Tryd.prog 5 #[.agg #[.int .i64 z.f, .int .i64 z.t, .slice fo fn fc, .slice to_ tn tc]] w fun e w' => RetZ w.heap.size w' z e ∧ Below w.heap.size w w' := by
  obtain ⟨f, t, free, types⟩ := z
  obtain ⟨hf, ht⟩ := h
  dsimp only at hf ht ⊢
  obtain ⟨W0, hW0⟩ : ∃ W0, (w.alloc (.cells #[.int .i64 f, .int .i64 t, .slice fo fn fc, .slice to_ tn tc] 25)).alloc (.cells #[.int .i64 0, .int .i64 0, .slice none 0 0, .slice none 0 0] 25) = W0 := ⟨_, rfl⟩
  have hb0 : Below w.heap.size w W0 := by rw [← hW0]; exact ((Below.refl _ _).alloc (Nat.le_refl _) _).alloc (by simp) _
  have Z0 : ZBox W0 w.heap.size (.int .i64 f) (.int .i64 t) (.slice fo fn fc) (.slice to_ tn tc) := by rw [← hW0]; exact (zbox_new w _ _ _ _ _).below (below_box _ _)
  have R0 : Res4 W0 (w.heap.size + 1) := by
    rw [← hW0]
    have := zbox_new (w.alloc (.cells #[.int .i64 f, .int .i64 t, .slice fo fn fc, .slice to_ tn tc] 25)) (.int .i64 0) (.int .i64 0) (.slice none 0 0) (.slice none 0 0) 25
    have h2 := this.res
    simpa using h2
  have hs0 : w.heap.size + 2 = W0.heap.size := by rw [← hW0]; simp
  have S0 : CopyS w W0 W0 := ⟨Below.refl _ _, R0, Nat.le_refl _⟩
  have hz := Z0.lt
  have q0 : ∀ wx, CopyS w W0 wx → wx.cell? ⟨w.heap.size, 0, none⟩ = some (.int .i64 f) := fun wx h => (h.b.cell (p := ⟨w.heap.size, 0, none⟩) (show w.heap.size < w.heap.size + 1 by omega)).trans Z0.c0
  have q1 : ∀ wx, CopyS w W0 wx → wx.cell? ⟨w.heap.size, 1, none⟩ = some (.int .i64 t) := fun wx h => (h.b.cell (p := ⟨w.heap.size, 1, none⟩) (show w.heap.size < w.heap.size + 1 by omega)).trans Z0.c1
  have q2 : ∀ wx, CopyS w W0 wx → wx.cell? ⟨w.heap.size, 2, none⟩ = some (.slice fo fn fc) := fun wx h => (h.b.cell (p := ⟨w.heap.size, 2, none⟩) (show w.heap.size < w.heap.size + 1 by omega)).trans Z0.c2
  have q3 : ∀ wx, CopyS w W0 wx → wx.cell? ⟨w.heap.size, 3, none⟩ = some (.slice to_ tn tc) := fun wx h => (h.b.cell (p := ⟨w.heap.size, 3, none⟩) (show w.heap.size < w.heap.size + 1 by omega)).trans Z0.c3
  have d0 : ∀ wx, CopyS w W0 wx → wx.cell? ⟨w.heap.size + 1, 0, none⟩ = some (cont wx (w.heap.size + 1) 0) := fun wx h => cont_eq h.r.d0
  have d1 : ∀ wx, CopyS w W0 wx → wx.cell? ⟨w.heap.size + 1, 1, none⟩ = some (cont wx (w.heap.size + 1) 1) := fun wx h => cont_eq h.r.d1
  have d2 : ∀ wx, CopyS w W0 wx → wx.cell? ⟨w.heap.size + 1, 2, none⟩ = some (cont wx (w.heap.size + 1) 2) := fun wx h => cont_eq h.r.d2
  have d3 : ∀ wx, CopyS w W0 wx → wx.cell? ⟨w.heap.size + 1, 3, none⟩ = some (cont wx (w.heap.size + 1) 3) := fun wx h => cont_eq h.r.d3
  have z0 : ∀ wx, CopyS w W0 wx → wx.frozen? ⟨w.heap.size + 1, 0, none⟩ = false := fun wx h => h.r.z0
  have z1 : ∀ wx, CopyS w W0 wx → wx.frozen? ⟨w.heap.size + 1, 1, none⟩ = false := fun wx h => h.r.z1
  have z2 : ∀ wx, CopyS w W0 wx → wx.frozen? ⟨w.heap.size + 1, 2, none⟩ = false := fun wx h => h.r.z2
  have z3 : ∀ wx, CopyS w W0 wx → wx.frozen? ⟨w.heap.size + 1, 3, none⟩ = false := fun wx h => h.r.z3
  have HB : Hid (∀ W, CopyS w W0 W → Calls Tryd.prog 12 #[.slice fo fn fc] W fun e w' => ∃ bo c, e = .returned (.slice bo fn c) ∧ (Blks w' bo fn free ∧ Fresh W0.heap.size bo ∧ Below W.heap.size W w') ∧ CopyS w W0 w') := fun W hS => by
    have hs := hS.s
    refine (blocksCopy_any W fo fn fc free (hf.below (hb0.trans (hS.b.mono (by omega))))).mono ?_
    rintro e w' ⟨bo, c, rfl, own, hb⟩
    exact ⟨bo, c, rfl, ⟨blks_own own hf.reach, (owns_fresh own).mono hs, hb⟩, hS.step hb (by omega)⟩
  have HW : Hid (∀ W, CopyS w W0 W → Calls Tryd.prog 13 #[.slice to_ tn tc] W fun e w' => ∃ bo c, e = .returned (.slice bo tn c) ∧ (Nums w' bo tn types ∧ Fresh W0.heap.size bo ∧ Below W.heap.size W w') ∧ CopyS w W0 w') := fun W hS => by
    have hs := hS.s
    refine (words_any W to_ tn tc types ht.len ht.reach (ht.below (hb0.trans (hS.b.mono (by omega)))).at_).mono ?_
    rintro e w' ⟨bo, c, rfl, own, hb⟩
    exact ⟨bo, c, rfl, ⟨nums_of_owns own ht.reach, (owns_fresh own).mono hs, hb⟩, hS.step hb (by omega)⟩
  go_enter Tryd.func5, Tryd.ntmps5
  go_wp2_with fail
  clear hf ht hW0 Z0 R0 hz
  go_region_held3 (fun wx => CopyS w W0 wx) (first | assumption | exact CopyS.drew (by assumption) | exact CopyS.store (by assumption) _ _ _ _)
    (first
      | (go_at_call 12; refine (HB.out _ ?_).mono ?_; assumption; rintro e w3 ⟨bo, c, rfl, g1, hS3⟩)
      | (go_at_call 13; refine (HW.out _ ?_).mono ?_; assumption; rintro e w4 ⟨bo2, c2, rfl, g2, hS4⟩))
  obtain ⟨g11, g12, g13⟩ := g1
  obtain ⟨g21, g22, g23⟩ := g2
  have hR4 := hS4.r
  have hB4 := hb0.trans (hS4.b.mono (Nat.le_succ _))
  replace g11 := g11.below g23
  have hs4 := hS4.s
  clear q0 q1 q2 q3 d0 d1 d2 d3 z0 z1 z2 z3 HB HW S0 hS3 hS4
  go_wp2
  obtain ⟨k0, k1, k2, k3⟩ := res4 hR4 (.int .i64 f) (.int .i64 t) (.slice bo fn c) (.slice bo2 tn c2)
  have hbt := but4 w4 (w.heap.size + 1) (.int .i64 f) (.int .i64 t) (.slice bo fn c) (.slice bo2 tn c2)
  refine bodyPost_ret (v := .agg #[.int .i64 f, .int .i64 t, .slice bo fn c, .slice bo2 tn c2]) (by simp [results, Tryd.results5, go_sem, k0, k1, k2, k3]) rfl ⟨⟨bo, fn, c, bo2, tn, c2, rfl, ?_, g12.mono (by omega), g22.mono (by omega)⟩, hB4.trans (hbt.below (by omega) (by omega))⟩
  exact hbt.zn ⟨g11, g21⟩ (fun a ha => by have := g12 a ha; omega) (fun a ha => by have := g22 a ha; omega)

end Go.Proofs.YtpfafhgllabhbaaDoor

/-
  OWN TEXT. Pages come back one by one: plain mathematics.
-/
namespace Go.Proofs.YtpfafhgllabhbaaDoor.Kit

/-- n pages, from p on, come back one by one; none: one of them is free. -/
def giveK : Nat → Zn → Int → Option Zn
  | 0, z, _ => some z
  | n + 1, z, p => if z.free.any (ovl1 (p + pw 0) p) = true then none else giveK n (backZ z p 0) (p + 1)

/-- What may be given. -/
def giveOk (z : Zn) (a s : Int) : Prop := z.f ≤ a ∧ a ≤ z.t ∧ 0 ≤ s ∧ s ≤ z.t - a

theorem page_in {z : Zn} {p : Int} (h1 : z.f ≤ p) (h2 : p < z.t) : blkIn z.f z.t p 0 := ⟨⟨by omega, by omega⟩, h1, by omega, by rw [pw_0]; omega⟩
theorem give_none {n : Nat} {z : Zn} {p : Int} (h : ovlP z.free p 0) : giveK (n + 1) z p = none := by
  unfold giveK
  rw [if_pos ((ovl_any z.free p 0).2 h)]
theorem give_some {n : Nat} {z : Zn} {p : Int} (h : ¬ ovlP z.free p 0) : giveK (n + 1) z p = giveK n (backZ z p 0) (p + 1) := by
  show (if _ then _ else _) = _
  rw [if_neg (fun g => h ((ovl_any z.free p 0).1 g))]

end Go.Proofs.YtpfafhgllabhbaaDoor.Kit

/-
  OWN TEXT. How many blocks have a page: plain mathematics.
-/
namespace Go.Proofs.YtpfafhgllabhbaaDoor.Kit

/-- Is a page in a block? -/
def hit (a o p : Int) : Nat := if a ≤ p ∧ p < a + pw o then 1 else 0
/-- How many blocks have a page. -/
def cnt : List Bk → Int → Nat
  | [], _ => 0
  | b :: l, p => hit b.a b.o p + cnt l p

theorem cnt_append (l m : List Bk) (p : Int) : cnt (l ++ m) p = cnt l p + cnt m p := by
  induction l with
  | nil => simp [cnt]
  | cons b l ih => simp only [List.cons_append, cnt, ih]; omega
theorem cnt_one (b : Bk) (p : Int) : cnt [b] p = hit b.a b.o p := by simp [cnt]

theorem rise_ne {b : Bk} {l : List Bk} (h : (b :: l).Pairwise Ahead) : ∀ x ∈ l, x.a ≠ b.a := fun x hx => by
  have := ((List.pairwise_cons.1 h).1 x hx).1
  have := pw_pos b.o
  omega
theorem drop_same {l : List Bk} {a o : Int} (h : ∀ x ∈ l, x.a ≠ a) : dropB l a o = l := by
  unfold dropB
  rw [List.filter_eq_self]
  intro b hb
  have : isB a o b = false := decide_eq_false (fun g => h b hb g.1)
  rw [this]; rfl

theorem cnt_drop {l : List Bk} (hl : l.Pairwise Ahead) {a o : Int} (h : hasB l a o = true) (p : Int) : cnt l p = cnt (dropB l a o) p + hit a o p := by
  induction l with
  | nil => simp [hasB] at h
  | cons b l ih =>
    by_cases hb : isB a o b = true
    · obtain ⟨e1, e2⟩ := of_decide_eq_true hb
      have e : dropB (b :: l) a o = dropB l a o := by unfold dropB; rw [List.filter_cons]; simp [hb]
      rw [e, drop_same (fun x hx => by rw [← e1]; exact rise_ne hl x hx)]
      simp only [cnt, e1, e2]
      omega
    · have hb' : isB a o b = false := by simpa using hb
      have e : dropB (b :: l) a o = b :: dropB l a o := by unfold dropB; rw [List.filter_cons]; simp [hb']
      have h' : hasB l a o = true := by simpa [hasB, hb'] using h
      rw [e]
      simp only [cnt, ih (List.pairwise_cons.1 hl).2 h']
      omega

theorem cnt_add (l : List Bk) (b : Bk) (p : Int) : cnt (addB l b) p = cnt l p + hit b.a b.o p := by
  induction l with
  | nil => simp [addB, cnt]
  | cons x l ih =>
    unfold addB
    split
    · simp only [cnt]; omega
    · simp only [cnt, ih]; omega

theorem hit_join {a o : Int} (h0 : 0 ≤ o) (h4 : o < 4) (hm : a % pw o = 0) (p : Int) : (if besideA a o < a then besideA a o else a) % pw (o + 1) = 0 ∧ hit (if besideA a o < a then besideA a o else a) (o + 1) p = hit a o p + hit (besideA a o) o p := by
  obtain ⟨e, h | h⟩ := beside_cases h0 h4 hm
  · have hp := pw_pos o
    rw [h.2, if_neg (by omega)]
    refine ⟨h.1, ?_⟩
    unfold hit
    rw [e]
    repeat' split
    all_goals omega
  · have hp := pw_pos o
    rw [h.2.1, if_pos (by omega)]
    refine ⟨?_, ?_⟩
    · have h3 := h.2.2
      rw [e] at h3 ⊢
      have := Int.emod_add_mul_ediv a (2 * pw o)
      rw [h3] at this
      have e2 : a - pw o = 2 * pw o * (a / (2 * pw o)) := by omega
      rw [e2]
      exact Int.mul_emod_right _ _
    · unfold hit
      rw [e]
      repeat' split
      all_goals omega

theorem drop_ahead {l : List Bk} (h : l.Pairwise Ahead) (a o : Int) : (dropB l a o).Pairwise Ahead := List.Pairwise.filter _ h

theorem cnt_go : ∀ (n : Nat) (l : List Bk) (a o : Int), (4 - o).toNat = n → 0 ≤ o → a % pw o = 0 → l.Pairwise Ahead → ∀ p, cnt (backGo n l a o).1 p + hit (backGo n l a o).2.1 (backGo n l a o).2.2 p = cnt l p + hit a o p := by
  intro n
  induction n with
  | zero => intro l a o _ _ _ _ p; rfl
  | succ n ih =>
    intro l a o hn h0 hm hl p
    unfold backGo
    split
    · rename_i hb
      obtain ⟨j1, j2⟩ := hit_join h0 (by omega) hm p
      rw [ih _ _ _ (by omega) (by omega) j1 (drop_ahead hl _ _) p, j2, cnt_drop hl hb p]
      omega
    · rfl

theorem cnt_back {z : Zn} {a o : Int} (h : z.free.Pairwise Ahead) (h0 : 0 ≤ o) (hm : a % pw o = 0) (p : Int) : cnt (backZ z a o).free p = cnt z.free p + hit a o p := by
  show cnt (addB _ _) p = _
  rw [cnt_add]
  exact cnt_go (4 - o).toNat z.free a o rfl h0 hm h p

theorem cnt_halves (a t o : Int) (h0 : 0 ≤ o) (m : Nat) (p : Int) : cnt (halvesL a t o m) p + hit a o p = hit a (o + m) p := by
  induction m with
  | zero => simp [halvesL, cnt]
  | succ m ih =>
    have e : pw (o + ((m + 1 : Nat) : Int)) = 2 * pw (o + m) := by
      rw [show o + ((m + 1 : Nat) : Int) = o + m + 1 by omega]
      exact pw_succ _ (by omega)
    have hp := pw_pos (o + m)
    simp only [halvesL, cnt_append, cnt_one]
    have k : hit a (o + ((m + 1 : Nat) : Int)) p = hit a (o + m) p + hit (a + pw (o + m)) (o + m) p := by
      unfold hit
      rw [e]
      repeat' split
      all_goals omega
    omega

theorem cnt_steal (f F L t : Int) (l : List Bk) (p : Int) : cnt (l.map (stealB f F L t)) p = cnt l p := by
  induction l with
  | nil => rfl
  | cons b l ih => simp only [List.map_cons, cnt, ih, stealB_a, stealB_o]

theorem cnt_put {l h : List Bk} {i : Nat} (hi : i < l.length) {o : Int} (p : Int) (hh : cnt h p + hit (l.getD i .zero).a o p = hit (l.getD i .zero).a (l.getD i .zero).o p) :
    cnt (l.take i ++ (h ++ l.drop (i + 1))) p + hit (l.getD i .zero).a o p = cnt l p := by
  have e : cnt l p = cnt (l.take i) p + (hit (l.getD i .zero).a (l.getD i .zero).o p + cnt (l.drop (i + 1)) p) := by
    conv => lhs; rw [cut_at l hi]
    rw [cnt_append]
    rfl
  rw [e, cnt_append, cnt_append]
  omega

theorem cnt_take {z : Zn} {o t : Int} {i : Nat} (hi : i < z.free.length) (h0 : 0 ≤ o) (ho : o ≤ (z.free.getD i .zero).o) (p : Int) : cnt (takeZ z o t i).free p + hit (z.free.getD i .zero).a o p = cnt z.free p := by
  have e : o + (((z.free.getD i .zero).o - o).toNat : Int) = (z.free.getD i .zero).o := by omega
  have hh : ∀ u, cnt (halvesL (z.free.getD i .zero).a u o ((z.free.getD i .zero).o - o).toNat) p + hit (z.free.getD i .zero).a o p = hit (z.free.getD i .zero).a (z.free.getD i .zero).o p := fun u => by
    rw [cnt_halves _ _ _ h0, e]
  unfold takeZ
  dsimp only
  split
  · have k := cnt_put (l := z.free.map (stealB z.f (grpF z (z.free.getD i .zero)) (grpL z (z.free.getD i .zero)) t)) (h := halvesL (z.free.getD i .zero).a t o ((z.free.getD i .zero).o - o).toNat) (i := i) (by simpa using hi) (o := o) p (by rw [map_getD _ hi, stolen_self]; exact hh t)
    rw [map_getD _ hi, stolen_self, cnt_steal] at k
    exact k
  · exact cnt_put hi p (hh _)

theorem cnt_ge {l : List Bk} {i : Nat} (hi : i < l.length) (p : Int) : hit (l.getD i .zero).a (l.getD i .zero).o p ≤ cnt l p := by
  rw [cut_at l hi, cnt_append]
  simp only [cnt]
  have e : (l.take i ++ l.getD i .zero :: l.drop (i + 1)).getD i .zero = l.getD i .zero := by rw [← cut_at l hi]
  rw [e]
  omega

/-- A block whose pages are in no other one overlaps none. -/
theorem no_ovl {l : List Bk} {a o : Int} (h : ∀ p, cnt l p + hit a o p ≤ 1) : ¬ ovlP l a o := by
  rintro ⟨i, hi, h1, h2⟩
  have hp := pw_pos o
  have hq := pw_pos (l.getD i .zero).o
  by_cases c : a ≤ (l.getD i .zero).a
  · have k := h (l.getD i .zero).a
    have g := cnt_ge hi (l.getD i .zero).a
    have e1 : hit (l.getD i .zero).a (l.getD i .zero).o (l.getD i .zero).a = 1 := if_pos ⟨by omega, by omega⟩
    have e2 : hit a o (l.getD i .zero).a = 1 := if_pos ⟨c, h1⟩
    omega
  · have k := h a
    have g := cnt_ge hi a
    have e1 : hit (l.getD i .zero).a (l.getD i .zero).o a = 1 := if_pos ⟨by omega, h2⟩
    have e2 : hit a o a = 1 := if_pos ⟨by omega, by omega⟩
    omega

/-- Pages that come back one by one. -/
theorem give_cnt : ∀ (n : Nat) (z : Zn) (a : Int), ZMay z → z.f ≤ a → a + n ≤ z.t → (∀ p, a ≤ p → cnt z.free p = 0) →
    ∃ Y, giveK n z a = some Y ∧ ZMay Y ∧ Y.f = z.f ∧ Y.t = z.t ∧ Y.types = z.types ∧ ∀ p, cnt Y.free p = cnt z.free p + (if a ≤ p ∧ p < a + n then 1 else 0) := by
  intro n
  induction n with
  | zero =>
    intro z a hM _ _ _
    refine ⟨z, rfl, hM, rfl, rfl, rfl, fun p => ?_⟩
    rw [if_neg (by omega)]
    rfl
  | succ n ih =>
    intro z a hM h1 h2 h3
    have hin := page_in (z := z) (p := a) h1 (by omega)
    have hah := (free_iff.1 hM.free).2
    have hno : ¬ ovlP z.free a 0 := by
      rintro ⟨i, hi, g1, g2⟩
      rw [pw_0] at g1
      have hq := pw_pos (z.free.getD i .zero).o
      have := h3 ((z.free.getD i .zero).a + pw (z.free.getD i .zero).o - 1) (by omega)
      have g := cnt_ge hi ((z.free.getD i .zero).a + pw (z.free.getD i .zero).o - 1)
      have e1 : hit (z.free.getD i .zero).a (z.free.getD i .zero).o ((z.free.getD i .zero).a + pw (z.free.getD i .zero).o - 1) = 1 := if_pos ⟨by omega, by omega⟩
      omega
    rw [give_some hno]
    have hc : ∀ p, cnt (backZ z a 0).free p = cnt z.free p + hit a 0 p := fun p => cnt_back hah (by omega) (by rw [pw_0]; omega) p
    obtain ⟨Y, e, k1, k2, k3, k4, k5⟩ := ih (backZ z a 0) (a + 1) (backZ_may hM hin hno) (by show z.f ≤ _; omega) (by show _ ≤ z.t; omega) (fun p hp => by
      rw [hc, h3 p (by omega)]
      unfold hit
      rw [pw_0, if_neg (by omega)])
    refine ⟨Y, e, k1, k2, k3, k4, fun p => ?_⟩
    rw [k5, hc]
    unfold hit
    rw [pw_0]
    repeat' split
    all_goals omega

end Go.Proofs.YtpfafhgllabhbaaDoor.Kit

/-
  OWN TEXT. A zone from which blocks were taken, and to which some came back: plain mathematics.
-/
namespace Go.Proofs.YtpfafhgllabhbaaDoor.Kit

/-- The zone, and the blocks that are away: no page is in two, all others are free. -/
structure ZI (z : Zn) (aw : List Bk) : Prop where
  may : ZMay z
  f : z.f = 16
  t : z.t = 112
  all : ∀ b ∈ aw, blkIn 16 112 b.a b.o
  cnt : ∀ p, cnt z.free p + cnt aw p = if 18 ≤ p ∧ p < 108 then 1 else 0

theorem ZI.sum {z : Zn} {aw : List Bk} (h : ZI z aw) (p : Int) : Kit.cnt z.free p + Kit.cnt aw p ≤ 1 := by
  rw [h.cnt p]
  split <;> omega

theorem getD_mem {l : List Bk} {k : Nat} (h : k < l.length) : l.getD k .zero ∈ l := by
  rw [List.getD_eq_getElem?_getD, List.getElem?_eq_getElem h]
  exact List.getElem_mem _

theorem cnt_erase {l : List Bk} {k : Nat} (h : k < l.length) (p : Int) : cnt (l.eraseIdx k) p + hit (l.getD k .zero).a (l.getD k .zero).o p = cnt l p := by
  have e : cnt l p = cnt (l.take k) p + (hit (l.getD k .zero).a (l.getD k .zero).o p + cnt (l.drop (k + 1)) p) := by
    conv => lhs; rw [cut_at l h]
    rw [cnt_append]
    rfl
  rw [e, List.eraseIdx_eq_take_drop_succ, cnt_append]
  omega

theorem zi_back {z : Zn} {aw : List Bk} (h : ZI z aw) {k : Nat} (hk : k < aw.length) {a o t : Int} (hb : aw.getD k .zero = ⟨a, o, t⟩) :
    blkIn z.f z.t a o ∧ ¬ ovlP z.free a o ∧ ZI (backZ z a o) (aw.eraseIdx k) := by
  have hin := h.all _ (getD_mem hk)
  rw [hb] at hin
  dsimp only at hin
  have hin' : blkIn z.f z.t a o := by rw [h.f, h.t]; exact hin
  have hc : ∀ p, cnt (aw.eraseIdx k) p + hit a o p = cnt aw p := fun p => by
    have := cnt_erase hk p
    rw [hb] at this
    exact this
  have hno : ¬ ovlP z.free a o := no_ovl fun p => by have := h.sum p; have := hc p; omega
  have hah := (free_iff.1 h.may.free).2
  refine ⟨hin', hno, backZ_may h.may hin' hno, h.f, h.t, fun b hb => h.all b (List.mem_of_mem_eraseIdx hb), fun p => ?_⟩
  rw [cnt_back hah hin.1.1 hin.2.2.2 p, ← h.cnt p, ← hc p]
  omega

theorem mod_down {a o b : Int} (hb : ordOk b) (h0 : 0 ≤ o) (h1 : o ≤ b) (h : a % pw b = 0) : a % pw o = 0 := by
  rcases ord_cases hb with ⟨rfl, e⟩ | ⟨rfl, e⟩ | ⟨rfl, e⟩ | ⟨rfl, e⟩ | ⟨rfl, e⟩ <;> rw [e] at h <;>
    rcases ord_cases (o := o) ⟨h0, by omega⟩ with ⟨rfl, e'⟩ | ⟨rfl, e'⟩ | ⟨rfl, e'⟩ | ⟨rfl, e'⟩ | ⟨rfl, e'⟩ <;> rw [e'] <;> omega

theorem zi_take {z : Zn} {aw : List Bk} (h : ZI z aw) {o t : Int} (ho : ordOk o) (ht : typeOk t) {i : Nat} (hC : chooseI z.free o t = i) :
    ZI (takeZ z o t i) (aw ++ [⟨(z.free.getD i .zero).a, o, 0⟩]) := by
  obtain ⟨j, e, hj, hob⟩ := choose_in (l := z.free) (o := o) (t := t) (by omega)
  obtain rfl : j = i := by omega
  obtain ⟨⟨b1, a1, a2, a3⟩, b2, _⟩ := freeOk_at h.may.free hj rfl
  have hM := takeZ_may h.may ho.1 ht hj b2 a1
  have hf : (takeZ z o t j).f = z.f := by unfold takeZ; dsimp only; split <;> rfl
  have htt : (takeZ z o t j).t = z.t := by unfold takeZ; dsimp only; split <;> rfl
  refine ⟨hM, hf.trans h.f, htt.trans h.t, fun b hb => ?_, fun p => ?_⟩
  · rcases List.mem_append.1 hb with hb | hb
    · exact h.all b hb
    · rw [List.mem_singleton] at hb
      subst hb
      dsimp only
      rw [h.f] at a1
      rw [h.t] at a2
      exact ⟨ho, a1, a2, mod_down b1 ho.1 hob a3⟩
  · rw [cnt_append, cnt_one, ← h.cnt p, ← cnt_take (t := t) hj ho.1 hob p]
    dsimp only
    omega

/-- The zone at the beginning. -/
def firstZ : Option Zn := giveK 90 (newZ 16 112) 18

theorem newZ_may {f t : Int} (h : newOk f t) : ZMay (newZ f t) := by
  obtain ⟨h1, h2, h3, h4, h5⟩ := h
  refine ⟨⟨h1, h2, h3, h4, h5⟩, ?_, ?_, trivial⟩
  · show 8 * ((newTypes f t).length : Int) = t - f
    unfold newTypes
    rw [List.length_replicate]
    omega
  · intro i hi
    have hi' : i < (newTypes f t).length := hi
    show typeOk ((newTypes f t).getD i 0)
    unfold newTypes at hi' ⊢
    rw [List.length_replicate] at hi'
    rw [List.getD_eq_getElem?_getD, List.getElem?_replicate, if_pos hi']
    exact ⟨by decide, by decide⟩

theorem zi_first : ∃ Y, firstZ = some Y ∧ ZI Y [] := by
  have hn : newOk 16 112 := ⟨by omega, by omega, by omega, by omega, by omega⟩
  obtain ⟨Y, e, k1, k2, k3, _, k5⟩ := give_cnt 90 (newZ 16 112) 18 (newZ_may hn) (by show (16 : Int) ≤ 18; omega) (by show (18 : Int) + (90 : Nat) ≤ 112; omega) (fun p _ => rfl)
  refine ⟨Y, e, k1, k2, k3, fun b hb => by simp at hb, fun p => ?_⟩
  rw [k5]
  have e0 : cnt (newZ 16 112).free p = 0 := rfl
  have e1 : cnt ([] : List Bk) p = 0 := rfl
  rw [e0, e1]
  simp only [Nat.zero_add, Nat.add_zero]
  split <;> split <;> omega

end Go.Proofs.YtpfafhgllabhbaaDoor.Kit

/-
  OWN TEXT. What paddockkeep.zoned holds in its variables.
-/
namespace Go.Proofs.YtpfafhgllabhbaaDoor
open Go Go.RowKit Go.Proofs.YtpfafhgllabhbaaDoor.Kit

/-- No element lies in the block. -/
def Apt (ao : Option Addr) (n g : Nat) : Prop := n = 0 ∨ ∀ a, ao = some a → a.block ≠ g
theorem Apt.fresh {ao : Option Addr} {n g B : Nat} (h : Fresh B ao) (hg : g < B) : Apt ao n g := .inr fun a ha => by have := h a ha; omega
theorem Blks.apt {w w' : World} {ao : Option Addr} {n g : Nat} {l : List Bk} (h : Blks w ao n l) (hb : But g w w') (ha : Apt ao n g) : Blks w' ao n l := by
  refine ⟨h.len, h.reach, fun i hi => ?_⟩
  obtain ⟨b, o, e, c1, c2, c3⟩ := h.at_ i hi
  have hne : b ≠ g := by
    rcases ha with q | q
    · have := h.len; omega
    · exact q _ e
  exact ⟨b, o, e, hb.cell c1 hne, hb.cell c2 hne, hb.cell c3 hne⟩
theorem Nums.apt {w w' : World} {ao : Option Addr} {n g : Nat} {l : List Int} (h : Nums w ao n l) (hb : But g w w') (ha : Apt ao n g) : Nums w' ao n l := by
  refine ⟨h.len, h.reach, fun i hi => ?_⟩
  obtain ⟨b, o, e, c1⟩ := h.at_ i hi
  have hne : b ≠ g := by
    rcases ha with q | q
    · have := h.len; omega
    · exact q _ e
  exact ⟨b, o, e, hb.cell c1 hne⟩
theorem ZnAt.apt {w w' : World} {fo to_ : Option Addr} {fn tn g : Nat} {z : Zn} (h : ZnAt w fo fn to_ tn z) (hb : But g w w') (h1 : Apt fo fn g) (h2 : Apt to_ tn g) : ZnAt w' fo fn to_ tn z := ⟨Blks.apt h.free hb h1, Nums.apt h.types hb h2⟩
theorem apt_blks {w : World} {ao : Option Addr} {n g : Nat} {l : List Bk} (h : Blks w ao n l) (hg : w.heap.size ≤ g) : Apt ao n g := by
  by_cases h0 : n = 0
  · exact .inl h0
  · refine .inr fun a ha => ?_
    obtain ⟨b, o, e, c1, _⟩ := h.at_ 0 (by have := h.len; omega)
    have := World.block_lt_of_cell? w _ c1
    rw [e] at ha
    cases ha
    dsimp only at this ⊢
    omega
theorem apt_nums {w : World} {ao : Option Addr} {n g : Nat} {l : List Int} (h : Nums w ao n l) (hg : w.heap.size ≤ g) : Apt ao n g := by
  by_cases h0 : n = 0
  · exact .inl h0
  · refine .inr fun a ha => ?_
    obtain ⟨b, o, e, c1⟩ := h.at_ 0 (by have := h.len; omega)
    have := World.block_lt_of_cell? w _ c1
    rw [e] at ha
    cases ha
    dsimp only at this ⊢
    omega

/-- The variables of zoned: the result's, the zone's, the row of what is away. -/
structure KzI (w : World) (zb : Nat) (z : Zn) (aw : List Bk) (fo : Option Addr) (fn fc : Nat) (to_ : Option Addr) (tn tc : Nat) (ao : Option Addr) (m cap : Nat) (W : World) : Prop where
  b : Below w.heap.size w W
  res : Res4 W w.heap.size
  zb1 : w.heap.size < zb
  box : ZBox W zb (.int .i64 z.f) (.int .i64 z.t) (.slice fo fn fc) (.slice to_ tn tc)
  zn : ZnAt W fo fn to_ tn z
  own : W.ownsRow (zb + 1) 42 3 (.slice ao m cap) m (bvals aw)
  a1 : ∀ g, ao = some g → Apt fo fn g.block ∧ Apt to_ tn g.block
  a2 : Fresh (w.heap.size + 1) fo
  a3 : Fresh (w.heap.size + 1) to_

theorem KzI.below {w : World} {zb : Nat} {z : Zn} {aw : List Bk} {fo : Option Addr} {fn fc : Nat} {to_ : Option Addr} {tn tc : Nat} {ao : Option Addr} {m cap : Nat} {W W' : World} (h : KzI w zb z aw fo fn fc to_ tn tc ao m cap W) (hb : Below W.heap.size W W') : KzI w zb z aw fo fn fc to_ tn tc ao m cap W' :=
  ⟨h.b.trans (hb.mono h.b.size), h.res.below hb, h.zb1, h.box.below hb, h.zn.below hb, owns_below h.own hb (Nat.le_refl _), h.a1, h.a2, h.a3⟩

/-- A row that the call owns, in a world in which another block was written. -/
theorem row_but {w w' : World} {base : Nat} {ao : Option Addr} {m cap c : Nat} {xs : List Value} {e : TypeId} {k : Nat} (h : w.ownsRow base e k (.slice ao m cap) m xs) (hb : But c w w') (hc : c < base) : w'.ownsRow base e k (.slice ao m cap) m xs := by
  refine ⟨h.1, ?_⟩
  rcases h.2 with hn | ⟨g, cap', cur, e1, hbg, hg, rest⟩
  · exact .inl hn
  · exact .inr ⟨g, cap', cur, e1, hbg, (hb.block g (Array.getElem?_eq_some_iff.1 hg).1 (by omega)).trans hg, rest⟩

/-- The zone's variable gets another zone. -/
theorem KzI.newZone {w : World} {zb : Nat} {z y : Zn} {aw : List Bk} {fo fo' : Option Addr} {fn fc fn' fc' : Nat} {to_ to' : Option Addr} {tn tc tn' tc' : Nat} {ao : Option Addr} {m cap : Nat} {W V : World} (h : KzI w zb z aw fo fn fc to_ tn tc ao m cap W) (hb : Below W.heap.size W V) (hz : ZnAt V fo' fn' to' tn' y) (f1 : Fresh W.heap.size fo') (f2 : Fresh W.heap.size to') :
    KzI w zb y aw fo' fn' fc' to' tn' tc' ao m cap ((((V.setCell ⟨zb, 0, none⟩ (.int .i64 y.f)).setCell ⟨zb, 1, none⟩ (.int .i64 y.t)).setCell ⟨zb, 2, none⟩ (.slice fo' fn' fc')).setCell ⟨zb, 3, none⟩ (.slice to' tn' tc')) := by
  have h' := h.below hb
  have hzl := h.box.lt
  have hbt := but4 V zb (.int .i64 y.f) (.int .i64 y.t) (.slice fo' fn' fc') (.slice to' tn' tc')
  have hs := h.b.size
  have hs' := h'.b.size
  have z1 := h.zb1
  refine ⟨h'.b.trans (hbt.below (by omega) hs'), h'.res.but hbt (by omega), h.zb1, h'.box.set4 _ _ _ _, ZnAt.apt hz hbt (.fresh f1 hzl) (.fresh f2 hzl), row_but h'.own hbt (by omega), fun g hg => ?_, f1.mono (by omega), f2.mono (by omega)⟩
  have hg' : g.block < W.heap.size := by
    rcases h.own.2 with ⟨e, _⟩ | ⟨g', cap', cur, e, hbg, hgg, _⟩
    · simp only [Value.slice.injEq] at e
      rw [e.1] at hg
      cases hg
    · simp only [Value.slice.injEq] at e
      rw [e.1] at hg
      cases hg
      exact (Array.getElem?_eq_some_iff.1 hgg).1
  exact ⟨.fresh f1 hg', .fresh f2 hg'⟩

/-- The row of what is away is written. -/
theorem KzI.newRow {w : World} {zb : Nat} {z : Zn} {aw aw' : List Bk} {fo : Option Addr} {fn fc : Nat} {to_ : Option Addr} {tn tc : Nat} {g m cap m' cap' : Nat} {W V : World} (h : KzI w zb z aw fo fn fc to_ tn tc (some ⟨g, 0, none⟩) m cap W) (hb : But g W V) (hg : zb < g) (ho : V.ownsRow (zb + 1) 42 3 (.slice (some ⟨g, 0, none⟩) m' cap') m' (bvals aw')) :
    KzI w zb z aw' fo fn fc to_ tn tc (some ⟨g, 0, none⟩) m' cap' V := by
  obtain ⟨p1, p2⟩ := h.a1 _ rfl
  have z1 := h.zb1
  exact ⟨h.b.trans (hb.below (by omega) h.b.size), h.res.but hb (by omega), h.zb1, h.box.but hb (by omega), ZnAt.apt h.zn hb p1 p2, ho, fun g' hg' => by cases hg'; exact ⟨p1, p2⟩, h.a2, h.a3⟩

/-- The row of what is away grows, in its place or in a new one. -/
theorem KzI.grown {w : World} {zb : Nat} {z : Zn} {aw aw' : List Bk} {fo : Option Addr} {fn fc : Nat} {to_ : Option Addr} {tn tc : Nat} {ao : Option Addr} {g' m cap m' cap' : Nat} {W V : World} (h : KzI w zb z aw fo fn fc to_ tn tc ao m cap W) (ho : V.ownsRow (zb + 1) 42 3 (.slice (some ⟨g', 0, none⟩) m' cap') m' (bvals aw')) (hc : (ao = some ⟨g', 0, none⟩ ∧ But g' W V) ∨ (g' = W.heap.size ∧ Below W.heap.size W V)) :
    KzI w zb z aw' fo fn fc to_ tn tc (some ⟨g', 0, none⟩) m' cap' V := by
  rcases hc with ⟨rfl, hb⟩ | ⟨rfl, hb⟩
  · exact h.newRow hb (owns_fresh ho _ rfl) ho
  · have h' := h.below hb
    exact ⟨h'.b, h'.res, h'.zb1, h'.box, h'.zn, ho, fun g hg => by cases hg; exact ⟨apt_blks h.zn.free (Nat.le_refl _), apt_nums h.zn.types (Nat.le_refl _)⟩, h'.a2, h'.a3⟩

end Go.Proofs.YtpfafhgllabhbaaDoor

/-
  OWN TEXT. Contract of the document's answer: ZoneCopy, whose rows the caller owns.
-/
namespace Go.Proofs.YtpfafhgllabhbaaDoor
open Go Go.RowKit Go.Proofs.YtpfafhgllabhbaaDoor.Kit

/-- A zone is returned whose rows lie in new memory, each in its own. -/
def RetOwn (B : Nat) (w' : World) (z : Zn) (fn tn : Nat) (e : Ending) : Prop :=
  ∃ fo fc to_ tc, e = .returned (.agg #[.int .i64 z.f, .int .i64 z.t, .slice fo fn fc, .slice to_ tn tc]) ∧ w'.ownsRow B 42 3 (.slice fo fn fc) fn (bvals z.free) ∧ w'.ownsRow B 3 1 (.slice to_ tn tc) tn (vals z.types) ∧ ∀ a a', fo = some a → to_ = some a' → a.block ≠ a'.block

set_option maxHeartbeats 2000000 in
theorem zoneCopy_own (w : World) (fo : Option Addr) (fn fc : Nat) (to_ : Option Addr) (tn tc : Nat) (z : Zn) (h : ZnAt w fo fn to_ tn z) :
    Calls Tryd.prog 5 #[.agg #[.int .i64 z.f, .int .i64 z.t, .slice fo fn fc, .slice to_ tn tc]] w fun e w' => RetOwn w.heap.size w' z fn tn e ∧ Below w.heap.size w w' := by
  obtain ⟨f, t, free, types⟩ := z
  obtain ⟨hf, ht⟩ := h
  dsimp only at hf ht ⊢
  obtain ⟨W0, hW0⟩ : ∃ W0, (w.alloc (.cells #[.int .i64 f, .int .i64 t, .slice fo fn fc, .slice to_ tn tc] 25)).alloc (.cells #[.int .i64 0, .int .i64 0, .slice none 0 0, .slice none 0 0] 25) = W0 := ⟨_, rfl⟩
  have hb0 : Below w.heap.size w W0 := by rw [← hW0]; exact ((Below.refl _ _).alloc (Nat.le_refl _) _).alloc (by simp) _
  have Z0 : ZBox W0 w.heap.size (.int .i64 f) (.int .i64 t) (.slice fo fn fc) (.slice to_ tn tc) := by rw [← hW0]; exact (zbox_new w _ _ _ _ _).below (below_box _ _)
  have R0 : Res4 W0 (w.heap.size + 1) := by
    rw [← hW0]
    have := zbox_new (w.alloc (.cells #[.int .i64 f, .int .i64 t, .slice fo fn fc, .slice to_ tn tc] 25)) (.int .i64 0) (.int .i64 0) (.slice none 0 0) (.slice none 0 0) 25
    have h2 := this.res
    simpa using h2
  have hs0 : w.heap.size + 2 = W0.heap.size := by rw [← hW0]; simp
  have S0 : CopyS w W0 W0 := ⟨Below.refl _ _, R0, Nat.le_refl _⟩
  have hz := Z0.lt
  have q0 : ∀ wx, CopyS w W0 wx → wx.cell? ⟨w.heap.size, 0, none⟩ = some (.int .i64 f) := fun wx h => (h.b.cell (p := ⟨w.heap.size, 0, none⟩) (show w.heap.size < w.heap.size + 1 by omega)).trans Z0.c0
  have q1 : ∀ wx, CopyS w W0 wx → wx.cell? ⟨w.heap.size, 1, none⟩ = some (.int .i64 t) := fun wx h => (h.b.cell (p := ⟨w.heap.size, 1, none⟩) (show w.heap.size < w.heap.size + 1 by omega)).trans Z0.c1
  have q2 : ∀ wx, CopyS w W0 wx → wx.cell? ⟨w.heap.size, 2, none⟩ = some (.slice fo fn fc) := fun wx h => (h.b.cell (p := ⟨w.heap.size, 2, none⟩) (show w.heap.size < w.heap.size + 1 by omega)).trans Z0.c2
  have q3 : ∀ wx, CopyS w W0 wx → wx.cell? ⟨w.heap.size, 3, none⟩ = some (.slice to_ tn tc) := fun wx h => (h.b.cell (p := ⟨w.heap.size, 3, none⟩) (show w.heap.size < w.heap.size + 1 by omega)).trans Z0.c3
  have d0 : ∀ wx, CopyS w W0 wx → wx.cell? ⟨w.heap.size + 1, 0, none⟩ = some (cont wx (w.heap.size + 1) 0) := fun wx h => cont_eq h.r.d0
  have d1 : ∀ wx, CopyS w W0 wx → wx.cell? ⟨w.heap.size + 1, 1, none⟩ = some (cont wx (w.heap.size + 1) 1) := fun wx h => cont_eq h.r.d1
  have d2 : ∀ wx, CopyS w W0 wx → wx.cell? ⟨w.heap.size + 1, 2, none⟩ = some (cont wx (w.heap.size + 1) 2) := fun wx h => cont_eq h.r.d2
  have d3 : ∀ wx, CopyS w W0 wx → wx.cell? ⟨w.heap.size + 1, 3, none⟩ = some (cont wx (w.heap.size + 1) 3) := fun wx h => cont_eq h.r.d3
  have z0 : ∀ wx, CopyS w W0 wx → wx.frozen? ⟨w.heap.size + 1, 0, none⟩ = false := fun wx h => h.r.z0
  have z1 : ∀ wx, CopyS w W0 wx → wx.frozen? ⟨w.heap.size + 1, 1, none⟩ = false := fun wx h => h.r.z1
  have z2 : ∀ wx, CopyS w W0 wx → wx.frozen? ⟨w.heap.size + 1, 2, none⟩ = false := fun wx h => h.r.z2
  have z3 : ∀ wx, CopyS w W0 wx → wx.frozen? ⟨w.heap.size + 1, 3, none⟩ = false := fun wx h => h.r.z3
  have HB : Hid (∀ W, CopyS w W0 W → Calls Tryd.prog 12 #[.slice fo fn fc] W fun e w' => ∃ bo c, e = .returned (.slice bo fn c) ∧ (w'.ownsRow W0.heap.size 42 3 (.slice bo fn c) fn (bvals free) ∧ Below W.heap.size W w') ∧ CopyS w W0 w') := fun W hS => by
    have hs := hS.s
    refine (blocksCopy_any W fo fn fc free (hf.below (hb0.trans (hS.b.mono (by omega))))).mono ?_
    rintro e w' ⟨bo, c, rfl, own, hb⟩
    exact ⟨bo, c, rfl, ⟨owns_weaken own hs, hb⟩, hS.step hb (by omega)⟩
  have HW : Hid (∀ W, CopyS w W0 W → Calls Tryd.prog 13 #[.slice to_ tn tc] W fun e w' => ∃ bo c, e = .returned (.slice bo tn c) ∧ (w'.ownsRow W.heap.size 3 1 (.slice bo tn c) tn (vals types) ∧ W0.heap.size ≤ W.heap.size ∧ Below W.heap.size W w') ∧ CopyS w W0 w') := fun W hS => by
    have hs := hS.s
    refine (words_any W to_ tn tc types ht.len ht.reach (ht.below (hb0.trans (hS.b.mono (by omega)))).at_).mono ?_
    rintro e w' ⟨bo, c, rfl, own, hb⟩
    exact ⟨bo, c, rfl, ⟨own, hs, hb⟩, hS.step hb (by omega)⟩
  go_enter Tryd.func5, Tryd.ntmps5
  go_wp2_with fail
  clear hf ht hW0 Z0 R0 hz
  go_region_held3 (fun wx => CopyS w W0 wx) (first | assumption | exact CopyS.drew (by assumption) | exact CopyS.store (by assumption) _ _ _ _)
    (first
      | (go_at_call 12; refine (HB.out _ ?_).mono ?_; assumption; rintro e w3 ⟨bo, c, rfl, g1, hS3⟩)
      | (go_at_call 13; refine (HW.out _ ?_).mono ?_; assumption; rintro e w4 ⟨bo2, c2, rfl, g2, hS4⟩))
  obtain ⟨g11, g13⟩ := g1
  obtain ⟨g21, g22, g23⟩ := g2
  have hR4 := hS4.r
  have hB4 := hb0.trans (hS4.b.mono (Nat.le_succ _))
  have hap : ∀ a a', bo = some a → bo2 = some a' → a.block ≠ a'.block := fun a a' h1 h2 => by
    have q1 := owns_fresh g21 a' h2
    have q2 : a.block < w3.heap.size := by
      rcases g11.2 with ⟨e1, _⟩ | ⟨g, cp, cur, e1, _, hg, _⟩
      · simp only [Value.slice.injEq] at e1
        rw [e1.1] at h1
        cases h1
      · simp only [Value.slice.injEq] at e1
        rw [e1.1] at h1
        cases h1
        exact (Array.getElem?_eq_some_iff.1 hg).1
    omega
  have g12 := owns_below g11 g23 (Nat.le_refl _)
  have g24 := owns_weaken g21 g22
  have hs4 := hS4.s
  clear q0 q1 q2 q3 d0 d1 d2 d3 z0 z1 z2 z3 HB HW S0 hS3 hS4
  go_wp2
  obtain ⟨k0, k1, k2, k3⟩ := res4 hR4 (.int .i64 f) (.int .i64 t) (.slice bo fn c) (.slice bo2 tn c2)
  have hbt := but4 w4 (w.heap.size + 1) (.int .i64 f) (.int .i64 t) (.slice bo fn c) (.slice bo2 tn c2)
  exact bodyPost_ret (v := .agg #[.int .i64 f, .int .i64 t, .slice bo fn c, .slice bo2 tn c2]) (by simp [results, Tryd.results5, go_sem, k0, k1, k2, k3]) rfl ⟨⟨bo, c, bo2, c2, rfl, owns_weaken (row_but g12 hbt (by omega)) (by omega), owns_weaken (row_but g24 hbt (by omega)) (by omega), hap⟩, hB4.trans (hbt.below (by omega) (by omega))⟩

end Go.Proofs.YtpfafhgllabhbaaDoor
