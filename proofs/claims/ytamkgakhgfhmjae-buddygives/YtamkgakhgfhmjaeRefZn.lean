/-
  OWN TEXT. Contracts of the document's answer: ZoneNew.
-/
import Derived.Test.YtamkgakhgfhmjaeRefZp
namespace Go.Proofs.Ytamkgakhgfhmjae
open Go Go.RowKit Go.Proofs.Ytamkgakhgfhmjae.Kit

/-- The empty zone, as cells. -/
theorem newOk_nat {f t : Int} (h : newOk f t) : ∃ F T : Nat, f = F ∧ t = T ∧ F ≤ T ∧ T ≤ 256 ∧ F % 16 = 0 ∧ T % 16 = 0 := by
  obtain ⟨h1, h2, h3, h4, h5⟩ := h
  exact ⟨f.toNat, t.toNat, by omega, by omega, by omega, by omega, by omega, by omega⟩

set_option maxHeartbeats 2000000 in
theorem zoneNew_nat (w : World) (f t : Nat) (h1 : f ≤ t) (h2 : t ≤ 256) (h3 : f % 16 = 0) (h4 : t % 16 = 0) :
    Calls Try.prog 38 #[.int .i64 f, .int .i64 t] w fun e w' => RetZone w.heap.size w' ⟨f, t, [], List.replicate ((t - f) / 8) 1⟩ e ∧ Below w.heap.size w w' := by
  have e1 : inB f 0 256 = true := inB_t (by omega)
  have e2 : inB t f 256 = true := inB_t (by omega)
  have m1 : (f : Int) % 16 = 0 := by omega
  have m2 : (t : Int) % 16 = 0 := by omega
  obtain ⟨i0, hi, hz0, hz1, hz2⟩ := info_parts info_int
  have hb2 : Below w.heap.size w ((w.alloc (.cells #[.int .i64 0, .int .i64 0, .slice none 0 0, .slice none 0 0] 25)).alloc (.cells #[.int .i64 f, .int .i64 t, .slice none 0 0, .slice none 0 0] 25)) := ((Below.refl _ _).alloc (Nat.le_refl _) _).alloc (by simp) _
  have R0 : Res4 ((w.alloc (.cells #[.int .i64 0, .int .i64 0, .slice none 0 0, .slice none 0 0] 25)).alloc (.cells #[.int .i64 f, .int .i64 t, .slice none 0 0, .slice none 0 0] 25)) w.heap.size := (zbox_new w _ _ _ _ _).res.below (below_box _ _)
  have Z0 : ZBox ((w.alloc (.cells #[.int .i64 0, .int .i64 0, .slice none 0 0, .slice none 0 0] 25)).alloc (.cells #[.int .i64 f, .int .i64 t, .slice none 0 0, .slice none 0 0] 25)) (w.heap.size + 1) (.int .i64 f) (.int .i64 t) (.slice none 0 0) (.slice none 0 0) := by
    have := zbox_new (w.alloc (.cells #[.int .i64 0, .int .i64 0, .slice none 0 0, .slice none 0 0] 25)) (.int .i64 f) (.int .i64 t) (.slice none 0 0) (.slice none 0 0) 25
    simpa using this
  obtain ⟨N, hN⟩ : ∃ N, N = (t - f) / 8 := ⟨_, rfl⟩
  have hN8 : f + 8 * N = t := by omega
  rw [← hN]
  have hs0 : w.heap.size + 2 ≤ ((w.alloc (.cells #[.int .i64 0, .int .i64 0, .slice none 0 0, .slice none 0 0] 25)).alloc (.cells #[.int .i64 f, .int .i64 t, .slice none 0 0, .slice none 0 0] 25)).heap.size := by simp
  clear hN
  obtain ⟨W0, hW0⟩ : ∃ W0, (w.alloc (.cells #[.int .i64 0, .int .i64 0, .slice none 0 0, .slice none 0 0] 25)).alloc (.cells #[.int .i64 f, .int .i64 t, .slice none 0 0, .slice none 0 0] 25) = W0 := ⟨_, rfl⟩
  rw [hW0] at hb2 R0 Z0 hs0
  have HW0 : Hid _ := hW0
  clear hW0
  go_enter Try.func38, Try.ntmps38
  go_wp2_with (go_at_call 22; refine (in_any _ _ _ _).mono ?_; rintro e w' ⟨rfl, rfl⟩)
  rw [HW0.out]
  clear e1 e2 m1 m2 HW0
  go_loopw [7] (fun pv wr => ∃ (k p c : Nat) (bo : Option Addr), p = f + 8 * k ∧ k ≤ N ∧ pv = .int .i64 p ∧ ZBox wr (w.heap.size + 1) (.int .i64 f) (.int .i64 t) (.slice none 0 0) (.slice bo k c) ∧ wr.ownsRow (w.heap.size + 2) 3 1 (.slice bo k c) k (vals (List.replicate k 1)) ∧ Res4 wr w.heap.size ∧ Below w.heap.size w wr ∧ w.heap.size + 2 ≤ wr.heap.size) (fun pv _ => f + 8 * N - (intOf pv).toNat)
  case atStart => exact ⟨0, f, 0, none, by omega, Nat.zero_le _, rfl, Z0, World.ownsRow_nil _ _ _ _, R0, hb2, hs0⟩
  case round =>
    obtain ⟨k, p, c, bo, hp, hk, rfl, Z, hown, R, hb, hs⟩ := hrel
    clear Z0 R0 hb2 hs0
    by_cases hlt : k < N
    · have hpt : (p : Int) < t := by omega
      have hml : k + 1 ≤ maxLen := by unfold maxLen; omega
      have hsz : (k + 1) * 8 ≤ 140737488355328 := by omega
      have c3 := Z.c3
      go_wp2_with (at_builtin; refine wpList_append_own _ rfl (.tmp 38) (.tmp 39) 23 rfl (w.heap.size + 2) 3 i0 (.int .i64 0) 1 8 Try.underlying23 hi hz0 hz1 hz2 rfl (by decide) _ _ _ rfl (hown.alloc _) ⟨wr.heap.size, 0, none⟩ 1 1 [.int .i64 1] rfl rfl ?c1 ?c2 hml hsz ?c5 ?_)
      case c1 => exact cell_one_new' _ _ _
      case c2 => exact ints_oneCell .i64 [_]
      case c5 => simp; omega
      intro v' w3 hown' hgrow _
      have hb3 : Below (w.heap.size + 2) wr w3 := ((Below.refl _ _).alloc hs _).grown hgrow (by simp; omega) (fun g hg => (hown.lt g hg).1)
      have e9 : vals (List.replicate k 1) ++ [Value.int .i64 1] = vals (List.replicate (k + 1) 1) := by rw [List.replicate_succ', vals_append]; rfl
      rw [e9] at hown'
      obtain ⟨bo', c', rfl⟩ := owns_shape hown'
      have Z3 := Z.belowB hb3 (by omega)
      have R3 := R.belowB hb3 (by omega)
      have hB3 := hb.trans (hb3.mono (by omega))
      have hs3 := Nat.le_trans hs hb3.size
      have Z4 := Z3.set3 (.slice bo' (k + 1) c')
      have own4 := ownsRow_setCell_below hown' (a := ⟨w.heap.size + 1, 3, none⟩) (show w.heap.size + 1 < w.heap.size + 2 by omega) (.slice bo' (k + 1) c')
      have hbt : But (w.heap.size + 1) w3 (w3.setCell ⟨w.heap.size + 1, 3, none⟩ (.slice bo' (k + 1) c')) := (But.refl _ _).setCell _
      have R4 := R3.but hbt (by omega)
      have hB4 := hB3.trans (hbt.below (B := w.heap.size) (by omega) (by omega))
      have hs4 := Nat.le_trans hs3 hbt.size
      have c3' := Z3.c3
      have z3' := Z3.z3
      clear Z R hown hb hs hgrow hb3 Z3 R3 hB3 hs3 hown' hbt e9 c3
      go_wp2
      go_roundw
      case rel => exact ⟨k + 1, f + 8 * (k + 1), c', bo', rfl, by omega, by go_num, Z4, own4, R4, hB4, hs4⟩
      case measure => simp [intOf]; omega
    · have hpt : ¬ (p : Int) < t := by omega
      obtain rfl : k = N := by omega
      have c0 := Z.c0
      have c1 := Z.c1
      have c2 := Z.c2
      have c3 := Z.c3
      obtain ⟨⟨x0, d0⟩, ⟨x1, d1⟩, ⟨x2, d2⟩, ⟨x3, d3⟩, z0, z1, z2, z3⟩ := id R
      go_wp2
      obtain ⟨k0, k1, k2, k3⟩ := res4 R (.int .i64 f) (.int .i64 t) (.slice none 0 0) (.slice bo k c)
      have hbt := but4 wr w.heap.size (.int .i64 f) (.int .i64 t) (.slice none 0 0) (.slice bo k c)
      refine bodyPost_ret (v := .tuple #[.agg #[.int .i64 f, .int .i64 t, .slice none 0 0, .slice bo k c], .int .i64 0]) (by simp [results, Try.results38, go_sem, k0, k1, k2, k3]) rfl ⟨⟨none, 0, 0, bo, k, c, rfl, ⟨Blks.nil _, hbt.nums (nums_of_owns hown (by omega)) (fun a ha => by have := owns_fresh hown a ha; omega)⟩, fresh_none _, (owns_fresh hown).mono (by omega)⟩, hb.trans (hbt.below (Nat.le_refl _) hb.size)⟩

theorem zoneNew_ok (w : World) (f t : Int) (h : newOk f t) :
    Calls Try.prog 38 #[.int .i64 f, .int .i64 t] w fun e w' => RetZone w.heap.size w' (newZ f t) e ∧ Below w.heap.size w w' := by
  obtain ⟨F, T, rfl, rfl, h1, h2, h3, h4⟩ := newOk_nat h
  have e : newZ (F : Int) T = ⟨F, T, [], List.replicate ((T - F) / 8) 1⟩ := by
    unfold newZ newTypes
    have : (((T : Int) - F) / 8).toNat = (T - F) / 8 := by omega
    rw [this]
  rw [e]
  exact zoneNew_nat w F T h1 h2 h3 h4

set_option maxHeartbeats 2000000 in
theorem zoneNew_no (w : World) (f t : Int) (h : ¬ newOk f t) :
    Calls Try.prog 38 #[.int .i64 f, .int .i64 t] w fun e w' => RetNone 1 e ∧ Below w.heap.size w w' := by
  have hb1 := below_box w (.cells #[.int .i64 0, .int .i64 0, .slice none 0 0, .slice none 0 0] 25)
  by_cases h1 : 0 ≤ f ∧ f ≤ 256
  · by_cases h2 : f ≤ t ∧ t ≤ 256
    · obtain ⟨F, rfl⟩ : ∃ F : Nat, f = F := ⟨f.toNat, by omega⟩
      obtain ⟨T, rfl⟩ : ∃ T : Nat, t = T := ⟨t.toNat, by omega⟩
      have e1 : inB (F : Int) 0 256 = true := inB_t h1
      have e2 : inB (T : Int) F 256 = true := inB_t h2
      by_cases h3 : (F : Int) % 16 = 0
      · have h4 : ¬ (T : Int) % 16 = 0 := fun g => h ⟨by omega, by omega, by omega, h3, g⟩
        clear h h1 h2
        go_enter Try.func38, Try.ntmps38
        go_wp2_with (go_at_call 22; refine (in_any _ _ _ _).mono ?_; rintro e w' ⟨rfl, rfl⟩)
        exact bodyPost_ret (v := .tuple #[.agg #[.int .i64 0, .int .i64 0, .slice none 0 0, .slice none 0 0], .int .i64 1]) (by simp [results, Try.results38, go_sem]) rfl ⟨rfl, hb1⟩
      · clear h h1 h2
        go_enter Try.func38, Try.ntmps38
        go_wp2_with (go_at_call 22; refine (in_any _ _ _ _).mono ?_; rintro e w' ⟨rfl, rfl⟩)
        exact bodyPost_ret (v := .tuple #[.agg #[.int .i64 0, .int .i64 0, .slice none 0 0, .slice none 0 0], .int .i64 1]) (by simp [results, Try.results38, go_sem]) rfl ⟨rfl, hb1⟩
    · have e1 : inB f 0 256 = true := inB_t h1
      have e2 : inB t f 256 = false := inB_f h2
      clear h h1 h2
      go_enter Try.func38, Try.ntmps38
      go_wp2_with (go_at_call 22; refine (in_any _ _ _ _).mono ?_; rintro e w' ⟨rfl, rfl⟩)
      exact bodyPost_ret (v := .tuple #[.agg #[.int .i64 0, .int .i64 0, .slice none 0 0, .slice none 0 0], .int .i64 1]) (by simp [results, Try.results38, go_sem]) rfl ⟨rfl, hb1⟩
  · have e1 : inB f 0 256 = false := inB_f h1
    clear h h1
    go_enter Try.func38, Try.ntmps38
    go_wp2_with (go_at_call 22; refine (in_any _ _ _ _).mono ?_; rintro e w' ⟨rfl, rfl⟩)
    exact bodyPost_ret (v := .tuple #[.agg #[.int .i64 0, .int .i64 0, .slice none 0 0, .slice none 0 0], .int .i64 1]) (by simp [results, Try.results38, go_sem]) rfl ⟨rfl, hb1⟩

end Go.Proofs.Ytamkgakhgfhmjae
