/-
  OWN TEXT. Contracts of the code: buddy.areBounds, buddy.New.
-/
import Derived.Test.YtamkgakhgfhmjadZBase
import Derived.Test.YtamkgakhgfhmjadZPure
namespace Go.Proofs.Ytamkgakhgfhmjad
open Go Go.RowKit Go.Proofs.Ytamkgakhgfhmjad.Kit

/-- P3.1, decided. -/
def newB (f t : Int) : Bool := decide (0 ≤ f ∧ f ≤ t ∧ t ≤ 256 ∧ f % 16 = 0 ∧ t % 16 = 0)
theorem newB_iff (f t : Int) : newB f t = true ↔ newOk f t := by unfold newB newOk; simp
theorem newB_t {f t : Int} (h : newOk f t) : newB f t = true := (newB_iff f t).2 h
theorem newB_f {f t : Int} (h : ¬ newOk f t) : newB f t = false := by
  cases g : newB f t with
  | false => rfl
  | true => exact absurd ((newB_iff f t).1 g) h

set_option maxHeartbeats 1000000 in
theorem bounds_any (w : World) (f t : Int) :
    Calls Try.prog 40 #[.int .i64 f, .int .i64 t] w fun e w' => e = .returned (.bool (newB f t)) ∧ w = w' := by
  by_cases h1 : 0 ≤ f
  · by_cases h2 : f ≤ t
    · by_cases h3 : t ≤ 256
      · obtain ⟨F, rfl⟩ : ∃ F : Nat, f = F := ⟨f.toNat, by omega⟩
        obtain ⟨T, rfl⟩ : ∃ T : Nat, t = T := ⟨t.toNat, by omega⟩
        by_cases h4 : (F : Int) % 16 = 0
        · by_cases h5 : (T : Int) % 16 = 0
          · have HR : Hid (newB F T = true) := newB_t ⟨h1, h2, h3, h4, h5⟩
            go_enter Try.func40, Try.ntmps40
            go_wp2
            go_ret
            exact ⟨ret_bool HR.out.symm, rfl⟩
          · have HR : Hid (newB F T = false) := newB_f fun g => h5 g.2.2.2.2
            have h5' : ((T : Int) % 16 == 0) = false := by simpa using h5
            clear h5
            go_enter Try.func40, Try.ntmps40
            go_wp2
            go_ret
            exact ⟨ret_bool HR.out.symm, rfl⟩
        · have HR : Hid (newB F T = false) := newB_f fun g => h4 g.2.2.2.1
          have h4' : ((F : Int) % 16 == 0) = false := by simpa using h4
          clear h4
          go_enter Try.func40, Try.ntmps40
          go_wp2
          go_ret
          exact ⟨ret_bool HR.out.symm, rfl⟩
      · have HR : Hid (newB f t = false) := newB_f fun g => h3 g.2.2.1
        go_enter Try.func40, Try.ntmps40
        go_wp2
        go_ret
        exact ⟨ret_bool HR.out.symm, rfl⟩
    · have HR : Hid (newB f t = false) := newB_f fun g => h2 g.2.1
      go_enter Try.func40, Try.ntmps40
      go_wp2
      go_ret
      exact ⟨ret_bool HR.out.symm, rfl⟩
  · have HR : Hid (newB f t = false) := newB_f fun g => h1 g.1
    go_enter Try.func40, Try.ntmps40
    go_wp2
    go_ret
    exact ⟨ret_bool HR.out.symm, rfl⟩

theorem rep_set (k N : Nat) (h : k < N) : (List.replicate k (1 : Int) ++ List.replicate (N - k) 0).set k 1 = List.replicate (k + 1) 1 ++ List.replicate (N - (k + 1)) 0 := by
  obtain ⟨m, hm⟩ : ∃ m, N - k = m + 1 := ⟨N - k - 1, by omega⟩
  have e : N - (k + 1) = m := by omega
  rw [hm, e, List.set_append_right _ _ (by simp), List.length_replicate, Nat.sub_self, List.replicate_succ, List.set_cons_zero, List.replicate_succ', List.append_assoc]
  rfl

set_option maxHeartbeats 2000000 in
theorem zNew_nat (w : World) (f t : Nat) (h1 : f ≤ t) (h2 : t ≤ 256) (h3 : f % 16 = 0) (h4 : t % 16 = 0) :
    Calls Try.prog 21 #[.int .i64 f, .int .i64 t] w fun e w' => RetZone w.heap.size w' ⟨f, t, [], List.replicate ((t - f) / 8) 1⟩ e ∧ Below w.heap.size w w' := by
  have HB : Hid (newB f t = true) := newB_t ⟨by omega, by omega, by omega, by omega, by omega⟩
  obtain ⟨i0, hi, hz0, hz1, hz2⟩ := info_parts info_int
  have hb1 := below_box w (.cells #[.int .i64 0, .int .i64 0, .slice none 0 0, .slice none 0 0] 50)
  have R0 : Res4 (w.alloc (.cells #[.int .i64 0, .int .i64 0, .slice none 0 0, .slice none 0 0] 50)) w.heap.size := (zbox_new w _ _ _ _ _).res
  have hs1 : (w.alloc (.cells #[.int .i64 0, .int .i64 0, .slice none 0 0, .slice none 0 0] 50)).heap.size = w.heap.size + 1 := by simp
  obtain ⟨W0, hW0⟩ : ∃ W0, w.alloc (.cells #[.int .i64 0, .int .i64 0, .slice none 0 0, .slice none 0 0] 50) = W0 := ⟨_, rfl⟩
  rw [hW0] at hb1 R0 hs1
  obtain ⟨N, hN⟩ : ∃ N, N = (t - f) / 8 := ⟨_, rfl⟩
  have hN3 : N ≤ 32 := by omega
  obtain ⟨D, hD⟩ : ∃ D : Nat, (t : Int) - f = (D : Int) := ⟨t - f, by omega⟩
  have hq : (D : Int) / 8 = (N : Int) := by omega
  rw [← hN]
  have HW0 : Hid _ := hW0
  clear hW0 hN h3 h4
  go_enter Try.func21, Try.ntmps21
  go_wp2_with fail
  go_at_call 40
  refine (bounds_any _ f t).mono ?_
  rintro e w' ⟨rfl, rfl⟩
  rw [HB.out, HW0.out]
  have hml : N ≤ maxLen := by unfold maxLen; omega
  have hby : i0.bytes * N ≤ 281474976710656 := by rw [hz2]; omega
  go_wp2_with (at_make; refine wpList_make_full _ rfl (.tmp 16) (.tmp 16) 48 rfl W0.heap.size 3 i0 (.int .i64 0) 1 Try.underlying48 hi hz0 hz1 .i64 .i64 _ _ N rfl rfl (by go_num) (by go_num) hby hml (Nat.le_refl _) ?_; rw [made_vals]; intro w1 hown hg1; have hbw : Below W0.heap.size W0 w1 := (Below.refl _ _).grown hg1 (Nat.le_refl _) (by simp); clear hg1)
  have R1 := R0.below hbw
  have hB1 := hb1.trans (hbw.mono hb1.size)
  have hs2 : w.heap.size + 1 ≤ w1.heap.size := by have := hbw.size; omega
  have hown1 : w1.ownsRow (w.heap.size + 1) 3 1 (.slice (some ⟨w.heap.size + 1, 0, none⟩) N N) N (vals (List.replicate N 0)) := by rw [hs1] at hown; exact hown
  clear hown hbw R0 hb1 HW0 HB hD hq
  go_loopw [20] (fun iv wr => ∃ k : Nat, k ≤ N ∧ iv = .int .i64 k ∧ wr.ownsRow (w.heap.size + 1) 3 1 (.slice (some ⟨w.heap.size + 1, 0, none⟩) N N) N (vals (List.replicate k 1 ++ List.replicate (N - k) 0)) ∧ Res4 wr w.heap.size ∧ Below w.heap.size w wr) (fun iv _ => N - (intOf iv).toNat)
  case atStart => exact ⟨0, Nat.zero_le _, rfl, by simpa using hown1, R1, hB1⟩
  case round =>
    obtain ⟨k, hk, rfl, hown, R, hb⟩ := hrel
    clear R1 hB1 hown1
    by_cases hlt : k < N
    · obtain ⟨c1, c2, hown'⟩ := owns_store hown k hlt 1
      have e1 : (List.replicate k (1 : Int) ++ List.replicate (N - k) 0).set k 1 = List.replicate (k + 1) 1 ++ List.replicate (N - (k + 1)) 0 := rep_set k N hlt
      rw [e1] at hown'
      have hbt : But (w.heap.size + 1) wr (wr.setCell ⟨w.heap.size + 1, k, none⟩ (.int .i64 1)) := (But.refl _ _).setCell _
      have R' := R.but hbt (by omega)
      have hs : w.heap.size + 1 < wr.heap.size := (hown.lt _ rfl).2
      have hb' := hb.trans (hbt.below (B := w.heap.size) (by omega) (by omega))
      clear hown R hb hbt e1
      go_wp2
      go_roundw
      case rel => exact ⟨k + 1, by omega, by go_num, hown', R', hb'⟩
      case measure => simp [intOf]; omega
    · obtain rfl : k = N := by omega
      have hown' : wr.ownsRow (w.heap.size + 1) 3 1 (.slice (some ⟨w.heap.size + 1, 0, none⟩) k k) k (vals (List.replicate k 1)) := by simpa using hown
      obtain ⟨⟨x0, d0⟩, ⟨x1, d1⟩, ⟨x2, d2⟩, ⟨x3, d3⟩, z0, z1, z2, z3⟩ := id R
      clear hown
      go_wp2
      obtain ⟨k0, k1, k2, k3⟩ := res4 R (.int .i64 f) (.int .i64 t) (.slice none 0 0) (.slice (some ⟨w.heap.size + 1, 0, none⟩) k k)
      have hbt := but4 wr w.heap.size (.int .i64 f) (.int .i64 t) (.slice none 0 0) (.slice (some ⟨w.heap.size + 1, 0, none⟩) k k)
      refine bodyPost_ret (v := .tuple #[.agg #[.int .i64 f, .int .i64 t, .slice none 0 0, .slice (some ⟨w.heap.size + 1, 0, none⟩) k k], .int .i64 0]) (by simp [results, Try.results21, go_sem, k0, k1, k2, k3]) rfl ⟨⟨none, 0, 0, some ⟨w.heap.size + 1, 0, none⟩, k, k, rfl, ⟨Blks.nil _, hbt.nums (nums_of_owns hown' (by omega)) (fun a ha => by cases ha; simp)⟩, fresh_none _, fun a ha => by cases ha; simp⟩, hb.trans (hbt.below (Nat.le_refl _) hb.size)⟩

theorem zNew_ok (w : World) (f t : Int) (h : newOk f t) :
    Calls Try.prog 21 #[.int .i64 f, .int .i64 t] w fun e w' => RetZone w.heap.size w' (newZ f t) e ∧ Below w.heap.size w w' := by
  obtain ⟨h1, h2, h3, h4, h5⟩ := h
  obtain ⟨F, rfl⟩ : ∃ F : Nat, f = F := ⟨f.toNat, by omega⟩
  obtain ⟨T, rfl⟩ : ∃ T : Nat, t = T := ⟨t.toNat, by omega⟩
  have e : newZ (F : Int) T = ⟨F, T, [], List.replicate ((T - F) / 8) 1⟩ := by
    unfold newZ newTypes
    have : (((T : Int) - F) / 8).toNat = (T - F) / 8 := by omega
    rw [this]
  rw [e]
  exact zNew_nat w F T (by omega) (by omega) (by omega) (by omega)

set_option maxHeartbeats 1000000 in
theorem zNew_no (w : World) (f t : Int) (_wf : (Lit.int .i64 f).wf = true) (_wt : (Lit.int .i64 t).wf = true) (h : ¬ newOk f t) :
    Calls Try.prog 21 #[.int .i64 f, .int .i64 t] w fun e w' => RetNone 1 e ∧ Below w.heap.size w w' := by
  have hb1 := below_box w (.cells #[.int .i64 0, .int .i64 0, .slice none 0 0, .slice none 0 0] 50)
  have HB : Hid (newB f t = false) := newB_f h
  clear h _wf _wt
  go_enter Try.func21, Try.ntmps21
  go_wp2_with fail
  go_at_call 40
  refine (bounds_any _ f t).mono ?_
  rintro e w' ⟨rfl, rfl⟩
  rw [HB.out]
  go_wp2
  exact bodyPost_ret (v := .tuple #[.agg #[.int .i64 0, .int .i64 0, .slice none 0 0, .slice none 0 0], .int .i64 1]) (by simp [results, Try.results21, go_sem]) rfl ⟨rfl, hb1⟩

end Go.Proofs.Ytamkgakhgfhmjad
