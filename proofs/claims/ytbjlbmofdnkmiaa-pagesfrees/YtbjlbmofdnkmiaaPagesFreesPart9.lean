/-
  OWN TEXTS, bundled: HcLive, ZcSmall, ZcBounds, ZcCheck, HcZs.
-/
import Derived.Test.YtbjlbmofdnkmiaaPagesFreesPart7
import Derived.Test.YtbjlbmofdnkmiaaPagesFreesPart2
import Derived.Test.YtbjlbmofdnkmiaaPagesFreesPart6
import Derived.Test.YtbjlbmofdnkmiaaPagesFreesPart3
import Derived.Deep.RegionHeld3
import Derived.Deep.RegionWith
import Derived.Test.YtbjlbmofdnkmiaaPagesFreesPart8

/-
  OWN TEXT. Contracts of the code: pages.liveMayBe.
-/
namespace Go.Proofs.Ytbjlbmofdnkmiaa
open Go Go.RowKit Go.Proofs.Ytbjlbmofdnkmiaa.Kit

/-- So far they may be. -/
def LvTo (l : List Bk) (k : Nat) : Prop := (∀ i, i < k → LvOk (l.getD i .zero)) ∧ ∀ i, 0 < i → i < k → (l.getD (i - 1) .zero).a < (l.getD i .zero).a
/-- The least place of the next one. -/
def leastL (l : List Bk) (k : Nat) : Int := if k = 0 then 0 else (l.getD (k - 1) .zero).a + 1

theorem sameQ {F : Nat} {args : Array Value} {v : Value} (h : ∀ w : World, Calls Try.prog F args w fun e w' => e = .returned v ∧ w = w') (w : World) : Calls Try.prog F args w fun e w' => e = .returned v ∧ w' = w := (h w).mono fun _ _ ⟨a, b⟩ => ⟨a, b.symm⟩

set_option maxRecDepth 4000 in
set_option maxHeartbeats 4000000 in
theorem pLiveMay_any (w : World) (ao : Option Addr) (n cap : Nat) (l : List Bk) (h : Blks w ao n l) :
    Calls Try.prog 34 #[.slice ao n cap] w fun e w' => RetIff e (LvsOk l) ∧ Below w.heap.size w w' := by
  have hn := h.len
  have hr := h.reach
  have HNo : Hid (∀ e, (e = Ending.returned (.bool false)) → ¬ LvsOk l → RetIff e (LvsOk l)) := fun e he hn => ⟨false, he, by simp [hn]⟩
  go_enter Try.func34, Try.ntmps34
  go_wp2
  go_loopw [3, 8] (fun lv iv wr => ∃ (k : Nat) (L : Int), k ≤ n ∧ lv = .int .i64 L ∧ iv = .int .i64 k ∧ Hid (L = leastL l k) ∧ Hid (LvTo l k) ∧ Below w.heap.size w wr) (fun _ iv _ => n - (intOf iv).toNat)
  case atStart => exact ⟨0, 0, Nat.zero_le _, rfl, rfl, rfl, ⟨fun i hi => by omega, fun i _ hi => by omega⟩, Below.refl _ _⟩
  case round =>
    obtain ⟨k, L, hk, rfl, rfl, hL, HTo, hB⟩ := hrel
    have l0 : 0 ≤ L ∧ L ≤ 256 := by
      rw [hL.out]
      unfold leastL
      by_cases e : k = 0
      · rw [if_pos e]; omega
      · rw [if_neg e]; have := (HTo.out.1 (k - 1) (by omega)).a; omega
    obtain ⟨l1, l2⟩ := l0
    by_cases hlt : k < n
    · obtain ⟨b, off, a, o, t, rfl, c0, c1, c2, HX⟩ := (h.below hB).at_.at k (by omega)
      have hbb := below_box wr (.cells #[.int .i64 a, .int .i64 o, .int .i64 t] 63)
      have y0 : (wr.alloc (.cells #[.int .i64 a, .int .i64 o, .int .i64 t] 63)).cell? ⟨wr.heap.size, 0, none⟩ = some (.int .i64 a) := by go_simp
      have y1 : (wr.alloc (.cells #[.int .i64 a, .int .i64 o, .int .i64 t] 63)).cell? ⟨wr.heap.size, 1, none⟩ = some (.int .i64 o) := by go_simp
      have y2 : (wr.alloc (.cells #[.int .i64 a, .int .i64 o, .int .i64 t] 63)).cell? ⟨wr.heap.size, 2, none⟩ = some (.int .i64 t) := by go_simp
      obtain ⟨Wb, hWb⟩ : ∃ Wb, wr.alloc (.cells #[.int .i64 a, .int .i64 o, .int .i64 t] 63) = Wb := ⟨_, rfl⟩
      rw [hWb] at hbb y0 y1 y2
      have HWb : Hid _ := hWb
      have hBb := hB.trans (hbb.mono hB.size)
      clear hWb
      have HOrd := sameQ fun W => pIsOrder_any W o
      have HTyp := sameQ fun W => pIsType_any W t
      go_wp2_with (rw [HWb.out])
      clear HWb c0 c1 c2 hbb
      by_cases h1 : ordOk o
      · rw [inB_t (show 0 ≤ o ∧ o ≤ 4 from h1)] at HOrd
        by_cases h2 : typeOk t
        · rw [inB_t (show 0 ≤ t ∧ t ≤ 2 from h2)] at HTyp
          by_cases h3 : a < L
          · have d3 : decide (a < L) = true := decide_eq_true h3
            have hn : Hid (¬ LvsOk l) := fun h => by
              have hk := h.ok k (by omega)
              rw [HX.out] at hk
              by_cases e : k = 0
              · have := hL.out; unfold leastL at this; rw [if_pos e] at this; have := hk.a; dsimp only at this; omega
              · have h5 := hL.out; unfold leastL at h5; rw [if_neg e] at h5; have := h.ord k (by omega) (by omega); rw [HX.out] at this; dsimp only at this; omega
            clear HTo HX hL
            go_quiet (first | (go_at_call 66; exact Calls.quiet_of_same (HOrd _)) | (go_at_call 67; exact Calls.quiet_of_same (HTyp _)))
            go_wp2
            go_ret
            exact ⟨HNo.out _ rfl hn.out, hBb.trans ((below_drawn _).mono hBb.size)⟩
          · have d3 : decide (a < L) = false := decide_eq_false h3
            by_cases h4 : 256 ≤ a
            · have d4 : decide ((256 : Int) ≤ a) = true := decide_eq_true h4
              have hn : Hid (¬ LvsOk l) := fun h => by
                have hk := h.ok k (by omega)
                rw [HX.out] at hk
                have := hk.a; dsimp only at this; omega
              clear HTo HX hL
              go_quiet (first | (go_at_call 66; exact Calls.quiet_of_same (HOrd _)) | (go_at_call 67; exact Calls.quiet_of_same (HTyp _)))
              go_wp2
              go_ret
              exact ⟨HNo.out _ rfl hn.out, hBb.trans ((below_drawn _).mono hBb.size)⟩
            · have d4 : decide ((256 : Int) ≤ a) = false := decide_eq_false h4
              have a0 : 0 ≤ a := by omega
              have hp := pw_pos o
              have hp16 := pw_le h1
              have hw1 : IntKind.i64.wrap ((2 : Int) ^ o.toNat) = pw o := by rcases ord_cases h1 with ⟨rfl, e⟩ | ⟨rfl, e⟩ | ⟨rfl, e⟩ | ⟨rfl, e⟩ | ⟨rfl, e⟩ <;> (rw [e]; rfl)
              obtain ⟨P, hP⟩ : ∃ P, pw o = P := ⟨_, rfl⟩
              have HP : Hid (pw o = P) := hP
              rw [hP] at hp hp16 hw1
              obtain ⟨M, hM⟩ : ∃ M : Int, a.tmod P = M := ⟨_, rfl⟩
              have hM2 : Hid (M = a % P) := by show _ = _; rw [← hM, Int.tmod_eq_emod_of_nonneg a0]
              have m1 : 0 ≤ M := by rw [hM2.out]; exact Int.emod_nonneg _ (by omega)
              have m2 : M < 16 := by rw [hM2.out]; have := Int.emod_lt_of_pos a (show 0 < P by omega); omega
              have hwM : IntKind.i64.wrap M = M := IntWalk.i64_in _ (by omega)
              have hP0 : (P == 0) = false := by simp; omega
              have hem : a % P = M := hM2.out.symm
              obtain ⟨o0, o4⟩ := id h1
              clear hP
              by_cases h5 : M = 0
              · have d5 : (M == 0) = true := by simp [h5]
                have hok : LvOk ⟨a, o, t⟩ := ⟨h1, ⟨a0, by show a < 256; omega⟩, by show a % pw o = 0; rw [HP.out, ← hM2.out]; exact h5, h2⟩
                have HT : Hid (LvTo l (k + 1)) := ⟨fun i hi => by
                    by_cases e : i = k
                    · rw [e, HX.out]; exact hok
                    · exact HTo.out.1 i (by omega), fun i g1 g2 => by
                    by_cases e : i = k
                    · rw [e, HX.out]
                      have := hL.out
                      unfold leastL at this
                      rw [if_neg (by omega)] at this
                      show _ < a
                      omega
                    · exact HTo.out.2 i g1 (by omega)⟩
                have HL2 : Hid (a + 1 = leastL l (k + 1)) := by
                  show _ = _
                  unfold leastL
                  rw [if_neg (by omega), show k + 1 - 1 = k by omega, HX.out]
                clear HTo hL HX hok h5
                go_quiet (first | (go_at_call 66; exact Calls.quiet_of_same (HOrd _)) | (go_at_call 67; exact Calls.quiet_of_same (HTyp _)))
                have hB9 := hBb.trans ((below_drawn nq).mono hBb.size)
                replace y0 := keep y0 (below_drawn nq)
                generalize Wb.drewN nq = W9 at hB9 y0 ⊢
                clear hw1 hM hwM hem HOrd HTyp y1 y2
                go_wp2
                go_roundw
                case rel => exact ⟨k + 1, a + 1, by omega, rfl, by go_num, HL2, HT, hB9⟩
                case measure => simp [intOf]; omega
              · have d5 : (M == 0) = false := by simpa using h5
                have hn : Hid (¬ LvsOk l) := fun h => by
                  have hk := h.ok k (by omega)
                  rw [HX.out] at hk
                  have := hk.m
                  dsimp only at this
                  rw [HP.out, ← hM2.out] at this
                  exact h5 this
                clear HTo HX hL
                go_quiet (first | (go_at_call 66; exact Calls.quiet_of_same (HOrd _)) | (go_at_call 67; exact Calls.quiet_of_same (HTyp _)))
                go_wp2
                go_ret
                exact ⟨HNo.out _ rfl hn.out, hBb.trans ((below_drawn _).mono hBb.size)⟩
        · rw [inB_f (show ¬ (0 ≤ t ∧ t ≤ 2) from h2)] at HTyp
          have hn : Hid (¬ LvsOk l) := fun h => by
            have hk := h.ok k (by omega)
            rw [HX.out] at hk
            exact h2 hk.t
          clear HTo HX hL
          go_quiet (first | (go_at_call 66; exact Calls.quiet_of_same (HOrd _)) | (go_at_call 67; exact Calls.quiet_of_same (HTyp _)))
          go_wp2
          go_ret
          exact ⟨HNo.out _ rfl hn.out, hBb.trans ((below_drawn _).mono hBb.size)⟩
      · rw [inB_f (show ¬ (0 ≤ o ∧ o ≤ 4) from h1)] at HOrd
        have hn : Hid (¬ LvsOk l) := fun h => by
          have hk := h.ok k (by omega)
          rw [HX.out] at hk
          exact h1 hk.o
        clear HTo HX hL
        go_quiet (first | (go_at_call 66; exact Calls.quiet_of_same (HOrd _)) | (go_at_call 67; exact Calls.quiet_of_same (HTyp _)))
        go_wp2
        go_ret
        exact ⟨HNo.out _ rfl hn.out, hBb.trans ((below_drawn _).mono hBb.size)⟩
    · have hY : Hid (LvsOk l) := ⟨fun i hi => HTo.out.1 i (by omega), fun i h1 h2 => HTo.out.2 i h1 (by omega)⟩
      clear HTo hL
      go_wp2
      go_ret
      exact ⟨⟨true, rfl, fun _ => hY.out, fun _ => rfl⟩, hB⟩

end Go.Proofs.Ytbjlbmofdnkmiaa

/-
  OWN TEXT. Contracts of the code: buddy's small functions.
-/
namespace Go.Proofs.Ytbjlbmofdnkmiaa
open Go Go.RowKit Go.Proofs.Ytbjlbmofdnkmiaa.Kit

set_option maxHeartbeats 1000000 in
theorem isType_any (w : World) (x : Int) :
    Calls Try.prog 96 #[.int .i64 x] w fun e w' => e = .returned (.bool (inB x 0 2)) ∧ w = w' := by
  by_cases h1 : 0 ≤ x
  · by_cases h2 : x < 3
    · have HR : Hid (inB x 0 2 = true) := inB_t (by omega)
      go_enter Try.func96, Try.ntmps96
      go_wp2
      go_ret
      exact ⟨ret_bool HR.out.symm, rfl⟩
    · have HR : Hid (inB x 0 2 = false) := inB_f (by omega)
      go_enter Try.func96, Try.ntmps96
      go_wp2
      go_ret
      exact ⟨ret_bool HR.out.symm, rfl⟩
  · have HR : Hid (inB x 0 2 = false) := inB_f (by omega)
    go_enter Try.func96, Try.ntmps96
    go_wp2
    go_ret
    exact ⟨ret_bool HR.out.symm, rfl⟩

set_option maxHeartbeats 1000000 in
theorem isOrder_any (w : World) (x : Int) :
    Calls Try.prog 109 #[.int .i64 x] w fun e w' => e = .returned (.bool (inB x 0 4)) ∧ w = w' := by
  by_cases h1 : 0 ≤ x
  · by_cases h2 : x ≤ 4
    · have HR : Hid (inB x 0 4 = true) := inB_t (by omega)
      go_enter Try.func109, Try.ntmps109
      go_wp2
      go_ret
      exact ⟨ret_bool HR.out.symm, rfl⟩
    · have HR : Hid (inB x 0 4 = false) := inB_f (by omega)
      go_enter Try.func109, Try.ntmps109
      go_wp2
      go_ret
      exact ⟨ret_bool HR.out.symm, rfl⟩
  · have HR : Hid (inB x 0 4 = false) := inB_f (by omega)
    go_enter Try.func109, Try.ntmps109
    go_wp2
    go_ret
    exact ⟨ret_bool HR.out.symm, rfl⟩

set_option maxHeartbeats 1000000 in
theorem isPage_any (w : World) (f t : Int) (fo to_ : Option Addr) (fn fc tn tc : Nat) (a : Int) :
    Calls Try.prog 101 #[.agg #[.int .i64 f, .int .i64 t, .slice fo fn fc, .slice to_ tn tc], .int .i64 a] w fun e w' => e = .returned (.bool (inB a f (t - 1))) ∧ Below w.heap.size w w' := by
  have hb1 := below_box w (.cells #[.int .i64 f, .int .i64 t, .slice fo fn fc, .slice to_ tn tc] 44)
  by_cases h1 : f ≤ a
  · by_cases h2 : a < t
    · have HR : Hid (inB a f (t - 1) = true) := inB_t (by omega)
      go_enter Try.func101, Try.ntmps101
      go_wp2
      go_ret
      exact ⟨ret_bool HR.out.symm, hb1⟩
    · have HR : Hid (inB a f (t - 1) = false) := inB_f (by omega)
      go_enter Try.func101, Try.ntmps101
      go_wp2
      go_ret
      exact ⟨ret_bool HR.out.symm, hb1⟩
  · have HR : Hid (inB a f (t - 1) = false) := inB_f (by omega)
    go_enter Try.func101, Try.ntmps101
    go_wp2
    go_ret
    exact ⟨ret_bool HR.out.symm, hb1⟩

set_option maxHeartbeats 1000000 in
theorem behind_any (w : World) (a o x : Int) (ho : ordOk o) (h0 : 0 ≤ a) (h1 : a ≤ 256) :
    Calls Try.prog 91 #[.agg #[.int .i64 a, .int .i64 o, .int .i64 x]] w fun e w' => e = .returned (.int .i64 (a + pw o)) ∧ Below w.heap.size w w' := by
  have hb1 := below_box w (.cells #[.int .i64 a, .int .i64 o, .int .i64 x] 63)
  rcases ord_cases ho with ⟨rfl, e⟩ | ⟨rfl, e⟩ | ⟨rfl, e⟩ | ⟨rfl, e⟩ | ⟨rfl, e⟩
  all_goals
    rw [e]
    clear e ho
    go_enter Try.func91, Try.ntmps91
    go_wp2
    go_quiet (fail)
    go_wp2
    go_ret
    exact ⟨rfl, below_drewN hb1 _⟩

set_option maxHeartbeats 1000000 in
/-- May a block be in the zone, as the code looks. -/
theorem blkMay_any (w : World) (f t : Int) (fo to_ : Option Addr) (fn fc tn tc : Nat) (a o : Int) (h : newOk f t) :
    Calls Try.prog 97 #[.agg #[.int .i64 f, .int .i64 t, .slice fo fn fc, .slice to_ tn tc], .int .i64 a, .int .i64 o] w fun e w' => e = .returned (.bool (blkB f t a o)) ∧ Below w.heap.size w w' := by
  obtain ⟨h1, h2, h3, h4, h5⟩ := h
  have hb1 := below_box w (.cells #[.int .i64 f, .int .i64 t, .slice fo fn fc, .slice to_ tn tc] 44)
  have Z0 := zbox_new w (.int .i64 f) (.int .i64 t) (.slice fo fn fc) (.slice to_ tn tc) 44
  have c0 := Z0.c0
  have c1 := Z0.c1
  have c2 := Z0.c2
  have c3 := Z0.c3
  by_cases p1 : 0 ≤ o ∧ o ≤ 4
  · have e1 : Hid (inB o 0 4 = true) := inB_t p1
    by_cases p2 : f ≤ a ∧ a ≤ t - 1
    · have e2 : Hid (inB a f (t - 1) = true) := inB_t p2
      obtain ⟨A, rfl⟩ : ∃ A : Nat, a = A := ⟨a.toNat, by omega⟩
      obtain ⟨r, hr⟩ : ∃ r, blkB f t (A : Int) o = r := ⟨_, rfl⟩
      rw [hr]
      rcases ord_cases p1 with ⟨rfl, e⟩ | ⟨rfl, e⟩ | ⟨rfl, e⟩ | ⟨rfl, e⟩ | ⟨rfl, e⟩
      all_goals
        unfold blkB at hr
        rw [e1.out, e2.out, e, Bool.true_and, Bool.true_and] at hr
        have HR : Hid _ := hr
        clear hr e p1
        go_enter Try.func97, Try.ntmps97
        go_wp2_with fail
        go_at_call 109
        refine (isOrder_any _ _).mono ?_
        rintro e w' ⟨rfl, rfl⟩
        rw [e1.out]
        go_wp2_with fail
        go_at_call 101
        refine (isPage_any _ _ _ _ _ _ _ _ _ _).mono ?_
        rintro e w2 ⟨rfl, hb2⟩
        rw [e2.out]
        have hB := hb1.trans (hb2.mono hb1.size)
        clear c0 c1 c2 c3 Z0
        go_wp2
        go_ret
        exact ⟨ret_bool (by first | exact HR.out | (rw [← HR.out]; simp)), hB⟩
    · have e2 : Hid (inB a f (t - 1) = false) := inB_f p2
      have HR : Hid (blkB f t a o = false) := by show _ = _; unfold blkB; rw [e1.out, e2.out]; rfl
      go_enter Try.func97, Try.ntmps97
      go_wp2_with fail
      go_at_call 109
      refine (isOrder_any _ _).mono ?_
      rintro e w' ⟨rfl, rfl⟩
      rw [e1.out]
      go_wp2_with fail
      go_at_call 101
      refine (isPage_any _ _ _ _ _ _ _ _ _ _).mono ?_
      rintro e w2 ⟨rfl, hb2⟩
      rw [e2.out]
      have hB := hb1.trans (hb2.mono hb1.size)
      clear c0 c1 c2 c3 Z0
      go_wp2
      go_ret
      exact ⟨ret_bool HR.out.symm, hB⟩
  · have e1 : Hid (inB o 0 4 = false) := inB_f p1
    have HR : Hid (blkB f t a o = false) := by show _ = _; unfold blkB; rw [e1.out]; rfl
    go_enter Try.func97, Try.ntmps97
    go_wp2_with fail
    go_at_call 109
    refine (isOrder_any _ _).mono ?_
    rintro e w' ⟨rfl, rfl⟩
    rw [e1.out]
    go_wp2
    go_ret
    exact ⟨ret_bool HR.out.symm, hb1⟩

theorem xor_0 : ∀ a : Nat, a < 256 → bits BinOp.xor IntKind.i64 (a : Int) 1 = besideA a 0 := by decide +kernel
theorem xor_1 : ∀ a : Nat, a < 256 → a % 2 = 0 → bits BinOp.xor IntKind.i64 (a : Int) 2 = besideA a 1 := by decide +kernel
theorem xor_2 : ∀ a : Nat, a < 256 → a % 4 = 0 → bits BinOp.xor IntKind.i64 (a : Int) 4 = besideA a 2 := by decide +kernel
theorem xor_3 : ∀ a : Nat, a < 256 → a % 8 = 0 → bits BinOp.xor IntKind.i64 (a : Int) 8 = besideA a 3 := by decide +kernel

set_option maxHeartbeats 1000000 in
theorem beside_any (w : World) (a : Nat) (o : Int) (ho : ordOk o) (h4 : o < 4) (h1 : a < 256) (hm : (a : Int) % pw o = 0) :
    Calls Try.prog 105 #[.int .i64 a, .int .i64 o] w fun e w' => e = .returned (.int .i64 (besideA a o)) ∧ w = w' := by
  rcases ord_cases ho with ⟨rfl, e⟩ | ⟨rfl, e⟩ | ⟨rfl, e⟩ | ⟨rfl, e⟩ | ⟨rfl, e⟩
  · have HX : Hid (bits BinOp.xor IntKind.i64 (a : Int) 1 = besideA a 0) := xor_0 a h1
    clear e ho hm
    go_enter Try.func105, Try.ntmps105
    go_wp2
    go_ret
    exact ⟨congrArg (fun v => Ending.returned (.int .i64 v)) HX.out, rfl⟩
  · rw [e] at hm
    have HX : Hid (bits BinOp.xor IntKind.i64 (a : Int) 2 = besideA a 1) := xor_1 a h1 (by omega)
    clear e ho hm
    go_enter Try.func105, Try.ntmps105
    go_wp2
    go_ret
    exact ⟨congrArg (fun v => Ending.returned (.int .i64 v)) HX.out, rfl⟩
  · rw [e] at hm
    have HX : Hid (bits BinOp.xor IntKind.i64 (a : Int) 4 = besideA a 2) := xor_2 a h1 (by omega)
    clear e ho hm
    go_enter Try.func105, Try.ntmps105
    go_wp2
    go_ret
    exact ⟨congrArg (fun v => Ending.returned (.int .i64 v)) HX.out, rfl⟩
  · rw [e] at hm
    have HX : Hid (bits BinOp.xor IntKind.i64 (a : Int) 8 = besideA a 3) := xor_3 a h1 (by omega)
    clear e ho hm
    go_enter Try.func105, Try.ntmps105
    go_wp2
    go_ret
    exact ⟨congrArg (fun v => Ending.returned (.int .i64 v)) HX.out, rfl⟩
  · omega

/-- Two blocks are beside each other, as the code looks. -/
def areB (p b : Bk) : Bool := decide (p.o = b.o) && (decide (p.o < 4) && decide (b.a = besideA p.a p.o))
theorem areB_iff {p b : Bk} (h : p.a + pw p.o ≤ b.a) : areB p b = true ↔ besideP p b := by
  unfold areB besideP besideA
  simp only [Bool.and_eq_true, decide_eq_true_eq]
  have := pw_pos p.o
  constructor
  · rintro ⟨h1, h2, h3⟩
    rw [← h1]
    split at h3
    · exact ⟨h2, rfl, h3.symm, by assumption⟩
    · omega
  · rintro ⟨h1, h2, h3, h4⟩
    rw [← h2] at h1 h3 h4
    rw [if_pos h4]
    exact ⟨h2, h1, h3.symm⟩

set_option maxHeartbeats 1000000 in
theorem areBeside_any (w : World) (p b : Bk) (hp : ordOk p.o) (h0 : 0 ≤ p.a) (h1 : p.a < 256) (hm : p.a % pw p.o = 0) :
    Calls Try.prog 98 #[.agg #[.int .i64 p.a, .int .i64 p.o, .int .i64 p.t], .agg #[.int .i64 b.a, .int .i64 b.o, .int .i64 b.t]] w fun e w' => e = .returned (.bool (areB p b)) ∧ Below w.heap.size w w' := by
  obtain ⟨pa, po, pt⟩ := p
  obtain ⟨ba, bo, bt⟩ := b
  dsimp only at hp h0 h1 hm ⊢
  obtain ⟨A, rfl⟩ : ∃ A : Nat, pa = A := ⟨pa.toNat, by omega⟩
  have hb2 : Below w.heap.size w ((w.alloc (.cells #[.int .i64 A, .int .i64 po, .int .i64 pt] 63)).alloc (.cells #[.int .i64 ba, .int .i64 bo, .int .i64 bt] 63)) := ((Below.refl _ _).alloc (Nat.le_refl _) _).alloc (by simp) _
  obtain ⟨r, hr⟩ : ∃ r, areB ⟨A, po, pt⟩ ⟨ba, bo, bt⟩ = r := ⟨_, rfl⟩
  rw [hr]
  have HR : Hid (areB ⟨A, po, pt⟩ ⟨ba, bo, bt⟩ = r) := hr
  clear hr
  by_cases q1 : po = bo
  · subst q1
    by_cases q2 : po < 4
    · have HC := fun W => (beside_any W A po hp q2 (by omega) hm).mono (fun e w' (g : e = .returned (.int .i64 (besideA A po)) ∧ W = w') => (show e = .returned (.int .i64 (besideA A po)) ∧ w' = W from ⟨g.1, g.2.symm⟩))
      have q2' : decide (po < 4) = true := decide_eq_true q2
      have HR2 : Hid (decide (ba = besideA A po) = r) := by show _ = _; rw [← HR.out]; unfold areB; simp [q2]
      obtain ⟨X, hX⟩ : ∃ X, besideA A po = X := ⟨_, rfl⟩
      rw [hX] at HC HR2
      clear hX HR hm
      go_enter Try.func98, Try.ntmps98
      go_wp2
      go_quiet ((go_at_call 105; exact Calls.quiet_of_same (HC _)))
      clear HC
      go_wp2
      go_ret
      exact ⟨ret_bool HR2.out, below_drewN hb2 _⟩
    · have HR2 : Hid (false = r) := by show _ = _; rw [← HR.out]; unfold areB; simp [q2]
      have q2' : decide (po < 4) = false := decide_eq_false q2
      clear HR hm
      go_enter Try.func98, Try.ntmps98
      go_wp2
      go_quiet (fail)
      go_wp2
      go_ret
      exact ⟨ret_bool HR2.out, below_drewN hb2 _⟩
  · have HR2 : Hid (false = r) := by show _ = _; rw [← HR.out]; unfold areB; simp [q1]
    have q1' : (po == bo) = false := by simpa using q1
    clear HR hm q1
    go_enter Try.func98, Try.ntmps98
    go_wp2
    go_quiet (fail)
    go_wp2
    go_ret
    exact ⟨ret_bool HR2.out, below_drewN hb2 _⟩

end Go.Proofs.Ytbjlbmofdnkmiaa

/-
  OWN TEXT. Contract of the code: buddy.areBounds.
-/
namespace Go.Proofs.Ytbjlbmofdnkmiaa
open Go Go.RowKit Go.Proofs.Ytbjlbmofdnkmiaa.Kit

/-- P3.1, decided. -/
def newB (f t : Int) : Bool := decide (0 ≤ f ∧ f ≤ t ∧ t ≤ 256 ∧ f % 16 = 0 ∧ t % 16 = 0)
theorem newB_iff (f t : Int) : newB f t = true ↔ newOk f t := by unfold newB newOk; simp
theorem newB_t {f t : Int} (h : newOk f t) : newB f t = true := (newB_iff f t).2 h
theorem newB_f {f t : Int} (h : ¬ newOk f t) : newB f t = false := by
  cases g : newB f t with
  | false => rfl
  | true => exact absurd ((newB_iff f t).1 g) h

set_option maxHeartbeats 1000000 in
theorem bounds_any (w : World) (f t : Int) :
    Calls Try.prog 74 #[.int .i64 f, .int .i64 t] w fun e w' => e = .returned (.bool (newB f t)) ∧ w = w' := by
  by_cases h1 : 0 ≤ f
  · by_cases h2 : f ≤ t
    · by_cases h3 : t ≤ 256
      · obtain ⟨F, rfl⟩ : ∃ F : Nat, f = F := ⟨f.toNat, by omega⟩
        obtain ⟨T, rfl⟩ : ∃ T : Nat, t = T := ⟨t.toNat, by omega⟩
        by_cases h4 : (F : Int) % 16 = 0
        · by_cases h5 : (T : Int) % 16 = 0
          · have HR : Hid (newB F T = true) := newB_t ⟨h1, h2, h3, h4, h5⟩
            go_enter Try.func74, Try.ntmps74
            go_wp2
            go_ret
            exact ⟨ret_bool HR.out.symm, rfl⟩
          · have HR : Hid (newB F T = false) := newB_f fun g => h5 g.2.2.2.2
            have h5' : ((T : Int) % 16 == 0) = false := by simpa using h5
            clear h5
            go_enter Try.func74, Try.ntmps74
            go_wp2
            go_ret
            exact ⟨ret_bool HR.out.symm, rfl⟩
        · have HR : Hid (newB F T = false) := newB_f fun g => h4 g.2.2.2.1
          have h4' : ((F : Int) % 16 == 0) = false := by simpa using h4
          clear h4
          go_enter Try.func74, Try.ntmps74
          go_wp2
          go_ret
          exact ⟨ret_bool HR.out.symm, rfl⟩
      · have HR : Hid (newB f t = false) := newB_f fun g => h3 g.2.2.1
        go_enter Try.func74, Try.ntmps74
        go_wp2
        go_ret
        exact ⟨ret_bool HR.out.symm, rfl⟩
    · have HR : Hid (newB f t = false) := newB_f fun g => h2 g.2.1
      go_enter Try.func74, Try.ntmps74
      go_wp2
      go_ret
      exact ⟨ret_bool HR.out.symm, rfl⟩
  · have HR : Hid (newB f t = false) := newB_f fun g => h1 g.1
    go_enter Try.func74, Try.ntmps74
    go_wp2
    go_ret
    exact ⟨ret_bool HR.out.symm, rfl⟩

end Go.Proofs.Ytbjlbmofdnkmiaa

/-
  OWN TEXT. Contracts of the code: buddy.typesMayBe, buddy.freeMayBe, buddy.Check.
-/
namespace Go.Proofs.Ytbjlbmofdnkmiaa
open Go Go.RowKit Go.Proofs.Ytbjlbmofdnkmiaa.Kit

/-- What a function knows of the zone that it was handed: its box, its lists. -/
structure CkInv (w : World) (fo : Option Addr) (fn fc : Nat) (to_ : Option Addr) (tn tc : Nat) (z : Zn) (W : World) : Prop where
  b : Below w.heap.size w W
  box : ZBox W w.heap.size (.int .i64 z.f) (.int .i64 z.t) (.slice fo fn fc) (.slice to_ tn tc)
  zn : ZnAt W fo fn to_ tn z

theorem CkInv.step {w : World} {fo : Option Addr} {fn fc : Nat} {to_ : Option Addr} {tn tc : Nat} {z : Zn} {W W' : World} (h : CkInv w fo fn fc to_ tn tc z W) (hb : Below W.heap.size W W') : CkInv w fo fn fc to_ tn tc z W' :=
  ⟨h.b.trans (hb.mono h.b.size), h.box.below hb, h.zn.below hb⟩
theorem ckInv_first (w : World) (fo : Option Addr) (fn fc : Nat) (to_ : Option Addr) (tn tc : Nat) (z : Zn) (h : ZnAt w fo fn to_ tn z) : CkInv w fo fn fc to_ tn tc z (w.alloc (.cells #[.int .i64 z.f, .int .i64 z.t, .slice fo fn fc, .slice to_ tn tc] 44)) :=
  ⟨below_box _ _, zbox_new _ _ _ _ _ _, h.below (below_box _ _)⟩

/-- One of its types for each group. -/
def TypesP (z : Zn) : Prop := 8 * (z.types.length : Int) = z.t - z.f ∧ ∀ i, i < z.types.length → typeOk (z.types.getD i 0)

set_option maxHeartbeats 2000000 in
theorem typesMay_any (w : World) (fo : Option Addr) (fn fc : Nat) (to_ : Option Addr) (tn tc : Nat) (z : Zn) (h : ZnAt w fo fn to_ tn z) (hN : newOk z.f z.t) :
    Calls Try.prog 76 #[.agg #[.int .i64 z.f, .int .i64 z.t, .slice fo fn fc, .slice to_ tn tc]] w fun e w' => RetIff e (TypesP z) ∧ Below w.heap.size w w' := by
  have I0 := ckInv_first w fo fn fc to_ tn tc z h
  obtain ⟨n1, n2, n3, n4, n5⟩ := hN
  have c0 := I0.box.c0
  have c1 := I0.box.c1
  have c3 := I0.box.c3
  have htl := h.types.len
  have hrc := h.types.reach
  obtain ⟨D, hD⟩ : ∃ D : Nat, z.t - z.f = (D : Int) := ⟨(z.t - z.f).toNat, by omega⟩
  obtain ⟨N, hq⟩ : ∃ N : Nat, (D : Int) / 8 = (N : Int) := ⟨D / 8, by omega⟩
  clear h
  by_cases hlen : tn = N
  · subst hlen
    have hL : Hid (8 * (z.types.length : Int) = z.t - z.f) := by show _ = _; omega
    obtain ⟨W0, hW0⟩ : ∃ W0, w.alloc (.cells #[.int .i64 z.f, .int .i64 z.t, .slice fo fn fc, .slice to_ tn tc] 44) = W0 := ⟨_, rfl⟩
    have HW0 : Hid _ := hW0
    rw [hW0] at I0 c0 c1 c3
    clear hW0
    have htd : ((tn : Int) == (tn : Int)) = true := by simp
    go_enter Try.func76, Try.ntmps76
    go_wp2_with (rw [HW0.out])
    clear HW0 c0 c1 c3 htd hD hq
    go_loopw [18] (fun iv wr => ∃ k : Nat, k ≤ tn ∧ iv = .int .i64 k ∧ Hid (∀ i, i < k → typeOk (z.types.getD i 0)) ∧ W0 = wr) (fun iv _ => tn - (intOf iv).toNat)
    case atStart => exact ⟨0, Nat.zero_le _, rfl, (fun i hi => absurd hi (Nat.not_lt_zero i)), rfl⟩
    case round =>
      obtain ⟨k, hk, rfl, hT, rfl⟩ := hrel
      by_cases hlt : k < tn
      · obtain ⟨b, o, x, rfl, cx, hX⟩ := I0.zn.types.at_.at k (by omega)
        by_cases hx : 0 ≤ x ∧ x ≤ 2
        · have e1 : Hid (inB x 0 2 = true) := inB_t hx
          have hT' : Hid (∀ i, i < k + 1 → typeOk (z.types.getD i 0)) := fun i hi => by
            by_cases e : i = k
            · rw [e, hX.out]; exact hx
            · exact hT.out i (by omega)
          clear hT hx
          go_wp2_with fail
          go_at_call 96
          refine (isType_any _ _).mono ?_
          rintro e w' ⟨rfl, rfl⟩
          rw [e1.out]
          go_wp2
          go_roundw
          case rel => exact ⟨k + 1, by omega, by go_num, hT', trivial⟩
          case measure => simp [intOf]; omega
        · have e1 : Hid (inB x 0 2 = false) := inB_f hx
          have HF : Hid (¬ TypesP z) := fun g => hx (by have := g.2 k (by omega); rw [hX.out] at this; exact this)
          have hbb := I0.b
          clear hT hx I0
          go_wp2_with fail
          go_at_call 96
          refine (isType_any _ _).mono ?_
          rintro e w' ⟨rfl, rfl⟩
          rw [e1.out]
          go_wp2
          go_ret
          exact ⟨⟨false, rfl, fun g => (by cases g), fun g => absurd g HF.out⟩, hbb⟩
      · have HM : Hid (TypesP z) := ⟨hL.out, fun i hi => hT.out i (by omega)⟩
        have hbb := I0.b
        clear hT I0 hL
        go_wp2
        go_ret
        exact ⟨⟨true, rfl, fun _ => HM.out, fun _ => rfl⟩, hbb⟩
  · have HF : Hid (¬ TypesP z) := fun g => hlen (by have := g.1; omega)
    have hlen' : ((tn : Int) == N) = false := by simp; omega
    go_enter Try.func76, Try.ntmps76
    go_wp2
    go_ret
    exact ⟨⟨false, rfl, fun g => (by cases g), fun g => absurd g HF.out⟩, I0.b⟩

set_option maxHeartbeats 4000000 in
theorem freeMay_any (w : World) (fo : Option Addr) (fn fc : Nat) (to_ : Option Addr) (tn tc : Nat) (z : Zn) (h : ZnAt w fo fn to_ tn z) (hN : newOk z.f z.t) :
    Calls Try.prog 77 #[.agg #[.int .i64 z.f, .int .i64 z.t, .slice fo fn fc, .slice to_ tn tc]] w fun e w' => RetIff e (FreeOk z.f z.t z.f none z.free) ∧ Below w.heap.size w w' := by
  have I0 := ckInv_first w fo fn fc to_ tn tc z h
  have c2 := I0.box.c2
  have hfl := h.free.len
  have hfr := h.free.reach
  clear h
  obtain ⟨W0, hW0⟩ : ∃ W0, w.alloc (.cells #[.int .i64 z.f, .int .i64 z.t, .slice fo fn fc, .slice to_ tn tc] 44) = W0 := ⟨_, rfl⟩
  have HW0 : Hid _ := hW0
  rw [hW0] at I0 c2
  clear hW0
  obtain ⟨n1, n2, n3, n4, n5⟩ := id hN
  go_enter Try.func77, Try.ntmps77
  go_wp2_with (rw [HW0.out])
  clear HW0 c2
  go_loopw [9] (fun iv wr => ∃ k : Nat, k ≤ fn ∧ iv = .int .i64 k ∧ Hid (FreeOk z.f z.t z.f none (z.free.take k)) ∧ CkInv w fo fn fc to_ tn tc z wr) (fun iv _ => fn - (intOf iv).toNat)
  case atStart => exact ⟨0, Nat.zero_le _, rfl, trivial, I0⟩
  case round =>
    obtain ⟨k, hk, rfl, hF, I⟩ := hrel
    clear I0
    by_cases hlt : k < fn
    · obtain ⟨bb, bf, x, y, u, rfl, x0, x1, x2, hX⟩ := I.zn.free.at_.at k (by omega)
      have htk := take_getD z.free k (by omega) hX.out
      have hbx := below_box wr (.cells #[.int .i64 x, .int .i64 y, .int .i64 u] 63)
      have I3 := I.step hbx
      have y0 : (wr.alloc (.cells #[.int .i64 x, .int .i64 y, .int .i64 u] 63)).cell? ⟨wr.heap.size, 0, none⟩ = some (.int .i64 x) := by go_simp
      have y1 : (wr.alloc (.cells #[.int .i64 x, .int .i64 y, .int .i64 u] 63)).cell? ⟨wr.heap.size, 1, none⟩ = some (.int .i64 y) := by go_simp
      have y2 : (wr.alloc (.cells #[.int .i64 x, .int .i64 y, .int .i64 u] 63)).cell? ⟨wr.heap.size, 2, none⟩ = some (.int .i64 u) := by go_simp
      have b0 := I3.box.c0
      have b1 := I3.box.c1
      have b2 := I3.box.c2
      have b3 := I3.box.c3
      go_wp2_with fail
      go_at_call 97
      refine (blkMay_any _ z.f z.t _ to_ fn fc tn tc x y hN).mono ?_
      rintro e w4 ⟨rfl, hb4⟩
      have I4 := I3.step hb4
      replace y0 := keep y0 hb4
      replace y1 := keep y1 hb4
      replace y2 := keep y2 hb4
      clear I I3 hbx b0 b1 b2 b3 x0 x1 x2 hb4
      have hbb := I4.b
      by_cases hB : blkIn z.f z.t x y
      · have hB2 := (blkB_iff z.f z.t x y).2 hB
        rw [hB2]
        clear hB2
        obtain ⟨o1, o2, o3, o4⟩ := id hB
        by_cases hU : 0 ≤ u ∧ u ≤ 2
        · have e1 : Hid (inB u 0 2 = true) := inB_t hU
          go_wp2_with fail
          go_at_call 96
          refine (isType_any _ _).mono ?_
          rintro e w' ⟨rfl, rfl⟩
          rw [e1.out]
          by_cases hk0 : k = 0
          · subst hk0
            have hF' : Hid (FreeOk z.f z.t z.f none (z.free.take (0 + 1))) := by
              show FreeOk _ _ _ _ _
              rw [htk, freeOk_snoc]
              exact ⟨hF.out, hB, hU, o2, fun p hp => by cases hp⟩
            clear hF htk
            go_wp2
            go_roundw
            case rel => exact ⟨0 + 1, by omega, by go_num, hF', I4⟩
            case measure => simp [intOf]; omega
          · obtain ⟨j, rfl⟩ : ∃ j, k = j + 1 := ⟨k - 1, by omega⟩
            obtain ⟨bb', bf', x', y', u', he, p0, p1, p2, hX'⟩ := I4.zn.free.at_.at j (by omega)
            cases he
            have hpv := freeOk_at hF.out (k := j) (by simp; omega) (b := ⟨x', y', u'⟩) (by
              have := hX'.out
              rw [List.getD_eq_getElem?_getD, List.getElem?_take, if_pos (by omega), ← List.getD_eq_getElem?_getD]
              exact this)
            obtain ⟨⟨v1, v2, v3, v4⟩, _, _, _⟩ := hpv
            dsimp only at v1 v2 v3 v4
            have htj := take_getD z.free j (by omega) hX'.out
            have hlast : lastOf none (z.free.take (j + 1)) = some ⟨x', y', u'⟩ := by rw [htj, lastOf_snoc]
            have hlow : lowOf z.f (z.free.take (j + 1)) = x' + pw y' := by rw [htj, lowOf_snoc]
            have c2 := I4.box.c2
            have hji : ((j + 1 : Nat) : Int) - 1 = (j : Int) := by omega
            have hjj : ((j + 1 : Nat) : Int) = (j : Int) + 1 := by simp
            have hj1 : (j : Int) < fn := by omega
            have hj2 : j < fn := by omega
            have hj0 : ((j : Int) + 1 == 0) = false := by simp; omega
            clear hbb
            go_wp2_with fail
            have hbx5 := below_box w4 (.cells #[.int .i64 x', .int .i64 y', .int .i64 u'] 63)
            have I5 := I4.step hbx5
            have l0 : (w4.alloc (.cells #[.int .i64 x', .int .i64 y', .int .i64 u'] 63)).cell? ⟨w4.heap.size, 0, none⟩ = some (.int .i64 x') := by go_simp
            have l1 : (w4.alloc (.cells #[.int .i64 x', .int .i64 y', .int .i64 u'] 63)).cell? ⟨w4.heap.size, 1, none⟩ = some (.int .i64 y') := by go_simp
            have l2 : (w4.alloc (.cells #[.int .i64 x', .int .i64 y', .int .i64 u'] 63)).cell? ⟨w4.heap.size, 2, none⟩ = some (.int .i64 u') := by go_simp
            replace y0 := keep y0 hbx5
            replace y1 := keep y1 hbx5
            replace y2 := keep y2 hbx5
            obtain ⟨W5, hW5⟩ : ∃ W5, w4.alloc (.cells #[.int .i64 x', .int .i64 y', .int .i64 u'] 63) = W5 := ⟨_, rfl⟩
            rw [hW5] at I5 l0 l1 l2 y0 y1 y2 ⊢
            clear hW5 hbx5 I4 c2 p0 p1 p2
            have m0 : ∀ wx, Below W5.heap.size W5 wx → wx.cell? ⟨wr.heap.size, 0, none⟩ = some (.int .i64 x) := fun wx h => keep y0 h
            have m1 : ∀ wx, Below W5.heap.size W5 wx → wx.cell? ⟨wr.heap.size, 1, none⟩ = some (.int .i64 y) := fun wx h => keep y1 h
            have m2 : ∀ wx, Below W5.heap.size W5 wx → wx.cell? ⟨wr.heap.size, 2, none⟩ = some (.int .i64 u) := fun wx h => keep y2 h
            have r0 : ∀ wx, Below W5.heap.size W5 wx → wx.cell? ⟨w4.heap.size, 0, none⟩ = some (.int .i64 x') := fun wx h => keep l0 h
            have r1 : ∀ wx, Below W5.heap.size W5 wx → wx.cell? ⟨w4.heap.size, 1, none⟩ = some (.int .i64 y') := fun wx h => keep l1 h
            have r2 : ∀ wx, Below W5.heap.size W5 wx → wx.cell? ⟨w4.heap.size, 2, none⟩ = some (.int .i64 u') := fun wx h => keep l2 h
            obtain ⟨E, hE⟩ : ∃ E, x' + pw y' = E := ⟨_, rfl⟩
            have HBeh : Hid (∀ W, Below W5.heap.size W5 W → Calls Try.prog 91 #[.agg #[.int .i64 x', .int .i64 y', .int .i64 u']] W fun e w' => e = .returned (.int .i64 E) ∧ Below W5.heap.size W5 w') := fun W hS => by
              rw [← hE]
              refine (behind_any W x' y' u' v1 (by omega) (by omega)).mono ?_
              rintro e w' ⟨rfl, hb⟩
              exact ⟨rfl, hS.trans (hb.mono hS.size)⟩
            obtain ⟨R, hR⟩ : ∃ R, areB ⟨x', y', u'⟩ ⟨x, y, u⟩ = R := ⟨_, rfl⟩
            have HAre : Hid (∀ W, Below W5.heap.size W5 W → Calls Try.prog 98 #[.agg #[.int .i64 x', .int .i64 y', .int .i64 u'], .agg #[.int .i64 x, .int .i64 y, .int .i64 u]] W fun e w' => e = .returned (.bool R) ∧ Below W5.heap.size W5 w') := fun W hS => by
              rw [← hR]
              refine (areBeside_any W ⟨x', y', u'⟩ ⟨x, y, u⟩ v1 (by dsimp only; omega) (by dsimp only; omega) v4).mono ?_
              rintro e w' ⟨rfl, hb⟩
              exact ⟨rfl, hS.trans (hb.mono hS.size)⟩
            have S0 : Below W5.heap.size W5 W5 := Below.refl _ _
            rw [hE] at hlow
            by_cases hlw : x < E
            · have HF : Hid (¬ FreeOk z.f z.t z.f none z.free) := fun g => by have := (freeOk_at g (by omega) hX.out).2.2.1; rw [hlow] at this; dsimp only at this; omega
              have hlw' : decide (x < E) = true := decide_eq_true hlw
              clear hF htk htj hX hX' hlast hlow hE hR
              go_region_with (first | (go_at_call 91; refine (HBeh.out _ ?_).mono ?_; (first | exact Below.drew S0 | assumption); rintro e w6 ⟨rfl, hS6⟩; have a0 := m0 _ hS6; have a1 := m1 _ hS6; have a2 := m2 _ hS6; have a3 := r0 _ hS6; have a4 := r1 _ hS6; have a5 := r2 _ hS6) | (go_at_call 98; refine (HAre.out _ ?_).mono ?_; (first | assumption | exact Below.drew (by assumption)); rintro e w7 ⟨rfl, hS7⟩))
              all_goals
                have hbb := I5.b.trans (hS6.mono I5.b.size)
                clear I5 HBeh HAre m0 m1 m2 r0 r1 r2 S0
                go_wp2
                go_ret
                exact ⟨⟨false, rfl, fun g => (by cases g), fun g => absurd g HF.out⟩, hbb⟩
            · have hlw' : decide (x < E) = false := decide_eq_false hlw
              cases R with
              | true =>
                have HF : Hid (¬ FreeOk z.f z.t z.f none z.free) := fun g => (freeOk_at g (by omega) hX.out).2.2.2 _ hlast ((areB_iff (by dsimp only; omega)).1 hR)
                clear hF htk htj hX hX' hlast hlow hE hR
                go_region_with (first | (go_at_call 91; refine (HBeh.out _ ?_).mono ?_; (first | exact Below.drew S0 | assumption); rintro e w6 ⟨rfl, hS6⟩; have a0 := m0 _ hS6; have a1 := m1 _ hS6; have a2 := m2 _ hS6; have a3 := r0 _ hS6; have a4 := r1 _ hS6; have a5 := r2 _ hS6) | (go_at_call 98; refine (HAre.out _ ?_).mono ?_; (first | assumption | exact Below.drew (by assumption)); rintro e w7 ⟨rfl, hS7⟩))
                all_goals
                  have hbb := I5.b.trans (hS7.mono I5.b.size)
                  clear I5 HBeh HAre m0 m1 m2 r0 r1 r2 S0
                  go_wp2
                  go_ret
                  exact ⟨⟨false, rfl, fun g => (by cases g), fun g => absurd g HF.out⟩, hbb⟩
              | false =>
                have hF' : Hid (FreeOk z.f z.t z.f none (z.free.take (j + 1 + 1))) := by
                  show FreeOk _ _ _ _ _
                  rw [htk, freeOk_snoc]
                  refine ⟨hF.out, hB, hU, by rw [hlow]; dsimp only; omega, fun p hp => ?_⟩
                  rw [hlast] at hp
                  cases hp
                  intro g
                  have := (areB_iff (by dsimp only; omega)).2 g
                  rw [hR] at this
                  cases this
                clear hF htk htj hX hX' hlast hlow hE hR
                go_region_with (first | (go_at_call 91; refine (HBeh.out _ ?_).mono ?_; (first | exact Below.drew S0 | assumption); rintro e w6 ⟨rfl, hS6⟩; have a0 := m0 _ hS6; have a1 := m1 _ hS6; have a2 := m2 _ hS6; have a3 := r0 _ hS6; have a4 := r1 _ hS6; have a5 := r2 _ hS6) | (go_at_call 98; refine (HAre.out _ ?_).mono ?_; (first | assumption | exact Below.drew (by assumption)); rintro e w7 ⟨rfl, hS7⟩))
                all_goals
                  have I7 := I5.step hS7
                  clear I5 HBeh HAre m0 m1 m2 r0 r1 r2 S0
                  go_wp2
                  go_roundw
                  case rel => exact ⟨(j + 1) + 1, by omega, by go_num, hF', I7⟩
                  case measure => simp [intOf]; omega
        · have e1 : Hid (inB u 0 2 = false) := inB_f hU
          have HF : Hid (¬ FreeOk z.f z.t z.f none z.free) := fun g => hU (freeOk_at g (by omega) hX.out).2.1
          clear hF htk
          go_wp2_with fail
          go_at_call 96
          refine (isType_any _ _).mono ?_
          rintro e w' ⟨rfl, rfl⟩
          rw [e1.out]
          go_wp2
          go_ret
          exact ⟨⟨false, rfl, fun g => (by cases g), fun g => absurd g HF.out⟩, hbb⟩
      · have hB2 : blkB z.f z.t x y = false := by
          cases hb : blkB z.f z.t x y with
          | false => rfl
          | true => exact absurd ((blkB_iff z.f z.t x y).1 hb) hB
        rw [hB2]
        have HF : Hid (¬ FreeOk z.f z.t z.f none z.free) := fun g => hB (freeOk_at g (by omega) hX.out).1
        clear hF htk
        go_wp2
        go_ret
        exact ⟨⟨false, rfl, fun g => (by cases g), fun g => absurd g HF.out⟩, hbb⟩
    · have HM : Hid (FreeOk z.f z.t z.f none z.free) := by have := hF.out; rw [List.take_of_length_le (by omega)] at this; exact this
      have hbb := I.b
      clear hF
      go_wp2
      go_ret
      exact ⟨⟨true, rfl, fun _ => HM.out, fun _ => rfl⟩, hbb⟩

theorem zMay_iff (z : Zn) : ZMay z ↔ newOk z.f z.t ∧ TypesP z ∧ FreeOk z.f z.t z.f none z.free :=
  ⟨fun h => ⟨h.new, ⟨h.len, h.ty⟩, h.free⟩, fun ⟨h1, h2, h3⟩ => ⟨h1, h2.1, h2.2, h3⟩⟩

set_option maxHeartbeats 1000000 in
theorem zCheck_any (w : World) (fo : Option Addr) (fn fc : Nat) (to_ : Option Addr) (tn tc : Nat) (z : Zn) (h : ZnAt w fo fn to_ tn z) :
    Calls Try.prog 63 #[.agg #[.int .i64 z.f, .int .i64 z.t, .slice fo fn fc, .slice to_ tn tc]] w fun e w' => (∃ c, e = .returned (.int .i64 c) ∧ (c = 0 ∧ ZMay z ∨ c = 8 ∧ ¬ ZMay z)) ∧ Below w.heap.size w w' := by
  have I0 := ckInv_first w fo fn fc to_ tn tc z h
  have c0 := I0.box.c0
  have c1 := I0.box.c1
  have c2 := I0.box.c2
  have c3 := I0.box.c3
  clear h
  by_cases hn : newOk z.f z.t
  · have HB : Hid (newB z.f z.t = true) := newB_t hn
    go_enter Try.func63, Try.ntmps63
    go_wp2_with fail
    go_at_call 74
    refine (bounds_any _ _ _).mono ?_
    rintro e w' ⟨rfl, rfl⟩
    rw [HB.out]
    go_wp2_with fail
    go_at_call 76
    refine (typesMay_any _ fo fn fc to_ tn tc z I0.zn hn).mono ?_
    rintro e w1 ⟨⟨r, rfl, hr⟩, hb1⟩
    have I1 := I0.step hb1
    clear I0 c0 c1 c2 c3 hb1
    have c0 := I1.box.c0
    have c1 := I1.box.c1
    have c2 := I1.box.c2
    have c3 := I1.box.c3
    cases r with
    | false =>
      have HF : Hid (¬ ZMay z) := fun g => by have := hr.2 ((zMay_iff z).1 g).2.1; cases this
      have hbb := I1.b
      clear hr I1 c0 c1 c2 c3
      go_wp2
      go_ret
      exact ⟨⟨8, rfl, .inr ⟨rfl, HF.out⟩⟩, hbb⟩
    | true =>
      have HT : Hid (TypesP z) := hr.1 rfl
      clear hr
      go_wp2_with fail
      go_at_call 77
      refine (freeMay_any _ fo fn fc to_ tn tc z I1.zn hn).mono ?_
      rintro e w2 ⟨⟨r, rfl, hr⟩, hb2⟩
      have hbb := (I1.step hb2).b
      clear I1 c0 c1 c2 c3 hb2
      cases r with
      | false =>
        have HF : Hid (¬ ZMay z) := fun g => by have := hr.2 ((zMay_iff z).1 g).2.2; cases this
        clear hr
        go_wp2
        go_ret
        exact ⟨⟨8, rfl, .inr ⟨rfl, HF.out⟩⟩, hbb⟩
      | true =>
        have HM : Hid (ZMay z) := (zMay_iff z).2 ⟨hn, HT.out, hr.1 rfl⟩
        clear hr
        go_wp2
        go_ret
        exact ⟨⟨0, rfl, .inl ⟨rfl, HM.out⟩⟩, hbb⟩
  · have HB : Hid (newB z.f z.t = false) := newB_f hn
    have HF : Hid (¬ ZMay z) := fun g => hn g.new
    have hbb := I0.b
    clear hn
    go_enter Try.func63, Try.ntmps63
    go_wp2_with fail
    go_at_call 74
    refine (bounds_any _ _ _).mono ?_
    rintro e w' ⟨rfl, rfl⟩
    rw [HB.out]
    clear I0 c0 c1 c2 c3
    go_wp2
    go_ret
    exact ⟨⟨8, rfl, .inr ⟨rfl, HF.out⟩⟩, hbb⟩

theorem zCheck_ok (w : World) (fo : Option Addr) (fn fc : Nat) (to_ : Option Addr) (tn tc : Nat) (z : Zn) (h : ZnAt w fo fn to_ tn z) (hM : ZMay z) :
    Calls Try.prog 63 #[.agg #[.int .i64 z.f, .int .i64 z.t, .slice fo fn fc, .slice to_ tn tc]] w fun e w' => e = .returned (.int .i64 0) ∧ Below w.heap.size w w' := by
  refine (zCheck_any w fo fn fc to_ tn tc z h).mono ?_
  rintro e w1 ⟨⟨c, rfl, hc⟩, hb⟩
  rcases hc with ⟨rfl, _⟩ | ⟨_, g⟩
  · exact ⟨rfl, hb⟩
  · exact absurd hM g

theorem zCheck_no (w : World) (fo : Option Addr) (fn fc : Nat) (to_ : Option Addr) (tn tc : Nat) (z : Zn) (h : ZnAt w fo fn to_ tn z) (_hf : ZFits z) (hM : ¬ ZMay z) :
    Calls Try.prog 63 #[.agg #[.int .i64 z.f, .int .i64 z.t, .slice fo fn fc, .slice to_ tn tc]] w fun e w' => e = .returned (.int .i64 8) ∧ Below w.heap.size w w' := by
  refine (zCheck_any w fo fn fc to_ tn tc z h).mono ?_
  rintro e w1 ⟨⟨c, rfl, hc⟩, hb⟩
  rcases hc with ⟨_, g⟩ | ⟨rfl, _⟩
  · exact absurd g hM
  · exact ⟨rfl, hb⟩

end Go.Proofs.Ytbjlbmofdnkmiaa

/-
  OWN TEXT. Contracts of the code: pages.zonesMayBe, minsMayBe, Check.
-/
namespace Go.Proofs.Ytbjlbmofdnkmiaa
open Go Go.RowKit Go.Proofs.Ytbjlbmofdnkmiaa.Kit

theorem zoneOf_hp (x : Hx) (i : Nat) : x.hp.zones.getD i ⟨0, 0, [], []⟩ = (x.zs.getD i .zero).z := by
  show (x.zs.map (·.z)).getD i _ = _
  rw [List.getD_eq_getElem?_getD, List.getD_eq_getElem?_getD, List.getElem?_map]
  cases x.zs[i]? <;> rfl
theorem listOf_hp (x : Hx) (i : Nat) : x.hp.lists.getD i .zero = (x.ls.getD i .zero).l := by
  show (x.ls.map (·.l)).getD i _ = _
  rw [List.getD_eq_getElem?_getD, List.getD_eq_getElem?_getD, List.getElem?_map]
  cases x.ls[i]? <;> rfl

set_option maxRecDepth 4000 in
set_option maxHeartbeats 4000000 in
theorem pZonesMay_any (w : World) (x : Hx) (hx : x.At w) :
    Calls Try.prog 31 #[.slice x.zo x.zn x.zc] w fun e w' => RetIff e (ZsOk x.hp) ∧ Below w.heap.size w w' := by
  have hlen : x.hp.zones.length = x.zn := by show (x.zs.map _).length = _; rw [List.length_map]; exact hx.zones.len
  have HNo : Hid (∀ e, (e = Ending.returned (.bool false)) → ¬ ZsOk x.hp → RetIff e (ZsOk x.hp)) := fun e he hn => ⟨false, he, by simp [hn]⟩
  have hZ := hx.zones
  obtain ⟨zo, hzo⟩ : ∃ zo, x.zo = zo := ⟨_, rfl⟩
  rw [hzo] at hZ ⊢
  clear hzo
  have rz := hZ.reach
  obtain ⟨zn, hzn⟩ : ∃ zn, x.zn = zn := ⟨_, rfl⟩
  rw [hzn] at hZ rz hlen ⊢
  clear hzn
  by_cases h2 : zn = 2
  · subst h2
    obtain ⟨g, off, z, fo, fn, fc, to_, tn, tc, ha, c0, c1, c2, c3, hat, hX⟩ := hZ.at 0 (by omega)
    obtain ⟨g', off', z', fo', fn', fc', to', tn', tc', ha', d0, d1, d2, d3, hat', hX'⟩ := hZ.at 1 (by omega)
    subst ha
    simp only [Option.some.injEq, Addr.mk.injEq, and_true] at ha'
    obtain ⟨rfl, rfl⟩ := ha'
    have e0 : x.hp.zones.getD 0 ⟨0, 0, [], []⟩ = z := by rw [zoneOf_hp, hX.out]
    have e1 : x.hp.zones.getD 1 ⟨0, 0, [], []⟩ = z' := by rw [zoneOf_hp, hX'.out]
    have HZ : Hid (ZsOk x.hp ↔ ZMay z ∧ ZMay z' ∧ z.f = 0 ∧ z'.f = z.t ∧ z'.t = 256) := by
      show _ ↔ _
      constructor
      · rintro ⟨_, b, c, d, e, f⟩
        rw [e0] at b d e
        rw [e1] at c e f
        exact ⟨b, c, d, e, f⟩
      · rintro ⟨b, c, d, e, f⟩
        exact ⟨hlen, by rw [e0]; exact b, by rw [e1]; exact c, by rw [e0]; exact d, by rw [e0, e1]; exact e, by rw [e1]; exact f⟩
    have HC0 := zCheck_any w fo fn fc to_ tn tc z hat
    have HC1 := fun W (hb : Below w.heap.size w W) => zCheck_any W fo' fn' fc' to' tn' tc' z' (hat'.below hb)
    have HC1' : Hid _ := HC1
    have cc0 : w.cell? ⟨g, off + 0 * 4, none⟩ = some (.int .i64 z.f) := c0
    simp only [Nat.zero_mul, Nat.add_zero, Nat.one_mul] at c0 c1 c2 c3 d0 d1 d2 d3
    clear HC1 e0 e1 hX hX' hlen hat hat' cc0
    go_enter Try.func31, Try.ntmps31
    go_wp2_with fail
    go_at_call 63
    refine HC0.mono ?_
    rintro e W1 ⟨⟨c, rfl, hc⟩, hb1⟩
    rcases hc with ⟨rfl, hM⟩ | ⟨rfl, hM⟩
    · replace d0 := keep d0 hb1
      replace d1 := keep d1 hb1
      replace d2 := keep d2 hb1
      replace d3 := keep d3 hb1
      replace c0 := keep c0 hb1
      replace c1 := keep c1 hb1
      have HC := HC1'.out W1 hb1
      clear HC0 HC1'
      go_wp2_with fail
      go_at_call 63
      refine HC.mono ?_
      rintro e W2 ⟨⟨c, rfl, hc⟩, hb2⟩
      have hB2 := hb1.trans (hb2.mono hb1.size)
      rcases hc with ⟨rfl, hM'⟩ | ⟨rfl, hM'⟩
      · replace c0 := keep c0 hb2
        replace c1 := keep c1 hb2
        replace d0 := keep d0 hb2
        replace d1 := keep d1 hb2
        have HZ2 : Hid (ZsOk x.hp ↔ z.f = 0 ∧ z'.f = z.t ∧ z'.t = 256) := by show _ ↔ _; rw [HZ.out]; exact ⟨fun h => h.2.2, fun h => ⟨hM, hM', h⟩⟩
        obtain ⟨F, hF⟩ : ∃ F, z.f = F := ⟨_, rfl⟩
        obtain ⟨T, hT⟩ : ∃ F, z.t = F := ⟨_, rfl⟩
        obtain ⟨F', hF'⟩ : ∃ F, z'.f = F := ⟨_, rfl⟩
        obtain ⟨T', hT'⟩ : ∃ F, z'.t = F := ⟨_, rfl⟩
        rw [hF, hT, hF', hT'] at HZ2
        rw [hF] at c0
        rw [hT] at c1
        rw [hF'] at d0
        rw [hT'] at d1
        clear HC d2 d3 c2 c3 hM hM' HZ
        clear hF hT hF' hT'
        go_wp2_with fail
        have fin : ∀ (r : Bool) (W : World), ((r = true) ↔ (F = 0 ∧ F' = T ∧ T' = 256)) → Below w.heap.size w W → RetIff (.returned (.bool r)) (ZsOk x.hp) ∧ Below w.heap.size w W := fun r W h hB => ⟨⟨r, rfl, by rw [HZ2.out]; exact h⟩, hB⟩
        have fin' : Hid _ := fin
        clear fin
        by_cases q1 : F = 0
        · have p1 : (F == 0) = true := by simp [q1]
          by_cases q2 : F' = T
          · have p2 : (F' == T) = true := by simp [q2]
            have H2 : Hid (F = 0 ∧ F' = T) := ⟨q1, q2⟩
            by_cases q3 : T' = 256
            · have p3 : (T' == 256) = true := by simp [q3]
              have H3 : Hid (T' = 256) := q3
              clear q1 q2 q3
              go_quiet (fail)
              go_wp2
              go_ret
              exact fin'.out _ _ ⟨fun _ => ⟨H2.out.1, H2.out.2, H3.out⟩, fun _ => by simp⟩ (hB2.trans ((below_drawn _).mono hB2.size))
            · have p3 : (T' == 256) = false := by simpa using q3
              have H3 : Hid (¬ T' = 256) := q3
              clear q1 q2 q3
              go_quiet (fail)
              go_wp2
              go_ret
              exact fin'.out _ _ ⟨fun h => by simp at h, fun h => absurd h.2.2 H3.out⟩ (hB2.trans ((below_drawn _).mono hB2.size))
          · have p2 : (F' == T) = false := by simpa using q2
            have H3 : Hid (¬ F' = T) := q2
            clear q1 q2
            go_quiet (fail)
            go_wp2
            go_ret
            exact fin'.out _ _ ⟨fun h => by simp at h, fun h => absurd h.2.1 H3.out⟩ (hB2.trans ((below_drawn _).mono hB2.size))
        · have p1 : (F == 0) = false := by simpa using q1
          have H3 : Hid (¬ F = 0) := q1
          clear q1
          go_quiet (fail)
          go_wp2
          go_ret
          exact fin'.out _ _ ⟨fun h => by simp at h, fun h => absurd h.1 H3.out⟩ (hB2.trans ((below_drawn _).mono hB2.size))
      · have hn : Hid (¬ ZsOk x.hp) := fun h => hM' (HZ.out.1 h).2.1
        clear HC HZ d0 d1 d2 d3 c0 c1 c2 c3
        go_wp2
        go_ret
        exact ⟨HNo.out _ rfl hn.out, hB2⟩
    · have hn : Hid (¬ ZsOk x.hp) := fun h => hM (HZ.out.1 h).1
      clear HC0 HC1' HZ d0 d1 d2 d3 c0 c1 c2 c3
      go_wp2
      go_ret
      exact ⟨HNo.out _ rfl hn.out, hb1⟩
  · have hn : Hid (¬ ZsOk x.hp) := fun h => h2 (by have := h.n; omega)
    obtain ⟨N, hN⟩ : ∃ N : Int, (zn : Int) = N := ⟨_, rfl⟩
    have q2 : (N == 2) = false := by simp; omega
    go_enter Try.func31, Try.ntmps31
    go_wp2
    go_ret
    exact ⟨HNo.out _ rfl hn.out, Below.refl _ _⟩

set_option maxRecDepth 4000 in
set_option maxHeartbeats 2000000 in
theorem pMinsMay_any (w : World) (x : Hx) (hx : x.At w) :
    Calls Try.prog 32 #[.slice x.mo x.mn x.mc] w fun e w' => RetIff e (MnOk x.hp) ∧ Below w.heap.size w w' := by
  have hM := hx.mins
  have HNo : Hid (∀ e, (e = Ending.returned (.bool false)) → ¬ MnOk x.hp → RetIff e (MnOk x.hp)) := fun e he hn => ⟨false, he, by simp [hn]⟩
  have hlen : x.hp.mins.length = x.mn := hM.len
  obtain ⟨mo, hmo⟩ : ∃ zo, x.mo = zo := ⟨_, rfl⟩
  rw [hmo] at hM ⊢
  clear hmo
  have rz := hM.reach
  obtain ⟨mn, hmn⟩ : ∃ zn, x.mn = zn := ⟨_, rfl⟩
  rw [hmn] at hM rz hlen ⊢
  clear hmn
  by_cases h2 : mn = 2
  · subst h2
    obtain ⟨g, off, a, ha, c0, hA⟩ := hM.at_.at 0 (by have := hM.len; omega)
    obtain ⟨g', off', b, ha', d0, hB⟩ := hM.at_.at 1 (by have := hM.len; omega)
    subst ha
    simp only [Option.some.injEq, Addr.mk.injEq, and_true] at ha'
    obtain ⟨rfl, rfl⟩ := ha'
    have HZ : Hid (MnOk x.hp ↔ (0 ≤ a ∧ a ≤ 256) ∧ (0 ≤ b ∧ b ≤ 256)) := by
      show _ ↔ _
      have e0 : x.hp.mins.getD 0 0 = a := hA.out
      have e1 : x.hp.mins.getD 1 0 = b := hB.out
      constructor
      · rintro ⟨_, p, q⟩
        rw [e0] at p
        rw [e1] at q
        exact ⟨p, q⟩
      · rintro ⟨p, q⟩
        exact ⟨hlen, by rw [e0]; exact p, by rw [e1]; exact q⟩
    have H0 := pIsMin_any w a
    have H1 := pIsMin_any w b
    simp only [Nat.add_zero] at c0
    clear hA hB hM hlen
    go_enter Try.func32, Try.ntmps32
    go_wp2_with fail
    go_at_call 21
    refine H0.mono ?_
    rintro e W1 ⟨rfl, rfl⟩
    by_cases q1 : 0 ≤ a ∧ a ≤ 256
    · rw [inB_t q1]
      go_wp2_with fail
      go_at_call 21
      refine H1.mono ?_
      rintro e W1 ⟨rfl, rfl⟩
      by_cases q2 : 0 ≤ b ∧ b ≤ 256
      · rw [inB_t q2]
        have hy : Hid (MnOk x.hp) := HZ.out.2 ⟨q1, q2⟩
        clear HZ H0 H1
        go_wp2
        go_ret
        exact ⟨⟨true, rfl, fun _ => hy.out, fun _ => rfl⟩, Below.refl _ _⟩
      · rw [inB_f q2]
        have hn : Hid (¬ MnOk x.hp) := fun h => q2 (HZ.out.1 h).2
        clear HZ H0 H1
        go_wp2
        go_ret
        exact ⟨HNo.out _ rfl hn.out, Below.refl _ _⟩
    · rw [inB_f q1]
      have hn : Hid (¬ MnOk x.hp) := fun h => q1 (HZ.out.1 h).1
      clear HZ H0 H1
      go_wp2
      go_ret
      exact ⟨HNo.out _ rfl hn.out, Below.refl _ _⟩
  · have hn : Hid (¬ MnOk x.hp) := fun h => h2 (by have := h.n; omega)
    have q2 : ((mn : Int) == 2) = false := by simp; omega
    clear h2
    go_enter Try.func32, Try.ntmps32
    go_wp2
    go_ret
    exact ⟨HNo.out _ rfl hn.out, Below.refl _ _⟩

end Go.Proofs.Ytbjlbmofdnkmiaa
