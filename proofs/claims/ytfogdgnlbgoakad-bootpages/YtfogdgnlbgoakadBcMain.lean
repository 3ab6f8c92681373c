/-
  OWN TEXT. Contracts of the code: Ranges, within, Alloc.
-/
import Derived.Test.YtfogdgnlbgoakadBcReserve
import Derived.Test.YtfogdgnlbgoakadBcFind
namespace Go.Proofs.Ytfogdgnlbgoakad
open Go Go.RowKit Go.Proofs.Ytfogdgnlbgoakad.Kit

set_option maxHeartbeats 1000000 in
theorem cRanges_state (w : World) (mo : Option Addr) (mn mc : Nat) (M : List (Int × Int)) (ro : Option Addr) (rn rc : Nat) (R : List (Int × Int)) (hm : Regs w mo mn M) (hr : Regs w ro rn R) (tm : TopL M) (tr : TopL R) (h : ¬ (MayP M ∧ MayP R)) :
    Calls Try.prog 7 #[.agg #[.slice mo mn mc, .slice ro rn rc]] w fun e w' => e = .returned (.tuple #[.slice none 0 0, .int .i64 8]) ∧ Below w.heap.size w w' := by
  have hb0 := below_box w (.cells #[.slice mo mn mc, .slice ro rn rc] 25)
  go_enter Try.func7, Try.ntmps7
  go_wp2_with fail
  go_at_call 10
  refine (cCheck_no _ mo mn mc M ro rn rc R (hm.below hb0) (hr.below hb0) tm tr h).mono ?_
  rintro e w1 ⟨rfl, hb1⟩
  clear tm tr h hm hr
  go_wp2
  go_ret2
  exact ⟨rfl, hb0.trans (hb1.mono hb0.size)⟩

set_option maxHeartbeats 2000000 in
set_option maxRecDepth 4000 in
theorem cRanges_ok (w : World) (mo : Option Addr) (mn mc : Nat) (M : List (Int × Int)) (ro : Option Addr) (rn rc : Nat) (R : List (Int × Int)) (hm : Regs w mo mn M) (hr : Regs w ro rn R) (h : MayP M ∧ MayP R) :
    Calls Try.prog 7 #[.agg #[.slice mo mn mc, .slice ro rn rc]] w fun e w' => ∃ bo n c, e = .returned (.tuple #[.slice bo n c, .int .i64 0]) ∧ Regs w' bo n (drawnAll (freeH M R)) ∧ Below w.heap.size w w' := by
  have hb0 := below_box w (.cells #[.slice mo mn mc, .slice ro rn rc] 25)
  have p0 : (w.alloc (.cells #[.slice mo mn mc, .slice ro rn rc] 25)).cell? ⟨w.heap.size, 0, none⟩ = some (.slice mo mn mc) := by go_simp
  have p1 : (w.alloc (.cells #[.slice mo mn mc, .slice ro rn rc] 25)).cell? ⟨w.heap.size, 1, none⟩ = some (.slice ro rn rc) := by go_simp
  obtain ⟨D, hD⟩ : ∃ D, drawnAll (freeH M R) = D := ⟨_, rfl⟩
  have hlen : D.length ≤ 256 := by rw [← hD, ← drawn_all _ 256 rfl]; exact drawn_len _ 256
  rw [hD]
  have HD : Hid (drawnAll (freeH M R) = D) := hD
  clear hD
  go_enter Try.func7, Try.ntmps7
  go_wp2_with fail
  go_at_call 10
  refine (cCheck_ok _ mo mn mc M ro rn rc R (hm.below hb0) (hr.below hb0) h).mono ?_
  rintro e w1 ⟨rfl, hb1⟩
  replace p0 := keep p0 hb1
  replace p1 := keep p1 hb1
  have hB1 := hb0.trans (hb1.mono hb0.size)
  have HC := bfree_any w1 mo mn mc M ro rn rc R (hm.below hB1) (hr.below hB1) h.1 h.2
  clear hb0 hb1 hm hr
  go_wp2_with fail
  go_at_call 22
  refine HC.mono ?_
  rintro e w2 ⟨rfl, hb2⟩
  have hB2 := hB1.trans (hb2.mono hB1.size)
  clear HC hB1 hb2 p0 p1
  have hz := zero_marks
  obtain ⟨Z, hZ⟩ : ∃ Z, mk (fun _ => false) = Z := ⟨_, rfl⟩
  rw [hZ] at hz
  have hzs : Z.size = (mk fun p => inL M p && !inL R p).size := by rw [← hZ, mk_size, mk_size]
  have hst : (storeCells ⟨w2.heap.size, 0, none⟩ (mk fun p => inL M p && !inL R p).toList 0).run Try.prog (w2.alloc (.cells Z 51)) = .ok () ((w2.alloc (.cells Z 51)).setRow w2.heap.size (mk fun p => inL M p && !inL R p)) := store_row (heap_alloc_new _ _) hzs (mk_oneCell _)
  have hrow : MarksAt ((w2.alloc (.cells Z 51)).setRow w2.heap.size (mk fun p => inL M p && !inL R p)) w2.heap.size 51 (freeH M R) := setRow_heap _ _ _ _ _ _ (heap_alloc_new _ _)
  have hbs : Below w2.heap.size w2 ((w2.alloc (.cells Z 51)).setRow w2.heap.size (mk fun p => inL M p && !inL R p)) := below_setRow (below_box _ _) (Nat.le_refl _) _
  have HX := bregions_any _ _ _ hrow
  rw [HD.out] at HX
  obtain ⟨C, hC⟩ : ∃ C, (mk fun p => inL M p && !inL R p) = C := ⟨_, rfl⟩
  rw [hC] at hst HX hbs ⊢
  obtain ⟨N, hN⟩ : ∃ N, N = 256 := ⟨_, rfl⟩
  have zT : ∀ w, (sizeOf 51).run Try.prog w = .ok N w := by subst hN; exact fun _ => by kernel_rfl
  have aT : ∀ w, (isAgg 51).run Try.prog w = .ok true w := fun _ => by kernel_rfl
  have hcN : C.size = N := by rw [← hC, mk_size, hN]
  have hB3 := hB2.trans (hbs.mono hB2.size)
  obtain ⟨W3, hW3⟩ : ∃ W3, (w2.alloc (.cells Z 51)).setRow w2.heap.size C = W3 := ⟨_, rfl⟩
  rw [hW3] at hst HX hB3
  clear hN hrow hzs hC hB2 hbs
  go_wp2_with fail
  go_at_call 23
  refine HX.mono ?_
  rintro e w4 ⟨bo, c, rfl, own, hb4⟩
  clear HX
  go_wp2
  go_ret2
  exact ⟨bo, _, c, rfl, ⟨rfl, by omega, regs_of_owns own⟩, hB3.trans (hb4.mono hB3.size)⟩

theorem within_any (w : World) (n least : Int) :
    Calls Try.prog 26 #[.int .i64 n, .int .i64 least] w fun e w' => e = .returned (.bool (inB n least 256)) ∧ w = w' := by
  by_cases h1 : least ≤ n
  · by_cases h2 : n ≤ 256
    · have e1 : inB n least 256 = true := inB_t ⟨h1, h2⟩
      go_enter Try.func26, Try.ntmps26
      go_wp2
      go_ret
      exact ⟨ret_bool e1.symm, rfl⟩
    · have e1 : inB n least 256 = false := inB_f (fun g => h2 g.2)
      go_enter Try.func26, Try.ntmps26
      go_wp2
      go_ret
      exact ⟨rfl, rfl⟩
  · have e1 : inB n least 256 = false := inB_f (fun g => h1 g.1)
    go_enter Try.func26, Try.ntmps26
    go_wp2
    go_ret
    exact ⟨rfl, rfl⟩

set_option maxHeartbeats 1000000 in
theorem cAlloc_state (w : World) (mo : Option Addr) (mn mc : Nat) (M : List (Int × Int)) (ro : Option Addr) (rn rc : Nat) (R : List (Int × Int)) (sz al lo hi : Int) (down : Bool) (hm : Regs w mo mn M) (hr : Regs w ro rn R) (tm : TopL M) (tr : TopL R) (h : ¬ (MayP M ∧ MayP R)) :
    Calls Try.prog 12 #[.agg #[.slice mo mn mc, .slice ro rn rc], .int .i64 sz, .int .i64 al, .int .i64 lo, .int .i64 hi, .bool down] w fun e w' => e = .returned (.tuple #[.agg #[.slice none 0 0, .slice none 0 0], .int .i64 0, .int .i64 8]) ∧ Below w.heap.size w w' := by
  have I0 := alInv_first w mo mn mc M ro rn rc R hm hr
  clear hm hr
  go_enter Try.func12, Try.ntmps12
  go_wp2_with fail
  go_at_call 10
  refine (cCheck_no _ mo mn mc M ro rn rc R I0.m I0.r tm tr h).mono ?_
  rintro e w1 ⟨rfl, hb1⟩
  have I1 := I0.step hb1
  obtain ⟨⟨x0, d0⟩, ⟨x1, d1⟩, z0, z1⟩ := I1.res
  have hB := I1.b
  clear I0 I1 h hb1 tm tr
  go_wp2
  obtain ⟨k0, k1⟩ := res2 d0 d1 (.slice none 0 0) (.slice none 0 0)
  exact bodyPost_ret (v := .tuple #[.agg #[.slice none 0 0, .slice none 0 0], .int .i64 0, .int .i64 8]) (by simp [results, Try.results12, go_sem, k0, k1]) rfl ⟨rfl, below2 hB (by omega) _ _⟩

set_option maxHeartbeats 1000000 in
theorem cAlloc_range (w : World) (mo : Option Addr) (mn mc : Nat) (M : List (Int × Int)) (ro : Option Addr) (rn rc : Nat) (R : List (Int × Int)) (sz al lo hi : Int) (down : Bool) (hm : Regs w mo mn M) (hr : Regs w ro rn R) (hM : MayP M ∧ MayP R)
    (h : (inB sz 1 256 && inB al 1 256 && inB lo 0 256 && inB hi lo 256) = false) :
    Calls Try.prog 12 #[.agg #[.slice mo mn mc, .slice ro rn rc], .int .i64 sz, .int .i64 al, .int .i64 lo, .int .i64 hi, .bool down] w fun e w' => e = .returned (.tuple #[.agg #[.slice none 0 0, .slice none 0 0], .int .i64 0, .int .i64 1]) ∧ Below w.heap.size w w' := by
  have I0 := alInv_first w mo mn mc M ro rn rc R hm hr
  clear hm hr
  go_enter Try.func12, Try.ntmps12
  go_wp2_with fail
  go_at_call 10
  refine (cCheck_ok _ mo mn mc M ro rn rc R I0.m I0.r hM).mono ?_
  rintro e w1 ⟨rfl, hb1⟩
  have I1 := I0.step hb1
  obtain ⟨⟨x0, d0⟩, ⟨x1, d1⟩, z0, z1⟩ := I1.res
  have hB := I1.b
  clear I0 I1 hb1 hM
  have key : ∀ (P : Prop), ((inB sz 1 256 = false) → P) → ((inB sz 1 256 = true ∧ inB al 1 256 = false) → P) → ((inB sz 1 256 = true ∧ inB al 1 256 = true ∧ inB lo 0 256 = false) → P) → ((inB sz 1 256 = true ∧ inB al 1 256 = true ∧ inB lo 0 256 = true ∧ inB hi lo 256 = false) → P) → P := by
    intro P p1 p2 p3 p4
    cases h1 : inB sz 1 256 with
    | false => exact p1 h1
    | true =>
      cases h2 : inB al 1 256 with
      | false => exact p2 ⟨h1, h2⟩
      | true =>
        cases h3 : inB lo 0 256 with
        | false => exact p3 ⟨h1, h2, h3⟩
        | true =>
          refine p4 ⟨h1, h2, h3, ?_⟩
          rw [h1, h2, h3] at h
          simpa using h
  clear h
  obtain ⟨k0, k1⟩ := res2 d0 d1 (.slice none 0 0) (.slice none 0 0)
  have K0 : Hid _ := k0
  have K1 : Hid _ := k1
  clear k0 k1
  apply key
  all_goals clear key
  · intro e1
    go_wp2_with (go_at_call 26; refine (within_any _ _ _).mono ?_; rintro e w' ⟨rfl, rfl⟩)
    have k0 := K0.out
    have k1 := K1.out
    exact bodyPost_ret (v := .tuple #[.agg #[.slice none 0 0, .slice none 0 0], .int .i64 0, .int .i64 1]) (by simp [results, Try.results12, go_sem, k0, k1]) rfl ⟨rfl, below2 hB (by omega) _ _⟩
  · rintro ⟨e1, e2⟩
    go_wp2_with (go_at_call 26; refine (within_any _ _ _).mono ?_; rintro e w' ⟨rfl, rfl⟩)
    have k0 := K0.out
    have k1 := K1.out
    exact bodyPost_ret (v := .tuple #[.agg #[.slice none 0 0, .slice none 0 0], .int .i64 0, .int .i64 1]) (by simp [results, Try.results12, go_sem, k0, k1]) rfl ⟨rfl, below2 hB (by omega) _ _⟩
  · rintro ⟨e1, e2, e3⟩
    go_wp2_with (go_at_call 26; refine (within_any _ _ _).mono ?_; rintro e w' ⟨rfl, rfl⟩)
    have k0 := K0.out
    have k1 := K1.out
    exact bodyPost_ret (v := .tuple #[.agg #[.slice none 0 0, .slice none 0 0], .int .i64 0, .int .i64 1]) (by simp [results, Try.results12, go_sem, k0, k1]) rfl ⟨rfl, below2 hB (by omega) _ _⟩
  · rintro ⟨e1, e2, e3, e4⟩
    go_wp2_with (go_at_call 26; refine (within_any _ _ _).mono ?_; rintro e w' ⟨rfl, rfl⟩)
    have k0 := K0.out
    have k1 := K1.out
    exact bodyPost_ret (v := .tuple #[.agg #[.slice none 0 0, .slice none 0 0], .int .i64 0, .int .i64 1]) (by simp [results, Try.results12, go_sem, k0, k1]) rfl ⟨rfl, below2 hB (by omega) _ _⟩

set_option maxHeartbeats 4000000 in
set_option maxRecDepth 4000 in
theorem cAlloc_main (w : World) (mo : Option Addr) (mn mc : Nat) (M : List (Int × Int)) (ro : Option Addr) (rn rc : Nat) (R : List (Int × Int)) (sz al lo hi : Nat) (down : Bool) (hm : Regs w mo mn M) (hr : Regs w ro rn R) (hM : MayP M ∧ MayP R) (h1 : 1 ≤ sz) (h2 : sz ≤ 256) (h3 : 1 ≤ al) (h4 : al ≤ 256) (h5 : lo ≤ hi) (h6 : hi ≤ 256) :
    Calls Try.prog 12 #[.agg #[.slice mo mn mc, .slice ro rn rc], .int .i64 sz, .int .i64 al, .int .i64 lo, .int .i64 hi, .bool down] w fun e w' => AllocEnd w w' M R sz (bestK (freeH M R) sz al lo down (places sz lo hi)) e ∧ Below w.heap.size w w' := by
  have e1 : inB sz 1 256 = true := inB_t (by omega)
  have e2 : inB al 1 256 = true := inB_t (by omega)
  have e3 : inB lo 0 256 = true := inB_t (by omega)
  have e4 : inB hi lo 256 = true := inB_t (by omega)
  have I0 := alInv_first w mo mn mc M ro rn rc R hm hr
  clear hm hr
  go_enter Try.func12, Try.ntmps12
  go_wp2_with fail
  go_at_call 10
  refine (cCheck_ok _ mo mn mc M ro rn rc R I0.m I0.r hM).mono ?_
  rintro e w1 ⟨rfl, hb1⟩
  have I1 := I0.step hb1
  have c0 := I1.c0
  have c1 := I1.c1
  clear I0 hb1
  have HC := bfree_any w1 mo mn mc M ro rn rc R I1.m I1.r hM.1 hM.2
  go_wp2_with (go_at_call 26; refine (within_any _ _ _).mono ?_; rintro e w' ⟨rfl, rfl⟩)
  go_at_call 22
  refine HC.mono ?_
  rintro e w2 ⟨rfl, hb2⟩
  have I2 := I1.step hb2
  clear HC I1 hb2 c0 c1 e1 e2 e3 e4
  have hz := zero_marks
  obtain ⟨Z, hZ⟩ : ∃ Z, mk (fun _ => false) = Z := ⟨_, rfl⟩
  rw [hZ] at hz
  have hzs : Z.size = (mk fun p => inL M p && !inL R p).size := by rw [← hZ, mk_size, mk_size]
  have hst : (storeCells ⟨w2.heap.size, 0, none⟩ (mk fun p => inL M p && !inL R p).toList 0).run Try.prog (w2.alloc (.cells Z 51)) = .ok () ((w2.alloc (.cells Z 51)).setRow w2.heap.size (mk fun p => inL M p && !inL R p)) := store_row (heap_alloc_new _ _) hzs (mk_oneCell _)
  have hrow : MarksAt ((w2.alloc (.cells Z 51)).setRow w2.heap.size (mk fun p => inL M p && !inL R p)) w2.heap.size 51 (freeH M R) := setRow_heap _ _ _ _ _ _ (heap_alloc_new _ _)
  have hbs : Below w2.heap.size w2 ((w2.alloc (.cells Z 51)).setRow w2.heap.size (mk fun p => inL M p && !inL R p)) := below_setRow (below_box _ _) (Nat.le_refl _) _
  have I3 := I2.step hbs
  obtain ⟨C, hC⟩ : ∃ C, (mk fun p => inL M p && !inL R p) = C := ⟨_, rfl⟩
  rw [hC] at hst hrow I3 ⊢
  obtain ⟨N, hN⟩ : ∃ N, N = 256 := ⟨_, rfl⟩
  have zT : ∀ w, (sizeOf 51).run Try.prog w = .ok N w := by subst hN; exact fun _ => by kernel_rfl
  have aT : ∀ w, (isAgg 51).run Try.prog w = .ok true w := fun _ => by kernel_rfl
  have hcN : C.size = N := by rw [← hC, mk_size, hN]
  obtain ⟨W3, hW3⟩ : ∃ W3, (w2.alloc (.cells Z 51)).setRow w2.heap.size C = W3 := ⟨_, rfl⟩
  rw [hW3] at hst hrow I3
  clear hN hzs hC hbs I2
  have HF := bfind_any W3 w2.heap.size (freeH M R) sz al lo hi down hrow h1 h2 h3 h4 h5 h6
  have hgot : 0 ≤ bestK (freeH M R) sz al lo down (places sz lo hi) → ∃ p : Nat, bestK (freeH M R) sz al lo down (places sz lo hi) = p ∧ p + sz ≤ 256 := by
    intro hB
    rcases bestK_spec (freeH M R) sz al lo down (places sz lo hi) with ⟨e, _⟩ | ⟨i, hi', e, _⟩
    · omega
    · exact ⟨lo + i, e, by unfold places at hi'; omega⟩
  obtain ⟨B, hB⟩ : ∃ B, bestK (freeH M R) sz al lo down (places sz lo hi) = B := ⟨_, rfl⟩
  rw [hB] at HF hgot
  have HBB : Hid _ := hB
  clear hB hrow
  go_wp2_with fail
  go_at_call 27
  refine HF.mono ?_
  rintro e w' ⟨rfl, rfl⟩
  clear HF hst hW3 hz zT aT hcN
  by_cases hneg : B < 0
  · have v1 : foundB B = false := by unfold foundB; exact decide_eq_false (by omega)
    have v2 : foundV B = 0 := by unfold foundV; rw [if_pos hneg]
    rw [v1, v2]
    have HN : Hid _ := hneg
    obtain ⟨⟨x0, d0⟩, ⟨x1, d1⟩, z0, z1⟩ := I3.res
    have hBB := I3.b
    clear I3 hgot v1 v2 hneg
    go_wp2
    obtain ⟨k0, k1⟩ := res2 d0 d1 (.slice none 0 0) (.slice none 0 0)
    refine bodyPost_ret (v := .tuple #[.agg #[.slice none 0 0, .slice none 0 0], .int .i64 0, .int .i64 6]) (by simp [results, Try.results12, go_sem, k0, k1]) rfl ⟨?_, below2 hBB (by omega) _ _⟩
    rw [HBB.out]
    exact Or.inl ⟨HN.out, rfl⟩
  · obtain ⟨p, hp, hps⟩ := hgot (by omega)
    subst hp
    have v1 : foundB (p : Int) = true := by unfold foundB; exact decide_eq_true (by omega)
    have v2 : foundV (p : Int) = p := by unfold foundV; rw [if_neg (by omega)]
    rw [v1, v2]
    have hreg : regOk ((p : Int), (sz : Int)) := by
      show 0 ≤ (p : Int) ∧ (p : Int) ≤ 255 ∧ 1 ≤ (sz : Int) ∧ (sz : Int) ≤ 256 ∧ (p : Int) + sz ≤ 256
      omega
    have HR := cReserve_both W3 mo mn mc M ro rn rc R p sz I3.m I3.r hM hreg
    have c0 := I3.c0
    have c1 := I3.c1
    obtain ⟨D, hD⟩ : ∃ D, drawnAll (chH (p : Int) sz true R) = D := ⟨_, rfl⟩
    rw [hD] at HR
    have HDD : Hid _ := hD
    clear hD v1 v2 hneg hgot
    go_wp2_with fail
    go_at_call 21
    refine HR.mono ?_
    rintro e w4 ⟨HE, hb4⟩
    have I4 := I3.step hb4
    have hs3 := I3.size
    clear HR I3 c0 c1
    rcases HE with ⟨hl, rfl⟩ | ⟨hl, m1, n1, d1', r1, n2, d2', rfl, g1, g2, f1, f2⟩
    · have HL : Hid _ := hl
      have hbx := below_box w4 (.cells #[.slice none 0 0, .slice none 0 0] 25)
      have I5 := I4.step hbx
      obtain ⟨⟨x0, d0⟩, ⟨x1, d1⟩, z0, z1⟩ := I5.res
      have hBB := I5.b
      clear hl hbx I5 I4
      go_wp2
      obtain ⟨k0, k1⟩ := res2 d0 d1 (.slice none 0 0) (.slice none 0 0)
      refine bodyPost_ret (v := .tuple #[.agg #[.slice none 0 0, .slice none 0 0], .int .i64 0, .int .i64 9]) (by simp [results, Try.results12, go_sem, k0, k1]) rfl ⟨?_, below2 hBB (by omega) _ _⟩
      rw [HBB.out]
      refine Or.inr (Or.inl ⟨by omega, ?_, rfl⟩)
      rw [HDD.out]; exact HL.out
    · have HL : Hid _ := hl
      have hbx := below_box w4 (.cells #[.slice m1 n1 d1', .slice r1 n2 d2'] 25)
      have y0 : (w4.alloc (.cells #[.slice m1 n1 d1', .slice r1 n2 d2'] 25)).cell? ⟨w4.heap.size, 0, none⟩ = some (.slice m1 n1 d1') := by go_simp
      have y1 : (w4.alloc (.cells #[.slice m1 n1 d1', .slice r1 n2 d2'] 25)).cell? ⟨w4.heap.size, 1, none⟩ = some (.slice r1 n2 d2') := by go_simp
      have I5 := I4.step hbx
      obtain ⟨⟨x0, d0⟩, ⟨x1, d1⟩, z0, z1⟩ := I5.res
      have hBB := I5.b
      replace g1 := g1.below hbx
      replace g2 := g2.below hbx
      clear hl hbx I5 I4
      go_wp2
      obtain ⟨k0, k1⟩ := res2 d0 d1 (.slice m1 n1 d1') (.slice r1 n2 d2')
      refine bodyPost_ret (v := .tuple #[.agg #[.slice m1 n1 d1', .slice r1 n2 d2'], .int .i64 p, .int .i64 0]) (by simp [results, Try.results12, go_sem, k0, k1]) rfl ⟨?_, below2 hBB (by omega) _ _⟩
      rw [HBB.out]
      refine Or.inr (Or.inr ⟨by omega, ?_, m1, n1, d1', r1, n2, d2', rfl, ?_, ?_, fun a ha => ?_, fun a ha => ?_⟩)
      · rw [HDD.out]; exact HL.out
      · exact regs_set2 g1 (fun a ha => by have := f1 a ha; omega) _ _
      · rw [HDD.out]; exact regs_set2 g2 (fun a ha => by have := f2 a ha; omega) _ _
      · have := f1 a ha; omega
      · have := f2 a ha; omega

end Go.Proofs.Ytfogdgnlbgoakad
