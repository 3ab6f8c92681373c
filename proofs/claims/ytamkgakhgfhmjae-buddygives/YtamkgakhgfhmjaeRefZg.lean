/-
  OWN TEXT. Contracts of the document's answer: GivenOf.
-/
import Derived.Test.YtamkgakhgfhmjaeRefZk2
import Derived.Test.YtamkgakhgfhmjaeZGivP
namespace Go.Proofs.Ytamkgakhgfhmjae
open Go Go.RowKit Go.Proofs.Ytamkgakhgfhmjae.Kit

set_option maxHeartbeats 1000000 in
theorem givenOf_no (w : World) (fo : Option Addr) (fn fc : Nat) (to_ : Option Addr) (tn tc : Nat) (z : Zn) (a s : Int) (h : ZnAt w fo fn to_ tn z) (hM : ¬ ZMay z) :
    Calls Try.prog 16 #[.agg #[.int .i64 z.f, .int .i64 z.t, .slice fo fn fc, .slice to_ tn tc], .int .i64 a, .int .i64 s] w fun e w' => RetNone 8 e ∧ Below w.heap.size w w' := by
  have I0 := baInv_first w fo fn fc to_ tn tc z h
  have c0 := I0.box.c0
  have c1 := I0.box.c1
  have c2 := I0.box.c2
  have c3 := I0.box.c3
  clear h
  go_enter Try.func16, Try.ntmps16
  go_wp2_with fail
  go_at_call 18
  refine (zoneMay_any _ fo fn fc to_ tn tc z I0.zn).mono ?_
  rintro e w1 ⟨⟨r, rfl, hr⟩, hb⟩
  obtain rfl : r = false := by
    cases r with
    | false => rfl
    | true => exact absurd (hr.1 rfl) hM
  have I1 := I0.step hb
  have R1 := I1.res
  obtain ⟨⟨x0, d0⟩, ⟨x1, d1⟩, ⟨x2, d2⟩, ⟨x3, d3⟩, z0, z1, z2, z3⟩ := id R1
  have hB := I1.b
  have hs := I1.size
  clear I0 I1 hb hM hr c0 c1 c2 c3
  go_wp2
  obtain ⟨k0, k1, k2, k3⟩ := res4 R1 (.int .i64 0) (.int .i64 0) (.slice none 0 0) (.slice none 0 0)
  have hbt := but4 w1 (w.heap.size + 1) (.int .i64 0) (.int .i64 0) (.slice none 0 0) (.slice none 0 0)
  exact bodyPost_ret (v := .tuple #[.agg #[.int .i64 0, .int .i64 0, .slice none 0 0, .slice none 0 0], .int .i64 8]) (by simp [results, Try.results16, go_sem, k0, k1, k2, k3]) rfl ⟨rfl, hB.trans (hbt.below (by omega) (by omega))⟩

set_option maxHeartbeats 2000000 in
theorem givenOf_range (w : World) (fo : Option Addr) (fn fc : Nat) (to_ : Option Addr) (tn tc : Nat) (z : Zn) (a s : Int) (h : ZnAt w fo fn to_ tn z) (hM : ZMay z) (hr : ¬ giveOk z a s) :
    Calls Try.prog 16 #[.agg #[.int .i64 z.f, .int .i64 z.t, .slice fo fn fc, .slice to_ tn tc], .int .i64 a, .int .i64 s] w fun e w' => RetNone 1 e ∧ Below w.heap.size w w' := by
  have I0 := baInv_first w fo fn fc to_ tn tc z h
  have c0 := I0.box.c0
  have c1 := I0.box.c1
  have c2 := I0.box.c2
  have c3 := I0.box.c3
  obtain ⟨n1, n2, n3, n4, n5⟩ := hM.new
  clear h
  go_enter Try.func16, Try.ntmps16
  go_wp2_with fail
  go_at_call 18
  refine (zoneMay_any _ fo fn fc to_ tn tc z I0.zn).mono ?_
  rintro e w1 ⟨⟨r, rfl, hr1⟩, hb⟩
  obtain rfl : r = true := hr1.2 hM
  have I1 := I0.step hb
  have R1 := I1.res
  obtain ⟨⟨x0, d0⟩, ⟨x1, d1⟩, ⟨x2, d2⟩, ⟨x3, d3⟩, z0, z1, z2, z3⟩ := id R1
  have hB := I1.b
  have hs := I1.size
  obtain ⟨k0, k1, k2, k3⟩ := res4 R1 (.int .i64 0) (.int .i64 0) (.slice none 0 0) (.slice none 0 0)
  have hbt := but4 w1 (w.heap.size + 1) (.int .i64 0) (.int .i64 0) (.slice none 0 0) (.slice none 0 0)
  clear I0 hb hM hr1 c0 c1 c2 c3
  have c0 := I1.box.c0
  have c1 := I1.box.c1
  clear I1
  by_cases g1 : z.f ≤ a ∧ a ≤ z.t
  · have e1 : inB a z.f z.t = true := inB_t g1
    have e2 : inB s 0 (z.t - a) = false := inB_f (fun g => hr ⟨g1.1, g1.2, g.1, g.2⟩)
    have g2 := g1.1
    have g3 := g1.2
    clear g1 hr
    go_wp2_with (go_at_call 22; refine (in_any _ _ _ _).mono ?_; rintro e w' ⟨rfl, rfl⟩)
    exact bodyPost_ret (v := .tuple #[.agg #[.int .i64 0, .int .i64 0, .slice none 0 0, .slice none 0 0], .int .i64 1]) (by simp [results, Try.results16, go_sem, k0, k1, k2, k3]) rfl ⟨rfl, hB.trans (hbt.below (by omega) (by omega))⟩
  · have e1 : inB a z.f z.t = false := inB_f g1
    clear g1 hr
    go_wp2_with (go_at_call 22; refine (in_any _ _ _ _).mono ?_; rintro e w' ⟨rfl, rfl⟩)
    exact bodyPost_ret (v := .tuple #[.agg #[.int .i64 0, .int .i64 0, .slice none 0 0, .slice none 0 0], .int .i64 1]) (by simp [results, Try.results16, go_sem, k0, k1, k2, k3]) rfl ⟨rfl, hB.trans (hbt.below (by omega) (by omega))⟩

set_option maxHeartbeats 4000000 in
theorem givenOf_do (w : World) (fo : Option Addr) (fn fc : Nat) (to_ : Option Addr) (tn tc : Nat) (z : Zn) (a s : Int) (h : ZnAt w fo fn to_ tn z) (hM : ZMay z) (hr : giveOk z a s) (G : Option Zn) (hG : giveK s.toNat z a = G) :
    Calls Try.prog 16 #[.agg #[.int .i64 z.f, .int .i64 z.t, .slice fo fn fc, .slice to_ tn tc], .int .i64 a, .int .i64 s] w fun e w' => ((∃ Z, G = some Z ∧ RetZone w.heap.size w' Z e) ∨ (G = none ∧ RetNone 5 e)) ∧ Below w.heap.size w w' := by
  have I0 := baInv_first w fo fn fc to_ tn tc z h
  have c0 := I0.box.c0
  have c1 := I0.box.c1
  have c2 := I0.box.c2
  have c3 := I0.box.c3
  obtain ⟨n1, n2, n3, n4, n5⟩ := hM.new
  obtain ⟨r1, r2, r3, r4⟩ := hr
  obtain ⟨S, rfl⟩ : ∃ S : Nat, s = S := ⟨s.toNat, by omega⟩
  have HG : Hid (giveK S z a = G) := by show _ = _; rw [← hG]; rfl
  have e1 : inB a z.f z.t = true := inB_t ⟨r1, r2⟩
  have e2 : inB (S : Int) 0 (z.t - a) = true := inB_t ⟨r3, r4⟩
  clear h hG
  go_enter Try.func16, Try.ntmps16
  go_wp2_with fail
  go_at_call 18
  refine (zoneMay_any _ fo fn fc to_ tn tc z I0.zn).mono ?_
  rintro e w1 ⟨⟨r, rfl, hr1⟩, hb⟩
  obtain rfl : r = true := hr1.2 hM
  have I1 := I0.step hb
  clear I0 hb c0 c1 c2 c3 hr1
  have c0 := I1.box.c0
  have c1 := I1.box.c1
  have c2 := I1.box.c2
  have c3 := I1.box.c3
  go_wp2_with (go_at_call 22; refine (in_any _ _ _ _).mono ?_; rintro e w' ⟨rfl, rfl⟩)
  go_at_call 11
  refine (zoneCopy_any _ fo fn fc to_ tn tc z I1.zn).mono ?_
  rintro e w3 ⟨⟨lo, ln, lc, uo, un, uc, rfl, hz3, f1, f2⟩, hb3⟩
  have I3 := I1.step hb3
  have hs1 := I1.size
  have hbx := below_box w3 (.cells #[.int .i64 z.f, .int .i64 z.t, .slice lo ln lc, .slice uo un uc] 25)
  have X4 := zbox_new w3 (.int .i64 z.f) (.int .i64 z.t) (.slice lo ln lc) (.slice uo un uc) 25
  have hz4 := hz3.below hbx
  have I4 := I3.step hbx
  have hs3 := I3.size
  obtain ⟨W4, hW4⟩ : ∃ W4, w3.alloc (.cells #[.int .i64 z.f, .int .i64 z.t, .slice lo ln lc, .slice uo un uc] 25) = W4 := ⟨_, rfl⟩
  have hs4 : w3.heap.size + 1 ≤ W4.heap.size := by rw [← hW4]; simp
  rw [hW4] at I4 X4 hz4
  have HW4 : Hid _ := hW4
  clear I1 I3 hb3 c0 c1 c2 c3 hbx hW4 e1 e2 hz3
  go_wp2_with (rw [HW4.out])
  clear HW4
  go_loopw [9] (fun iv wr => ∃ (i : Nat) (zi : Zn) (lo : Option Addr) (ln lc : Nat) (uo : Option Addr) (un uc : Nat), i ≤ S ∧ iv = .int .i64 i ∧ Hid (giveK (S - i) zi (a + i) = G) ∧ ZMay zi ∧ zi.f = z.f ∧ zi.t = z.t ∧ ZBox wr w3.heap.size (.int .i64 zi.f) (.int .i64 zi.t) (.slice lo ln lc) (.slice uo un uc) ∧ ZnAt wr lo ln uo un zi ∧ Fresh (w.heap.size + 2) lo ∧ Fresh (w.heap.size + 2) uo ∧ Res4 wr (w.heap.size + 1) ∧ Below w.heap.size w wr ∧ w.heap.size + 2 ≤ wr.heap.size) (fun iv _ => S - (intOf iv).toNat)
  case atStart => exact ⟨0, z, lo, ln, lc, uo, un, uc, Nat.zero_le _, rfl, by simpa using HG, hM, rfl, rfl, X4, hz4, f1.mono hs1, f2.mono hs1, I4.res, I4.b, I4.size⟩
  case round =>
    obtain ⟨i, zi, lo, ln, lc, uo, un, uc, hi, rfl, hGi, hMi, hf, ht, X, hz, f1, f2, R, hB, hs⟩ := hrel
    clear X4 I4 HG hM hz4
    have y0 := X.c0
    have y1 := X.c1
    have y2 := X.c2
    have y3 := X.c3
    have hxl := X.lt
    by_cases hlt : i < S
    · have hA : blkIn zi.f zi.t (a + i) 0 := page_in (by omega) (by omega)
      obtain ⟨m, hm⟩ : ∃ m, S - i = m + 1 := ⟨S - i - 1, by omega⟩
      have HF : Hid (zi.f = z.f) := hf
      have HT : Hid (zi.t = z.t) := ht
      have ha2 : -9223372036854775808 ≤ a + i ∧ a + i ≤ 9223372036854775807 := by omega
      by_cases hv : ovlP zi.free (a + i) 0
      · have HP := backOf_twice wr lo ln lc uo un uc zi (a + i) 0 hz hMi hA hv
        have HN : Hid (G = none) := by show _ = _; rw [← hGi.out, hm]; exact give_none hv
        clear hGi hMi hv hA hf ht
        go_wp2_with fail
        go_at_call 13
        refine HP.mono ?_
        rintro e w5 ⟨rfl, hb5⟩
        have hby := below_box w5 (.cells #[.int .i64 0, .int .i64 0, .slice none 0 0, .slice none 0 0] 25)
        have R1 := (R.below hb5).below hby
        have hB5 := (hB.trans (hb5.mono hB.size)).trans (hby.mono (Nat.le_trans hB.size hb5.size))
        have hs5 := Nat.le_trans hs (Nat.le_trans hb5.size hby.size)
        obtain ⟨⟨x0, d0⟩, ⟨x1, d1⟩, ⟨x2, d2⟩, ⟨x3, d3⟩, z0, z1, z2, z3⟩ := id R1
        clear HP hz R hb5 hB X hby y0 y1 y2 y3
        go_wp2
        obtain ⟨k0, k1, k2, k3⟩ := res4 R1 (.int .i64 0) (.int .i64 0) (.slice none 0 0) (.slice none 0 0)
        have hbt := but4 (w5.alloc (.cells #[.int .i64 0, .int .i64 0, .slice none 0 0, .slice none 0 0] 25)) (w.heap.size + 1) (.int .i64 0) (.int .i64 0) (.slice none 0 0) (.slice none 0 0)
        exact bodyPost_ret (v := .tuple #[.agg #[.int .i64 0, .int .i64 0, .slice none 0 0, .slice none 0 0], .int .i64 5]) (by simp [results, Try.results16, go_sem, k0, k1, k2, k3]) rfl ⟨.inr ⟨HN.out, rfl⟩, hB5.trans (hbt.below (by omega) hB5.size)⟩
      · have HP := backOf_ok wr lo ln lc uo un uc zi (a + i) 0 hz hMi hA hv
        have HN : Hid (giveK (S - (i + 1)) (backZ zi (a + i) 0) (a + ((i + 1 : Nat) : Int)) = G) := by
          show _ = _
          rw [← hGi.out, hm, give_some hv, show S - (i + 1) = m by omega, show a + ((i + 1 : Nat) : Int) = a + i + 1 by omega]
        have hM2 := backZ_may hMi hA hv
        have hf2 : Hid ((backZ zi (a + i) 0).f = z.f) := hf
        have ht2 : Hid ((backZ zi (a + i) 0).t = z.t) := ht
        obtain ⟨Y, hY⟩ : ∃ Y, backZ zi (a + i) 0 = Y := ⟨_, rfl⟩
        rw [hY] at HP HN hM2 hf2 ht2
        clear hGi hMi hv hA hY hf ht
        go_wp2_with fail
        go_at_call 13
        refine HP.mono ?_
        rintro e w5 ⟨⟨lo', ln', lc', uo', un', uc', rfl, hz5, f1', f2'⟩, hb5⟩
        have hby := below_box w5 (.cells #[.int .i64 Y.f, .int .i64 Y.t, .slice lo' ln' lc', .slice uo' un' uc'] 25)
        have V5 := zbox_new w5 (.int .i64 Y.f) (.int .i64 Y.t) (.slice lo' ln' lc') (.slice uo' un' uc') 25
        have X5 := (X.below hb5).below hby
        have R5 := (R.below hb5).below hby
        have hz6 := hz5.below hby
        have hB5 := (hB.trans (hb5.mono hB.size)).trans (hby.mono (Nat.le_trans hB.size hb5.size))
        have hs5 := Nat.le_trans hs (Nat.le_trans hb5.size hby.size)
        have hs6 := hb5.size
        obtain ⟨W5, hW5⟩ : ∃ W5, w5.alloc (.cells #[.int .i64 Y.f, .int .i64 Y.t, .slice lo' ln' lc', .slice uo' un' uc'] 25) = W5 := ⟨_, rfl⟩
        rw [hW5] at V5 X5 R5 hz6 hB5 hs5
        have HW5 : Hid _ := hW5
        have v0 := V5.c0
        have v1 := V5.c1
        have v2 := V5.c2
        have v3 := V5.c3
        have q0 := X5.c0
        have q1 := X5.c1
        have q2 := X5.c2
        have q3 := X5.c3
        have p0 := X5.z0
        have p1 := X5.z1
        have p2 := X5.z2
        have p3 := X5.z3
        have X6 := X5.set4 (.int .i64 Y.f) (.int .i64 Y.t) (.slice lo' ln' lc') (.slice uo' un' uc')
        have hbt := but4 W5 w3.heap.size (.int .i64 Y.f) (.int .i64 Y.t) (.slice lo' ln' lc') (.slice uo' un' uc')
        have R6 := R5.but hbt (by omega)
        have hz7 := hbt.zn hz6 (fun a ha => by have := f1' a ha; omega) (fun a ha => by have := f2' a ha; omega)
        have hB6 := hB5.trans (hbt.below (B := w.heap.size) (by omega) (by omega))
        have hs7 := Nat.le_trans hs5 hbt.size
        clear HP hz R hb5 hB X hW5 hby y0 y1 y2 y3 V5 X5 R5 hz6 hz5 hB5 hbt
        go_wp2_with (rw [HW5.out])
        go_roundw
        case rel => exact ⟨i + 1, Y, lo', ln', lc', uo', un', uc', by omega, by go_num, HN, hM2, hf2.out, ht2.out, X6, hz7, f1'.mono (by omega), f2'.mono (by omega), R6, hB6, hs7⟩
        case measure => simp [intOf]; omega
    · have HN : Hid (G = some zi) := by
        show _ = _
        have h0 : S - i = 0 := by omega
        rw [← hGi.out, h0]
        rfl
      obtain ⟨⟨x0, d0⟩, ⟨x1, d1⟩, ⟨x2, d2⟩, ⟨x3, d3⟩, z0, z1, z2, z3⟩ := id R
      clear hGi hMi X hf ht
      go_wp2
      obtain ⟨k0, k1, k2, k3⟩ := res4 R (.int .i64 zi.f) (.int .i64 zi.t) (.slice lo ln lc) (.slice uo un uc)
      have hbt := but4 wr (w.heap.size + 1) (.int .i64 zi.f) (.int .i64 zi.t) (.slice lo ln lc) (.slice uo un uc)
      exact bodyPost_ret (v := .tuple #[.agg #[.int .i64 zi.f, .int .i64 zi.t, .slice lo ln lc, .slice uo un uc], .int .i64 0]) (by simp [results, Try.results16, go_sem, k0, k1, k2, k3]) rfl ⟨.inl ⟨zi, HN.out, _, _, _, _, _, _, rfl, hbt.zn hz (fun a ha => by have := f1 a ha; omega) (fun a ha => by have := f2 a ha; omega), f1.mono (by omega), f2.mono (by omega)⟩, hB.trans (hbt.below (by omega) (by omega))⟩

end Go.Proofs.Ytamkgakhgfhmjae
