/-
  OWN TEXT. The walk of the law BootAllocates: it returns true and writes nothing that was there.
-/
import Derived.Test.YtfogdgnlbgoakadKBoot
import Derived.Test.YtfogdgnlbgoakadKalC
import Derived.Test.YtfogdgnlbgoakadKEqR
import Derived.Test.YtfogdgnlbgoakadBcMain
import Derived.Test.YtfogdgnlbgoakadBcChange
import Derived.Test.YtfogdgnlbgoakadAFew
namespace Go.Proofs.Ytfogdgnlbgoakad
open Go Go.RowKit Go.Proofs.Ytfogdgnlbgoakad.Kit

theorem new_two2 (w : World) (a b : Value) (t : TypeId) : (w.alloc (.cells #[a, b] t)).cell? ⟨w.heap.size, 0, none⟩ = some a ∧ (w.alloc (.cells #[a, b] t)).cell? ⟨w.heap.size, 1, none⟩ = some b := by
  constructor <;> go_simp

theorem new_one (w : World) (a : Value) (t : TypeId) : (w.alloc (.cells #[a] t)).cell? ⟨w.heap.size, 0, none⟩ = some a := by go_simp

set_option maxHeartbeats 8000000 in
set_option maxRecDepth 10000 in
theorem bootAllocates_walk (ao : Option Addr) (n cap : Nat) (l : List Raw4) (size align : Int) (down : Bool) (w : World) (h : IsRaws w ao n cap l) (wf : (Lit.int .i64 size).wf = true) (wf2 : (Lit.int .i64 align).wf = true) :
    Calls Try.prog 4 #[.slice ao n cap, .int .i64 size, .int .i64 align, .bool down] w fun e w' => e = .returned (.bool true) ∧ Below w.heap.size w w' := by
  go_enter Try.func4, Try.ntmps4
  go_wp2_with fail
  go_at_call 6
  refine (booted_any w ao n cap l h 20 (by omega)).mono ?_
  rintro e w1 ⟨mo, mn, mc, M, ro, rn, rc, R, cur, rfl, gM, gR, hM, hR, hcur, lM, lR, hb1⟩
  obtain ⟨N, hN⟩ : ∃ N, N = 512 := ⟨_, rfl⟩
  have zT : ∀ w, (sizeOf 27).run Try.prog w = .ok N w := by subst hN; exact fun _ => by kernel_rfl
  have hcN : cur.size = N := by rw [hcur.size, hN]
  have hz := zero_b2
  have hst : ∀ X : World, X.heap[w1.heap.size + 1]? = some (.cells zc512 27 (0, 0)) → (storeCells ⟨w1.heap.size + 1, 0, none⟩ cur.toList 0).run Try.prog X = .ok () (X.setRow (w1.heap.size + 1) cur) := fun X hX => store_row hX (by rw [hcur.size]; simp [zc512]) (cur_oneCell hcur)
  have hst1 := hst ((w1.alloc (.cells #[.slice mo mn mc, .slice ro rn rc] 25)).alloc (.cells zc512 27)) (by have := heap_alloc_new (w1.alloc (.cells #[.slice mo mn mc, .slice ro rn rc] 25)) (.cells zc512 27); simpa using this)
  obtain ⟨W2, hW2⟩ : ∃ W2, ((w1.alloc (.cells #[.slice mo mn mc, .slice ro rn rc] 25)).alloc (.cells zc512 27)).setRow (w1.heap.size + 1) cur = W2 := ⟨_, rfl⟩
  have hb2 : Below w1.heap.size w1 W2 := by rw [← hW2]; exact below_setRow (((Below.refl _ _).alloc (Nat.le_refl _) _).alloc (by simp) _) (by omega) _
  have hblk : W2.heap[w1.heap.size]? = (w1.alloc (.cells #[.slice mo mn mc, .slice ro rn rc] 25)).heap[w1.heap.size]? := by rw [← hW2, setRow_other _ _ _ _ (by omega), Below.heap_alloc _ _ _ (by simp)]
  have c0 : W2.cell? ⟨w1.heap.size, 0, none⟩ = some (.slice mo mn mc) := (World.cell?_of_block (a := ⟨w1.heap.size, 0, none⟩) hblk).trans (new_two2 _ _ _ _).1
  have c1 : W2.cell? ⟨w1.heap.size, 1, none⟩ = some (.slice ro rn rc) := (World.cell?_of_block (a := ⟨w1.heap.size, 1, none⟩) hblk).trans (new_two2 _ _ _ _).2
  rw [hW2] at hst1
  have m2 := gM.below hb2
  have r2 := gR.below hb2
  have hB2 := hb1.trans (hb2.mono hb1.size)
  clear hst hN hblk gM gR hb1 hb2 hcur
  go_wp2_with fail
  go_at_call 11
  refine (picked_int size _ 20 (by rfl) wf (by omega) (by omega) _).mono ?_
  rintro e w' ⟨⟨r, hr, rfl⟩, rfl⟩
  clear hW2 hst1 hz wf zT hcN
  obtain ⟨sz, hsz⟩ : ∃ s : Nat, (1 : Int) + r = s := ⟨1 + r, by simp⟩
  have hs1 : 1 ≤ sz := by omega
  have hs2 : sz ≤ 20 := by omega
  go_wp2_with fail
  go_at_call 11
  refine (picked_int align _ 5 (by rfl) wf2 (by omega) (by omega) _).mono ?_
  rintro e w' ⟨⟨a, ha, rfl⟩, rfl⟩
  clear wf2
  obtain ⟨k, hk, hk1, hk2⟩ : ∃ k : Nat, wrap64 (2 ^ a) = (k : Int) ∧ 1 ≤ k ∧ k ≤ 16 := by
    match a, ha with
    | 0, _ => exact ⟨1, by unfold wrap64; omega, by omega, by omega⟩
    | 1, _ => exact ⟨2, by unfold wrap64; omega, by omega, by omega⟩
    | 2, _ => exact ⟨4, by unfold wrap64; omega, by omega, by omega⟩
    | 3, _ => exact ⟨8, by unfold wrap64; omega, by omega, by omega⟩
    | 4, _ => exact ⟨16, by unfold wrap64; omega, by omega, by omega⟩
  have hbn := below_box W2 (.cells #[.int .i64 sz] 3)
  have hbk := below_box (W2.alloc (.cells #[.int .i64 sz] 3)) (.cells #[.int .i64 k] 3)
  have n0 := keep (new_one W2 (.int .i64 sz) 3) hbk
  have k0 := new_one (W2.alloc (.cells #[.int .i64 sz] 3)) (.int .i64 k) 3
  rw [show (W2.alloc (.cells #[.int .i64 sz] 3)).heap.size = W2.heap.size + 1 by simp] at k0
  replace c0 := keep (keep c0 hbn) hbk
  replace c1 := keep (keep c1 hbn) hbk
  have m4 := (m2.below hbn).below hbk
  have r4 := (r2.below hbn).below hbk
  have hB4 := (hB2.trans (hbn.mono hB2.size)).trans (hbk.mono (Nat.le_trans hB2.size hbn.size))
  clear m2 r2 hbn hbk hB2
  obtain ⟨B, hB⟩ : ∃ B, bestK (freeH M R) sz k 0 down (places sz 0 256) = B := ⟨_, rfl⟩
  have HB : Hid _ := hB
  clear hB
  have HA := cAlloc_main _ mo mn mc M ro rn rc R sz k 0 256 down m4 r4 ⟨hM, hR⟩ hs1 (by omega) (by omega) (by omega) (by omega) (by omega)
  rw [HB.out] at HA
  go_wp2_with fail
  go_at_call 12
  refine HA.mono ?_
  rintro e w5 ⟨HE, hb5⟩
  clear HA hk
  replace c0 := keep c0 hb5
  replace c1 := keep c1 hb5
  replace n0 := keep n0 hb5
  replace k0 := keep k0 hb5
  have m5 := m4.below hb5
  have r5 := r4.below hb5
  have hB5 := hB4.trans (hb5.mono hB4.size)
  clear m4 r4 hB4
  rcases alloc_few HE hR (by omega) hs1 with ⟨g1, g2⟩ | ⟨g1, xm, xn, xc, xr, xo, xd, g2, gx1, gx2⟩
  · subst g2
    clear HE
    have hx1 := below_box w5 (.cells #[.slice none 0 0, .slice none 0 0] 25)
    have hx2 := below_box (w5.alloc (.cells #[.slice none 0 0, .slice none 0 0] 25)) (.cells #[.int .i64 0] 3)
    replace c0 := keep (keep c0 hx1) hx2
    replace c1 := keep (keep c1 hx1) hx2
    replace n0 := keep (keep n0 hx1) hx2
    replace k0 := keep (keep k0 hx1) hx2
    have m7 := (m5.below hx1).below hx2
    have r7 := (r5.below hx1).below hx2
    have hB7 := (hB5.trans (hx1.mono hB5.size)).trans (hx2.mono (Nat.le_trans hB5.size hx1.size))
    obtain ⟨D, hD⟩ : ∃ D, drawnAll (freeH M R) = D := ⟨_, rfl⟩
    have hDc : Canon 256 0 D := by rw [← hD]; exact drawnAll_canon _
    have HN : Hid (D.any (fitR k sz) = false) := by rw [← hD]; exact no_fit sz k down hs1 hk1 (by rw [HB.out]; exact g1)
    have HR := cRanges_ok _ mo mn mc M ro rn rc R m7 r7 ⟨hM, hR⟩
    rw [hD] at HR
    clear hD hx1 hx2 m5 r5 m7 r7 hB5 hb5
    go_wp2_with fail
    go_at_call 7
    refine HR.mono ?_
    rintro e w9 ⟨fo, fn, fc, rfl, gD, hb9⟩
    clear HR
    replace n0 := keep n0 hb9
    replace k0 := keep k0 hb9
    have hB9 := hB7.trans (hb9.mono hB7.size)
    have hcc : HoldsR 13 #[.pointer (some ⟨W2.heap.size + 1, 0, none⟩), .pointer (some ⟨W2.heap.size, 0, none⟩)] D (fitR k sz) w9 := fun i hi W hW => alF1_any W _ _ k sz _ _ (keep k0 hW) (keep n0 hW) hk1 hk2 hs2 (canon_ok hDc i hi)
    have HC := contains_alF1 w9 _ _ fo fn fc D (fitR k sz) gD hcc
    rw [HN.out] at HC
    clear hB7 hcc hb9 c0 c1
    go_wp2_with fail
    go_at_call 8
    refine HC.mono ?_
    rintro e w10 ⟨rfl, hb10⟩
    clear HC
    go_wp2
    go_ret
    exact ⟨rfl, hB9.trans (hb10.mono hB9.size)⟩
  · subst g2
    clear HE
    obtain ⟨p, hp0, hp1, hp2, hp3⟩ := got (h := freeH M R) (n := sz) (k := k) (down := down) (by rw [HB.out]; exact g1)
    rw [HB.out] at hp0
    subst hp0
    clear HB g1
    have hRp : ∀ i : Nat, i < sz → inL R ((p : Int) + i) = false := fun i hi => by
      have := hp3 i hi
      unfold freeH at this
      cases hh : inL R ((p : Int) + i) with
      | false => rfl
      | true => rw [hh] at this; simp at this
    obtain ⟨R1, hR1⟩ : ∃ R1, drawnAll (chH p sz true R) = R1 := ⟨_, rfl⟩
    have hlen1 : R1.length ≤ 40 := by rw [← hR1]; have := change_len hR p sz true hs1; omega
    have hM1 : MayP R1 := by rw [← hR1] at hlen1 ⊢; exact change_may p sz true hlen1
    have HBk : Hid (drawnAll (chH p sz false R1) = R) := by rw [← hR1]; exact back_same hR p sz hs1 hRp
    obtain ⟨D, hD⟩ : ∃ D, drawnAll (freeH M R) = D := ⟨_, rfl⟩
    have hDc : Canon 256 0 D := by rw [← hD]; exact drawnAll_canon _
    obtain ⟨D1, hD1⟩ : ∃ D, drawnAll (freeH M R1) = D := ⟨_, rfl⟩
    have hDc1 : Canon 256 0 D1 := by rw [← hD1]; exact drawnAll_canon _
    have HI : Hid (D.any (insideR p sz) = true) := by rw [← hD]; exact inside_t p sz hs1 hp1 hp3
    have HM : Hid (D1.any (meetR p sz) = false) := by rw [← hD1]; exact meet_f p sz hs1 hp1 (fun i hi => by rw [← hR1]; exact less_f p sz hs1 hp1 i hi)
    have HD : Hid _ := hD
    have HD1 : Hid _ := hD1
    rw [hR1] at gx2
    have hmod : (p : Int) % (k : Int) = 0 := by rw [← Int.natCast_emod, hp2]; rfl
    clear hD hD1 hR1 hRp hp2 hp3 lM lR
    have hx1 := below_box w5 (.cells #[.slice xm xn xc, .slice xr xo xd] 25)
    have hx2 := below_box (w5.alloc (.cells #[.slice xm xn xc, .slice xr xo xd] 25)) (.cells #[.int .i64 p] 3)
    obtain ⟨v0, v1⟩ := new_two2 w5 (.slice xm xn xc) (.slice xr xo xd) 25
    replace v0 := keep v0 hx2
    replace v1 := keep v1 hx2
    have p0 := new_one (w5.alloc (.cells #[.slice xm xn xc, .slice xr xo xd] 25)) (.int .i64 p) 3
    rw [show (w5.alloc (.cells #[.slice xm xn xc, .slice xr xo xd] 25)).heap.size = w5.heap.size + 1 by simp] at p0
    replace c0 := keep (keep c0 hx1) hx2
    replace c1 := keep (keep c1 hx1) hx2
    replace n0 := keep (keep n0 hx1) hx2
    replace k0 := keep (keep k0 hx1) hx2
    have m7 := (m5.below hx1).below hx2
    have r7 := (r5.below hx1).below hx2
    have gm7 := (gx1.below hx1).below hx2
    have gr7 := (gx2.below hx1).below hx2
    have hB7 := (hB5.trans (hx1.mono hB5.size)).trans (hx2.mono (Nat.le_trans hB5.size hx1.size))
    have HR := cRanges_ok _ mo mn mc M ro rn rc R m7 r7 ⟨hM, hR⟩
    rw [HD.out] at HR
    clear hx1 hx2 m5 r5 m7 r7 hB5 hb5 gx1 gx2
    go_wp2_with fail
    go_at_call 7
    refine HR.mono ?_
    rintro e w9 ⟨fo, fn, fc, rfl, gD, hb9⟩
    clear HR c0 c1
    replace n0 := keep n0 hb9
    replace k0 := keep k0 hb9
    replace v0 := keep v0 hb9
    replace v1 := keep v1 hb9
    replace p0 := keep p0 hb9
    replace gm7 := gm7.below hb9
    replace gr7 := gr7.below hb9
    have hB9 := hB7.trans (hb9.mono hB7.size)
    clear hB7 hb9
    have hreg : regOk ((p : Int), (sz : Int)) := by
      show 0 ≤ (p : Int) ∧ (p : Int) ≤ 255 ∧ 1 ≤ (sz : Int) ∧ (sz : Int) ≤ 256 ∧ (p : Int) + sz ≤ 256
      omega
    have HF := cFree_ok w9 xm xn xc M xr xo xd R1 p sz gm7 gr7 ⟨hM, hM1⟩ hreg (by rw [HBk.out]; exact hR.len)
    rw [HBk.out] at HF
    go_wp2_with fail
    go_at_call 14
    refine HF.mono ?_
    rintro e w10 ⟨ym, yn, yc, yr, yo, yd, rfl, gy1, gy2, _, _, hb10⟩
    clear HF
    have hy := below_box w10 (.cells #[.slice ym yn yc, .slice yr yo yd] 25)
    replace n0 := keep (keep n0 hb10) hy
    replace k0 := keep (keep k0 hb10) hy
    replace v0 := keep (keep v0 hb10) hy
    replace v1 := keep (keep v1 hb10) hy
    replace p0 := keep (keep p0 hb10) hy
    replace gm7 := (gm7.below hb10).below hy
    replace gr7 := (gr7.below hb10).below hy
    replace gD := (gD.below hb10).below hy
    have hB11 := (hB9.trans (hb10.mono hB9.size)).trans (hy.mono (Nat.le_trans hB9.size hb10.size))
    have HR := cRanges_ok _ ym yn yc M yr yo yd R (gy1.below hy) (gy2.below hy) ⟨hM, hR⟩
    rw [HD.out] at HR
    clear hy hb10 hB9 gy1 gy2
    go_wp2_with fail
    go_at_call 7
    refine HR.mono ?_
    rintro e w12 ⟨no, nn, nc, rfl, gN, hb12⟩
    clear HR
    replace n0 := keep n0 hb12
    replace k0 := keep k0 hb12
    replace v0 := keep v0 hb12
    replace v1 := keep v1 hb12
    replace p0 := keep p0 hb12
    replace gD := gD.below hb12
    have hB12 := hB11.trans (hb12.mono hB11.size)
    have HR := cRanges_ok _ xm xn xc M xr xo xd R1 (gm7.below hb12) (gr7.below hb12) ⟨hM, hM1⟩
    rw [HD1.out] at HR
    clear hB11 hb12 gm7 gr7
    go_wp2_with fail
    go_at_call 7
    refine HR.mono ?_
    rintro e w13 ⟨lo, ln, lc, rfl, gL, hb13⟩
    clear HR v0 v1
    replace n0 := keep n0 hb13
    replace k0 := keep k0 hb13
    replace p0 := keep p0 hb13
    replace gD := gD.below hb13
    replace gN := gN.below hb13
    have hB13 := hB12.trans (hb13.mono hB12.size)
    have hcc : HoldsR 15 #[.pointer (some ⟨w5.heap.size + 1, 0, none⟩), .pointer (some ⟨W2.heap.size, 0, none⟩)] D (insideR p sz) w13 := fun i hi W hW => alF2_any W _ _ p sz _ _ (keep p0 hW) (keep n0 hW) (by omega) hs2 (canon_ok hDc i hi)
    have HC := contains_alF2 w13 _ _ fo fn fc D (insideR p sz) gD hcc
    rw [HI.out] at HC
    clear hB12 hb13 hcc
    go_wp2_with fail
    go_at_call 8
    refine HC.mono ?_
    rintro e w14 ⟨rfl, hb14⟩
    clear HC
    replace n0 := keep n0 hb14
    replace k0 := keep k0 hb14
    replace p0 := keep p0 hb14
    replace gD := gD.below hb14
    replace gN := gN.below hb14
    replace gL := gL.below hb14
    have hB14 := hB13.trans (hb14.mono hB13.size)
    have hcc : HoldsR 16 #[.pointer (some ⟨w5.heap.size + 1, 0, none⟩), .pointer (some ⟨W2.heap.size, 0, none⟩)] D1 (meetR p sz) w14 := fun i hi W hW => alF3_any W _ _ p sz _ _ (keep p0 hW) (keep n0 hW) (by omega) hs2 (canon_ok hDc1 i hi)
    have HC := contains_alF3 w14 _ _ lo ln lc D1 (meetR p sz) gL hcc
    rw [HM.out] at HC
    clear hB13 hb14 hcc
    go_wp2_with fail
    go_at_call 8
    refine HC.mono ?_
    rintro e w15 ⟨rfl, hb15⟩
    clear HC
    replace k0 := keep k0 hb15
    replace p0 := keep p0 hb15
    replace gD := gD.below hb15
    replace gN := gN.below hb15
    have hB15 := hB14.trans (hb15.mono hB14.size)
    obtain rfl : fn = nn := gD.len.symm.trans gN.len
    clear hB14 hb15 gL n0
    have kne : ((k : Int) == 0) = false := by simp; omega
    go_wp2_with fail
    go_at_call 17
    refine (rEqual_same w15 fo no fn fc nc D gD.len gD.reach gD.at_ gN.at_).mono ?_
    rintro e w16 ⟨rfl, d, rfl⟩
    go_wp2
    go_ret
    exact ⟨rfl, hB15.trans (below_drewN (Below.refl _ _) _)⟩

end Go.Proofs.Ytfogdgnlbgoakad
