/-
  OWN TEXTS.
-/
import Derived.Test.YtbjlbmofdnkmiaaGreatDoorPagesAllocsPart12
import Derived.Deep.CutBlock
import Derived.Deep.DeepCutAuto
set_option maxRecDepth 10000
set_option maxHeartbeats 4000000
namespace Go.Proofs.YtbjlbmofdnkmiaaGreatDoor
open Go Go.RowKit Go.Proofs.YtbjlbmofdnkmiaaGreatDoor.Kit
structure OutInv (B : Nat) (w4 : World) (z : Zn) (uo : Option Addr) (un uc : Nat) (l : List Bk) (W : World) : Prop where
 b : Below w4.heap.size w4 W
 ex : ∃ lo ln lc, ZBox W w4.heap.size (.int .i64 z.f) (.int .i64 z.t) (.slice lo ln lc) (.slice uo un uc) ∧ Blks W lo ln l ∧ Fresh B lo
theorem OutInv.step {B : Nat} {w4 : World} {z : Zn} {uo : Option Addr} {un uc : Nat} {l : List Bk} {W W' : World} (h : OutInv B w4 z uo un uc l W) (hb : Below W.heap.size W W') : OutInv B w4 z uo un uc l W' := by
 obtain ⟨lo, ln, lc, hz, hl, hf⟩ := h.ex
 exact ⟨h.b.trans (hb.mono h.b.size), lo, ln, lc, hz.below hb, hl.below hb, hf⟩
theorem OutInv.take {B : Nat} {w4 : World} {z : Zn} {uo : Option Addr} {un uc : Nat} {l m : List Bk} {W : World} (h : OutInv B w4 z uo un uc l W) {lo : Option Addr} {ln lc : Nat} (hm : Blks W lo ln m) (hf : Fresh (w4.heap.size + 1) lo) (hB : B ≤ w4.heap.size + 1) : OutInv B w4 z uo un uc m (W.setCell ⟨w4.heap.size, 2, none⟩ (.slice lo ln lc)) := by
 obtain ⟨_, _, _, hz, _, _⟩ := h.ex
 have hbt : But w4.heap.size W (W.setCell ⟨w4.heap.size, 2, none⟩ (.slice lo ln lc)) := (But.refl _ _).setCell _
 exact ⟨h.b.trans (hbt.below (Nat.le_refl _) h.b.size), lo, ln, lc, hz.set2 _, hbt.blks hm (fun a ha => by have := hf a ha; omega), hf.mono hB⟩
theorem may_in {z : Zn} (h : ZMay z) : ∀ b ∈ z.free, blkIn z.f z.t b.a b.o := by
 intro b hb
 obtain ⟨i, hi, rfl⟩ := List.getElem_of_mem hb
 have := (freeOk_at h.free hi rfl).1
 rw [List.getD_eq_getElem?_getD, List.getElem?_eq_getElem hi] at this
 exact this
theorem backOf_ok (w : World) (fo : Option Addr) (fn fc : Nat) (to_ : Option Addr) (tn tc : Nat) (z : Zn) (a o : Int) (h : ZnAt w fo fn to_ tn z) (hM : ZMay z) (ho : blkIn z.f z.t a o) (hv : ¬ ovlP z.free a o) :
    Calls Tryz.prog 72 #[.agg #[.int .i64 z.f, .int .i64 z.t, .slice fo fn fc, .slice to_ tn tc], .int .i64 a, .int .i64 o] w fun e w' => RetZone w.heap.size w' (backZ z a o) e ∧ Below w.heap.size w w' := by
 have I0 := baInv_first w fo fn fc to_ tn tc z h
 have c0 := I0.box.c0
 have c1 := I0.box.c1
 have c2 := I0.box.c2
 have c3 := I0.box.c3
 clear h
 go_enter Tryz.func72, Tryz.ntmps72
 go_wp2_with fail
 go_at_call 44
 refine (zoneMay_any _ fo fn fc to_ tn tc z I0.zn).mono ?_
 rintro e w1 ⟨⟨r, rfl, hr⟩, hb1⟩
 have I1 := I0.step hb1
 obtain rfl : r = true := hr.2 hM
 replace c0 := I1.box.c0
 replace c1 := I1.box.c1
 replace c2 := I1.box.c2
 replace c3 := I1.box.c3
 clear hr I0 hb1
 go_wp2_with fail
 go_at_call 70
 refine (blockMay_any _ z.f z.t fo to_ fn fc tn tc a o hM.new).mono ?_
 rintro e w2 ⟨rfl, hb2⟩
 have I2 := I1.step hb2
 clear I1 hb2
 rw [(blkB_iff z.f z.t a o).2 ho]
 replace c2 := I2.box.c2
 obtain ⟨n1, n2, n3, n4, n5⟩ := hM.new
 have HO := overlaps_any w2 fo fn fc z.free a o I2.zn.free (may_nums hM) ho.1 (by have := ho.2.1; omega) (by have := ho.2.2.1; omega)
 clear c0 c1 c3
 go_wp2_with fail
 go_at_call 46
 refine HO.mono ?_
 rintro e w3 ⟨⟨r, rfl, hr⟩, d, rfl⟩
 obtain rfl : r = false := by
  cases r with
  | false => rfl
  | true => exact absurd (hr.1 rfl) hv
 have I3 := I2.step (below_drawn d)
 obtain ⟨W3, hW3⟩ : ∃ W3, w2.drewN d = W3 := ⟨_, rfl⟩
 rw [hW3] at I3 ⊢
 clear hr HO hW3 I2 c2 hv
 have c0 := I3.box.c0
 have c1 := I3.box.c1
 have c2 := I3.box.c2
 have c3 := I3.box.c3
 go_wp2_with fail
 go_at_call 10
 refine (zoneCopy_any W3 fo fn fc to_ tn tc z I3.zn).mono ?_
 rintro e w4 ⟨⟨lo, ln, lc, uo, un, uc, rfl, hz4, f1, f2⟩, hb4⟩
 have hbx := below_box w4 (.cells #[.int .i64 z.f, .int .i64 z.t, .slice lo ln lc, .slice uo un uc] 37)
 have I4 := I3.step hb4
 have hs3 := I3.size
 have O4 : OutInv (w.heap.size + 2) w4 z uo un uc z.free (w4.alloc (.cells #[.int .i64 z.f, .int .i64 z.t, .slice lo ln lc, .slice uo un uc] 37)) :=
  ⟨hbx, lo, ln, lc, zbox_new _ _ _ _ _ _, (hz4.below hbx).free, f1.mono hs3⟩
 have hcnt : z.free.length ≤ 256 := by have := freeOk_count hM.free n5 n2; omega
 have hin := may_in hM
 have hT4 := hz4.types
 have hFu : Fresh (w.heap.size + 2) uo := f2.mono hs3
 have hlen := hM.len
 have hs4 := I4.size
 obtain ⟨R, hR⟩ : ∃ R, backGo (4 - o).toNat z.free a o = R := ⟨_, rfl⟩
 have HR : Hid (backZ z a o = ⟨z.f, z.t, addB R.1 ⟨R.2.1, R.2.2, z.types.getD ((R.2.1 - z.f) / 8).toNat 0⟩, z.types⟩) := by show _ = _; unfold backZ; rw [hR]
 have HR0 : Hid (backGo (4 - o).toNat z.free a o = R) := hR
 clear c0 c1 c2 c3 I3 hb4 hbx f1 f2 hz4 hM hR
 go_upto_block 0 with fail
 go_cut [1, 2] (fun av ov W => ∃ (AN : Nat) (O : Int) (l : List Bk), av = .int .i64 AN ∧ ov = .int .i64 O ∧ blkIn z.f z.t AN O ∧ Hid (R = (l, ((AN : Int)), O)) ∧ l.length ≤ 256 ∧ OutInv (w.heap.size + 2) w4 z uo un uc l W)
 case rest =>
  obtain ⟨AN, O, l, rfl, rfl, hA, hRR, hlen2, OI⟩ := hcut
  obtain ⟨⟨o0, o4⟩, a1, a2, a3⟩ := id hA
  clear O4 HR0 hin hcnt ho hA
  go_wp2_with fail
  obtain ⟨l5, m5, k5, Z5, hB5, hF5⟩ := OI.ex
  have IX := I4.step OI.b
  have y2 := Z5.c2
  have y3 := Z5.c3
  have yz := Z5.z2
  have y0 := IX.box.c0
  obtain ⟨K, hK⟩ : ∃ K : Nat, ((AN : Int) - z.f) / 8 = (K : Int) := ⟨(((AN : Int) - z.f) / 8).toNat, by omega⟩
  have htl := hT4.len
  have hKn : K < un := by omega
  obtain ⟨g, of, x, rfl, cx, hX⟩ := (hT4.below OI.b).at_.at K (by omega)
  have hgo : g ≠ w4.heap.size := by
   obtain ⟨g', of', x', hu', cx', _⟩ := hT4.at_.at K (by omega)
   cases hu'
   have := World.block_lt_of_cell? w4 _ cx'
   dsimp only at this
   omega
  have hS0 : wc.drew.cell? ⟨w4.heap.size, 3, none⟩ = some (.slice (some ⟨g, of, none⟩) un uc) ∧ wc.drew.cell? ⟨w.heap.size, 0, none⟩ = some (.int .i64 z.f) ∧ wc.drew.cell? ⟨g, of + K, none⟩ = some (.int .i64 x) := ⟨by simpa using y3, by simpa using y0, by simpa using cx⟩
  obtain ⟨D, hD⟩ : ∃ D : Nat, (AN : Int) - z.f = (D : Int) := ⟨((AN : Int) - z.f).toNat, by omega⟩
  have hDK : D / 8 = K := by omega
  have hq8 : (D : Int) / 8 = (K : Int) := by omega
  have hKi : (K : Int) < (un : Int) := by omega
  have hTr := hT4.reach
  have hw1 : IntKind.i64.wrap (D : Int) = (D : Int) := IntWalk.i64_in _ (by omega)
  have hw2 : IntKind.i64.wrap (K : Int) = (K : Int) := IntWalk.i64_in _ (by omega)
  have htd : ((D : Int)).tdiv 8 = (K : Int) := by rw [Int.tdiv_eq_ediv_of_nonneg (by omega)]; omega
  have htd2 : ((AN : Int) - z.f).tdiv 8 = (K : Int) := by rw [Int.tdiv_eq_ediv_of_nonneg (by omega)]; omega
  have hty : Hid (z.types.getD (((AN : Int) - z.f) / 8).toNat 0 = x) := by show _ = _; rw [hK]; simpa using hX.out
  have HZ : Hid (backZ z a o = ⟨z.f, z.t, addB l ⟨AN, O, x⟩, z.types⟩) := by
   show _ = _
   rw [HR.out, hRR.out]
   dsimp only
   rw [hty.out]
  have HWB0 := withBlock_any wc.drew l5 m5 k5 l ⟨AN, O, x⟩ (hB5.below (Below.refl _ _).drew) (by have := hB5.len; omega)
  dsimp only at HWB0
  have HWB := HWB0.mono (fun e w' (hh : ∃ bo c, e = .returned (.slice bo (m5 + 1) c) ∧ w'.ownsRow wc.drew.heap.size 53 3 (.slice bo (m5 + 1) c) (m5 + 1) (bvals (addB l ⟨AN, O, x⟩)) ∧ Below wc.drew.heap.size wc.drew w') => (show ∃ bo c, e = .returned (.slice bo (m5 + 1) c) ∧ w'.ownsRow wc.drew.heap.size 53 3 (.slice bo (m5 + 1) c) (m5 + 1) (bvals (addB l ⟨AN, O, x⟩)) ∧ Below wc.drew.heap.size wc.drew w' ∧ w'.cell? ⟨w4.heap.size, 2, none⟩ = some (.slice l5 m5 k5) ∧ w'.frozen? ⟨w4.heap.size, 2, none⟩ = false ∧ (w'.cell? ⟨w4.heap.size, 3, none⟩ = some (.slice (some ⟨g, of, none⟩) un uc) ∧ w'.cell? ⟨w.heap.size, 0, none⟩ = some (.int .i64 z.f) ∧ w'.cell? ⟨g, of + K, none⟩ = some (.int .i64 x)) by
   obtain ⟨bo, c, he, ho, hb⟩ := hh
   have Zd := (Z5.belowB (B := wc.heap.size) (Below.refl _ _).drew Z5.lt).below hb
   exact ⟨bo, c, he, ho, hb, Zd.c2, Zd.z2, Zd.c3, keep hS0.2.1 hb, keep hS0.2.2 hb⟩))
  clear HWB0
  have hm5 : m5 ≤ 256 := by have := hB5.len; omega
  have hobx := Z5.lt
  clear hRR hty HR hX
  go_region_with (go_at_call 25; refine HWB.mono ?_; rintro e w6 ⟨bo6, c6, rfl, own6, hb6, q62, q6z, q6S⟩)
  all_goals
   have Wd : Below wc.heap.size wc wc.drew := (Below.refl _ _).drew
   have hb6' : Below wc.heap.size wc w6 := Wd.trans hb6
   have Z7 := ((Z5.belowB Wd Z5.lt).below hb6).set2 (.slice bo6 (m5 + 1) c6)
   have I6 := IX.step hb6'
   have hbt : But w4.heap.size w6 (w6.setCell ⟨w4.heap.size, 2, none⟩ (.slice bo6 (m5 + 1) c6)) := (But.refl _ _).setCell _
   have R7 := I6.res.but hbt (by omega)
   have hfr6 : Fresh wc.heap.size bo6 := owns_fresh own6
   have B7 := hbt.blks (blks_own own6 (by omega)) (fun a ha => by have := hfr6 a ha; omega)
   have N7 := hbt.nums (hT4.below (OI.b.trans (hb6'.mono OI.b.size))) (fun a ha => by cases ha; exact hgo)
   have hs6 := I6.size
   have hB7 := I6.b.trans (hbt.below (B := w.heap.size) (by omega) (by omega))
   have e0 := Z7.c0
   have e1 := Z7.c1
   have e2 := Z7.c2
   have e3 := Z7.c3
   have hs7 := hbt.size
   obtain ⟨W7, hW7⟩ : ∃ W7, w6.setCell ⟨w4.heap.size, 2, none⟩ (.slice bo6 (m5 + 1) c6) = W7 := ⟨_, rfl⟩
   rw [hW7] at R7 B7 N7 hB7 e0 e1 e2 e3 hs7 ⊢
   obtain ⟨⟨r0, s0⟩, ⟨r1, s1⟩, ⟨r2, s2⟩, ⟨r3, s3⟩, v0, v1, v2, v3⟩ := id R7
   clear hW7 Wd hb6' Z7 I6 hbt own6 hb6 q62 q6z q6S hw1 hw2 htd htd2 hq8 hD hDK hK HWB Z5 IX OI
   go_wp2
   obtain ⟨k0, k1, k2, k3⟩ := res4 R7 (.int .i64 z.f) (.int .i64 z.t) (.slice bo6 (m5 + 1) c6) (.slice (some ⟨g, of, none⟩) un uc)
   have hbu := but4 W7 (w.heap.size + 1) (.int .i64 z.f) (.int .i64 z.t) (.slice bo6 (m5 + 1) c6) (.slice (some ⟨g, of, none⟩) un uc)
   refine bodyPost_ret (v := .tuple #[.agg #[.int .i64 z.f, .int .i64 z.t, .slice bo6 (m5 + 1) c6, .slice (some ⟨g, of, none⟩) un uc], .int .i64 0]) (by simp [results, Tryz.results72, go_sem, k0, k1, k2, k3]) rfl ⟨?_, hB7.trans (hbu.below (by omega) (by omega))⟩
   rw [HZ.out]
   exact ⟨bo6, m5 + 1, c6, some ⟨g, of, none⟩, un, uc, rfl, hbu.zn ⟨B7, N7⟩ (fun a ha => by have := hfr6 a ha; omega) (fun a ha => by have := hFu a ha; omega), hfr6.mono (by omega), hFu.mono (by omega)⟩
 case first =>
  go_wp2_with fail
  go_loopw [1, 2] (fun av ov wr => ∃ (A O : Int) (l : List Bk), av = .int .i64 A ∧ ov = .int .i64 O ∧ blkIn z.f z.t A O ∧ Hid (backGo (4 - O).toNat l A O = R) ∧ (∀ b ∈ l, blkIn z.f z.t b.a b.o) ∧ l.length ≤ 256 ∧ OutInv (w.heap.size + 2) w4 z uo un uc l wr) (fun _ ov _ => (4 - intOf ov).toNat)
  case atStart => exact ⟨a, o, z.free, rfl, rfl, ho, HR0, hin, hcnt, O4⟩
  case round =>
   obtain ⟨A, O, l, rfl, rfl, hA, hG, hL, hlen2, OI⟩ := hrel
   clear O4 HR0 hin hcnt ho
   obtain ⟨⟨o0, o4⟩, a1, a2, a3⟩ := id hA
   obtain ⟨lo', ln', lc', Z, hB, hFr⟩ := OI.ex
   have x2 := Z.c2
   have z2 := Z.z2
   obtain ⟨AN, rfl⟩ : ∃ AN : Nat, A = AN := ⟨A.toNat, by omega⟩
   by_cases hO : O < 4
   ·obtain ⟨P, hP⟩ : ∃ P, pw O = P := ⟨_, rfl⟩
    have HP : Hid (pw O = P) := hP
    have p1 := pw_pos O
    have p2 := pw_le hA.1
    obtain ⟨P2, hP2, hP2p, hP2q⟩ : ∃ P2 : Nat, pw (O + 1) = P2 ∧ 0 < P2 ∧ P2 ≤ 16 := ⟨(pw (O + 1)).toNat, by have := pw_pos (O + 1); omega, by have := pw_pos (O + 1); omega, by have := pw_le (o := O + 1) ⟨by omega, by omega⟩; omega⟩
    have HP2 : Hid (pw (O + 1) = P2) := hP2
    have hP20 : ((P2 : Int) == 0) = false := by simp; omega
    rw [hP] at p1 p2
    obtain ⟨n, hn⟩ : ∃ n : Nat, (4 - O).toNat = n + 1 := ⟨(4 - O).toNat - 1, by omega⟩
    have hn2 : (4 - (O + 1)).toNat = n := by omega
    have HN2 : Hid _ := hn2
    have hG1 := hG.out
    rw [hn] at hG1
    clear hG hn2 hP hP2
    by_cases hm : (AN : Int) % (P2 : Int) = 0
    ·have hbs : besideA (AN : Int) O = AN + P := by unfold besideA; rw [HP2.out, if_pos hm, HP.out]
     have HW := without_any wr lo' ln' lc' l ((AN : Int) + P) O hB
     go_wp2_with fail
     go_at_call 47
     refine (power_v O P o0 (by omega) HP.out _).mono ?_
     rintro e w' ⟨rfl, rfl⟩
     go_wp2_with fail
     go_at_call 47
     refine (power_v (O + 1) P2 (by omega) (by omega) HP2.out _).mono ?_
     rintro e w' ⟨rfl, rfl⟩
     go_wp2_with fail
     go_at_call 77
     refine HW.mono ?_
     rintro e w5 ⟨bo, m, c, rfl, own, hb5⟩
     have OI5 := OI.step hb5
     have hob := Z.lt
     have x2' := (Z.below hb5).c2
     have z2' := (Z.below hb5).z2
     have hm256 : m ≤ 256 := by have h1 := bowns_len own; have h2 := dropB_len l ((AN : Int) + P) O; omega
     have hb6 : Blks w5 bo m (dropB l ((AN : Int) + P) O) := blks_own own (by omega)
     have hfb : Fresh (w4.heap.size + 1) bo := (owns_fresh own).mono (by omega)
     clear HW own OI Z x2 z2 hB hFr
     cases hh : hasB l ((AN : Int) + P) O with
     | true =>
      have hG2 : Hid (backGo (4 - (O + 1)).toNat (dropB l ((AN : Int) + P) O) ((AN : Int)) (O + 1) = R) := by
       show _ = _
       rw [HN2.out, ← hG1, backGo, hbs, if_pos hh]
       rw [if_neg (by omega)]
      have hA2 : blkIn z.f z.t ((AN : Int)) (O + 1) := by
       have h1 := join_in hA (by rw [hbs]; exact hasB_in hh hL) hO
       rw [hbs] at h1
       rw [if_neg (by omega)] at h1; exact h1
      have hL2 : ∀ b ∈ dropB l ((AN : Int) + P) O, blkIn z.f z.t b.a b.o := fun b hb => hL b (dropB_mem hb)
      have hlen3 : (dropB l ((AN : Int) + P) O).length ≤ 256 := by have := dropB_len l ((AN : Int) + P) O; omega
      have OI6 := OI5.take (lc := c) hb6 hfb (by omega)
      obtain ⟨D, hD⟩ : ∃ D, dropB l ((AN : Int) + P) O = D := ⟨_, rfl⟩
      rw [hD] at hG2 hL2 hlen3 OI6
      clear hG1 hL hb6 hfb OI5 hh hD hbs hb5
      go_wp2
      go_roundw
      case rel => exact ⟨(AN : Int), O + 1, D, by go_num, by go_num, hA2, hG2, hL2, hlen3, OI6⟩
      case measure => simp [intOf]; omega
     | false =>
      have hRR : Hid (R = (l, ((AN : Int)), O)) := by
       show _ = _
       rw [← hG1, backGo, hbs, hh, if_neg (by simp)]
      clear hG1 hL hb6 hfb hh hbs hb5 hm x2' z2'
      go_wp2
      go_meet
      exact ⟨AN, O, l, rfl, rfl, hA, hRR, hlen2, OI5⟩
    have hbs : besideA (AN : Int) O = AN - P := by unfold besideA; rw [HP2.out, if_neg hm, HP.out]
    have HW := without_any wr lo' ln' lc' l ((AN : Int) - P) O hB
    go_wp2_with fail
    go_at_call 47
    refine (power_v O P o0 (by omega) HP.out _).mono ?_
    rintro e w' ⟨rfl, rfl⟩
    go_wp2_with fail
    go_at_call 47
    refine (power_v (O + 1) P2 (by omega) (by omega) HP2.out _).mono ?_
    rintro e w' ⟨rfl, rfl⟩
    go_wp2_with fail
    go_at_call 47
    refine (power_v O P o0 (by omega) HP.out _).mono ?_
    rintro e w' ⟨rfl, rfl⟩
    go_wp2_with fail
    go_at_call 77
    refine HW.mono ?_
    rintro e w5 ⟨bo, m, c, rfl, own, hb5⟩
    have OI5 := OI.step hb5
    have hob := Z.lt
    have x2' := (Z.below hb5).c2
    have z2' := (Z.below hb5).z2
    have hm256 : m ≤ 256 := by have h1 := bowns_len own; have h2 := dropB_len l ((AN : Int) - P) O; omega
    have hb6 : Blks w5 bo m (dropB l ((AN : Int) - P) O) := blks_own own (by omega)
    have hfb : Fresh (w4.heap.size + 1) bo := (owns_fresh own).mono (by omega)
    clear HW own OI Z x2 z2 hB hFr
    cases hh : hasB l ((AN : Int) - P) O with
    | true =>
     have hG2 : Hid (backGo (4 - (O + 1)).toNat (dropB l ((AN : Int) - P) O) ((AN : Int) - P) (O + 1) = R) := by
      show _ = _
      rw [HN2.out, ← hG1, backGo, hbs, if_pos hh]
      rw [if_pos (by omega)]
     have hA2 : blkIn z.f z.t ((AN : Int) - P) (O + 1) := by
      have h1 := join_in hA (by rw [hbs]; exact hasB_in hh hL) hO
      rw [hbs] at h1
      rw [if_pos (by omega)] at h1; exact h1
     have hL2 : ∀ b ∈ dropB l ((AN : Int) - P) O, blkIn z.f z.t b.a b.o := fun b hb => hL b (dropB_mem hb)
     have hlen3 : (dropB l ((AN : Int) - P) O).length ≤ 256 := by have := dropB_len l ((AN : Int) - P) O; omega
     have OI6 := OI5.take (lc := c) hb6 hfb (by omega)
     obtain ⟨D, hD⟩ : ∃ D, dropB l ((AN : Int) - P) O = D := ⟨_, rfl⟩
     rw [hD] at hG2 hL2 hlen3 OI6
     clear hG1 hL hb6 hfb OI5 hh hD hbs hb5
     go_wp2
     go_roundw
     case rel => exact ⟨(AN : Int) - P, O + 1, D, by go_num, by go_num, hA2, hG2, hL2, hlen3, OI6⟩
     case measure => simp [intOf]; omega
    | false =>
     have hRR : Hid (R = (l, ((AN : Int)), O)) := by
      show _ = _
      rw [← hG1, backGo, hbs, hh, if_neg (by simp)]
     clear hG1 hL hb6 hfb hh hbs hb5 hm x2' z2'
     go_wp2
     go_meet
     exact ⟨AN, O, l, rfl, rfl, hA, hRR, hlen2, OI5⟩
   have hRR : Hid (R = (l, ((AN : Int)), O)) := by
    show _ = _
    have h1 := hG.out
    have h2 : (4 - O).toNat = 0 := by omega
    rw [h2] at h1
    rw [← h1]; rfl
   clear hG hL
   go_wp2
   go_meet
   exact ⟨AN, O, l, rfl, rfl, hA, hRR, hlen2, OI⟩
theorem returned_ok (w : World) (B gz : Nat) (y : Hx) (p o : Int) (HY : HZ w B gz y) (hc : CanBack y.hp p o) (h1 : (y.zs.getD 1 .zero).z.f = (y.zs.getD 0 .zero).z.t) :
    Calls Tryz.prog 49 #[.agg #[.slice y.zo y.zn y.zc, .slice y.mo y.mn y.mc, .int .i64 y.cpus, .slice y.lo y.ln y.lc, .slice y.vo y.vn y.vc], .int .i64 p, .int .i64 o] w fun e w' => e = .returned (.agg #[.slice y.zo y.zn y.zc, .slice y.mo y.mn y.mc, .int .i64 y.cpus, .slice y.lo y.ln y.lc, .slice y.vo y.vn y.vc]) ∧ ∃ z, z.z = backZ (y.zs.getD (zIdx y.hp p) .zero).z p o ∧ HZ w' B gz (y.setZ (zIdx y.hp p) z) ∧ But gz w w' ∧ (∀ b, b < w.heap.size → Away b y → Away b (y.setZ (zIdx y.hp p) z)) := by
 have HY0 := HY.at_
 have hin : zIdx y.hp p < y.zn := by have := zIdx_lt y.hp p; have e : y.hp.zones.length = y.zs.length := (by show (y.zs.map _).length = _; rw [List.length_map]); have := hc.n; have := HY.at_.zones.len; omega
 have hzn : y.zn = 2 := by have e : y.hp.zones.length = y.zs.length := (by show (y.zs.map _).length = _; rw [List.length_map]); have := hc.n; have := HY.at_.zones.len; omega
 have hgz : gz < w.heap.size := HY.lt (by omega)
 have hM := hc.m
 have hA := hc.i
 have hv := hc.v
 rw [hp_zone] at hM hA hv
 obtain ⟨i, hi⟩ : ∃ i, zIdx y.hp p = i := ⟨_, rfl⟩
 rw [hi] at hin hM hA hv
 have ez := HY.ez
 obtain ⟨gi, oi, zi, foi, fni, fci, toi, tni, tci, hai, c0i, c1i, c2i, c3i, hati, hXi⟩ := HY.at_.zones.at (i) (by omega)
 replace c0i := St.of c0i; replace c1i := St.of c1i; replace c2i := St.of c2i; replace c3i := St.of c3i
 have hXe : (y.zs.getD i .zero).z = zi := by rw [hXi.out]
 rw [ez] at hai; simp only [Option.some.injEq, Addr.mk.injEq, and_true] at hai; obtain ⟨rfl, rfl⟩ := hai
 have B0 := Below.refl w.heap.size w
 refine sx_enter (args := [_, _, _]) 30 Tryz.func49 rfl rfl rfl ?_
 refine vS (vR ?_); intro A f
 refine l_box f rfl rfl rfl rfl rfl ?_; clear f A; intro b1 W2 eb1 hb3 rb1 A f; dsimp only [Value.cells] at rb1
 have z_B0_b1 := B0.size; rw [eb1] at z_B0_b1
 replace B0 := Below.next B0 hb3; replace HY := HY.below hb3
 refine l_alloc (z := .agg #[.slice none 0 0, .slice none 0 0, .int .i64 0, .slice none 0 0, .slice none 0 0]) f rfl rfl rfl rfl (by kernel_rfl) ?_; clear f A; intro b4 W5 eb4 hb6 rb4 A f; dsimp only [Value.cells] at rb4
 have o_b1_b4 : b1 < b4 := by have := row_lt rb1; omega
 have z_B0_b4 := B0.size; rw [eb4] at z_B0_b4
 replace B0 := Below.next B0 hb6; replace HY := HY.below hb6; replace rb1 := row_next rb1 hb6
 revert A; refine vW (vS (vR (vl5 (rowq rb1) (h:=vlm (h:=vlc (by have e := zoneAt_c _ y p HY.at_ hzn h1; rw [hi] at e; exact e) (h:=?_)))))); intro W8 hb7; replace B0 := Below.next B0 hb7; replace HY := HY.below hb7; replace rb1 := row_next rb1 hb7; replace rb4 := row_next rb4 hb7
 refine vla (h:=vW (vS (vR (vlf (h:=vl1 (rowq rb1) (h:=vlm (h:=vlx (h:=vld (y_loadN (vs := [_, _, _, _]) rfl rfl (ag rfl) rfl ⟨(by first | assumption | exact St.q c0i B0 | exact St.q c1i B0 | exact St.q c2i B0 | exact St.q c3i B0), (by first | assumption | exact St.q c0i B0 | exact St.q c1i B0 | exact St.q c2i B0 | exact St.q c3i B0), (by first | assumption | exact St.q c0i B0 | exact St.q c1i B0 | exact St.q c2i B0 | exact St.q c3i B0), (by first | assumption | exact St.q c0i B0 | exact St.q c1i B0 | exact St.q c2i B0 | exact St.q c3i B0), trivial⟩) (h:=vlm (h:=vlm (h:=?_)))))))))))
 have lz_b1 := row_lt rb1
 have lz_b4 := row_lt rb4
 intro A f
 refine l_call f rfl rfl rfl (IsCall.mk' (cap := []) rfl rfl rfl) (pl rfl) (backOf_ok _ _ _ _ _ _ _ zi p o (hati.below B0) (hXe ▸ hM) (hXe ▸ hA) (hXe ▸ hv)) ?_
 clear f A
 rintro _ W10 ⟨⟨fo2, fn2, fc2, to2, tn2, tc2, rfl, hz2, hf2, ht2⟩, hb9⟩
 refine ⟨_, rfl, ?_⟩
 have hg1 := B0.size
 intro A f
 replace B0 := Below.next B0 hb9; replace HY := HY.below hb9; replace rb1 := row_next rb1 hb9; replace rb4 := row_next rb4 hb9
 obtain ⟨Y, hY⟩ : ∃ Y, backZ zi p o = Y := ⟨_, rfl⟩
 rw [hY] at f hz2
 revert A; refine vlm (h:=vle (h:=vle (h:=?_))); intro A f
 refine l_as (z := .agg #[.int .i64 0, .int .i64 0, .slice none 0 0, .slice none 0 0]) f rfl rfl rfl rfl (by kernel_rfl) rfl rfl (fun _ => rfl) (fun _ => rfl) rfl (by intro u hu; simp [Value.cells] at hu; rcases hu with rfl | rfl | rfl | rfl <;> rfl) ?_; clear f A; intro b11 W12 eb11 hb13 rb11 A f
 dsimp only [Value.cells] at rb11
 have hpb11 := hb13
 have o_b1_b11 : b1 < b11 := by have := row_lt rb1; omega
 have o_b4_b11 : b4 < b11 := by have := row_lt rb4; omega
 have z_B0_b11 := B0.size; rw [eb11] at z_B0_b11
 replace B0 := Below.next B0 hb13; replace HY := HY.below hb13; replace hz2 := hz2.below hb13; replace rb1 := row_next rb1 hb13; replace rb4 := row_next rb4 hb13
 revert A; refine vla (h:=vW (vS (vR (vlf (h:=vl1 (rowq rb1) (h:=vlm (h:=vl4 (rowq rb11) (h:=vlx (h:=?_)))))))))
 have oz := HY.oz
 intro A f
 rw [HY.ez] at oz
 refine l_storeR f rfl rfl rfl rfl rfl (own_set4 oz hin (Zc.q ⟨Y, fo2, fn2, fc2, to2, tn2, tc2⟩) (Zc.one _) (sz rfl)) ?_
 rintro W14 ⟨hb15, ow⟩
 have HY2 := HY.set (i := i) (z := ⟨Y, fo2, fn2, fc2, to2, tn2, tc2⟩) hz2 (fun a ha e => by have := hf2 a ha; omega) (fun a ha e => by have := ht2 a ha; omega) hb15 (by rw [HY.ez]; exact ow)
 have hSB := B0
 clear HY
 have hSf := (But.of_below hSB).trans hb15
 replace rb1 := But.row hb15 rb1 (by omega); replace rb4 := But.row hb15 rb4 (by omega); replace rb11 := But.row hb15 rb11 (by omega)
 revert A; refine vW (vS (vR (vl5 (rowq rb1) (h:=?_)))); intro A f
 refine vls f rb4 ?_
 clear rb4; intro W16 hb17 rb4; dsimp only [setL, over, Value.cells] at rb4; replace rb1 := But.row hb17 rb1 (by omega); replace rb11 := But.row hb17 rb11 (by omega); replace hSf := But.then_new hSf hb17 (by omega); replace HY2 := HY2.but hb17 (by omega) ((away_old HY0 (by omega)).setZ (fun a ha => by have := hf2 a ha; omega) (fun a ha => by have := ht2 a ha; omega))
 revert A; refine vW (vE ?_); intro A f
 refine x_retc f rfl rfl (ag rfl) rb4 rfl ?_
 exact ⟨rfl, ⟨Y, fo2, fn2, fc2, to2, tn2, tc2⟩, by rw [hi, hXe]; exact hY.symm, by rw [hi]; exact HY2, hSf, fun (b : Nat) (hb : b < w.heap.size) (ha : Away b y) => Away.setZ (b := b) (z := ⟨Y, fo2, fn2, fc2, to2, tn2, tc2⟩) ha (fun a h => by have := hf2 a h; omega) (fun a h => by have := ht2 a h; omega)⟩
def pgsOf (y : Hx) (k : Nat) : List Int := (y.ls.take k).flatMap (fun l => l.l.pages)
theorem pgs_succ {y : Hx} {w : World} (h : y.At w) {pgs : Nat → List Int} (hp : pgs = pgsOf y) {k : Nat} (hk : k < y.ln) {c z t : Int} {pages : List Int} {po : Option Addr} {pn pc : Nat} (hX : y.ls.getD k .zero = ⟨⟨c, z, t, pages⟩, po, pn, pc⟩) : pgs k ++ pages = pgs (k + 1) := by
 have hl := h.lists.len
 subst hp
 unfold pgsOf
 rw [List.getD_eq_getElem?_getD, List.getElem?_eq_getElem (by omega)] at hX
 simp only [Option.getD_some] at hX
 rw [List.take_succ_eq_append_getElem (by omega), List.flatMap_append, hX]
 simp
theorem pgs_split {y : Hx} {w : World} (h : y.At w) {pgs : Nat → List Int} (hp : pgs = pgsOf y) {k : Nat} (hk : k < y.ln) {c z t : Int} {pages : List Int} {po : Option Addr} {pn pc : Nat} (hX : y.ls.getD k .zero = ⟨⟨c, z, t, pages⟩, po, pn, pc⟩) :
    y.hp.lists.flatMap (·.pages) = (pgs k ++ pages) ++ (y.ls.drop (k + 1)).flatMap (fun l => l.l.pages) := by
 rw [pgs_succ h hp hk hX]
 subst hp
 unfold pgsOf
 show (y.ls.map (·.l)).flatMap _ = _
 rw [List.flatMap_map, ← List.flatMap_append, List.take_append_drop]
theorem pgs_all {y : Hx} {w : World} (h : y.At w) {pgs : Nat → List Int} (hp : pgs = pgsOf y) {k : Nat} (hk : y.ln ≤ k) : pgs k = y.hp.lists.flatMap (·.pages) := by
 have hl := h.lists.len
 subst hp
 unfold pgsOf
 show _ = (y.ls.map (·.l)).flatMap _
 rw [List.flatMap_map, List.take_of_length_le (by omega)]
def Kit.Hx.noLists (y : Hx) : Hx := { y with ls := [], lo := none, ln := 0, lc := 0 }
theorem Away.noLists {b : Nat} {y : Hx} (h : Away b y) : Away b y.noLists :=
 ⟨h.f, h.t, h.m, fun h0 => absurd h0 (by simp [Kit.Hx.noLists]), fun l hl => (by cases hl), h.v⟩
theorem HZ.noLists {w : World} {B gz : Nat} {y : Hx} (h : HZ w B gz y) : HZ w B gz y.noLists :=
 ⟨h.oz, h.ez, ⟨h.at_.zones, h.at_.mins, Lsts.nil w, h.at_.live⟩, ⟨h.aw.f, h.aw.t, h.aw.m, fun h0 => absurd h0 (by simp [Kit.Hx.noLists]), fun l hl => (by cases hl), h.aw.v⟩, h.gB⟩
theorem take_getD' (l : List Int) (k : Nat) (h : k < l.length) {b : Int} (hx : l.getD k 0 = b) : l.take (k + 1) = l.take k ++ [b] := by
 rw [List.getD_eq_getElem?_getD, List.getElem?_eq_getElem h] at hx
 simp only [Option.getD_some] at hx
 rw [List.take_succ_eq_append_getElem h, hx]
theorem emptied_ok (w : World) (B gz : Nat) (y : Hx) (HY : HZ w B gz y) (hadj : Adj y) (hn0 : 0 < y.zn) (hc : CanBacks y.hp (y.hp.lists.flatMap (·.pages))) :
    Calls Tryz.prog 23 #[.agg #[.slice y.zo y.zn y.zc, .slice y.mo y.mn y.mc, .int .i64 y.cpus, .slice y.lo y.ln y.lc, .slice y.vo y.vn y.vc]] w fun e w' => ∃ zs, e = .returned (.agg #[.slice y.zo y.zn y.zc, .slice y.mo y.mn y.mc, .int .i64 y.cpus, .slice none 0 0, .slice y.vo y.vn y.vc]) ∧ (y.withZ zs).hp = backs y.hp (y.hp.lists.flatMap (·.pages)) ∧ HZ w' B gz (y.withZ zs).noLists ∧ But gz w w' ∧ (∀ b, b < w.heap.size → Away b y → Away b (y.withZ zs)) := by
 have HY0 := HY.at_
 have hgz := HY.lt hn0
 have lr := HY.at_.lists.reach
 obtain ⟨pgs, hpg⟩ : ∃ f, f = pgsOf y := ⟨_, rfl⟩
 have B0 := Below.refl w.heap.size w
 refine sx_enter (args := [_]) 36 Tryz.func23 rfl rfl rfl ?_
 refine vS (vR ?_); intro A f
 refine l_box f rfl rfl rfl rfl rfl ?_; clear f A; intro b1 W2 eb1 hb3 rb1 A f; dsimp only [Value.cells] at rb1
 have z_B0_b1 := B0.size; rw [eb1] at z_B0_b1
 replace B0 := Below.next B0 hb3; replace HY := HY.below hb3
 refine l_alloc (z := .agg #[.slice none 0 0, .slice none 0 0, .int .i64 0, .slice none 0 0, .slice none 0 0]) f rfl rfl rfl rfl (by kernel_rfl) ?_; clear f A; intro b4 W5 eb4 hb6 rb4 A f; dsimp only [Value.cells] at rb4
 have o_b1_b4 : b1 < b4 := by have := row_lt rb1; omega
 have z_B0_b4 := B0.size; rw [eb4] at z_B0_b4
 replace B0 := Below.next B0 hb6; replace HY := HY.below hb6; replace rb1 := row_next rb1 hb6
 revert A; refine vW (vS (vS (vR (vla (h:=vW (vB ?_))))))
 have hL0 := HY.at_
 obtain ⟨s5, hs5⟩ : ∃ n, n = W5.heap.size := ⟨_, rfl⟩
 have hb1s : b1 < s5 := by rw [hs5]; exact row_lt rb1
 have hb4s : b4 < s5 := by rw [hs5]; exact row_lt rb4
 have awb1 : Away b1 y := away_old HY0 (by omega)
 have awb4 : Away b4 y := away_old HY0 (by omega)
 have hb1g : b1 ≠ gz := by omega
 have hb4g : b4 ≠ gz := by omega
 intro A f
 refine x_loop (fun n A W => ∃ (k : Nat) (zs : List Zc), n = y.ln - k ∧ k ≤ y.ln ∧ Fr A 36 [(1, .pointer (some ⟨b1, 0, none⟩)), (2, .pointer (some ⟨b4, 0, none⟩)), (3, .int .i64 (k : Nat))] ∧ HZ W B gz (y.withZ zs) ∧ (y.withZ zs).hp = backs y.hp (pgs k) ∧ But gz w W ∧ W.heap[b1]? = some (.cells #[.slice y.zo y.zn y.zc, .slice y.mo y.mn y.mc, .int .i64 y.cpus, .slice y.lo y.ln y.lc, .slice y.vo y.vn y.vc] 27 (0, 0)) ∧ W.heap[b4]? = some (.cells #[.slice none 0 0, .slice none 0 0, .int .i64 0, .slice none 0 0, .slice none 0 0] 27 (0, 0)) ∧ s5 ≤ W.heap.size ∧ (∀ b, b < s5 → Away b y → Away b (y.withZ zs))) (n0 := y.ln) (⟨0, y.zs, rfl, Nat.zero_le _, f.sub ⟨rfl, rfl, rfl, trivial⟩, HY, by rw [hpg]; rfl, But.of_below B0, rb1, rb4, Nat.le_of_eq hs5, fun _ _ h => h⟩) ?_
 clear f A
 clear B0 HY hs5 rb1 rb4
 rintro n A W7 ⟨k, zs, hn, hk, f, HYk, hhp, hbt, rb1, rb4, hs5, haw⟩
 have BW := Below.refl W7.heap.size W7
 revert A; refine vS (vS (vR (vlm (h:=vlf (h:=vl1 (rowq rb1) (h:=vlz (h:=vlb (y_lss rfl rfl rfl) (h:=?_) (g:=?_))))))))
 ·intro c8
  refine vW (vC (h:=vK (vT (vS (vB (vS (vR (vla (h:=vW (vB ?_))))))))))
  obtain ⟨gl, ol, lcl, lzl, ltl, lpl, pol, pnl, pcl, hal, c0l, c1l, c2l, c3l, hatl, hXl⟩ := HYk.at_.lists.at (k) (show k < y.ln by omega)
  replace c0l := St.of c0l; replace c1l := St.of c1l; replace c2l := St.of c2l; replace c3l := St.of c3l
  have hXl2 : y.ls.getD k .zero = ⟨⟨lcl, lzl, ltl, lpl⟩, pol, pnl, pcl⟩ := hXl.out
  have hml : (⟨⟨lcl, lzl, ltl, lpl⟩, pol, pnl, pcl⟩ : Lc) ∈ y.ls := by rw [← hXl2]; exact getD_mem (by have := hL0.lists.len; omega)
  have hpk : pgs k ++ lpl = pgs (k + 1) := pgs_succ hL0 hpg (by omega) hXl2
  have prl := hatl.reach
  have hll := hatl.len
  intro A f
  clear c0l c1l c2l c3l hatl hal hXl
  refine x_loop (fun n A W => ∃ (j : Nat) (zs : List Zc), n = pnl - j ∧ j ≤ pnl ∧ Fr A 36 [(1, .pointer (some ⟨b1, 0, none⟩)), (2, .pointer (some ⟨b4, 0, none⟩)), (3, .int .i64 (k : Nat)), (4, .int .i64 (j : Nat))] ∧ HZ W B gz (y.withZ zs) ∧ (y.withZ zs).hp = backs y.hp (pgs k ++ lpl.take j) ∧ But gz w W ∧ W.heap[b1]? = some (.cells #[.slice y.zo y.zn y.zc, .slice y.mo y.mn y.mc, .int .i64 y.cpus, .slice y.lo y.ln y.lc, .slice y.vo y.vn y.vc] 27 (0, 0)) ∧ W.heap[b4]? = some (.cells #[.slice none 0 0, .slice none 0 0, .int .i64 0, .slice none 0 0, .slice none 0 0] 27 (0, 0)) ∧ s5 ≤ W.heap.size ∧ (∀ b, b < s5 → Away b y → Away b (y.withZ zs))) (n0 := pnl) (⟨0, zs, rfl, Nat.zero_le _, f.sub ⟨rfl, rfl, rfl, rfl, trivial⟩, HYk, by rw [hhp]; simp, hbt, rb1, rb4, hs5, haw⟩) ?_
  clear f A
  clear BW HYk hhp hbt rb1 rb4 hs5 haw zs
  rintro n A W9 ⟨j, zs, hn2, hj, f, HYk, hhp, hbt, rb1, rb4, hs5, haw⟩
  have BW := Below.refl W9.heap.size W9
  obtain ⟨gl, ol, lcl, lzl, ltl, lpl, pol, pnl, pcl, hal, c0l, c1l, c2l, c3l, hatl, hXl⟩ := HYk.at_.lists.at (k) (show k < y.ln by omega)
  replace c0l := St.of c0l; replace c1l := St.of c1l; replace c2l := St.of c2l; replace c3l := St.of c3l
  have hXe := hXl.out
  rw [show (y.withZ zs).ls = y.ls from rfl, hXl2] at hXe
  injection hXe with q1 q2 q3 q4
  injection q1 with q5 q6 q7 q8
  subst q2 q3 q4 q5 q6 q7 q8
  revert A; refine vS (vS (vR (vlm (h:=vlf (h:=vl1 (rowq rb1) (h:=vlm (h:=vlx (h:=vlf (h:=vld (y_load1 rfl rfl (ag rfl) (by first | assumption | exact St.q c0l BW | exact St.q c1l BW | exact St.q c2l BW | exact St.q c3l BW)) (h:=vlz (h:=vlb (y_lss rfl rfl rfl) (h:=?_) (g:=?_))))))))))))
  ·intro c10
   refine vW (vC (h:=vK (vT (vS (vB ?_)))))
   obtain ⟨gg, og, vg, hag, c0g, hXg⟩ := hatl.at_.at (j) (by have := hatl.len; omega)
   replace c0g := St.of c0g
   intro A f
   rw [show og + j = og + j * 1 by omega] at c0g
   have hcb : CanBack (y.withZ zs).hp vg 0 := by
    rw [hhp]
    have e := hc
    rw [pgs_split hL0 hpg (show k < y.ln by omega) hXl2, canBacks_append, canBacks_append] at e
    have e2 := canBacks_at e.1.2 (k := j) (by omega) hXg.out
    rwa [← backs_append] at e2
   have awz := haw _ hb1s awb1
   have hlg : gl ≠ gz := HYk.aw.l (by show 0 < y.ls.length; have := hL0.lists.len; omega) _ hal
   have hlb : gl ≠ b1 := awz.l (by show 0 < y.ls.length; have := hL0.lists.len; omega) _ hal
   have hgg : gg ≠ gz := HYk.aw.p _ hml (by show 0 < lpl.length; omega) _ hag
   have hgb : gg ≠ b1 := awz.p _ hml (by show 0 < lpl.length; omega) _ hag
   obtain ⟨Wd, hWd0⟩ : ∃ Wd, Wd = W9 := ⟨_, rfl⟩
   have HSr : ∀ wx, (fun wx => Bu2 gz b1 Wd wx ∧ wx.heap[b1]? = some (.cells #[.slice y.zo y.zn y.zc, .slice y.mo y.mn y.mc, .int .i64 y.cpus, .slice y.lo y.ln y.lc, .slice y.vo y.vn y.vc] 27 (0, 0))) wx → wx.heap[b1]? = some (.cells #[.slice y.zo y.zn y.zc, .slice y.mo y.mn y.mc, .int .i64 y.cpus, .slice y.lo y.ln y.lc, .slice y.vo y.vn y.vc] 27 (0, 0)) := fun wx h => h.2
   have k0l : StC (fun wx => Bu2 gz b1 Wd wx ∧ wx.heap[b1]? = some (.cells #[.slice y.zo y.zn y.zc, .slice y.mo y.mn y.mc, .int .i64 y.cpus, .slice y.lo y.ln y.lc, .slice y.vo y.vn y.vc] 27 (0, 0))) _ _ := fun wx h => h.1.cell (by rw [hWd0]; exact St.now (St.next c0l BW)) hlg hlb
   have k1l : StC (fun wx => Bu2 gz b1 Wd wx ∧ wx.heap[b1]? = some (.cells #[.slice y.zo y.zn y.zc, .slice y.mo y.mn y.mc, .int .i64 y.cpus, .slice y.lo y.ln y.lc, .slice y.vo y.vn y.vc] 27 (0, 0))) _ _ := fun wx h => h.1.cell (by rw [hWd0]; exact St.now (St.next c1l BW)) hlg hlb
   have k2l : StC (fun wx => Bu2 gz b1 Wd wx ∧ wx.heap[b1]? = some (.cells #[.slice y.zo y.zn y.zc, .slice y.mo y.mn y.mc, .int .i64 y.cpus, .slice y.lo y.ln y.lc, .slice y.vo y.vn y.vc] 27 (0, 0))) _ _ := fun wx h => h.1.cell (by rw [hWd0]; exact St.now (St.next c2l BW)) hlg hlb
   have k3l : StC (fun wx => Bu2 gz b1 Wd wx ∧ wx.heap[b1]? = some (.cells #[.slice y.zo y.zn y.zc, .slice y.mo y.mn y.mc, .int .i64 y.cpus, .slice y.lo y.ln y.lc, .slice y.vo y.vn y.vc] 27 (0, 0))) _ _ := fun wx h => h.1.cell (by rw [hWd0]; exact St.now (St.next c3l BW)) hlg hlb
   have k0g : StC (fun wx => Bu2 gz b1 Wd wx ∧ wx.heap[b1]? = some (.cells #[.slice y.zo y.zn y.zc, .slice y.mo y.mn y.mc, .int .i64 y.cpus, .slice y.lo y.ln y.lc, .slice y.vo y.vn y.vc] 27 (0, 0))) _ _ := fun wx h => h.1.cell (by rw [hWd0]; exact St.now (St.next c0g BW)) hgg hgb
   refine sx_held (fun wx => Bu2 gz b1 Wd wx ∧ wx.heap[b1]? = some (.cells #[.slice y.zo y.zn y.zc, .slice y.mo y.mn y.mc, .int .i64 y.cpus, .slice y.lo y.ln y.lc, .slice y.vo y.vn y.vc] 27 (0, 0))) [10, 11] (by kernel_rfl) (by kernel_rfl) (blind_in (blind_then (blind_then (blind_in (blind_in (blind_then (blind_then (blind_in (blind_then (blind_body)))))))))) (⟨by rw [hWd0]; exact Bu2.start gz b1 rfl, row_next rb1 ((Below.refl _ _).drew)⟩) ?_
   generalize hWd : ({ W9 with drawn := W9.drawn + 1 } : World) = W11
   have hS : Bu2 gz b1 Wd W11 := by rw [hWd0]; exact Bu2.start gz b1 hWd
   have hdr := drawn_b hWd
   clear hWd
   replace BW := Below.next BW hdr; replace HYk := HYk.below hdr; replace hbt := hbt.gr hdr; replace rb1 := row_next rb1 hdr; replace rb4 := row_next rb4 hdr
   replace hs5 := Nat.le_trans hs5 hdr.size
   revert A; refine vh5 HSr (h:=vhf (h:=vh1 HSr (h:=vhm (h:=vhx (h:=vhf (h:=vhd (y_load1 rfl rfl (ag rfl) (by first | assumption)) (h:=vhm (h:=vhx (h:=vhd (y_load1 rfl rfl (ag rfl) (by first | assumption)) (h:=?_)))))))))); intro A f
   refine h_call f rfl rfl rfl rfl (IsCall.mk' (cap := []) rfl rfl rfl) (pl rfl) (returned_ok _ B gz (y.withZ zs) vg 0 HYk hcb (adj_backs hadj hhp)) ?_
   clear f A
   rintro _ W12 ⟨rfl, zk, hzk, HY2, hb2, haw2⟩
   have hS2 : Bu2 gz b1 Wd W12 := hS.trans (Bu2.of_but_g hb2)
   replace rb1 := But.row hb2 rb1 hb1g
   replace rb4 := But.row hb2 rb4 hb4g
   have hbt2 := hbt.trans hb2
   have hs6 : s5 ≤ W12.heap.size := Nat.le_trans hs5 hb2.size
   refine ⟨_, rfl, ⟨hS2, rb1⟩, ?_⟩
   intro A f
   refine h_store f rfl rfl rfl rfl rfl rfl rb1 (sz rfl) rfl (Nat.le_of_ble_eq_true rfl) rfl (fun _ h hr => ⟨hS2.trans (Bu2.of_but_z h), hr⟩) ?_
   clear rb1; intro W13 hb14 rb1; dsimp only [setL, over, Value.cells] at rb1; replace rb4 := But.row hb14 rb4 (by omega); replace HY2 := HY2.but hb14 hb1g (haw2 _ (by omega) (haw _ hb1s awb1)); replace hbt2 := But.then_new hbt2 hb14 (by omega); replace hs6 := Nat.le_trans hs6 hb14.size
   revert A; refine vM (vU (vT (vR (vlm (h:=vlA (h:=vla (h:=vW ?_))))))); intro A f
   exact ⟨pnl - (j + 1), by omega, j + 1, _, rfl, by omega, f.sub ⟨rfl, rfl, rfl, rfl, trivial⟩, HY2, (setZ_hp hzk).trans (by rw [hhp, take_getD' lpl j (by omega) hXg.out, ← List.append_assoc, backs_append y.hp (pgs k ++ lpl.take j)]; rfl), hbt2, rb1, rb4, hs6, fun b hb h => haw2 b (by omega) (haw b hb h)⟩
  intro c10
  refine vW (vD (h:=vX (vH (vH (vI (vU (vT (vR (vlm (h:=vlA (h:=vla (h:=vW ?_)))))))))))); intro A f
  exact ⟨y.ln - (k + 1), by omega, k + 1, zs, rfl, by omega, f.sub ⟨rfl, rfl, rfl, trivial⟩, HYk, by rw [hhp, List.take_of_length_le (by have := hatl.len; omega), hpk], hbt, rb1, rb4, hs5, haw⟩
 intro c8
 refine vW (vD (h:=vX (vH (vH (vI (vT (vS (vR (vlf (h:=?_)))))))))); intro A f
 refine vls f rb1 ?_
 clear rb1; intro W15 hb16 rb1; dsimp only [setL, over, Value.cells] at rb1; replace rb4 := But.row hb16 rb4 (by omega); have HYn := (HYk.but hb16 hb1g (haw _ hb1s awb1)).noLists; have hbt3 := But.then_new hbt hb16 (by omega)
 revert A; refine vW (vS (vR (vl5 (rowq rb1) (h:=?_)))); intro A f
 refine vls f rb4 ?_
 clear rb4; intro W17 hb18 rb4; dsimp only [setL, over, Value.cells] at rb4; replace rb1 := But.row hb18 rb1 (by omega); replace HYn := HYn.but hb18 hb4g (haw _ hb4s awb4).noLists; replace hbt3 := But.then_new hbt3 hb18 (by omega)
 revert A; refine vW (vE ?_); intro A f
 refine x_retc f rfl rfl (ag rfl) rb4 rfl ?_
 exact ⟨zs, rfl, by rw [hhp, pgs_all hL0 hpg (by omega)], HYn, hbt3, fun b hb h => haw b (by omega) h⟩
set_option maxHeartbeats 8000000 in
theorem heapMay_any (w : World) (x : Hx) (hx : x.At w) :
    Calls Tryz.prog 20 #[.agg #[.slice x.zo x.zn x.zc, .slice x.mo x.mn x.mc, .int .i64 x.cpus, .slice x.lo x.ln x.lc, .slice x.vo x.vn x.vc]] w fun e w' => RetIff e (HMay x.hp) ∧ Below w.heap.size w w' := by
 have hlz : x.hp.zones.length = x.zn := by show (x.zs.map _).length = _; rw [List.length_map]; exact hx.zones.len
 have hlm : x.hp.mins.length = x.mn := hx.mins.len
 have HNo : Hid (∀ e, (e = Ending.returned (.bool false)) → ¬ HMay x.hp → RetIff e (HMay x.hp)) := fun e he hn => ⟨false, he, by simp [hn]⟩
 refine sx_enter (args := [_]) 267 Tryz.func20 rfl rfl rfl ?_
 refine vS (vR ?_); intro A f
 refine l_box f rfl rfl rfl rfl rfl ?_; clear f A; intro b1 W2 eb1 hb3 rb1 A f; skip
 have hw1 := hb3
 obtain ⟨a0, a1, a2, a3, a4, -⟩ := sts_row (cs := [_, _, _, _, _]) rb1
 have hx1 := hx.below hw1
 have B1 := Below.refl W2.heap.size W2
 revert A; refine vla (h:=vW (vS (vS (vR (vlf (h:=vld (y_load1 rfl rfl (ag rfl) (by assumption)) (h:=vlz (h:=?_)))))))); intro A f
 refine l_if _ f rfl rfl rfl (y_neq rfl rfl rfl) ?_ ?_
 ·clear f A; intro c4 A f
  revert A; refine vlm (h:=vlO 4 (h:=vlp (h:=vlm (h:=vlO 4 (h:=vlp (h:=vlm (h:=vlO 6 (h:=vlp (h:=vlm (h:=vlO 6 (h:=vlp (h:=vW (vC (h:=vS (vR (vla (h:=vW (vE (vF ?_))))))))))))))))))); intro A f
  refine x_ret1 f rfl rfl ?_
  exact ⟨HNo.out _ rfl (fun h => by have := h.zs.n; omega), Below.next hw1 B1⟩
 clear f A; intro c4 A f
 revert A; refine vlm (h:=vlf (h:=vld (y_load1 rfl rfl (ag rfl) (by assumption)) (h:=vlz (h:=?_)))); intro A f
 refine l_if _ f rfl rfl rfl (y_neq rfl rfl rfl) ?_ ?_
 ·clear f A; intro c5 A f
  revert A; refine vlp (h:=vlm (h:=vlO 4 (h:=vlp (h:=vlm (h:=vlO 6 (h:=vlp (h:=vlm (h:=vlO 6 (h:=vlp (h:=vW (vC (h:=vS (vR (vla (h:=vW (vE (vF ?_))))))))))))))))); intro A f
  refine x_ret1 f rfl rfl ?_
  exact ⟨HNo.out _ rfl (fun h => by have := h.mn.n; omega), Below.next hw1 B1⟩
 clear f A; intro c5 A f
 revert A; refine vlp (h:=vlm (h:=vlf (h:=vld (y_load1 rfl rfl (ag rfl) (by assumption)) (h:=?_)))); intro A f
 refine l_callif _ f rfl rfl rfl (IsCall.mk' (cap := []) rfl rfl rfl) (pl rfl) (in_c _ _ _ _) ?_ ?_
 ·clear f A; intro c6 W8 hb7 A f
  replace B1 := Below.next B1 hb7
  revert A; refine vln (h:=vlp (h:=vlm (h:=vlf (h:=vld (y_load1 rfl rfl (ag rfl) (St.q a0 B1)) (h:=?_)))))
  obtain ⟨g0, o0, z0, fo0, fn0, fc0, to0, tn0, tc0, ha0, c00, c10, c20, c30, hat0, hX0⟩ := hx1.zones.at (0) (by omega)
  replace c00 := St.of c00; replace c10 := St.of c10; replace c20 := St.of c20; replace c30 := St.of c30
  have e0 : x.hp.zones.getD 0 ⟨0, 0, [], []⟩ = z0 := by rw [zoneOf_hp, hX0.out]
  have D0 : Decidable (ZMay z0) := Classical.propDecidable _
  refine vlx (j:=0) (h:=vld (y_loadN (vs := [_, _, _, _]) rfl rfl (ag rfl) rfl ⟨(St.q c00 B1), (St.q c10 B1), (St.q c20 B1), (St.q c30 B1), trivial⟩) (h:=?_)); intro A f
  refine l_callif _ f rfl rfl rfl (IsCall.mk' (cap := []) rfl rfl rfl) (pl rfl) (c_iff (zoneMay_any _ _ _ _ _ _ _ _ (hat0.below B1))) ?_ ?_
  ·clear f A; intro c9 W11 hb10 A f
   replace B1 := Below.next B1 hb10
   revert A; refine vln (h:=vlp (h:=vlm (h:=vlf (h:=vld (y_load1 rfl rfl (ag rfl) (St.q a0 B1)) (h:=?_)))))
   obtain ⟨g1, o1, z1, fo1, fn1, fc1, to1, tn1, tc1, ha1, c01, c11, c21, c31, hat1, hX1⟩ := hx1.zones.at (1) (by omega)
   replace c01 := St.of c01; replace c11 := St.of c11; replace c21 := St.of c21; replace c31 := St.of c31
   intro A f
   rw [ha0] at ha1; simp only [Option.some.injEq, Addr.mk.injEq, and_true] at ha1; obtain ⟨rfl, rfl⟩ := ha1
   have e1 : x.hp.zones.getD 1 ⟨0, 0, [], []⟩ = z1 := by rw [zoneOf_hp, hX1.out]
   have D1 : Decidable (ZMay z1) := Classical.propDecidable _
   revert A; refine vlx (j:=1) (h:=vld (y_loadN (vs := [_, _, _, _]) rfl rfl (ag rfl) rfl ⟨(St.q c01 B1), (St.q c11 B1), (St.q c21 B1), (St.q c31 B1), trivial⟩) (h:=?_)); intro A f
   refine l_callif _ f rfl rfl rfl (IsCall.mk' (cap := []) rfl rfl rfl) (pl rfl) (c_iff (zoneMay_any _ _ _ _ _ _ _ _ (hat1.below B1))) ?_ ?_
   ·clear f A; intro c12 W14 hb13 A f
    replace B1 := Below.next B1 hb13
    revert A; refine vln (h:=vlp (h:=vW (vD (h:=vK (vT (vS (vS ?_))))))); intro A f
    refine sx_quiet (by kernel_rfl) (by kernel_rfl) ?_
    revert A; refine vqf (h:=vqd (y_load1 rfl rfl (ag rfl) (St.q a0 B1)) (h:=vqx (j:=0) (h:=vqf (h:=vqd (y_load1 rfl rfl (ag rfl) (St.q c00 B1)) (h:=?_))))); intro A f
    refine q_if _ f rfl rfl rfl (y_neq rfl rfl rfl) ?_ ?_
    ·clear f A; intro c15 A f
     revert A; refine vqm (h:=vqO 11 (h:=vqp (h:=vqm (h:=vqO 6 (h:=vqp (h:=vqm (h:=vqO 6 (h:=vqp (h:=vqm (h:=vqO 6 (h:=vqp (h:=vQ ?_)))))))))))); intro W17 hb16; replace B1 := Below.next B1 hb16
     refine vT (vC (h:=vS (vR (vla (h:=vW (vE (vF ?_))))))); intro A f
     refine x_ret1 f rfl rfl ?_
     exact ⟨HNo.out _ rfl (fun h => c15 (by have := h.zs.f0; rw [e0] at this; exact this)), Below.next hw1 B1⟩
    clear f A; intro c15 A f
    revert A; refine vqm (h:=vqf (h:=vqd (y_load1 rfl rfl (ag rfl) (St.q a0 B1)) (h:=vqx (j:=1) (h:=vqf (h:=vqd (y_load1 rfl rfl (ag rfl) (St.q c01 B1)) (h:=vqf (h:=vqd (y_load1 rfl rfl (ag rfl) (St.q a0 B1)) (h:=vqx (j:=0) (h:=vqf (h:=vqd (y_load1 rfl rfl (ag rfl) (St.q c10 B1)) (h:=?_))))))))))); intro A f
    refine q_if _ f rfl rfl rfl (y_neq rfl rfl rfl) ?_ ?_
    ·clear f A; intro c18 A f
     revert A; refine vqp (h:=vqm (h:=vqO 6 (h:=vqp (h:=vqm (h:=vqO 6 (h:=vqp (h:=vqm (h:=vqO 6 (h:=vqp (h:=vQ ?_)))))))))); intro W20 hb19; replace B1 := Below.next B1 hb19
     refine vT (vC (h:=vS (vR (vla (h:=vW (vE (vF ?_))))))); intro A f
     refine x_ret1 f rfl rfl ?_
     exact ⟨HNo.out _ rfl (fun h => c18 (by have := h.zs.f1; rw [e0, e1] at this; exact this)), Below.next hw1 B1⟩
    clear f A; intro c18 A f
    revert A; refine vqp (h:=vqm (h:=vqf (h:=vqd (y_load1 rfl rfl (ag rfl) (St.q a0 B1)) (h:=vqx (j:=1) (h:=vqf (h:=vqd (y_load1 rfl rfl (ag rfl) (St.q c11 B1)) (h:=?_))))))); intro A f
    refine q_if _ f rfl rfl rfl (y_neq rfl rfl rfl) ?_ ?_
    ·clear f A; intro c21 A f
     revert A; refine vqp (h:=vqm (h:=vqO 6 (h:=vqp (h:=vqm (h:=vqO 6 (h:=vqp (h:=vQ ?_))))))); intro W23 hb22; replace B1 := Below.next B1 hb22
     refine vT (vC (h:=vS (vR (vla (h:=vW (vE (vF ?_))))))); intro A f
     refine x_ret1 f rfl rfl ?_
     exact ⟨HNo.out _ rfl (fun h => c21 (by have := h.zs.t1; rw [e1] at this; exact this)), Below.next hw1 B1⟩
    clear f A; intro c21 A f
    revert A; refine vqp (h:=vqm (h:=vqf (h:=vqd (y_load1 rfl rfl (ag rfl) (St.q a1 B1)) (h:=?_))))
    have hml := hx1.mins.len
    obtain ⟨gm, om, vm, ham, c0m, hXm⟩ := hx1.mins.at_.at (0) (by omega)
    replace c0m := St.of c0m
    have em0 : x.hp.mins.getD 0 0 = vm := hXm.out
    refine vqx (j:=0) (h:=vqd (y_load1 rfl rfl (ag rfl) (St.q c0m B1)) (h:=?_)); intro A f
    refine q_callif _ f rfl rfl rfl (IsCall.mk' (cap := []) rfl rfl rfl) (pl rfl) (c_cl (fun wx => in_c _ _ _ wx)) ?_ ?_
    ·clear f A; intro c24 A f
     revert A; refine vqn (h:=vqp (h:=vqm (h:=vqf (h:=vqd (y_load1 rfl rfl (ag rfl) (St.q a1 B1)) (h:=?_)))))
     obtain ⟨gn, on, vn, han, c0n, hXn⟩ := hx1.mins.at_.at (1) (by omega)
     replace c0n := St.of c0n
     intro A f
     rw [ham] at han; simp only [Option.some.injEq, Addr.mk.injEq, and_true] at han; obtain ⟨rfl, rfl⟩ := han
     have em1 : x.hp.mins.getD 1 0 = vn := hXn.out
     revert A; refine vqx (j:=1) (h:=vqd (y_load1 rfl rfl (ag rfl) (St.q c0n B1)) (h:=?_)); intro A f
     refine q_callif _ f rfl rfl rfl (IsCall.mk' (cap := []) rfl rfl rfl) (pl rfl) (c_cl (fun wx => in_c _ _ _ wx)) ?_ ?_
     ·clear f A; intro c25 A f
      revert A; refine vqn (h:=vqp (h:=vQ ?_)); intro W27 hb26; replace B1 := Below.next B1 hb26
      refine vT (vD (h:=vK (vT (vS (vR ?_))))); intro A f
      refine l_alloc (z := .slice none 0 0) f rfl rfl rfl rfl (by kernel_rfl) ?_; clear f A; intro b28 W29 eb28 hb30 rb28 A f; have hz0b28 := B1.size; replace B1 := Below.next B1 hb30
      have hzs : ZsOk x.hp := ⟨by omega, by rw [e0]; assumption, by rw [e1]; assumption, by rw [e0]; omega, by rw [e0, e1]; omega, by rw [e1]; omega⟩
      have hmn : MnOk x.hp := ⟨by omega, by rw [em0]; assumption, by rw [em1]; assumption⟩
      have hcp : 1 ≤ x.cpus ∧ x.cpus ≤ 4 := by assumption
      have HI : HmI W2 W29 b28 b28 [] := ⟨B1, ⟨none, 0, hm_start rb28⟩, by omega, by omega, (Array.getElem?_eq_some_iff.1 rb28).1, apt_nil _, fun i hi => absurd hi (by simp)⟩
      clear rb28
      obtain ⟨ab, hab⟩ : ∃ ab, b28 = ab := ⟨_, rfl⟩
      rw [hab] at f HI
      revert A; refine vW (vS (vR (vld (y_func rfl rfl) (h:=vla (h:=vW (vS (vS (vR (vla (h:=vW (vB ?_)))))))))))
      intro A f
      refine x_loop (fun n A W => ∃ i r : Nat, n = 2 - i ∧ i ≤ 2 ∧ Fr A 267 [(1, .pointer (some ⟨b1, 0, none⟩)), (4, .func (.func 45) #[] #[.pointer (some ⟨ab, 0, none⟩)]), (5, .int .i64 (i : Nat))] ∧ HmI W2 W ab r (preL FZ .zero x.zs i 0)) (n0 := 2) (⟨0, _, rfl, by omega, f.sub ⟨rfl, rfl, rfl, trivial⟩, by simpa [preL_zero] using HI⟩) ?_
      clear f A
      clear HI
      rintro n A W31 ⟨i, r, hn, hi, f, HI⟩
      have B1 := HI.B
      revert A; refine vS (vS (vR (vlm (h:=?_)))); intro A f
      refine l_if _ f rfl rfl rfl (y_lss rfl rfl rfl) ?_ ?_
      ·clear f A; intro c32 A f
       revert A; refine vW (vC (h:=vK (vT (vS (vB (vS (vR (vla (h:=vW (vB ?_))))))))))
       obtain ⟨gi, oi, zi, foi, fni, fci, toi, tni, tci, hai, c0i, c1i, c2i, c3i, hati, hXi⟩ := hx1.zones.at (i) (by omega)
       replace c0i := St.of c0i; replace c1i := St.of c1i; replace c2i := St.of c2i; replace c3i := St.of c3i
       intro A f
       rw [ha0] at hai; simp only [Option.some.injEq, Addr.mk.injEq, and_true] at hai; obtain ⟨rfl, rfl⟩ := hai
       have rch := hati.free.reach
       refine x_loop (fun n A W => ∃ k r : Nat, n = fni - k ∧ k ≤ fni ∧ Fr A 267 [(1, .pointer (some ⟨b1, 0, none⟩)), (4, .func (.func 45) #[] #[.pointer (some ⟨ab, 0, none⟩)]), (5, .int .i64 (i : Nat)), (6, .int .i64 (k : Nat))] ∧ HmI W2 W ab r (preL FZ .zero x.zs i k)) (n0 := fni) (⟨0, _, rfl, by omega, f.sub ⟨rfl, rfl, rfl, rfl, trivial⟩, HI⟩) ?_
       clear f A
       clear HI B1
       rintro n A W33 ⟨k, r, hn, hk, f, HI⟩
       have B1 := HI.B
       revert A; refine vS (vS (vR (vlm (h:=vlf (h:=vld (y_load1 rfl rfl (ag rfl) (St.q a0 B1)) (h:=vlm (h:=vlx (h:=vlf (h:=vld (y_load1 rfl rfl (ag rfl) (St.q c2i B1)) (h:=vlz (h:=?_))))))))))); intro A f
       refine l_if _ f rfl rfl rfl (y_lss rfl rfl rfl) ?_ ?_
       ·clear f A; intro c34 A f
        revert A; refine vW (vC (h:=vK (vT (vS (vB (vS (vR (vlm (h:=vlf (h:=vld (y_load1 rfl rfl (ag rfl) (St.q a0 B1)) (h:=vlm (h:=vlx (h:=vlf (h:=vld (y_load1 rfl rfl (ag rfl) (St.q c2i B1)) (h:=vlm (h:=?_))))))))))))))))
        obtain ⟨gb, ob, bab, bob, btb, hab, c0b, c1b, c2b, hXb⟩ := hati.free.at_.at (k) (by have := hati.free.len; omega)
        replace c0b := St.of c0b; replace c1b := St.of c1b; replace c2b := St.of c2b
        have hkl : k < (FZ (x.zs.getD i .zero)).length := by rw [hXi.out]; show k < zi.free.length; have := hati.free.len; omega
        have hpk : (FZ (x.zs.getD i .zero)).getD k .zero = ⟨bab, bob, btb⟩ := by rw [hXi.out]; exact hXb.out
        have hip : InP ⟨bab, bob, btb⟩ := by rw [← hpk]; exact free_at hzs (by have := hx1.zones.len; omega) hkl
        refine vlx (h:=vld (y_loadN (vs := [_, _, _]) rfl rfl (ag rfl) rfl ⟨(St.q c0b B1), (St.q c1b B1), (St.q c2b B1), trivial⟩) (h:=?_)); intro A f
        refine l_call f rfl rfl rfl (IsCall.mk' (cap := [_]) rfl rfl rfl) (pl rfl) (hm_add HI ⟨_, _, _⟩ hip) ?_
        clear f A
        rintro e W35 ⟨r36, ⟨rfl, HI2, hr2, hu2⟩ | ⟨rfl, hov, hb2⟩⟩
        ·have B1 := HI2.B
         refine ⟨_, rfl, ?_⟩
         refine vln (h:=vW (vD (h:=vK (vU (vT (vR (vlm (h:=vlA (h:=vla (h:=vW ?_)))))))))); intro A f
         exact ⟨fni - (k + 1), by omega, k + 1, _, rfl, by omega, f.sub ⟨rfl, rfl, rfl, rfl, trivial⟩, by rw [preL_succ FZ .zero x.zs i k hkl, hpk]; exact HI2⟩
        replace B1 := Below.next B1 hb2
        have hnz : ¬ Apt [] (placed x.hp) := fun h => by
         rw [placed_x] at h
         obtain ⟨r9, h9⟩ := preL_rest FZ .zero x.zs i (k + 1) (by have := hx1.zones.len; omega)
         rw [h9, preL_succ FZ .zero x.zs i k hkl, hpk, List.append_assoc _ r9] at h
         exact hov (r9 ++ (x.ls.flatMap FL ++ x.live)) (by simpa [List.append_assoc] using h)
        refine ⟨_, rfl, ?_⟩
        refine vln (h:=vW (vC (h:=vS (vR (vla (h:=vW (vE (vG (vF (vF (vG (vG (vF (vF (vG (vF ?_)))))))))))))))); intro A f
        refine x_ret1 f rfl rfl ?_
        exact ⟨HNo.out _ rfl (fun h => hnz h.apart), Below.next hw1 B1⟩
       clear f A; intro c34 A f
       revert A; refine vW (vD (h:=vX (vH (vH (vI (vU (vT (vR (vlm (h:=vlA (h:=vla (h:=vW ?_)))))))))))); intro A f
       exact ⟨2 - (i + 1), by omega, i + 1, r, rfl, by omega, f.sub ⟨rfl, rfl, rfl, trivial⟩, by have := preL_full FZ .zero x.zs i k (by have := hx1.zones.len; omega) (by rw [hXi.out]; exact Nat.le_of_eq (hati.free.len.trans (by omega))); rwa [this] at HI⟩
      clear f A; intro c32 A f
      revert A; refine vW (vD (h:=vX (vH (vH (vI (vT (vS (vS (vR (vla (h:=vW (vB ?_))))))))))))
      have HI0 : HmI W2 W31 ab r (x.zs.flatMap FZ ++ preL FL .zero x.ls 0 0) := by
       have e : preL FZ .zero x.zs i 0 = x.zs.flatMap FZ ++ preL FL .zero x.ls 0 0 := by rw [preL_all FZ .zero x.zs i (by have := hx1.zones.len; omega)]; simp [preL]
       rw [← e]; exact HI
      intro A f
      clear HI
      refine x_loop (fun n A W => ∃ i r : Nat, n = x.ln - i ∧ i ≤ x.ln ∧ Fr A 267 [(1, .pointer (some ⟨b1, 0, none⟩)), (4, .func (.func 45) #[] #[.pointer (some ⟨ab, 0, none⟩)]), (7, .int .i64 (i : Nat))] ∧ HmI W2 W ab r (x.zs.flatMap FZ ++ preL FL .zero x.ls i 0) ∧ LsI x i) (n0 := x.ln) (⟨0, _, rfl, by omega, f.sub ⟨rfl, rfl, rfl, trivial⟩, HI0, LsI.nil x⟩) ?_
      clear f A
      clear HI0 B1
      rintro n A W38 ⟨i, r, hn, hi, f, HI, HL⟩
      have B1 := HI.B
      have lreach := hx1.lists.reach
      revert A; refine vS (vS (vR (vlm (h:=vlf (h:=vld (y_load1 rfl rfl (ag rfl) (St.q a3 B1)) (h:=vlz (h:=?_))))))); intro A f
      refine l_if _ f rfl rfl rfl (y_lss rfl rfl rfl) ?_ ?_
      ·clear f A; intro c39 A f
       revert A; refine vW (vC (h:=vK (vT (vS (vB (vS (vR (vlf (h:=vld (y_load1 rfl rfl (ag rfl) (St.q a3 B1)) (h:=vlm (h:=?_)))))))))))
       obtain ⟨gl, ol, lcl, lzl, ltl, lpl, pol, pnl, pcl, hal, c0l, c1l, c2l, c3l, hatl, hXl⟩ := hx1.lists.at (i) (by omega)
       replace c0l := St.of c0l; replace c1l := St.of c1l; replace c2l := St.of c2l; replace c3l := St.of c3l
       intro A f
       have hL : HMay x.hp → (0 ≤ lcl ∧ lcl < x.cpus) ∧ (0 ≤ lzl ∧ lzl < 2) ∧ (0 ≤ ltl ∧ ltl ≤ 2) ∧ (1 ≤ pnl ∧ pnl ≤ 8) ∧ (∀ j, j < pnl → (x.zs.getD lzl.toNat .zero).z.f ≤ lpl.getD j 0 ∧ lpl.getD j 0 < (x.zs.getD lzl.toNat .zero).z.t) := by
        intro h
        have e := h.ls.ok i (by show i < (x.ls.map _).length; have := hx1.lists.len; rw [List.length_map]; omega)
        rw [listOf_hp, hXl.out] at e
        obtain ⟨q1, q2, q3, q4, q5⟩ := e
        rw [zoneOf_hp] at q5
        have ln := hatl.len
        dsimp only at q1 q2 q3 q4 q5
        unfold typeOk at q3
        rw [ln] at q4 q5
        exact ⟨q1, q2, q3, q4, q5⟩
       revert A; refine vlx (h:=vld (y_loadN (vs := [_, _, _, _]) rfl rfl (ag rfl) rfl ⟨(St.q c0l B1), (St.q c1l B1), (St.q c2l B1), (St.q c3l B1), trivial⟩) (h:=?_))
       have hlr := HI.hl
       have hla := HI.lab
       intro A f
       refine l_as (z := .agg #[.int .i64 0, .int .i64 0, .int .i64 0, .slice none 0 0]) f rfl rfl rfl rfl (by kernel_rfl) rfl rfl (fun _ => rfl) (fun _ => rfl) rfl (by intro u hu; simp [Value.cells] at hu; rcases hu with rfl | rfl | rfl | rfl <;> rfl) ?_; clear f A; intro b40 W41 eb40 hb42 rb40 A f
       have hpb40 := hb42; replace B1 := Below.next B1 hb42; replace HI := HI.below hb42
       obtain ⟨s0, s1, s2, s3, -⟩ := sts_row (cs := [_, _, _, _]) rb40
       have Bl := Below.refl W41.heap.size W41
       have qsl : r < b40 := by have := hlr; omega
       have qal : ab < b40 := by have := hla; omega
       revert A; refine vW (vS (vS ?_)); intro A f
       refine sx_quiet (by kernel_rfl) (by kernel_rfl) ?_
       revert A; refine vqf (h:=vqd (y_load1 rfl rfl (ag rfl) (by assumption)) (h:=vqf (h:=vqd (y_load1 rfl rfl (ag rfl) (St.q a2 B1)) (h:=vqd (y_sub rfl rfl rfl rfl (by omega)) (h:=?_))))); intro A f
       refine q_callif _ f rfl rfl rfl (IsCall.mk' (cap := []) rfl rfl rfl) (pl rfl) (c_cl (fun wx => in_c _ _ _ wx)) ?_ ?_
       ·clear f A; intro c43 A f
        revert A; refine vqn (h:=vqm (h:=vqf (h:=vqd (y_load1 rfl rfl (ag rfl) (by assumption)) (h:=?_)))); intro A f
        refine q_callif _ f rfl rfl rfl (IsCall.mk' (cap := []) rfl rfl rfl) (pl rfl) (c_cl (fun wx => in_c _ _ _ wx)) ?_ ?_
        ·clear f A; intro c44 A f
         revert A; refine vqn (h:=vqp (h:=vqm (h:=vqf (h:=vqd (y_load1 rfl rfl (ag rfl) (by assumption)) (h:=?_))))); intro A f
         refine q_callif _ f rfl rfl rfl (IsCall.mk' (cap := []) rfl rfl rfl) (pl rfl) (c_cl (fun wx => in_c _ _ _ wx)) ?_ ?_
         ·clear f A; intro c45 A f
          revert A; refine vqn (h:=vqp (h:=vqm (h:=vqf (h:=vqd (y_load1 rfl rfl (ag rfl) (by assumption)) (h:=vqz (h:=?_)))))); intro A f
          refine q_callif _ f rfl rfl rfl (IsCall.mk' (cap := []) rfl rfl rfl) (pl rfl) (c_cl (fun wx => in_c _ _ _ wx)) ?_ ?_
          ·clear f A; intro c46 A f
           revert A; refine vqn (h:=vqp (h:=vqm (h:=vqm (h:=?_)))); intro A f
           refine q_if _ f rfl rfl rfl (y_gtr rfl rfl rfl) ?_ ?_
           ·clear f A; intro c47 A f
            revert A; refine vqm (h:=vqf (h:=vqd (y_load1 rfl rfl (ag rfl) (St.q a3 B1)) (h:=vqm (h:=vqd (y_sub (c := ((i - 1 : Nat) : Int)) rfl rfl rfl (by omega) (by omega)) (h:=?_)))))
            obtain ⟨gp, op, lcp, lzp, ltp, lpp, pop, pnp, pcp, hap, c0p, c1p, c2p, c3p, hatp, hXp⟩ := hx1.lists.at (i - 1) (by omega)
            replace c0p := St.of c0p; replace c1p := St.of c1p; replace c2p := St.of c2p; replace c3p := St.of c3p
            intro A f
            rw [hal] at hap; simp only [Option.some.injEq, Addr.mk.injEq, and_true] at hap; obtain ⟨rfl, rfl⟩ := hap
            have Da : Decidable (aheadL ⟨lcp, lzp, ltp, lpp⟩ ⟨lcl, lzl, ltl, lpl⟩) := Classical.propDecidable _
            have hO : HMay x.hp → aheadL ⟨lcp, lzp, ltp, lpp⟩ ⟨lcl, lzl, ltl, lpl⟩ := by
             intro h
             have e := h.ls.ord i (by omega) (by show i < (x.ls.map _).length; have := hx1.lists.len; rw [List.length_map]; omega)
             rw [listOf_hp, listOf_hp, hXp.out, hXl.out] at e
             exact e
            revert A; refine vqx (h:=vqd (y_loadN (vs := [_, _, _, _]) rfl rfl (ag rfl) rfl ⟨(St.q c0p B1), (St.q c1p B1), (St.q c2p B1), (St.q c3p B1), trivial⟩) (h:=vqd (y_loadN (vs := [_, _, _, _]) rfl rfl (ag rfl) rfl ⟨(by assumption), (by assumption), (by assumption), (by assumption), trivial⟩) (h:=?_))); intro A f
            refine q_callif _ f rfl rfl rfl (IsCall.mk' (cap := []) rfl rfl rfl) (pl rfl) (c_cl (fun wx => ahead_c ⟨lcp, lzp, ltp, lpp⟩ ⟨lcl, lzl, ltl, lpl⟩ _ _ wx)) ?_ ?_
            ·clear f A; intro c48 A f
             revert A; refine vqn (h:=vqp (h:=vqp (h:=vQ ?_))); intro W50 hb49; replace B1 := Below.next B1 hb49; replace HI := HI.below hb49; replace Bl := Below.next Bl hb49
             refine vT (vD (h:=vK (vT (vS (vR (vla (h:=vW (vB ?_))))))))
             obtain ⟨gq, oq, zq, foq, fnq, fcq, toq, tnq, tcq, haq, c0q, c1q, c2q, c3q, hatq, hXq⟩ := hx1.zones.at (lzl.toNat) (by omega)
             replace c0q := St.of c0q; replace c1q := St.of c1q; replace c2q := St.of c2q; replace c3q := St.of c3q
             intro A f
             rw [ha0] at haq; simp only [Option.some.injEq, Addr.mk.injEq, and_true] at haq; obtain ⟨rfl, rfl⟩ := haq
             have hzq : (x.zs.getD lzl.toNat .zero).z = zq := by rw [hXq.out]
             have hbd := zone_bd hzs (i := lzl.toNat) (by have := hx1.zones.len; omega)
             rw [hzq] at hbd
             have hzn : (lzl.toNat : Int) = lzl := by omega
             have hLo : 0 < i → aheadL (x.ls.getD (i - 1) .zero).l (x.ls.getD i .zero).l := by
              intro h0
              first
              | (exfalso; omega)
              | (rw [hXp.out, hXl.out]; assumption)
             have rbl := row_next rb40 Bl
             have hblr : b40 ≠ r := by have := HI.hl; have := qsl; omega
             have hbla : b40 ≠ ab := by have := qal; omega
             clear Bl qsl qal
             obtain ⟨bl, hbl⟩ : ∃ bl, b40 = bl := ⟨_, rfl⟩
             rw [hbl] at f rbl hblr hbla
             obtain ⟨zf, hzf⟩ : ∃ v, zq.f = v := ⟨_, rfl⟩
             obtain ⟨zt, hzt⟩ : ∃ v, zq.t = v := ⟨_, rfl⟩
             rw [hzf] at hbd c0q
             rw [hzt] at hbd c1q
             have prch := hatl.reach
             refine x_loop (fun n A W => ∃ k r : Nat, n = pnl - k ∧ k ≤ pnl ∧ Fr A 267 [(1, .pointer (some ⟨b1, 0, none⟩)), (4, .func (.func 45) #[] #[.pointer (some ⟨ab, 0, none⟩)]), (7, .int .i64 (i : Nat)), (8, .pointer (some ⟨bl, 0, none⟩)), (9, .int .i64 (k : Nat))] ∧ HmI W2 W ab r (x.zs.flatMap FZ ++ preL FL .zero x.ls i k) ∧ W.heap[bl]? = some (.cells #[.int .i64 lcl, .int .i64 lzl, .int .i64 ltl, .slice pol pnl pcl] 40 (0, 0)) ∧ bl ≠ r ∧ (∀ j, j < k → zf ≤ lpl.getD j 0 ∧ lpl.getD j 0 < zt)) (n0 := pnl) (⟨0, _, rfl, by omega, f.sub ⟨rfl, rfl, rfl, rfl, rfl, trivial⟩, HI, rbl, hblr, fun j hj => by omega⟩) ?_
             clear f A
             clear HI B1 rbl hblr
             rintro n A W51 ⟨k, r, hn, hk, f, HI, rbl, hblr, hpgs⟩
             have B1 := HI.B
             obtain ⟨s0, s1, s2, s3, -⟩ := sts_row (cs := [_, _, _, _]) rbl
             have Bl := Below.refl W51.heap.size W51
             have hLs : pnl ≤ k → LsOk x.hp (x.ls.getD i .zero).l := by
              intro h0
              rw [hXl.out]
              refine ⟨⟨by dsimp only; omega, by have e : x.hp.cpus = x.cpus := rfl; dsimp only; omega⟩, by dsimp only; omega, by unfold typeOk; dsimp only; omega, by have := hatl.len; dsimp only; omega, fun j hj => ?_⟩
              rw [zoneOf_hp]
              dsimp only
              rw [hzq, hzf, hzt]
              exact hpgs j (by have := hatl.len; dsimp only at hj; omega)
             revert A; refine vS (vS (vR (vlm (h:=vlf (h:=vld (y_load1 rfl rfl (ag rfl) (by assumption)) (h:=vlz (h:=?_))))))); intro A f
             refine l_if _ f rfl rfl rfl (y_lss rfl rfl rfl) ?_ ?_
             ·clear f A; intro c52 A f
              revert A; refine vW (vC (h:=vK (vT (vS (vB (vS ?_))))))
              have HB1 : ∀ wx, Bu2 r ab W51 wx → Below W2.heap.size W2 wx := fun wx h => HI.B.trans (h.below HI.hr HI.h HI.B.size)
              have h0 : StC (fun wx => Bu2 r ab W51 wx) _ _ := fun wx h => h.cell (St.now (s0.next Bl)) hblr hbla
              have h1 : StC (fun wx => Bu2 r ab W51 wx) _ _ := fun wx h => h.cell (St.now (s1.next Bl)) hblr hbla
              have h2 : StC (fun wx => Bu2 r ab W51 wx) _ _ := fun wx h => h.cell (St.now (s2.next Bl)) hblr hbla
              have h3 : StC (fun wx => Bu2 r ab W51 wx) _ _ := fun wx h => h.cell (St.now (s3.next Bl)) hblr hbla
              intro A f
              refine sx_held (fun wx => Bu2 r ab W51 wx) [20, 30] (by kernel_rfl) (by kernel_rfl) (blind_then (blind_in (blind_then (blind_then (blind_in (blind_in (blind_then (blind_then (blind_in (blind_then (blind_body))))))))))) (Bu2.start r ab rfl) ?_
              generalize hWd : ({ W51 with drawn := W51.drawn + 1 } : World) = W53
              have hS : Bu2 r ab W51 W53 := Bu2.start r ab hWd
              replace B1 := HB1 _ hS
              replace HI := HI.below (drawn_b hWd)
              clear hWd
              revert A; refine vhf (h:=vhd (y_load1 rfl rfl (ag rfl) (by assumption)) (h:=vhm (h:=?_)))
              obtain ⟨gg, og, vg, hag, c0g, hXg⟩ := hatl.at_.at (k) (by have := hatl.len; omega)
              replace c0g := St.of c0g
              intro A f
              rw [show og + k = og + k * 1 by omega] at c0g
              have hPg : HMay x.hp → zf ≤ vg ∧ vg < zt := by
               intro h
               have e := (hL h).2.2.2.2 k (by omega)
               rw [hzq, hzf, hzt, hXg.out] at e
               exact e
              have hkl : k < (FL (x.ls.getD i .zero)).length := by rw [hXl.out]; show k < (lpl.map pgB).length; have := hatl.len; rw [List.length_map]; omega
              have hpk : (FL (x.ls.getD i .zero)).getD k .zero = ⟨vg, 0, 0⟩ := by
               rw [hXl.out]; show (lpl.map pgB).getD k .zero = _
               rw [getD_map lpl pgB k 0 _ (by have := hatl.len; omega), hXg.out]; rfl
              revert A; refine vhx (h:=vhd (y_load1 rfl rfl (ag rfl) (St.c c0g HB1)) (h:=vhf (h:=vhd (y_load1 rfl rfl (ag rfl) (St.c a0 HB1)) (h:=vhf (h:=vhd (y_load1 rfl rfl (ag rfl) (by assumption)) (h:=vhd (y_indexI rfl rfl (by assumption) rfl (es rfl) (by omega) (by omega)) (h:=vhf (h:=vhd (y_load1 rfl rfl (ag rfl) (St.c c0q HB1)) (h:=vhf (h:=vhd (y_load1 rfl rfl (ag rfl) (St.c a0 HB1)) (h:=vhf (h:=vhd (y_load1 rfl rfl (ag rfl) (by assumption)) (h:=vhd (y_indexI rfl rfl (by assumption) rfl (es rfl) (by omega) (by omega)) (h:=vhf (h:=vhd (y_load1 rfl rfl (ag rfl) (St.c c1q HB1)) (h:=vhd (y_sub rfl rfl rfl rfl (by omega)) (h:=?_))))))))))))))))); intro A f
              refine h_callif _ f rfl rfl rfl rfl (IsCall.mk' (cap := []) rfl rfl rfl) (pl rfl) (in_c _ _ _ _) (fun _ hb => hS.trans (Bu2.of_below hb)) ?_ ?_
              ·clear f A; intro c56 W55 hb54 A f
               replace B1 := Below.next B1 hb54; replace HI := HI.below hb54; replace hS := hS.grow hb54
               revert A; refine vhn (h:=vhm (h:=vhm (h:=vhf (h:=vhd (y_load1 rfl rfl (ag rfl) (by assumption)) (h:=vhm (h:=vhx (h:=vhd (y_load1 rfl rfl (ag rfl) (St.c c0g HB1)) (h:=?_))))))))
               have hip : InP ⟨vg, 0, 0⟩ := ⟨(by decide : (0 : Int) ≤ 0 ∧ (0 : Int) ≤ 4), by dsimp only; omega, by dsimp only [pw]; simp only [Int.toNat_zero, Nat.pow_zero]; omega⟩
               refine vhd (y_build #[.int .i64 vg, .int .i64 0, .int .i64 0] rfl rfl (by kernel_rfl)) (h:=?_); intro A f
               refine h_call f rfl rfl rfl rfl (IsCall.mk' (cap := [_]) rfl rfl rfl) (pl rfl) (hm_add HI ⟨_, _, _⟩ hip) ?_
               clear f A
               rintro e W57 ⟨r58, ⟨rfl, HI2, hr2, hu2⟩ | ⟨rfl, hov, hb2⟩⟩
               ·have B1 := HI2.B
                have hS2 := hS.trans hu2
                refine ⟨_, rfl, hS2, ?_⟩
                refine vhn (h:=vhp (h:=vM (vT (vD (h:=vK (vU (vT (vR (vlm (h:=vlA (h:=vla (h:=vW ?_)))))))))))); intro A f
                exact ⟨pnl - (k + 1), by omega, k + 1, _, rfl, by omega, f.sub ⟨rfl, rfl, rfl, rfl, rfl, trivial⟩, by rw [preL_succ FL .zero x.ls i k hkl, hpk, ← List.append_assoc]; exact HI2, hS2.row rbl hblr hbla, by have := (Array.getElem?_eq_some_iff.1 rbl).1; have := hS.size; rcases hr2 with e | e <;> omega, fun j hj => by by_cases e : j = k; rw [e, hXg.out]; omega; exact hpgs j (by omega)⟩
               replace B1 := Below.next B1 hb2
               have hnz : ¬ Apt [] (placed x.hp) := fun h => by
                rw [placed_x] at h
                obtain ⟨r9, h9⟩ := preL_rest FL .zero x.ls i (k + 1) (by have := hx1.lists.len; omega)
                rw [h9, preL_succ FL .zero x.ls i k hkl, hpk] at h
                exact hov (r9 ++ x.live) (by simpa [List.append_assoc] using h)
               have hS2 := hS.trans (Bu2.of_below hb2)
               refine ⟨_, rfl, hS2, ?_⟩
               refine vhn (h:=vhp (h:=vM (vT (vC (h:=vS (vR (vla (h:=vW (vE (vG (vF (vF (vG (vG (vF (vF (vG (vF ?_)))))))))))))))))); intro A f
               refine x_ret1 f rfl rfl ?_
               exact ⟨HNo.out _ rfl (fun h => hnz h.apart), Below.next hw1 B1⟩
              clear f A; intro c56 W55 hb54 A f
              replace B1 := Below.next B1 hb54; replace HI := HI.below hb54; replace hS := hS.grow hb54
              revert A; refine vhn (h:=vhm (h:=vhO 9 (h:=vhp (h:=vM (vT (vC (h:=vS (vR (vla (h:=vW (vE (vG (vF (vF (vG (vG (vF (vF (vG (vF ?_)))))))))))))))))))); intro A f
              refine x_ret1 f rfl rfl ?_
              exact ⟨HNo.out _ rfl (fun h => by have := hPg h; omega), Below.next hw1 B1⟩
             clear f A; intro c52 A f
             revert A; refine vW (vD (h:=vX (vH (vH (vI (vU (vT (vR (vlm (h:=vlA (h:=vla (h:=vW ?_)))))))))))); intro A f
             exact ⟨x.ln - (i + 1), by omega, i + 1, r, rfl, by omega, f.sub ⟨rfl, rfl, rfl, trivial⟩, by have := preL_full FL .zero x.ls i k (by have := hx1.lists.len; omega) (by rw [hXl.out]; show (lpl.map pgB).length ≤ k; have := hatl.len; rw [List.length_map]; omega); rwa [this] at HI, HL.succ (hLs (by omega)) hLo⟩
            clear f A; intro c48 A f
            revert A; refine vqn (h:=vqp (h:=vqp (h:=vQ ?_))); intro W61 hb60; replace B1 := Below.next B1 hb60; replace HI := HI.below hb60; replace Bl := Below.next Bl hb60
            refine vT (vC (h:=vS (vR (vla (h:=vW (vE (vF (vG (vF (vF (vG (vF ?_)))))))))))); intro A f
            refine x_ret1 f rfl rfl ?_
            exact ⟨HNo.out _ rfl (fun h => c48 (hO h)), Below.next hw1 B1⟩
           clear f A; intro c47 A f
           revert A; refine vqm (h:=vqO 9 (h:=vqp (h:=vqp (h:=vQ ?_)))); intro W63 hb62; replace B1 := Below.next B1 hb62; replace HI := HI.below hb62; replace Bl := Below.next Bl hb62
           refine vT (vD (h:=vK (vT (vS (vR (vla (h:=vW (vB ?_))))))))
           obtain ⟨gq, oq, zq, foq, fnq, fcq, toq, tnq, tcq, haq, c0q, c1q, c2q, c3q, hatq, hXq⟩ := hx1.zones.at (lzl.toNat) (by omega)
           replace c0q := St.of c0q; replace c1q := St.of c1q; replace c2q := St.of c2q; replace c3q := St.of c3q
           intro A f
           rw [ha0] at haq; simp only [Option.some.injEq, Addr.mk.injEq, and_true] at haq; obtain ⟨rfl, rfl⟩ := haq
           have hzq : (x.zs.getD lzl.toNat .zero).z = zq := by rw [hXq.out]
           have hbd := zone_bd hzs (i := lzl.toNat) (by have := hx1.zones.len; omega)
           rw [hzq] at hbd
           have hzn : (lzl.toNat : Int) = lzl := by omega
           have hLo : 0 < i → aheadL (x.ls.getD (i - 1) .zero).l (x.ls.getD i .zero).l := by
            intro h0
            first
            | (exfalso; omega)
            | (rw [hXp.out, hXl.out]; assumption)
           have rbl := row_next rb40 Bl
           have hblr : b40 ≠ r := by have := HI.hl; have := qsl; omega
           have hbla : b40 ≠ ab := by have := qal; omega
           clear Bl qsl qal
           obtain ⟨bl, hbl⟩ : ∃ bl, b40 = bl := ⟨_, rfl⟩
           rw [hbl] at f rbl hblr hbla
           obtain ⟨zf, hzf⟩ : ∃ v, zq.f = v := ⟨_, rfl⟩
           obtain ⟨zt, hzt⟩ : ∃ v, zq.t = v := ⟨_, rfl⟩
           rw [hzf] at hbd c0q
           rw [hzt] at hbd c1q
           have prch := hatl.reach
           refine x_loop (fun n A W => ∃ k r : Nat, n = pnl - k ∧ k ≤ pnl ∧ Fr A 267 [(1, .pointer (some ⟨b1, 0, none⟩)), (4, .func (.func 45) #[] #[.pointer (some ⟨ab, 0, none⟩)]), (7, .int .i64 (i : Nat)), (8, .pointer (some ⟨bl, 0, none⟩)), (9, .int .i64 (k : Nat))] ∧ HmI W2 W ab r (x.zs.flatMap FZ ++ preL FL .zero x.ls i k) ∧ W.heap[bl]? = some (.cells #[.int .i64 lcl, .int .i64 lzl, .int .i64 ltl, .slice pol pnl pcl] 40 (0, 0)) ∧ bl ≠ r ∧ (∀ j, j < k → zf ≤ lpl.getD j 0 ∧ lpl.getD j 0 < zt)) (n0 := pnl) (⟨0, _, rfl, by omega, f.sub ⟨rfl, rfl, rfl, rfl, rfl, trivial⟩, HI, rbl, hblr, fun j hj => by omega⟩) ?_
           clear f A
           clear HI B1 rbl hblr
           rintro n A W64 ⟨k, r, hn, hk, f, HI, rbl, hblr, hpgs⟩
           have B1 := HI.B
           obtain ⟨s0, s1, s2, s3, -⟩ := sts_row (cs := [_, _, _, _]) rbl
           have Bl := Below.refl W64.heap.size W64
           have hLs : pnl ≤ k → LsOk x.hp (x.ls.getD i .zero).l := by
            intro h0
            rw [hXl.out]
            refine ⟨⟨by dsimp only; omega, by have e : x.hp.cpus = x.cpus := rfl; dsimp only; omega⟩, by dsimp only; omega, by unfold typeOk; dsimp only; omega, by have := hatl.len; dsimp only; omega, fun j hj => ?_⟩
            rw [zoneOf_hp]
            dsimp only
            rw [hzq, hzf, hzt]
            exact hpgs j (by have := hatl.len; dsimp only at hj; omega)
           revert A; refine vS (vS (vR (vlm (h:=vlf (h:=vld (y_load1 rfl rfl (ag rfl) (by assumption)) (h:=vlz (h:=?_))))))); intro A f
           refine l_if _ f rfl rfl rfl (y_lss rfl rfl rfl) ?_ ?_
           ·clear f A; intro c65 A f
            revert A; refine vW (vC (h:=vK (vT (vS (vB (vS ?_))))))
            have HB1 : ∀ wx, Bu2 r ab W64 wx → Below W2.heap.size W2 wx := fun wx h => HI.B.trans (h.below HI.hr HI.h HI.B.size)
            have h0 : StC (fun wx => Bu2 r ab W64 wx) _ _ := fun wx h => h.cell (St.now (s0.next Bl)) hblr hbla
            have h1 : StC (fun wx => Bu2 r ab W64 wx) _ _ := fun wx h => h.cell (St.now (s1.next Bl)) hblr hbla
            have h2 : StC (fun wx => Bu2 r ab W64 wx) _ _ := fun wx h => h.cell (St.now (s2.next Bl)) hblr hbla
            have h3 : StC (fun wx => Bu2 r ab W64 wx) _ _ := fun wx h => h.cell (St.now (s3.next Bl)) hblr hbla
            intro A f
            refine sx_held (fun wx => Bu2 r ab W64 wx) [20, 30] (by kernel_rfl) (by kernel_rfl) (blind_then (blind_in (blind_then (blind_then (blind_in (blind_in (blind_then (blind_then (blind_in (blind_then (blind_body))))))))))) (Bu2.start r ab rfl) ?_
            generalize hWd : ({ W64 with drawn := W64.drawn + 1 } : World) = W66
            have hS : Bu2 r ab W64 W66 := Bu2.start r ab hWd
            replace B1 := HB1 _ hS
            replace HI := HI.below (drawn_b hWd)
            clear hWd
            revert A; refine vhf (h:=vhd (y_load1 rfl rfl (ag rfl) (by assumption)) (h:=vhm (h:=?_)))
            obtain ⟨gg, og, vg, hag, c0g, hXg⟩ := hatl.at_.at (k) (by have := hatl.len; omega)
            replace c0g := St.of c0g
            intro A f
            rw [show og + k = og + k * 1 by omega] at c0g
            have hPg : HMay x.hp → zf ≤ vg ∧ vg < zt := by
             intro h
             have e := (hL h).2.2.2.2 k (by omega)
             rw [hzq, hzf, hzt, hXg.out] at e
             exact e
            have hkl : k < (FL (x.ls.getD i .zero)).length := by rw [hXl.out]; show k < (lpl.map pgB).length; have := hatl.len; rw [List.length_map]; omega
            have hpk : (FL (x.ls.getD i .zero)).getD k .zero = ⟨vg, 0, 0⟩ := by
             rw [hXl.out]; show (lpl.map pgB).getD k .zero = _
             rw [getD_map lpl pgB k 0 _ (by have := hatl.len; omega), hXg.out]; rfl
            revert A; refine vhx (h:=vhd (y_load1 rfl rfl (ag rfl) (St.c c0g HB1)) (h:=vhf (h:=vhd (y_load1 rfl rfl (ag rfl) (St.c a0 HB1)) (h:=vhf (h:=vhd (y_load1 rfl rfl (ag rfl) (by assumption)) (h:=vhd (y_indexI rfl rfl (by assumption) rfl (es rfl) (by omega) (by omega)) (h:=vhf (h:=vhd (y_load1 rfl rfl (ag rfl) (St.c c0q HB1)) (h:=vhf (h:=vhd (y_load1 rfl rfl (ag rfl) (St.c a0 HB1)) (h:=vhf (h:=vhd (y_load1 rfl rfl (ag rfl) (by assumption)) (h:=vhd (y_indexI rfl rfl (by assumption) rfl (es rfl) (by omega) (by omega)) (h:=vhf (h:=vhd (y_load1 rfl rfl (ag rfl) (St.c c1q HB1)) (h:=vhd (y_sub rfl rfl rfl rfl (by omega)) (h:=?_))))))))))))))))); intro A f
            refine h_callif _ f rfl rfl rfl rfl (IsCall.mk' (cap := []) rfl rfl rfl) (pl rfl) (in_c _ _ _ _) (fun _ hb => hS.trans (Bu2.of_below hb)) ?_ ?_
            ·clear f A; intro c69 W68 hb67 A f
             replace B1 := Below.next B1 hb67; replace HI := HI.below hb67; replace hS := hS.grow hb67
             revert A; refine vhn (h:=vhm (h:=vhm (h:=vhf (h:=vhd (y_load1 rfl rfl (ag rfl) (by assumption)) (h:=vhm (h:=vhx (h:=vhd (y_load1 rfl rfl (ag rfl) (St.c c0g HB1)) (h:=?_))))))))
             have hip : InP ⟨vg, 0, 0⟩ := ⟨(by decide : (0 : Int) ≤ 0 ∧ (0 : Int) ≤ 4), by dsimp only; omega, by dsimp only [pw]; simp only [Int.toNat_zero, Nat.pow_zero]; omega⟩
             refine vhd (y_build #[.int .i64 vg, .int .i64 0, .int .i64 0] rfl rfl (by kernel_rfl)) (h:=?_); intro A f
             refine h_call f rfl rfl rfl rfl (IsCall.mk' (cap := [_]) rfl rfl rfl) (pl rfl) (hm_add HI ⟨_, _, _⟩ hip) ?_
             clear f A
             rintro e W70 ⟨r71, ⟨rfl, HI2, hr2, hu2⟩ | ⟨rfl, hov, hb2⟩⟩
             ·have B1 := HI2.B
              have hS2 := hS.trans hu2
              refine ⟨_, rfl, hS2, ?_⟩
              refine vhn (h:=vhp (h:=vM (vT (vD (h:=vK (vU (vT (vR (vlm (h:=vlA (h:=vla (h:=vW ?_)))))))))))); intro A f
              exact ⟨pnl - (k + 1), by omega, k + 1, _, rfl, by omega, f.sub ⟨rfl, rfl, rfl, rfl, rfl, trivial⟩, by rw [preL_succ FL .zero x.ls i k hkl, hpk, ← List.append_assoc]; exact HI2, hS2.row rbl hblr hbla, by have := (Array.getElem?_eq_some_iff.1 rbl).1; have := hS.size; rcases hr2 with e | e <;> omega, fun j hj => by by_cases e : j = k; rw [e, hXg.out]; omega; exact hpgs j (by omega)⟩
             replace B1 := Below.next B1 hb2
             have hnz : ¬ Apt [] (placed x.hp) := fun h => by
              rw [placed_x] at h
              obtain ⟨r9, h9⟩ := preL_rest FL .zero x.ls i (k + 1) (by have := hx1.lists.len; omega)
              rw [h9, preL_succ FL .zero x.ls i k hkl, hpk] at h
              exact hov (r9 ++ x.live) (by simpa [List.append_assoc] using h)
             have hS2 := hS.trans (Bu2.of_below hb2)
             refine ⟨_, rfl, hS2, ?_⟩
             refine vhn (h:=vhp (h:=vM (vT (vC (h:=vS (vR (vla (h:=vW (vE (vG (vF (vF (vG (vG (vF (vF (vG (vF ?_)))))))))))))))))); intro A f
             refine x_ret1 f rfl rfl ?_
             exact ⟨HNo.out _ rfl (fun h => hnz h.apart), Below.next hw1 B1⟩
            clear f A; intro c69 W68 hb67 A f
            replace B1 := Below.next B1 hb67; replace HI := HI.below hb67; replace hS := hS.grow hb67
            revert A; refine vhn (h:=vhm (h:=vhO 9 (h:=vhp (h:=vM (vT (vC (h:=vS (vR (vla (h:=vW (vE (vG (vF (vF (vG (vG (vF (vF (vG (vF ?_)))))))))))))))))))); intro A f
            refine x_ret1 f rfl rfl ?_
            exact ⟨HNo.out _ rfl (fun h => by have := hPg h; omega), Below.next hw1 B1⟩
           clear f A; intro c65 A f
           revert A; refine vW (vD (h:=vX (vH (vH (vI (vU (vT (vR (vlm (h:=vlA (h:=vla (h:=vW ?_)))))))))))); intro A f
           exact ⟨x.ln - (i + 1), by omega, i + 1, r, rfl, by omega, f.sub ⟨rfl, rfl, rfl, trivial⟩, by have := preL_full FL .zero x.ls i k (by have := hx1.lists.len; omega) (by rw [hXl.out]; show (lpl.map pgB).length ≤ k; have := hatl.len; rw [List.length_map]; omega); rwa [this] at HI, HL.succ (hLs (by omega)) hLo⟩
          clear f A; intro c46 A f
          revert A; refine vqn (h:=vqp (h:=vqm (h:=vqO 13 (h:=vqp (h:=vQ ?_))))); intro W74 hb73; replace B1 := Below.next B1 hb73; replace HI := HI.below hb73; replace Bl := Below.next Bl hb73
          refine vT (vC (h:=vS (vR (vla (h:=vW (vE (vF (vG (vF (vF (vG (vF ?_)))))))))))); intro A f
          refine x_ret1 f rfl rfl ?_
          exact ⟨HNo.out _ rfl (fun h => by have := hL h; omega), Below.next hw1 B1⟩
         clear f A; intro c45 A f
         revert A; refine vqn (h:=vqp (h:=vqm (h:=vqO 5 (h:=vqp (h:=vqm (h:=vqO 13 (h:=vqp (h:=vQ ?_)))))))); intro W76 hb75; replace B1 := Below.next B1 hb75; replace HI := HI.below hb75; replace Bl := Below.next Bl hb75
         refine vT (vC (h:=vS (vR (vla (h:=vW (vE (vF (vG (vF (vF (vG (vF ?_)))))))))))); intro A f
         refine x_ret1 f rfl rfl ?_
         exact ⟨HNo.out _ rfl (fun h => by have := hL h; omega), Below.next hw1 B1⟩
        clear f A; intro c44 A f
        revert A; refine vqn (h:=vqp (h:=vqm (h:=vqO 4 (h:=vqp (h:=vqm (h:=vqO 5 (h:=vqp (h:=vqm (h:=vqO 13 (h:=vqp (h:=vQ ?_))))))))))); intro W78 hb77; replace B1 := Below.next B1 hb77; replace HI := HI.below hb77; replace Bl := Below.next Bl hb77
        refine vT (vC (h:=vS (vR (vla (h:=vW (vE (vF (vG (vF (vF (vG (vF ?_)))))))))))); intro A f
        refine x_ret1 f rfl rfl ?_
        exact ⟨HNo.out _ rfl (fun h => by have := hL h; omega), Below.next hw1 B1⟩
       clear f A; intro c43 A f
       revert A; refine vqn (h:=vqm (h:=vqO 4 (h:=vqp (h:=vqm (h:=vqO 4 (h:=vqp (h:=vqm (h:=vqO 5 (h:=vqp (h:=vqm (h:=vqO 13 (h:=vqp (h:=vQ ?_))))))))))))); intro W80 hb79; replace B1 := Below.next B1 hb79; replace HI := HI.below hb79; replace Bl := Below.next Bl hb79
       refine vT (vC (h:=vS (vR (vla (h:=vW (vE (vF (vG (vF (vF (vG (vF ?_)))))))))))); intro A f
       refine x_ret1 f rfl rfl ?_
       exact ⟨HNo.out _ rfl (fun h => by have := hL h; omega), Below.next hw1 B1⟩
      clear f A; intro c39 A f
      revert A; refine vW (vD (h:=vX (vH (vH (vI (vT (vS (vS (vR (vla (h:=vW (vB ?_))))))))))))
      have HI0 : HmI W2 W38 ab r (x.zs.flatMap FZ ++ (x.ls.flatMap FL ++ x.live.take 0)) := by
       have e : preL FL .zero x.ls i 0 = x.ls.flatMap FL ++ x.live.take 0 := by rw [preL_all FL .zero x.ls i (by have := hx1.lists.len; omega)]; simp
       rw [← e]; exact HI
      intro A f
      clear HI
      have hLss : LssOk x.hp := HL.all (by have := hx1.lists.len; omega)
      clear HL
      refine x_loop (fun n A W => ∃ i r : Nat, n = x.vn - i ∧ i ≤ x.vn ∧ Fr A 267 [(1, .pointer (some ⟨b1, 0, none⟩)), (4, .func (.func 45) #[] #[.pointer (some ⟨ab, 0, none⟩)]), (10, .int .i64 (i : Nat))] ∧ HmI W2 W ab r (x.zs.flatMap FZ ++ (x.ls.flatMap FL ++ x.live.take i)) ∧ LvI x.live i) (n0 := x.vn) (⟨0, _, rfl, by omega, f.sub ⟨rfl, rfl, rfl, trivial⟩, HI0, LvI.nil _⟩) ?_
      clear f A
      clear HI0 B1
      rintro n A W81 ⟨i, r, hn, hi, f, HI, HV⟩
      have B1 := HI.B
      have vreach := hx1.live.reach
      revert A; refine vS (vS (vR (vlm (h:=vlf (h:=vld (y_load1 rfl rfl (ag rfl) (St.q a4 B1)) (h:=vlz (h:=?_))))))); intro A f
      refine l_if _ f rfl rfl rfl (y_lss rfl rfl rfl) ?_ ?_
      ·clear f A; intro c82 A f
       revert A; refine vW (vC (h:=vK (vT (vS (vB (vS (vR (vlf (h:=vld (y_load1 rfl rfl (ag rfl) (St.q a4 B1)) (h:=vlm (h:=?_)))))))))))
       obtain ⟨gv, ov, bav, bov, btv, hav, c0v, c1v, c2v, hXv⟩ := hx1.live.at_.at (i) (by have := hx1.live.len; omega)
       replace c0v := St.of c0v; replace c1v := St.of c1v; replace c2v := St.of c2v
       have hV : HMay x.hp → (0 ≤ bov ∧ bov ≤ 4) ∧ (0 ≤ bav ∧ bav < 256) ∧ bav % pw bov = 0 ∧ (0 ≤ btv ∧ btv ≤ 2) := by
        intro h
        have e := h.lv.ok i (by have := hx1.live.len; show i < x.live.length; omega)
        have e2 : x.hp.live.getD i .zero = ⟨bav, bov, btv⟩ := hXv.out
        rw [e2] at e
        exact ⟨e.o, e.a, e.m, e.t⟩
       refine vlx (h:=vld (y_loadN (vs := [_, _, _]) rfl rfl (ag rfl) rfl ⟨(St.q c0v B1), (St.q c1v B1), (St.q c2v B1), trivial⟩) (h:=?_))
       have hlr := HI.hl
       have hla := HI.lab
       intro A f
       refine l_as (z := .agg #[.int .i64 0, .int .i64 0, .int .i64 0]) f rfl rfl rfl rfl (by kernel_rfl) rfl rfl (fun _ => rfl) (fun _ => rfl) rfl (by intro u hu; simp [Value.cells] at hu; rcases hu with rfl | rfl | rfl <;> rfl) ?_; clear f A; intro b83 W84 eb83 hb85 rb83 A f
       have hpb83 := hb85; replace B1 := Below.next B1 hb85; replace HI := HI.below hb85
       have rbl := rb83
       have hblr : b83 ≠ r := by have := hlr; omega
       have hbla : b83 ≠ ab := by have := hla; omega
       obtain ⟨s0, s1, s2, -⟩ := sts_row (cs := [_, _, _]) rb83
       obtain ⟨bl, hbl⟩ : ∃ bl, b83 = bl := ⟨_, rfl⟩
       rw [hbl] at f rbl hblr hbla s0 s1 s2
       revert A; refine vW (vS ?_)
       have HB1 : ∀ wx, Bu2 r ab W84 wx → Below W2.heap.size W2 wx := fun wx h => HI.B.trans (h.below HI.hr HI.h HI.B.size)
       have h0 : StC (fun wx => Bu2 r ab W84 wx) _ _ := fun wx h => h.cell (St.now s0) hblr hbla
       have h1 : StC (fun wx => Bu2 r ab W84 wx) _ _ := fun wx h => h.cell (St.now s1) hblr hbla
       have h2 : StC (fun wx => Bu2 r ab W84 wx) _ _ := fun wx h => h.cell (St.now s2) hblr hbla
       intro A f
       refine sx_held (fun wx => Bu2 r ab W84 wx) [2, 7, 15, 22, 44] (by kernel_rfl) (by kernel_rfl) (blind_then (blind_in (blind_then (blind_then (blind_in (blind_then (blind_body))))))) (Bu2.start r ab rfl) ?_
       generalize hWd : ({ W84 with drawn := W84.drawn + 1 } : World) = W86
       have hS : Bu2 r ab W84 W86 := Bu2.start r ab hWd
       replace B1 := HB1 _ hS
       replace HI := HI.below (drawn_b hWd)
       clear hWd
       revert A; refine vhf (h:=vhd (y_load1 rfl rfl (ag rfl) (by assumption)) (h:=?_)); intro A f
       refine h_callif _ f rfl rfl rfl rfl (IsCall.mk' (cap := []) rfl rfl rfl) (pl rfl) (in_c _ _ _ _) (fun _ hb => hS.trans (Bu2.of_below hb)) ?_ ?_
       ·clear f A; intro c89 W88 hb87 A f
        replace B1 := Below.next B1 hb87; replace HI := HI.below hb87; replace hS := hS.grow hb87
        revert A; refine vhn (h:=vhm (h:=vhf (h:=vhd (y_load1 rfl rfl (ag rfl) (by assumption)) (h:=?_)))); intro A f
        refine h_callif _ f rfl rfl rfl rfl (IsCall.mk' (cap := []) rfl rfl rfl) (pl rfl) (in_c _ _ _ _) (fun _ hb => hS.trans (Bu2.of_below hb)) ?_ ?_
        ·clear f A; intro c92 W91 hb90 A f
         replace B1 := Below.next B1 hb90; replace HI := HI.below hb90; replace hS := hS.grow hb90
         revert A; refine vhn (h:=vhp (h:=vhm (h:=vhf (h:=vhd (y_load1 rfl rfl (ag rfl) (by assumption)) (h:=vhf (h:=vhd (y_load1 rfl rfl (ag rfl) (by assumption)) (h:=?_)))))))
         have hpp := pw_pos bov
         intro A f
         refine h_callv f rfl rfl rfl rfl (IsCall.mk' (cap := []) rfl rfl rfl) (pl rfl) (power_c _ (by omega) (by omega) _) (fun _ hb => hS.trans (Bu2.of_below hb)) ?_; clear f A; intro W94 hb93 A f; replace B1 := Below.next B1 hb93; replace HI := HI.below hb93; replace hS := hS.grow hb93
         revert A; refine vhd (y_rem (c := bav % pw bov) rfl rfl rfl (by omega) (Int.tmod_eq_emod_of_nonneg (by omega))) (h:=?_); intro A f
         refine h_if _ f rfl rfl rfl rfl (y_neq rfl rfl rfl) ?_ ?_
         ·clear f A; intro c95 A f
          revert A; refine vhp (h:=vhm (h:=vhO 4 (h:=vhp (h:=vhm (h:=vhO 14 (h:=vhp (h:=vhm (h:=vhO 4 (h:=vhp (h:=vM (vT (vC (h:=vS (vR (vla (h:=vW (vE (vG (vF (vF (vG (vF ?_)))))))))))))))))))))); intro A f
          refine x_ret1 f rfl rfl ?_
          exact ⟨HNo.out _ rfl (fun h => by have := hV h; omega), Below.next hw1 B1⟩
         clear f A; intro c95 A f
         revert A; refine vhp (h:=vhm (h:=vhf (h:=vhd (y_load1 rfl rfl (ag rfl) (by assumption)) (h:=?_)))); intro A f
         refine h_callif _ f rfl rfl rfl rfl (IsCall.mk' (cap := []) rfl rfl rfl) (pl rfl) (in_c _ _ _ _) (fun _ hb => hS.trans (Bu2.of_below hb)) ?_ ?_
         ·clear f A; intro c98 W97 hb96 A f
          replace B1 := Below.next B1 hb96; replace HI := HI.below hb96; replace hS := hS.grow hb96
          revert A; refine vhn (h:=vhp (h:=vhm (h:=vhm (h:=?_)))); intro A f
          refine h_if _ f rfl rfl rfl rfl (y_gtr rfl rfl rfl) ?_ ?_
          ·clear f A; intro c99 A f
           revert A; refine vhm (h:=vhf (h:=vhd (y_load1 rfl rfl (ag rfl) (St.c a4 HB1)) (h:=vhm (h:=vhd (y_sub (c := ((i - 1 : Nat) : Int)) rfl rfl rfl (by omega) (by omega)) (h:=?_)))))
           obtain ⟨gu, ou, bau, bou, btu, hau, c0u, c1u, c2u, hXu⟩ := hx1.live.at_.at (i - 1) (by have := hx1.live.len; omega)
           replace c0u := St.of c0u; replace c1u := St.of c1u; replace c2u := St.of c2u
           intro A f
           rw [hav] at hau; simp only [Option.some.injEq, Addr.mk.injEq, and_true] at hau; obtain ⟨rfl, rfl⟩ := hau
           have hO : HMay x.hp → bau < bav := by
            intro h
            have e := h.lv.ord i (by omega) (by have := hx1.live.len; show i < x.live.length; omega)
            have e2 : x.hp.live.getD i .zero = ⟨bav, bov, btv⟩ := hXv.out
            have e3 : x.hp.live.getD (i - 1) .zero = ⟨bau, bou, btu⟩ := hXu.out
            rw [e2, e3] at e
            exact e
           revert A; refine vhx (h:=vhf (h:=vhd (y_load1 rfl rfl (ag rfl) (St.c c0u HB1)) (h:=vhf (h:=vhd (y_load1 rfl rfl (ag rfl) (by assumption)) (h:=?_))))); intro A f
           refine h_if _ f rfl rfl rfl rfl (y_geq rfl rfl rfl) ?_ ?_
           ·clear f A; intro c100 A f
            revert A; refine vhp (h:=vhp (h:=vhm (h:=vhO 4 (h:=vhp (h:=vM (vT (vC (h:=vS (vR (vla (h:=vW (vE (vG (vF (vF (vG (vF ?_))))))))))))))))); intro A f
            refine x_ret1 f rfl rfl ?_
            exact ⟨HNo.out _ rfl (fun h => by have := hO h; omega), Below.next hw1 B1⟩
           clear f A; intro c100 A f
           revert A; refine vhp (h:=vhp (h:=vhm (h:=?_)))
           have hlv : LvOk ⟨bav, bov, btv⟩ := ⟨by unfold ordOk; dsimp only; omega, by dsimp only; omega, by dsimp only; omega, by unfold typeOk; dsimp only; omega⟩
           have hip : InP ⟨bav, bov, btv⟩ := hlv.inP
           have hVs : LvOk (x.live.getD i .zero) := by rw [hXv.out]; exact hlv
           have hVo : 0 < i → (x.live.getD (i - 1) .zero).a < (x.live.getD i .zero).a := by
            intro h0
            first
            | (exfalso; omega)
            | (rw [hXu.out, hXv.out]; dsimp only; omega)
           refine vhm (h:=vhd (y_loadN (vs := [_, _, _]) rfl rfl (ag rfl) rfl ⟨(by assumption), (by assumption), (by assumption), trivial⟩) (h:=?_)); intro A f
           refine h_call f rfl rfl rfl rfl (IsCall.mk' (cap := [_]) rfl rfl rfl) (pl rfl) (hm_add HI ⟨_, _, _⟩ hip) ?_
           clear f A
           rintro e W101 ⟨r102, ⟨rfl, HI2, hr2, hu2⟩ | ⟨rfl, hov, hb2⟩⟩
           ·have B1 := HI2.B
            have hS2 := hS.trans hu2
            refine ⟨_, rfl, hS2, ?_⟩
            refine vhn (h:=vhp (h:=vM (vT (vD (h:=vK (vU (vT (vR (vlm (h:=vlA (h:=vla (h:=vW ?_)))))))))))); intro A f
            exact ⟨x.vn - (i + 1), by omega, i + 1, _, rfl, by omega, f.sub ⟨rfl, rfl, rfl, trivial⟩, by rw [take_getD x.live i (by have := hx1.live.len; omega) hXv.out, ← List.append_assoc (x.ls.flatMap FL), ← List.append_assoc]; exact HI2, HV.succ hVs hVo⟩
           replace B1 := Below.next B1 hb2
           have hnz : ¬ Apt [] (placed x.hp) := fun h => by
            rw [placed_x] at h
            have e2 : x.live = x.live.take i ++ [⟨bav, bov, btv⟩] ++ x.live.drop (i + 1) := by rw [← take_getD x.live i (by have := hx1.live.len; omega) hXv.out, List.take_append_drop]
            rw [e2] at h
            exact hov (x.live.drop (i + 1)) (by simpa [List.append_assoc] using h)
           have hS2 := hS.trans (Bu2.of_below hb2)
           refine ⟨_, rfl, hS2, ?_⟩
           refine vhn (h:=vhp (h:=vM (vT (vC (h:=vS (vR (vla (h:=vW (vE (vG (vF (vF (vG (vF ?_)))))))))))))); intro A f
           refine x_ret1 f rfl rfl ?_
           exact ⟨HNo.out _ rfl (fun h => hnz h.apart), Below.next hw1 B1⟩
          clear f A; intro c99 A f
          revert A; refine vhm (h:=vhO 10 (h:=vhp (h:=vhp (h:=vhm (h:=?_)))))
          have hlv : LvOk ⟨bav, bov, btv⟩ := ⟨by unfold ordOk; dsimp only; omega, by dsimp only; omega, by dsimp only; omega, by unfold typeOk; dsimp only; omega⟩
          have hip : InP ⟨bav, bov, btv⟩ := hlv.inP
          have hVs : LvOk (x.live.getD i .zero) := by rw [hXv.out]; exact hlv
          have hVo : 0 < i → (x.live.getD (i - 1) .zero).a < (x.live.getD i .zero).a := by
           intro h0
           first
           | (exfalso; omega)
           | (rw [hXu.out, hXv.out]; dsimp only; omega)
          refine vhm (h:=vhd (y_loadN (vs := [_, _, _]) rfl rfl (ag rfl) rfl ⟨(by assumption), (by assumption), (by assumption), trivial⟩) (h:=?_)); intro A f
          refine h_call f rfl rfl rfl rfl (IsCall.mk' (cap := [_]) rfl rfl rfl) (pl rfl) (hm_add HI ⟨_, _, _⟩ hip) ?_
          clear f A
          rintro e W104 ⟨r105, ⟨rfl, HI2, hr2, hu2⟩ | ⟨rfl, hov, hb2⟩⟩
          ·have B1 := HI2.B
           have hS2 := hS.trans hu2
           refine ⟨_, rfl, hS2, ?_⟩
           refine vhn (h:=vhp (h:=vM (vT (vD (h:=vK (vU (vT (vR (vlm (h:=vlA (h:=vla (h:=vW ?_)))))))))))); intro A f
           exact ⟨x.vn - (i + 1), by omega, i + 1, _, rfl, by omega, f.sub ⟨rfl, rfl, rfl, trivial⟩, by rw [take_getD x.live i (by have := hx1.live.len; omega) hXv.out, ← List.append_assoc (x.ls.flatMap FL), ← List.append_assoc]; exact HI2, HV.succ hVs hVo⟩
          replace B1 := Below.next B1 hb2
          have hnz : ¬ Apt [] (placed x.hp) := fun h => by
           rw [placed_x] at h
           have e2 : x.live = x.live.take i ++ [⟨bav, bov, btv⟩] ++ x.live.drop (i + 1) := by rw [← take_getD x.live i (by have := hx1.live.len; omega) hXv.out, List.take_append_drop]
           rw [e2] at h
           exact hov (x.live.drop (i + 1)) (by simpa [List.append_assoc] using h)
          have hS2 := hS.trans (Bu2.of_below hb2)
          refine ⟨_, rfl, hS2, ?_⟩
          refine vhn (h:=vhp (h:=vM (vT (vC (h:=vS (vR (vla (h:=vW (vE (vG (vF (vF (vG (vF ?_)))))))))))))); intro A f
          refine x_ret1 f rfl rfl ?_
          exact ⟨HNo.out _ rfl (fun h => hnz h.apart), Below.next hw1 B1⟩
         clear f A; intro c98 W97 hb96 A f
         replace B1 := Below.next B1 hb96; replace HI := HI.below hb96; replace hS := hS.grow hb96
         revert A; refine vhn (h:=vhp (h:=vhm (h:=vhO 14 (h:=vhp (h:=vhm (h:=vhO 4 (h:=vhp (h:=vM (vT (vC (h:=vS (vR (vla (h:=vW (vE (vG (vF (vF (vG (vF ?_)))))))))))))))))))); intro A f
         refine x_ret1 f rfl rfl ?_
         exact ⟨HNo.out _ rfl (fun h => by have := hV h; omega), Below.next hw1 B1⟩
        clear f A; intro c92 W91 hb90 A f
        replace B1 := Below.next B1 hb90; replace HI := HI.below hb90; replace hS := hS.grow hb90
        revert A; refine vhn (h:=vhp (h:=vhm (h:=vhO 7 (h:=vhp (h:=vhm (h:=vhO 4 (h:=vhp (h:=vhm (h:=vhO 14 (h:=vhp (h:=vhm (h:=vhO 4 (h:=vhp (h:=vM (vT (vC (h:=vS (vR (vla (h:=vW (vE (vG (vF (vF (vG (vF ?_)))))))))))))))))))))))))); intro A f
        refine x_ret1 f rfl rfl ?_
        exact ⟨HNo.out _ rfl (fun h => by have := hV h; omega), Below.next hw1 B1⟩
       clear f A; intro c89 W88 hb87 A f
       replace B1 := Below.next B1 hb87; replace HI := HI.below hb87; replace hS := hS.grow hb87
       revert A; refine vhn (h:=vhm (h:=vhO 4 (h:=vhp (h:=vhm (h:=vhO 7 (h:=vhp (h:=vhm (h:=vhO 4 (h:=vhp (h:=vhm (h:=vhO 14 (h:=vhp (h:=vhm (h:=vhO 4 (h:=vhp (h:=vM (vT (vC (h:=vS (vR (vla (h:=vW (vE (vG (vF (vF (vG (vF ?_)))))))))))))))))))))))))))); intro A f
       refine x_ret1 f rfl rfl ?_
       exact ⟨HNo.out _ rfl (fun h => by have := hV h; omega), Below.next hw1 B1⟩
      clear f A; intro c82 A f
      revert A; refine vW (vD (h:=vX (vH (vH (vI (vT (vS (vR (vla (h:=vW (vE ?_))))))))))); intro A f
      refine x_ret1 f rfl rfl ?_
      have hall : x.live.take i = x.live := List.take_of_length_le (by have := hx1.live.len; omega)
      rw [hall, ← placed_x] at HI
      exact ⟨⟨true, rfl, fun _ => ⟨hzs, hmn, hcp, hLss, ⟨fun j hj => HV.ok j (by have := hx1.live.len; have e : x.hp.live = x.live := rfl; rw [e] at hj; omega), fun j h0 hj => HV.ord j h0 (by have := hx1.live.len; have e : x.hp.live = x.live := rfl; rw [e] at hj; omega)⟩, HI.apt⟩, fun _ => rfl⟩, Below.next hw1 B1⟩
     clear f A; intro c25 A f
     revert A; refine vqn (h:=vqp (h:=vQ ?_)); intro W108 hb107; replace B1 := Below.next B1 hb107
     refine vT (vC (h:=vS (vR (vla (h:=vW (vE (vF ?_))))))); intro A f
     refine x_ret1 f rfl rfl ?_
     exact ⟨HNo.out _ rfl (fun h => c25 (by have := h.mn.b; rw [em1] at this; exact this)), Below.next hw1 B1⟩
    clear f A; intro c24 A f
    revert A; refine vqn (h:=vqp (h:=vqm (h:=vqO 6 (h:=vqp (h:=vQ ?_))))); intro W110 hb109; replace B1 := Below.next B1 hb109
    refine vT (vC (h:=vS (vR (vla (h:=vW (vE (vF ?_))))))); intro A f
    refine x_ret1 f rfl rfl ?_
    exact ⟨HNo.out _ rfl (fun h => c24 (by have := h.mn.a; rw [em0] at this; exact this)), Below.next hw1 B1⟩
   clear f A; intro c12 W14 hb13 A f
   replace B1 := Below.next B1 hb13
   revert A; refine vln (h:=vlp (h:=vW (vC (h:=vS (vR (vla (h:=vW (vE (vF ?_))))))))); intro A f
   refine x_ret1 f rfl rfl ?_
   exact ⟨HNo.out _ rfl (fun h => c12 (e1 ▸ h.zs.m1)), Below.next hw1 B1⟩
  clear f A; intro c9 W11 hb10 A f
  replace B1 := Below.next B1 hb10
  revert A; refine vln (h:=vlp (h:=vlm (h:=vlO 6 (h:=vlp (h:=vW (vC (h:=vS (vR (vla (h:=vW (vE (vF ?_)))))))))))); intro A f
  refine x_ret1 f rfl rfl ?_
  exact ⟨HNo.out _ rfl (fun h => c9 (e0 ▸ h.zs.m0)), Below.next hw1 B1⟩
 clear f A; intro c6 W8 hb7 A f
 replace B1 := Below.next B1 hb7
 revert A; refine vln (h:=vlp (h:=vlm (h:=vlO 6 (h:=vlp (h:=vlm (h:=vlO 6 (h:=vlp (h:=vW (vC (h:=vS (vR (vla (h:=vW (vE (vF ?_))))))))))))))); intro A f
 refine x_ret1 f rfl rfl ?_
 exact ⟨HNo.out _ rfl (fun h => c6 h.cpus), Below.next hw1 B1⟩
theorem bIns_nil (w : World) (base gv : Nat) (b : Bk) (hbs : base ≤ w.heap.size) (hv : w.heap[gv]? = some (.cells #[.int .i64 b.a, .int .i64 b.o, .int .i64 b.t] 53 (0, 0))) :
    Calls Tryz.prog 42 #[.slice none 0 0, .int .i64 0, .slice (some ⟨gv, 0, none⟩) 1 1] w fun e w' =>
     ∃ g' cap', e = .returned (.slice (some ⟨g', 0, none⟩) 1 cap') ∧ w'.ownsRow base 53 3 (.slice (some ⟨g', 0, none⟩) 1 cap') 1 (bvals [b]) ∧ w.heap.size ≤ g' ∧ Below w.heap.size w w' := by
 obtain ⟨i1, hj, hy0, hy1, hy2⟩ := info_parts info_block
 have hvc : ∀ j v, ([.int .i64 b.a, .int .i64 b.o, .int .i64 b.t] : List Value)[j]? = some v → w.cell? ((⟨gv, 0, none⟩ : Addr).add j) = some v := by
  intro j v hjv
  rw [add_at, Nat.zero_add]
  simp only [World.cell?, hv]
  simpa using hjv
 have hv1 : ∀ u ∈ ([.int .i64 b.a, .int .i64 b.o, .int .i64 b.t] : List Value), u.oneCell' = true := ints_oneCell .i64 [_, _, _]
 obtain ⟨vs, hvs⟩ : ∃ vs : List Value, [.int .i64 b.a, .int .i64 b.o, .int .i64 b.t] = vs := ⟨_, rfl⟩
 have hvl : vs.length = 1 * 3 := by rw [← hvs]; rfl
 have hc4 : Hid (bvals [b] = vs) := by show _ = _; rw [← hvs]; rfl
 rw [hvs] at hvc hv1
 clear hvs hv
 obtain ⟨v', w1, hrun, hown, hgrow, _⟩ := run_append_own (P := Tryz.prog) w w.heap.size 25 25 53 i1 (.agg #[.int .i64 0, .int .i64 0, .int .i64 0]) 3 24 Tryz.underlying25 hj hy0 hy1 hy2 rfl (by decide) (.slice none 0 0) 0 [] (World.ownsRow_nil _ _ _ _) ⟨gv, 0, none⟩ 1 1 vs hvl hvc hv1 (by unfold maxLen; omega) (by omega) (Nat.le_refl _)
 rw [List.nil_append, Nat.zero_add] at hown
 have hb' : Below w.heap.size w w1 := (Below.refl _ _).grown hgrow (Nat.le_refl _) (by simp [Value.ownBlock])
 have hsh : ∃ g' cap', v' = .slice (some ⟨g', 0, none⟩) 1 cap' ∧ w.heap.size ≤ g' := by
  rcases hown.2 with ⟨e1, e2⟩ | ⟨g, cap', cur, e1, hB, _⟩
  ·cases e2
  exact ⟨g, cap', e1, hB⟩
 obtain ⟨g', cap', rfl, hg'⟩ := hsh
 replace hown := owns_weaken hown hbs
 have HR : Hid _ := hrun
 clear hrun hgrow
 go_enter Tryz.func42, Tryz.ntmps42
 go_wp2_with (at_builtin; refine Lib.wpList_append_run _ rfl (.tmp 23) (.tmp 24) 25 25 rfl _ _ rfl rfl _ _ HR.out ?_)
 all_goals
  go_ret
  exact ⟨g', cap', rfl, by rw [hc4.out]; exact hown, hg', hb'⟩
theorem bIns_all (w : World) (base n cap i gv : Nat) (lo : Option Addr) (l : List Bk) (b : Bk) (hi : i ≤ n) (hN : n ≤ 300) (hbs : base ≤ w.heap.size) (own : w.ownsRow base 53 3 (.slice lo n cap) n (bvals l)) (hv : w.heap[gv]? = some (.cells #[.int .i64 b.a, .int .i64 b.o, .int .i64 b.t] 53 (0, 0))) (hne : ∀ a, lo = some a → gv ≠ a.block) :
    Calls Tryz.prog 42 #[.slice lo n cap, .int .i64 i, .slice (some ⟨gv, 0, none⟩) 1 1] w fun e w' =>
     ∃ g' cap', e = .returned (.slice (some ⟨g', 0, none⟩) (n + 1 : Nat) cap') ∧ w'.ownsRow base 53 3 (.slice (some ⟨g', 0, none⟩) (n + 1) cap') (n + 1) (bvals (insB l i b)) ∧ WrL lo g' w w' := by
 cases lo with
 | none =>
  rcases own.2 with ⟨e1, e2⟩ | ⟨g, cap', cur, e1, _⟩
  ·simp only [Value.slice.injEq, true_and] at e1
   obtain ⟨rfl, rfl⟩ := e1
   have hl : l = [] := List.eq_nil_of_length_eq_zero (by have := bowns_len own; omega)
   subst hl
   obtain rfl : i = 0 := by omega
   refine (bIns_nil w base gv b hbs hv).mono ?_
   rintro e w' ⟨g', cap', rfl, h1, h2, h3⟩
   exact ⟨g', cap', rfl, h1, .inr ⟨rfl, h3, h2⟩⟩
  cases e1
 | some a =>
  obtain ⟨g, rfl⟩ : ∃ g, a = ⟨g, 0, none⟩ := by
   rcases own.2 with ⟨e1, _⟩ | ⟨g, cap', cur, e1, _⟩
   ·cases e1
   simp only [Value.slice.injEq, Option.some.injEq] at e1
   exact ⟨g, e1.1⟩
  refine (bIns_any w base g n cap i gv l b hi hN own hv (hne _ rfl)).mono ?_
  rintro e w' ⟨g', cap', rfl, h1, h2, h3⟩
  exact ⟨g', cap', rfl, h1, .inl ⟨g, rfl, h2, h3⟩⟩
end Go.Proofs.YtbjlbmofdnkmiaaGreatDoor
