/-
  OWN TEXTS, bundled: RefZk2, RefRt.
-/
import Derived.Test.YtbjlbmofdnkmiaaPagesFreesPart22
import Derived.Deep.CutBlock
import Derived.Deep.DeepCutAuto
import Derived.Test.YtbjlbmofdnkmiaaPagesFreesPart11

/-
  OWN TEXT. Contracts of the document's answer: BackOf where it answers a zone.
-/
namespace Go.Proofs.Ytbjlbmofdnkmiaa
open Go Go.RowKit Go.Proofs.Ytbjlbmofdnkmiaa.Kit

/-- A zone in a variable that was laid behind w4: its box, its free blocks; its types are those that w4 had. -/
structure OutInv (B : Nat) (w4 : World) (z : Zn) (uo : Option Addr) (un uc : Nat) (l : List Bk) (W : World) : Prop where
  b : Below w4.heap.size w4 W
  ex : ∃ lo ln lc, ZBox W w4.heap.size (.int .i64 z.f) (.int .i64 z.t) (.slice lo ln lc) (.slice uo un uc) ∧ Blks W lo ln l ∧ Fresh B lo

theorem OutInv.step {B : Nat} {w4 : World} {z : Zn} {uo : Option Addr} {un uc : Nat} {l : List Bk} {W W' : World} (h : OutInv B w4 z uo un uc l W) (hb : Below W.heap.size W W') : OutInv B w4 z uo un uc l W' := by
  obtain ⟨lo, ln, lc, hz, hl, hf⟩ := h.ex
  exact ⟨h.b.trans (hb.mono h.b.size), lo, ln, lc, hz.below hb, hl.below hb, hf⟩

/-- The free blocks are taken over. -/
theorem OutInv.take {B : Nat} {w4 : World} {z : Zn} {uo : Option Addr} {un uc : Nat} {l m : List Bk} {W : World} (h : OutInv B w4 z uo un uc l W) {lo : Option Addr} {ln lc : Nat} (hm : Blks W lo ln m) (hf : Fresh (w4.heap.size + 1) lo) (hB : B ≤ w4.heap.size + 1) : OutInv B w4 z uo un uc m (W.setCell ⟨w4.heap.size, 2, none⟩ (.slice lo ln lc)) := by
  obtain ⟨_, _, _, hz, _, _⟩ := h.ex
  have hbt : But w4.heap.size W (W.setCell ⟨w4.heap.size, 2, none⟩ (.slice lo ln lc)) := (But.refl _ _).setCell _
  exact ⟨h.b.trans (hbt.below (Nat.le_refl _) h.b.size), lo, ln, lc, hz.set2 _, hbt.blks hm (fun a ha => by have := hf a ha; omega), hf.mono hB⟩

theorem tail_keep {W : World} {ob wz g k : Nat} {v p q x : Value} (h : W.cell? ⟨ob, 3, none⟩ = some p ∧ W.cell? ⟨wz, 0, none⟩ = some q ∧ W.cell? ⟨g, k, none⟩ = some x) (hg : g ≠ ob) :
    (W.setCell ⟨ob, 2, none⟩ v).cell? ⟨ob, 3, none⟩ = some p ∧ (W.setCell ⟨ob, 2, none⟩ v).cell? ⟨wz, 0, none⟩ = some q ∧ (W.setCell ⟨ob, 2, none⟩ v).cell? ⟨g, k, none⟩ = some x :=
  ⟨(World.cell?_setCell_other _ _ _ _ (by simp)).trans h.1, (World.cell?_setCell_other _ _ _ _ (by simp)).trans h.2.1, (World.cell?_setCell_other _ _ _ _ (by intro e; cases e; exact hg rfl)).trans h.2.2⟩

theorem may_in {z : Zn} (h : ZMay z) : ∀ b ∈ z.free, blkIn z.f z.t b.a b.o := by
  intro b hb
  obtain ⟨i, hi, rfl⟩ := List.getElem_of_mem hb
  have := (freeOk_at h.free hi rfl).1
  rw [List.getD_eq_getElem?_getD, List.getElem?_eq_getElem hi] at this
  exact this

set_option maxHeartbeats 4000000 in
theorem backOf_ok (w : World) (fo : Option Addr) (fn fc : Nat) (to_ : Option Addr) (tn tc : Nat) (z : Zn) (a o : Int) (h : ZnAt w fo fn to_ tn z) (hM : ZMay z) (ho : blkIn z.f z.t a o) (hv : ¬ ovlP z.free a o) :
    Calls Try.prog 27 #[.agg #[.int .i64 z.f, .int .i64 z.t, .slice fo fn fc, .slice to_ tn tc], .int .i64 a, .int .i64 o] w fun e w' => RetZone w.heap.size w' (backZ z a o) e ∧ Below w.heap.size w w' := by
  have I0 := baInv_first w fo fn fc to_ tn tc z h
  have c0 := I0.box.c0
  have c1 := I0.box.c1
  have c2 := I0.box.c2
  have c3 := I0.box.c3
  clear h
  go_enter Try.func27, Try.ntmps27
  go_wp2_with fail
  go_at_call 36
  refine (zoneMay_any _ fo fn fc to_ tn tc z I0.zn).mono ?_
  rintro e w1 ⟨⟨r, rfl, hr⟩, hb1⟩
  have I1 := I0.step hb1
  obtain rfl : r = true := hr.2 hM
  replace c0 := I1.box.c0
  replace c1 := I1.box.c1
  replace c2 := I1.box.c2
  replace c3 := I1.box.c3
  clear hr I0 hb1
  go_wp2_with fail
  go_at_call 61
  refine (blockMay_any _ z.f z.t fo to_ fn fc tn tc a o hM.new).mono ?_
  rintro e w2 ⟨rfl, hb2⟩
  have I2 := I1.step hb2
  clear I1 hb2
  rw [(blkB_iff z.f z.t a o).2 ho]
  replace c2 := I2.box.c2
  obtain ⟨n1, n2, n3, n4, n5⟩ := hM.new
  have HO := overlaps_any w2 fo fn fc z.free a o I2.zn.free (may_nums hM) ho.1 (by have := ho.2.1; omega) (by have := ho.2.2.1; omega)
  clear c0 c1 c3
  go_wp2_with fail
  go_at_call 38
  refine HO.mono ?_
  rintro e w3 ⟨⟨r, rfl, hr⟩, d, rfl⟩
  obtain rfl : r = false := by
    cases r with
    | false => rfl
    | true => exact absurd (hr.1 rfl) hv
  have I3 := I2.step (below_drawn d)
  obtain ⟨W3, hW3⟩ : ∃ W3, w2.drewN d = W3 := ⟨_, rfl⟩
  rw [hW3] at I3 ⊢
  clear hr HO hW3 I2 c2 hv
  have c0 := I3.box.c0
  have c1 := I3.box.c1
  have c2 := I3.box.c2
  have c3 := I3.box.c3
  go_wp2_with fail
  go_at_call 44
  refine (zoneCopy_any W3 fo fn fc to_ tn tc z I3.zn).mono ?_
  rintro e w4 ⟨⟨lo, ln, lc, uo, un, uc, rfl, hz4, f1, f2⟩, hb4⟩
  have hbx := below_box w4 (.cells #[.int .i64 z.f, .int .i64 z.t, .slice lo ln lc, .slice uo un uc] 44)
  have I4 := I3.step hb4
  have hs3 := I3.size
  have O4 : OutInv (w.heap.size + 2) w4 z uo un uc z.free (w4.alloc (.cells #[.int .i64 z.f, .int .i64 z.t, .slice lo ln lc, .slice uo un uc] 44)) :=
    ⟨hbx, lo, ln, lc, zbox_new _ _ _ _ _ _, (hz4.below hbx).free, f1.mono hs3⟩
  have hcnt : z.free.length ≤ 256 := by have := freeOk_count hM.free n5 n2; omega
  have hin := may_in hM
  have hT4 := hz4.types
  have hFu : Fresh (w.heap.size + 2) uo := f2.mono hs3
  have hlen := hM.len
  have hs4 := I4.size
  obtain ⟨R, hR⟩ : ∃ R, backGo (4 - o).toNat z.free a o = R := ⟨_, rfl⟩
  have HR : Hid (backZ z a o = ⟨z.f, z.t, addB R.1 ⟨R.2.1, R.2.2, z.types.getD ((R.2.1 - z.f) / 8).toNat 0⟩, z.types⟩) := by show _ = _; unfold backZ; rw [hR]
  have HR0 : Hid (backGo (4 - o).toNat z.free a o = R) := hR
  clear c0 c1 c2 c3 I3 hb4 hbx f1 f2 hz4 hM hR
  go_upto_block 0 with fail
  go_cut [1, 2] (fun av ov W => ∃ (AN : Nat) (O : Int) (l : List Bk), av = .int .i64 AN ∧ ov = .int .i64 O ∧ blkIn z.f z.t AN O ∧ Hid (R = (l, ((AN : Int)), O)) ∧ l.length ≤ 256 ∧ OutInv (w.heap.size + 2) w4 z uo un uc l W)
  case rest =>
    obtain ⟨AN, O, l, rfl, rfl, hA, hRR, hlen2, OI⟩ := hcut
    obtain ⟨⟨o0, o4⟩, a1, a2, a3⟩ := id hA
    clear O4 HR0 hin hcnt ho hA
    go_wp2_with fail
    obtain ⟨l5, m5, k5, Z5, hB5, hF5⟩ := OI.ex
    have IX := I4.step OI.b
    have y2 := Z5.c2
    have y3 := Z5.c3
    have yz := Z5.z2
    have y0 := IX.box.c0
    obtain ⟨K, hK⟩ : ∃ K : Nat, ((AN : Int) - z.f) / 8 = (K : Int) := ⟨(((AN : Int) - z.f) / 8).toNat, by omega⟩
    have htl := hT4.len
    have hKn : K < un := by omega
    obtain ⟨g, of, x, rfl, cx, hX⟩ := (hT4.below OI.b).at_.at K (by omega)
    have hgo : g ≠ w4.heap.size := by
      obtain ⟨g', of', x', hu', cx', _⟩ := hT4.at_.at K (by omega)
      cases hu'
      have := World.block_lt_of_cell? w4 _ cx'
      dsimp only at this
      omega
    have hS0 : wc.drew.cell? ⟨w4.heap.size, 3, none⟩ = some (.slice (some ⟨g, of, none⟩) un uc) ∧ wc.drew.cell? ⟨w.heap.size, 0, none⟩ = some (.int .i64 z.f) ∧ wc.drew.cell? ⟨g, of + K, none⟩ = some (.int .i64 x) := ⟨by simpa using y3, by simpa using y0, by simpa using cx⟩
    obtain ⟨D, hD⟩ : ∃ D : Nat, (AN : Int) - z.f = (D : Int) := ⟨((AN : Int) - z.f).toNat, by omega⟩
    have hDK : D / 8 = K := by omega
    have hq8 : (D : Int) / 8 = (K : Int) := by omega
    have hKi : (K : Int) < (un : Int) := by omega
    have hTr := hT4.reach
    have hw1 : IntKind.i64.wrap (D : Int) = (D : Int) := IntWalk.i64_in _ (by omega)
    have hw2 : IntKind.i64.wrap (K : Int) = (K : Int) := IntWalk.i64_in _ (by omega)
    have htd : ((D : Int)).tdiv 8 = (K : Int) := by rw [Int.tdiv_eq_ediv_of_nonneg (by omega)]; omega
    have htd2 : ((AN : Int) - z.f).tdiv 8 = (K : Int) := by rw [Int.tdiv_eq_ediv_of_nonneg (by omega)]; omega
    have hty : Hid (z.types.getD (((AN : Int) - z.f) / 8).toNat 0 = x) := by show _ = _; rw [hK]; simpa using hX.out
    have HZ : Hid (backZ z a o = ⟨z.f, z.t, addB l ⟨AN, O, x⟩, z.types⟩) := by
      show _ = _
      rw [HR.out, hRR.out]
      dsimp only
      rw [hty.out]
    have HWB0 := withBlock_any wc.drew l5 m5 k5 l ⟨AN, O, x⟩ (hB5.below (Below.refl _ _).drew) (by have := hB5.len; omega)
    dsimp only at HWB0
    have HWB := HWB0.mono (fun e w' (hh : ∃ bo c, e = .returned (.slice bo (m5 + 1) c) ∧ w'.ownsRow wc.drew.heap.size 63 3 (.slice bo (m5 + 1) c) (m5 + 1) (bvals (addB l ⟨AN, O, x⟩)) ∧ Below wc.drew.heap.size wc.drew w') => (show ∃ bo c, e = .returned (.slice bo (m5 + 1) c) ∧ w'.ownsRow wc.drew.heap.size 63 3 (.slice bo (m5 + 1) c) (m5 + 1) (bvals (addB l ⟨AN, O, x⟩)) ∧ Below wc.drew.heap.size wc.drew w' ∧ w'.cell? ⟨w4.heap.size, 2, none⟩ = some (.slice l5 m5 k5) ∧ w'.frozen? ⟨w4.heap.size, 2, none⟩ = false ∧ (w'.cell? ⟨w4.heap.size, 3, none⟩ = some (.slice (some ⟨g, of, none⟩) un uc) ∧ w'.cell? ⟨w.heap.size, 0, none⟩ = some (.int .i64 z.f) ∧ w'.cell? ⟨g, of + K, none⟩ = some (.int .i64 x)) by
      obtain ⟨bo, c, he, ho, hb⟩ := hh
      have Zd := (Z5.belowB (B := wc.heap.size) (Below.refl _ _).drew Z5.lt).below hb
      exact ⟨bo, c, he, ho, hb, Zd.c2, Zd.z2, Zd.c3, keep hS0.2.1 hb, keep hS0.2.2 hb⟩))
    clear HWB0
    have hm5 : m5 ≤ 256 := by have := hB5.len; omega
    have hobx := Z5.lt
    clear hRR hty HR hX
    go_region_with (go_at_call 62; refine HWB.mono ?_; rintro e w6 ⟨bo6, c6, rfl, own6, hb6, q62, q6z, q6S⟩)
    all_goals
      have Wd : Below wc.heap.size wc wc.drew := (Below.refl _ _).drew
      have hb6' : Below wc.heap.size wc w6 := Wd.trans hb6
      have Z7 := ((Z5.belowB Wd Z5.lt).below hb6).set2 (.slice bo6 (m5 + 1) c6)
      have I6 := IX.step hb6'
      have hbt : But w4.heap.size w6 (w6.setCell ⟨w4.heap.size, 2, none⟩ (.slice bo6 (m5 + 1) c6)) := (But.refl _ _).setCell _
      have R7 := I6.res.but hbt (by omega)
      have hfr6 : Fresh wc.heap.size bo6 := owns_fresh own6
      have B7 := hbt.blks (blks_own own6 (by omega)) (fun a ha => by have := hfr6 a ha; omega)
      have N7 := hbt.nums (hT4.below (OI.b.trans (hb6'.mono OI.b.size))) (fun a ha => by cases ha; exact hgo)
      have hs6 := I6.size
      have hB7 := I6.b.trans (hbt.below (B := w.heap.size) (by omega) (by omega))
      have e0 := Z7.c0
      have e1 := Z7.c1
      have e2 := Z7.c2
      have e3 := Z7.c3
      have hs7 := hbt.size
      obtain ⟨W7, hW7⟩ : ∃ W7, w6.setCell ⟨w4.heap.size, 2, none⟩ (.slice bo6 (m5 + 1) c6) = W7 := ⟨_, rfl⟩
      rw [hW7] at R7 B7 N7 hB7 e0 e1 e2 e3 hs7 ⊢
      obtain ⟨⟨r0, s0⟩, ⟨r1, s1⟩, ⟨r2, s2⟩, ⟨r3, s3⟩, v0, v1, v2, v3⟩ := id R7
      clear hW7 Wd hb6' Z7 I6 hbt own6 hb6 q62 q6z q6S hw1 hw2 htd htd2 hq8 hD hDK hK HWB Z5 IX OI
      go_wp2
      obtain ⟨k0, k1, k2, k3⟩ := res4 R7 (.int .i64 z.f) (.int .i64 z.t) (.slice bo6 (m5 + 1) c6) (.slice (some ⟨g, of, none⟩) un uc)
      have hbu := but4 W7 (w.heap.size + 1) (.int .i64 z.f) (.int .i64 z.t) (.slice bo6 (m5 + 1) c6) (.slice (some ⟨g, of, none⟩) un uc)
      refine bodyPost_ret (v := .tuple #[.agg #[.int .i64 z.f, .int .i64 z.t, .slice bo6 (m5 + 1) c6, .slice (some ⟨g, of, none⟩) un uc], .int .i64 0]) (by simp [results, Try.results27, go_sem, k0, k1, k2, k3]) rfl ⟨?_, hB7.trans (hbu.below (by omega) (by omega))⟩
      rw [HZ.out]
      exact ⟨bo6, m5 + 1, c6, some ⟨g, of, none⟩, un, uc, rfl, hbu.zn ⟨B7, N7⟩ (fun a ha => by have := hfr6 a ha; omega) (fun a ha => by have := hFu a ha; omega), hfr6.mono (by omega), hFu.mono (by omega)⟩
  case first =>
    go_wp2_with fail
    go_loopw [1, 2] (fun av ov wr => ∃ (A O : Int) (l : List Bk), av = .int .i64 A ∧ ov = .int .i64 O ∧ blkIn z.f z.t A O ∧ Hid (backGo (4 - O).toNat l A O = R) ∧ (∀ b ∈ l, blkIn z.f z.t b.a b.o) ∧ l.length ≤ 256 ∧ OutInv (w.heap.size + 2) w4 z uo un uc l wr) (fun _ ov _ => (4 - intOf ov).toNat)
    case atStart => exact ⟨a, o, z.free, rfl, rfl, ho, HR0, hin, hcnt, O4⟩
    case round =>
      obtain ⟨A, O, l, rfl, rfl, hA, hG, hL, hlen2, OI⟩ := hrel
      clear O4 HR0 hin hcnt ho
      obtain ⟨⟨o0, o4⟩, a1, a2, a3⟩ := id hA
      obtain ⟨lo', ln', lc', Z, hB, hFr⟩ := OI.ex
      have x2 := Z.c2
      have z2 := Z.z2
      obtain ⟨AN, rfl⟩ : ∃ AN : Nat, A = AN := ⟨A.toNat, by omega⟩
      by_cases hO : O < 4
      · obtain ⟨P, hP⟩ : ∃ P, pw O = P := ⟨_, rfl⟩
        have HP : Hid (pw O = P) := hP
        have p1 := pw_pos O
        have p2 := pw_le hA.1
        obtain ⟨P2, hP2, hP2p, hP2q⟩ : ∃ P2 : Nat, pw (O + 1) = P2 ∧ 0 < P2 ∧ P2 ≤ 16 := ⟨(pw (O + 1)).toNat, by have := pw_pos (O + 1); omega, by have := pw_pos (O + 1); omega, by have := pw_le (o := O + 1) ⟨by omega, by omega⟩; omega⟩
        have HP2 : Hid (pw (O + 1) = P2) := hP2
        have hP20 : ((P2 : Int) == 0) = false := by simp; omega
        rw [hP] at p1 p2
        obtain ⟨n, hn⟩ : ∃ n : Nat, (4 - O).toNat = n + 1 := ⟨(4 - O).toNat - 1, by omega⟩
        have hn2 : (4 - (O + 1)).toNat = n := by omega
        have HN2 : Hid _ := hn2
        have hG1 := hG.out
        rw [hn] at hG1
        clear hG hn2 hP hP2
        by_cases hm : (AN : Int) % (P2 : Int) = 0
        · have hbs : besideA (AN : Int) O = AN + P := by unfold besideA; rw [HP2.out, if_pos hm, HP.out]
          have HW := without_any wr lo' ln' lc' l ((AN : Int) + P) O hB
          go_wp2_with fail
          go_at_call 39
          refine (power_v O P o0 (by omega) HP.out _).mono ?_
          rintro e w' ⟨rfl, rfl⟩
          go_wp2_with fail
          go_at_call 39
          refine (power_v (O + 1) P2 (by omega) (by omega) HP2.out _).mono ?_
          rintro e w' ⟨rfl, rfl⟩
          go_wp2_with fail
          go_at_call 50
          refine HW.mono ?_
          rintro e w5 ⟨bo, m, c, rfl, own, hb5⟩
          have OI5 := OI.step hb5
          have hob := Z.lt
          have x2' := (Z.below hb5).c2
          have z2' := (Z.below hb5).z2
          have hm256 : m ≤ 256 := by have h1 := bowns_len own; have h2 := dropB_len l ((AN : Int) + P) O; omega
          have hb6 : Blks w5 bo m (dropB l ((AN : Int) + P) O) := blks_own own (by omega)
          have hfb : Fresh (w4.heap.size + 1) bo := (owns_fresh own).mono (by omega)
          clear HW own OI Z x2 z2 hB hFr
          cases hh : hasB l ((AN : Int) + P) O with
          | true =>
            have hG2 : Hid (backGo (4 - (O + 1)).toNat (dropB l ((AN : Int) + P) O) ((AN : Int)) (O + 1) = R) := by
              show _ = _
              rw [HN2.out, ← hG1, backGo, hbs, if_pos hh]
              rw [if_neg (by omega)]
            have hA2 : blkIn z.f z.t ((AN : Int)) (O + 1) := by
              have h1 := join_in hA (by rw [hbs]; exact hasB_in hh hL) hO
              rw [hbs] at h1
              rw [if_neg (by omega)] at h1; exact h1
            have hL2 : ∀ b ∈ dropB l ((AN : Int) + P) O, blkIn z.f z.t b.a b.o := fun b hb => hL b (dropB_mem hb)
            have hlen3 : (dropB l ((AN : Int) + P) O).length ≤ 256 := by have := dropB_len l ((AN : Int) + P) O; omega
            have OI6 := OI5.take (lc := c) hb6 hfb (by omega)
            obtain ⟨D, hD⟩ : ∃ D, dropB l ((AN : Int) + P) O = D := ⟨_, rfl⟩
            rw [hD] at hG2 hL2 hlen3 OI6
            clear hG1 hL hb6 hfb OI5 hh hD hbs hb5
            go_wp2
            go_roundw
            case rel => exact ⟨(AN : Int), O + 1, D, by go_num, by go_num, hA2, hG2, hL2, hlen3, OI6⟩
            case measure => simp [intOf]; omega
          | false =>
            have hRR : Hid (R = (l, ((AN : Int)), O)) := by
              show _ = _
              rw [← hG1, backGo, hbs, hh, if_neg (by simp)]
            clear hG1 hL hb6 hfb hh hbs hb5 hm x2' z2'
            go_wp2
            go_meet
            exact ⟨AN, O, l, rfl, rfl, hA, hRR, hlen2, OI5⟩
        · have hbs : besideA (AN : Int) O = AN - P := by unfold besideA; rw [HP2.out, if_neg hm, HP.out]
          have HW := without_any wr lo' ln' lc' l ((AN : Int) - P) O hB
          go_wp2_with fail
          go_at_call 39
          refine (power_v O P o0 (by omega) HP.out _).mono ?_
          rintro e w' ⟨rfl, rfl⟩
          go_wp2_with fail
          go_at_call 39
          refine (power_v (O + 1) P2 (by omega) (by omega) HP2.out _).mono ?_
          rintro e w' ⟨rfl, rfl⟩
          go_wp2_with fail
          go_at_call 39
          refine (power_v O P o0 (by omega) HP.out _).mono ?_
          rintro e w' ⟨rfl, rfl⟩
          go_wp2_with fail
          go_at_call 50
          refine HW.mono ?_
          rintro e w5 ⟨bo, m, c, rfl, own, hb5⟩
          have OI5 := OI.step hb5
          have hob := Z.lt
          have x2' := (Z.below hb5).c2
          have z2' := (Z.below hb5).z2
          have hm256 : m ≤ 256 := by have h1 := bowns_len own; have h2 := dropB_len l ((AN : Int) - P) O; omega
          have hb6 : Blks w5 bo m (dropB l ((AN : Int) - P) O) := blks_own own (by omega)
          have hfb : Fresh (w4.heap.size + 1) bo := (owns_fresh own).mono (by omega)
          clear HW own OI Z x2 z2 hB hFr
          cases hh : hasB l ((AN : Int) - P) O with
          | true =>
            have hG2 : Hid (backGo (4 - (O + 1)).toNat (dropB l ((AN : Int) - P) O) ((AN : Int) - P) (O + 1) = R) := by
              show _ = _
              rw [HN2.out, ← hG1, backGo, hbs, if_pos hh]
              rw [if_pos (by omega)]
            have hA2 : blkIn z.f z.t ((AN : Int) - P) (O + 1) := by
              have h1 := join_in hA (by rw [hbs]; exact hasB_in hh hL) hO
              rw [hbs] at h1
              rw [if_pos (by omega)] at h1; exact h1
            have hL2 : ∀ b ∈ dropB l ((AN : Int) - P) O, blkIn z.f z.t b.a b.o := fun b hb => hL b (dropB_mem hb)
            have hlen3 : (dropB l ((AN : Int) - P) O).length ≤ 256 := by have := dropB_len l ((AN : Int) - P) O; omega
            have OI6 := OI5.take (lc := c) hb6 hfb (by omega)
            obtain ⟨D, hD⟩ : ∃ D, dropB l ((AN : Int) - P) O = D := ⟨_, rfl⟩
            rw [hD] at hG2 hL2 hlen3 OI6
            clear hG1 hL hb6 hfb OI5 hh hD hbs hb5
            go_wp2
            go_roundw
            case rel => exact ⟨(AN : Int) - P, O + 1, D, by go_num, by go_num, hA2, hG2, hL2, hlen3, OI6⟩
            case measure => simp [intOf]; omega
          | false =>
            have hRR : Hid (R = (l, ((AN : Int)), O)) := by
              show _ = _
              rw [← hG1, backGo, hbs, hh, if_neg (by simp)]
            clear hG1 hL hb6 hfb hh hbs hb5 hm x2' z2'
            go_wp2
            go_meet
            exact ⟨AN, O, l, rfl, rfl, hA, hRR, hlen2, OI5⟩
      · have hRR : Hid (R = (l, ((AN : Int)), O)) := by
          show _ = _
          have h1 := hG.out
          have h2 : (4 - O).toNat = 0 := by omega
          rw [h2] at h1
          rw [← h1]; rfl
        clear hG hL
        go_wp2
        go_meet
        exact ⟨AN, O, l, rfl, rfl, hA, hRR, hlen2, OI⟩


end Go.Proofs.Ytbjlbmofdnkmiaa

/-
  OWN TEXT. Contracts of the document's answer: returned (written by sxback.py).
-/
namespace Go.Proofs.Ytbjlbmofdnkmiaa
open Go Go.RowKit Go.Proofs.Ytbjlbmofdnkmiaa.Kit

set_option maxRecDepth 10000 in
set_option maxHeartbeats 4000000 in
theorem returned_ok (w : World) (B gz : Nat) (y : Hx) (p o : Int) (HY : HZ w B gz y) (hc : CanBack y.hp p o) (h1 : (y.zs.getD 1 .zero).z.f = (y.zs.getD 0 .zero).z.t) :
    Calls Try.prog 51 #[.agg #[.slice y.zo y.zn y.zc, .slice y.mo y.mn y.mc, .int .i64 y.cpus, .slice y.lo y.ln y.lc, .slice y.vo y.vn y.vc], .int .i64 p, .int .i64 o] w fun e w' => e = .returned (.agg #[.slice y.zo y.zn y.zc, .slice y.mo y.mn y.mc, .int .i64 y.cpus, .slice y.lo y.ln y.lc, .slice y.vo y.vn y.vc]) ∧ ∃ z, z.z = backZ (y.zs.getD (zIdx y.hp p) .zero).z p o ∧ HZ w' B gz (y.setZ (zIdx y.hp p) z) ∧ But gz w w' ∧ (∀ b, b < w.heap.size → Away b y → Away b (y.setZ (zIdx y.hp p) z)) := by
  have HY0 := HY.at_
  have hin : zIdx y.hp p < y.zn := by have := zIdx_lt y.hp p; have e : y.hp.zones.length = y.zs.length := (by show (y.zs.map _).length = _; rw [List.length_map]); have := hc.n; have := HY.at_.zones.len; omega
  have hzn : y.zn = 2 := by have e : y.hp.zones.length = y.zs.length := (by show (y.zs.map _).length = _; rw [List.length_map]); have := hc.n; have := HY.at_.zones.len; omega
  have hgz : gz < w.heap.size := HY.lt (by omega)
  have hM := hc.m
  have hA := hc.i
  have hv := hc.v
  rw [hp_zone] at hM hA hv
  obtain ⟨i, hi⟩ : ∃ i, zIdx y.hp p = i := ⟨_, rfl⟩
  rw [hi] at hin hM hA hv
  have ez := HY.ez
  obtain ⟨gi, oi, zi, foi, fni, fci, toi, tni, tci, hai, c0i, c1i, c2i, c3i, hati, hXi⟩ := HY.at_.zones.at (i) (by omega)
  replace c0i := St.of c0i; replace c1i := St.of c1i; replace c2i := St.of c2i; replace c3i := St.of c3i
  have hXe : (y.zs.getD i .zero).z = zi := by rw [hXi.out]
  rw [ez] at hai; simp only [Option.some.injEq, Addr.mk.injEq, and_true] at hai; obtain ⟨rfl, rfl⟩ := hai
  have B0 := Below.refl w.heap.size w
  refine sx_enter (args := [_, _, _]) 30 Try.func51 rfl rfl rfl ?_
  intro A f
  refine wp_seq ?_
  refine sx_list ?_
  refine l_box f rfl rfl rfl rfl rfl ?_; clear f A; intro b1 W2 eb1 hb3 rb1 A f; dsimp only [Value.cells] at rb1
  have z_B0_b1 := B0.size; rw [eb1] at z_B0_b1
  replace B0 := Below.next B0 hb3; replace HY := HY.below hb3
  refine l_alloc (z := .agg #[.slice none 0 0, .slice none 0 0, .int .i64 0, .slice none 0 0, .slice none 0 0]) f rfl rfl rfl rfl (by kernel_rfl) ?_; clear f A; intro b4 W5 eb4 hb6 rb4 A f; dsimp only [Value.cells] at rb4
  have o_b1_b4 : b1 < b4 := by have := row_lt rb1; omega
  have z_B0_b4 := B0.size; rw [eb4] at z_B0_b4
  replace B0 := Below.next B0 hb6; replace HY := HY.below hb6; replace rb1 := row_next rb1 hb6
  refine wpList_nil ?_
  refine x_tn ?_
  refine wp_seq ?_
  refine sx_list ?_
  refine l_do f rfl rfl rfl (y_loadN (vs := [_, _, _, _, _]) rfl rfl (ag rfl) rfl (rowls (rowq rb1) _ _ ⟨rfl, rfl, rfl, rfl, rfl, trivial⟩)) ?_; clear f A; intro A f
  refine l_do f rfl rfl rfl (y_move rfl rfl) ?_; clear f A; intro A f
  refine l_call f rfl rfl rfl (IsCall.mk' (cap := []) rfl rfl rfl) (pl rfl) (by have e := zoneAt_c _ y p HY.at_ hzn h1; rw [hi] at e; exact e) ?_; clear f A; rintro _ W8 ⟨rfl, hb7⟩; refine ⟨_, rfl, ?_⟩; intro A f; replace B0 := Below.next B0 hb7; replace HY := HY.below hb7; replace rb1 := row_next rb1 hb7; replace rb4 := row_next rb4 hb7
  refine l_do f rfl rfl rfl (y_assign rfl rfl) ?_; clear f A; intro A f
  refine wpList_nil ?_
  refine x_tn ?_
  refine wp_seq ?_
  refine sx_list ?_
  refine l_do f rfl rfl rfl (y_field rfl rfl (fo rfl)) ?_; clear f A; intro A f
  refine l_do f rfl rfl rfl (y_load1 rfl rfl (ag rfl) (rowl (rowq rb1) rfl)) ?_; clear f A; intro A f
  refine l_do f rfl rfl rfl (y_move rfl rfl) ?_; clear f A; intro A f
  refine l_do f rfl rfl rfl (y_index rfl rfl (by first | rfl | assumption) rfl (es rfl) (by omega)) ?_; clear f A; intro A f
  refine l_do f rfl rfl rfl (y_loadN (vs := [_, _, _, _]) rfl rfl (ag rfl) rfl ⟨(by first | assumption | exact St.q c0i B0 | exact St.q c1i B0 | exact St.q c2i B0 | exact St.q c3i B0), (by first | assumption | exact St.q c0i B0 | exact St.q c1i B0 | exact St.q c2i B0 | exact St.q c3i B0), (by first | assumption | exact St.q c0i B0 | exact St.q c1i B0 | exact St.q c2i B0 | exact St.q c3i B0), (by first | assumption | exact St.q c0i B0 | exact St.q c1i B0 | exact St.q c2i B0 | exact St.q c3i B0), trivial⟩) ?_; clear f A; intro A f
  refine l_do f rfl rfl rfl (y_move rfl rfl) ?_; clear f A; intro A f
  refine l_do f rfl rfl rfl (y_move rfl rfl) ?_; clear f A; intro A f
  have lz_b1 := row_lt rb1
  have lz_b4 := row_lt rb4
  refine l_call f rfl rfl rfl (IsCall.mk' (cap := []) rfl rfl rfl) (pl rfl) (backOf_ok _ _ _ _ _ _ _ zi p o (hati.below B0) (hXe ▸ hM) (hXe ▸ hA) (hXe ▸ hv)) ?_
  clear f A
  rintro _ W10 ⟨⟨fo2, fn2, fc2, to2, tn2, tc2, rfl, hz2, hf2, ht2⟩, hb9⟩
  refine ⟨_, rfl, ?_⟩
  have hg1 := B0.size
  intro A f
  replace B0 := Below.next B0 hb9; replace HY := HY.below hb9; replace rb1 := row_next rb1 hb9; replace rb4 := row_next rb4 hb9
  obtain ⟨Y, hY⟩ : ∃ Y, backZ zi p o = Y := ⟨_, rfl⟩
  rw [hY] at f hz2
  refine l_do f rfl rfl rfl (y_move rfl rfl) ?_; clear f A; intro A f
  refine l_do f rfl rfl rfl (y_ext rfl rfl rfl) ?_; clear f A; intro A f
  refine l_do f rfl rfl rfl (y_ext rfl rfl rfl) ?_; clear f A; intro A f
  refine l_as (z := .agg #[.int .i64 0, .int .i64 0, .slice none 0 0, .slice none 0 0]) f rfl rfl rfl rfl (by kernel_rfl) rfl rfl (fun _ => rfl) (fun _ => rfl) rfl (by intro u hu; simp [Value.cells] at hu; rcases hu with rfl | rfl | rfl | rfl <;> rfl) ?_; clear f A; intro b11 W12 eb11 hb13 rb11 A f
  dsimp only [Value.cells] at rb11
  have hpb11 := hb13
  have o_b1_b11 : b1 < b11 := by have := row_lt rb1; omega
  have o_b4_b11 : b4 < b11 := by have := row_lt rb4; omega
  have z_B0_b11 := B0.size; rw [eb11] at z_B0_b11
  replace B0 := Below.next B0 hb13; replace HY := HY.below hb13; replace hz2 := hz2.below hb13; replace rb1 := row_next rb1 hb13; replace rb4 := row_next rb4 hb13
  refine l_do f rfl rfl rfl (y_assign rfl rfl) ?_; clear f A; intro A f
  refine wpList_nil ?_
  refine x_tn ?_
  refine wp_seq ?_
  refine sx_list ?_
  refine l_do f rfl rfl rfl (y_field rfl rfl (fo rfl)) ?_; clear f A; intro A f
  refine l_do f rfl rfl rfl (y_load1 rfl rfl (ag rfl) (rowl (rowq rb1) rfl)) ?_; clear f A; intro A f
  refine l_do f rfl rfl rfl (y_move rfl rfl) ?_; clear f A; intro A f
  refine l_do f rfl rfl rfl (y_loadN (vs := [_, _, _, _]) rfl rfl (ag rfl) rfl (rowls (rowq rb11) _ _ ⟨rfl, rfl, rfl, rfl, trivial⟩)) ?_; clear f A; intro A f
  refine l_do f rfl rfl rfl (y_index rfl rfl (by first | rfl | assumption) rfl (es rfl) (by omega)) ?_; clear f A; intro A f
  have oz := HY.oz
  rw [HY.ez] at oz
  refine l_storeR f rfl rfl rfl rfl rfl (own_set4 oz hin (Zc.q ⟨Y, fo2, fn2, fc2, to2, tn2, tc2⟩) (Zc.one _) (sz rfl)) ?_
  rintro W14 ⟨hb15, ow⟩
  have HY2 := HY.set (i := i) (z := ⟨Y, fo2, fn2, fc2, to2, tn2, tc2⟩) hz2 (fun a ha e => by have := hf2 a ha; omega) (fun a ha e => by have := ht2 a ha; omega) hb15 (by rw [HY.ez]; exact ow)
  have hSB := B0
  clear HY
  have hSf := (But.of_below hSB).trans hb15
  replace rb1 := But.row hb15 rb1 (by omega); replace rb4 := But.row hb15 rb4 (by omega); replace rb11 := But.row hb15 rb11 (by omega)
  refine wpList_nil ?_
  refine x_tn ?_
  refine wp_seq ?_
  refine sx_list ?_
  refine l_do f rfl rfl rfl (y_loadN (vs := [_, _, _, _, _]) rfl rfl (ag rfl) rfl (rowls (rowq rb1) _ _ ⟨rfl, rfl, rfl, rfl, rfl, trivial⟩)) ?_; clear f A; intro A f
  refine l_store f rfl rfl rfl rfl rfl rb4 (sz rfl) rfl (Nat.le_of_ble_eq_true rfl) rfl ?_
  clear rb4; intro W16 hb17 rb4; dsimp only [setL, over, Value.cells] at rb4; replace rb1 := But.row hb17 rb1 (by omega); replace rb11 := But.row hb17 rb11 (by omega); replace hSf := But.then_new hSf hb17 (by omega); replace HY2 := HY2.but hb17 (by omega) ((away_old HY0 (by omega)).setZ (fun a ha => by have := hf2 a ha; omega) (fun a ha => by have := ht2 a ha; omega))
  refine wpList_nil ?_
  refine x_tn ?_
  refine wp_ret ?_
  refine x_retc f rfl rfl (ag rfl) rb4 rfl ?_
  -- return 0: 
  exact ⟨rfl, ⟨Y, fo2, fn2, fc2, to2, tn2, tc2⟩, by rw [hi, hXe]; exact hY.symm, by rw [hi]; exact HY2, hSf, fun (b : Nat) (hb : b < w.heap.size) (ha : Away b y) => Away.setZ (b := b) (z := ⟨Y, fo2, fn2, fc2, to2, tn2, tc2⟩) ha (fun a h => by have := hf2 a h; omega) (fun a h => by have := ht2 a h; omega)⟩

end Go.Proofs.Ytbjlbmofdnkmiaa
