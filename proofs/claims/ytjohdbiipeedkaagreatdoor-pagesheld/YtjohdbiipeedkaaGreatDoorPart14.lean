/-
  OWN TEXTS.
-/
import Derived.Test.YtjohdbiipeedkaaGreatDoorPart13
set_option maxRecDepth 10000
set_option maxHeartbeats 4000000
namespace Go.Proofs.YtjohdbiipeedkaaGreatDoor
open Go Go.RowKit Go.Proofs.YtjohdbiipeedkaaGreatDoor.Kit
theorem paged_c (w : World) (lo : Option Addr) (ln lc lcc : Nat) (l : List Raw4) (hl : IsRaws w lo ln lc l) (mo : Option Addr) (mn mc : Nat) (M : List (Int × Int)) (ro : Option Addr) (rn rc : Nat) (R : List (Int × Int)) (hm : Regs w mo mn M) (hr : Regs w ro rn R) (hMR : MayP M ∧ MayP R) (D : List (Int × Int)) (hDd : drawnAll (freeH M R) = D) (hD : MayP D) (split least cpus most : Int) (cn : Nat) (hcn : cpus = cn) (hs : newOk 0 split) (hg : newGood least cpus) (hT : TabAt w) :
    Calls Tryz.prog 10 #[.slice lo ln lcc, .agg #[.slice mo mn mc, .slice ro rn rc, .int .i64 split, .int .i64 least, .int .i64 cpus], .int .i64 most] w fun e w' => ∃ (H0 : Hp) (y : Hx) (aw : List Bk) (vo : Option Addr) (vn vc : Nat), e = .returned (.tuple #[.agg #[.slice y.zo y.zn y.zc, .slice y.mo y.mn y.mc, .int .i64 y.cpus, .slice y.lo y.ln y.lc, .slice y.vo y.vn y.vc], .slice vo vn vc, .bool true]) ∧ NewH H0 D split least cpus ∧ PgI w.heap.size H0 w' y aw vo vn vc ∧ (ln = 0 → y.hp = H0 ∧ aw = []) ∧ Rch (rawFl l) H0 y.hp ∧ Below w.heap.size w w' := by
 have hcg := hg.2
 have hlr := hl.reach
 have hlc := hl.le
 have B0 := Below.refl w.heap.size w
 refine sx_enter (args := [_, _, _]) 155 Tryz.func10 rfl rfl rfl ?_
 refine vS (vR ?_); intro A f
 refine l_box f rfl rfl rfl rfl rfl ?_; clear f A; intro b1 W2 eb1 hb3 rb1 A f; dsimp only [Value.cells] at rb1
 have z_B0_b1 := B0.size; rw [eb1] at z_B0_b1
 replace B0 := Below.next B0 hb3
 refine l_alloc (z := .agg #[.slice none 0 0, .slice none 0 0, .int .i64 0, .slice none 0 0, .slice none 0 0]) f rfl rfl rfl rfl (by kernel_rfl) ?_; clear f A; intro b4 W5 eb4 hb6 rb4 A f; dsimp only [Value.cells] at rb4
 have o_b1_b4 : b1 < b4 := by have := row_lt rb1; omega
 have z_B0_b4 := B0.size; rw [eb4] at z_B0_b4
 replace B0 := Below.next B0 hb6; replace rb1 := row_next rb1 hb6
 revert A; refine vla (h:=vla (h:=vW (vS (vR (vlf (h:=vl2 (rowq rb1) (h:=?_))))))); intro A f
 refine l_call f rfl rfl rfl (IsCall.mk' (cap := []) rfl rfl rfl) (pl rfl) (cRanges_ok _ mo mn mc M ro rn rc R (hm.below B0) (hr.below B0) hMR) ?_
 clear f A
 rintro _ W7 ⟨bo, nb, cb, rfl, hRg, hb8⟩
 refine ⟨_, rfl, ?_⟩
 intro A f
 rw [hDd] at hRg
 replace B0 := Below.next B0 hb8; replace rb1 := row_next rb1 hb8; replace rb4 := row_next rb4 hb8
 revert A; refine vlm (h:=vle (h:=vle (h:=vla (h:=vla (h:=vW (vS (vR (vlm (h:=vlf (h:=vl1 (rowq rb1) (h:=vlf (h:=vl1 (rowq rb1) (h:=vlf (h:=vl1 (rowq rb1) (h:=?_)))))))))))))))
 have ln_b1 := row_lt rb1
 have ln_b4 := row_lt rb4
 intro A f
 refine l_call f rfl rfl rfl (IsCall.mk' (cap := []) rfl rfl rfl) (pl rfl) (pNew_fr _ split least cpus bo nb cb D hRg hD hs) ?_
 clear f A
 rintro _ W9 ⟨⟨hng, _⟩ | ⟨_, y, rfl, hNH, hyA, hyF⟩, hb10⟩
 ·exact absurd hg hng
 refine ⟨_, rfl, ?_⟩
 intro A f
 have hNM := new_may hNH hg
 have hzn := hNM.1.zs.n
 have ho6 : Off b4 y := hyF b4 (by omega)
 clear hyF
 replace B0 := Below.next B0 hb10; replace rb1 := row_next rb1 hb10; replace rb4 := row_next rb4 hb10
 revert A; refine vlm (h:=vle (h:=vle (h:=?_)))
 have hyA0 := hyA
 intro A f
 refine l_as (z := .agg #[.slice none 0 0, .slice none 0 0, .int .i64 0, .slice none 0 0, .slice none 0 0]) f rfl rfl rfl rfl (by kernel_rfl) rfl rfl (fun _ => rfl) (fun _ => rfl) rfl (by intro u hu; simp [Value.cells] at hu; rcases hu with rfl | rfl | rfl | rfl | rfl <;> rfl) ?_; clear f A; intro b11 W12 eb11 hb13 rb11 A f
 dsimp only [Value.cells] at rb11
 have hpb11 := hb13
 have o_b1_b11 : b1 < b11 := by have := row_lt rb1; omega
 have o_b4_b11 : b4 < b11 := by have := row_lt rb4; omega
 have z_B0_b11 := B0.size; rw [eb11] at z_B0_b11
 replace B0 := Below.next B0 hb13; replace hyA := hyA.below hb13; replace rb1 := row_next rb1 hb13; replace rb4 := row_next rb4 hb13
 have ho11 : Off b11 y := off_old hyA0 hzn (by omega)
 revert A; refine vla (h:=vW (vS (vR (vla (h:=vW (vS (vS (vR (vla (h:=vW (vB ?_)))))))))))
 have hI0 : PgI w.heap.size y.hp W12 y [] none 0 0 := ⟨hyA, hNM.1, rfl, fun _ => ⟨rfl, rfl⟩, fun _ => rfl, World.ownsRow_nil _ _ _ _, by rw [hNM.2.1], fun a ha => by cases ha⟩
 obtain ⟨H0, hH0⟩ : ∃ H0, y.hp = H0 := ⟨_, rfl⟩
 intro A f
 rw [hH0] at hI0 hNH
 have hcH : H0.cpus = cpus := by rw [← hH0]; exact hNM.2.2.2.1
 refine x_loop (fun n A W => ∃ (k : Nat) (y : Hx) (aw : List Bk) (vo : Option Addr) (vn vc : Nat), n = ln - k ∧ k ≤ ln ∧ Fr A 155 [(0, .slice lo ln lcc), (2, .int .i64 most), (4, .pointer (some ⟨b1, 0, none⟩)), (6, .pointer (some ⟨b4, 0, none⟩)), (10, .int .i64 0), (11, .pointer (some ⟨b11, 0, none⟩)), (12, .int .i64 0), (13, .slice vo vn vc), (14, .int .i64 (k : Nat))] ∧ Below w.heap.size w W ∧ W.heap[b1]? = some (.cells #[.slice mo mn mc, .slice ro rn rc, .int .i64 split, .int .i64 least, .int .i64 cpus] 27 (0, 0)) ∧ W.heap[b4]? = some (.cells #[.slice none 0 0, .slice none 0 0, .int .i64 0, .slice none 0 0, .slice none 0 0] 34 (0, 0)) ∧ W.heap[b11]? = some (.cells #[.slice y.zo y.zn y.zc, .slice y.mo y.mn y.mc, .int .i64 y.cpus, .slice y.lo y.ln y.lc, .slice y.vo y.vn y.vc] 34 (0, 0)) ∧ PgI w.heap.size H0 W y aw vo vn vc ∧ Off b4 y ∧ Off b11 y ∧ (∀ a, vo = some a → b11 < a.block) ∧ (k = 0 → y.hp = H0 ∧ aw = []) ∧ Rch (rawFl l) H0 y.hp) (n0 := ln) (⟨0, y, [], none, 0, 0, rfl, Nat.zero_le _, f.sub ⟨rfl, rfl, rfl, rfl, rfl, rfl, rfl, rfl, rfl, trivial⟩, B0, rb1, rb4, rb11, hI0, ho6, ho11, (fun a ha => by cases ha), fun _ => ⟨hH0, rfl⟩, by rw [hH0]; exact Rch.refl _ _⟩) ?_
 clear f A
 clear B0 hI0 ho6 ho11 hyA hyA0 hRg hNM hH0 hzn rb1 rb4 rb11
 clear y
 rintro n A W14 ⟨k, y, aw, vo, vn, vc, hn, hk, f, B0, rb1, rb4, rb11, hI, ho6, ho11, hvo, hz0, hRc⟩
 have hvl := hI.len
 have hyc : y.cpus = cn := by have h1 := hI.cpus; have h2 : y.hp.cpus = y.cpus := rfl; omega
 revert A; refine vS (vS (vR (vlm (h:=vlm (h:=vlz (h:=vlb (y_lss rfl rfl rfl) (h:=?_) (g:=?_)))))))
 ·intro c15
  refine vlm (h:=vlm (h:=vlm (h:=vlb (y_lss rfl rfl rfl) (h:=?_) (g:=?_))))
  ·intro c16
   refine vlp (h:=vW (vC (h:=vK (vT (vS (vB (vS (vR (vlm (h:=vlm (h:=?_)))))))))))
   obtain ⟨gX, oX, xk, xa, xb, xc, haX, q0, q1, q2, q3, wk, wa, wb, wc, exc⟩ := raws_at hl (show k < ln by omega)
   replace q0 := St.of q0; replace q1 := St.of q1; replace q2 := St.of q2; replace q3 := St.of q3
   refine vlx (h:=vld (y_loadN (vs := [_, _, _, _]) rfl rfl (ag rfl) rfl ⟨(by first | assumption | exact St.q q0 B0 | exact St.q q1 B0 | exact St.q q2 B0 | exact St.q q3 B0), (by first | assumption | exact St.q q0 B0 | exact St.q q1 B0 | exact St.q q2 B0 | exact St.q q3 B0), (by first | assumption | exact St.q q0 B0 | exact St.q q1 B0 | exact St.q q2 B0 | exact St.q q3 B0), (by first | assumption | exact St.q q0 B0 | exact St.q q1 B0 | exact St.q q2 B0 | exact St.q q3 B0), trivial⟩) (h:=?_)); intro A f
   refine l_as (z := .agg #[.int .i64 0, .int .i64 0, .int .i64 0, .int .i64 0]) f rfl rfl rfl rfl (by kernel_rfl) rfl rfl (fun _ => rfl) (fun _ => rfl) rfl (by intro u hu; simp [Value.cells] at hu; rcases hu with rfl | rfl | rfl | rfl <;> rfl) ?_; clear f A; intro b17 W18 eb17 hb19 rb17 A f
   dsimp only [Value.cells] at rb17
   have hpb17 := hb19
   have o_b1_b17 : b1 < b17 := by have := row_lt rb1; omega
   have o_b4_b17 : b4 < b17 := by have := row_lt rb4; omega
   have o_b11_b17 : b11 < b17 := by have := row_lt rb11; omega
   have z_B0_b17 := B0.size; rw [eb17] at z_B0_b17
   replace B0 := Below.next B0 hb19; replace rb1 := row_next rb1 hb19; replace rb4 := row_next rb4 hb19; replace rb11 := row_next rb11 hb19; replace hI := hI.below hb19
   revert A; refine vW (vS (vR (vlf (h:=vl1 (rowq rb17) (h:=vlf (h:=vl1 (rowq rb1) (h:=vlc (c_same (picked_fn xb cpus cn hcn wb (by omega) (by omega) _)) (h:=?_)))))))); intro W21 hb20; replace B0 := Below.next B0 hb20; replace rb1 := row_next rb1 hb20; replace rb4 := row_next rb4 hb20; replace rb11 := row_next rb11 hb20; replace rb17 := row_next rb17 hb20; replace hI := hI.below hb20
   refine vla (h:=vW (vS (vR (vlf (h:=vl1 (rowq rb17) (h:=?_))))))
   have hcp : 0 ≤ ((pickN xb cn : Nat) : Int) ∧ ((pickN xb cn : Nat) : Int) ≤ y.cpus - 1 := by have := pickN_lt xb cn (by omega); omega
   refine vlc (c_same (picked_fn xk 9 9 rfl wk (by omega) (by omega) _)) (h:=?_); intro W23 hb22; replace B0 := Below.next B0 hb22; replace rb1 := row_next rb1 hb22; replace rb4 := row_next rb4 hb22; replace rb11 := row_next rb11 hb22; replace rb17 := row_next rb17 hb22; replace hI := hI.below hb22
   refine vla (h:=vW (vB (vS (vR (vlm (h:=vlb (y_lss rfl rfl rfl) (h:=?_) (g:=?_)))))))
   ·intro c24
    refine vlm (h:=vlm (h:=vlz (h:=vlb (y_gtr rfl rfl rfl) (h:=?_) (g:=?_))))
    ·intro c25
     refine vlp (h:=vla (h:=vW (vC (h:=vS (vR (vlf (h:=vl1 (rowq rb17) (h:=vlm (h:=vlz (h:=vlc (c_same (picked_fn xa vn vn rfl wa (by omega) (by omega) _)) (h:=?_))))))))))); intro W27 hb26; replace B0 := Below.next B0 hb26; replace rb1 := row_next rb1 hb26; replace rb4 := row_next rb4 hb26; replace rb11 := row_next rb11 hb26; replace rb17 := row_next rb17 hb26; replace hI := hI.below hb26
     refine vla (h:=vW (vS ?_))
     have l_b1 := row_lt rb1
     have l_b4 := row_lt rb4
     have l_b11 := row_lt rb11
     have l_b17 := row_lt rb17
     have hvs : ∀ a, vo = some a → a.block < W27.heap.size := fun a ha => (owns_blk hI.own a ha).2.1
     have BW := Below.refl W27.heap.size W27
     obtain ⟨j, hj⟩ : ∃ j, pickN xa vn = j := ⟨_, rfl⟩
     intro A f
     rw [hj] at f
     have hjv : j < vn := by rw [← hj]; exact pickN_lt _ _ (by omega)
     have hB := hI.blks
     obtain ⟨i, hi, hia, hfst, hpm⟩ := away_find hI.perm hI.may.lv (show j < aw.length by omega)
     obtain ⟨gx, ox, bax, box, btx, hax, c0x, c1x, c2x, hXx⟩ := hB.at_.at (j) (by have := hB.len; omega)
     replace c0x := St.of c0x; replace c1x := St.of c1x; replace c2x := St.of c2x
     rw [hXx.out] at hia hfst
     dsimp only at hia hfst
     have hR := release_may hI.may hcp hi
     refine x_cut (fun A W => ∃ (y2 : Hx) (b : Nat), Fr A 155 [(0, .slice lo ln lcc), (2, .int .i64 most), (4, .pointer (some ⟨b1, 0, none⟩)), (6, .pointer (some ⟨b4, 0, none⟩)), (10, .int .i64 0), (11, .pointer (some ⟨b11, 0, none⟩)), (12, .int .i64 0), (13, .slice vo vn vc), (14, .int .i64 (k : Nat)), (18, .int .i64 (j : Nat)), (19, .pointer (some ⟨b, 0, none⟩)), (20, .int .i64 0)] ∧ Below W27.heap.size W27 W ∧ W.heap[b]? = some (.cells #[.slice y2.zo y2.zn y2.zc, .slice y2.mo y2.mn y2.mc, .int .i64 y2.cpus, .slice y2.lo y2.ln y2.lc, .slice y2.vo y2.vn y2.vc] 34 (0, 0)) ∧ W27.heap.size ≤ b ∧ y2.At W ∧ y2.hp = releaseH { y.hp with live := y.hp.live.eraseIdx i } ((pickN xb cn : Nat) : Int) (y.live.getD i .zero) ∧ FreshH W27.heap.size y2) ?_ ?_
     ·skip
      refine a_start (ClB W27) (by kernel_rfl) rfl ?_
      generalize hWd : ({ W27 with drawn := W27.drawn + 1 } : World) = Wd
      have hS := drawn_b hWd
      clear hWd
      refine a_do 0 f rfl (by kernel_rfl) blind_cut hS rfl rfl rfl (y_loadN (vs := [_, _, _, _, _]) rfl rfl (ag rfl) rfl (rowls (rowq rb11) _ _ ⟨rfl, rfl, rfl, rfl, rfl, trivial⟩)) ?_; clear f A; intro A f
      refine a_do 1 f rfl (by kernel_rfl) blind_cut hS rfl rfl rfl (y_move rfl rfl) ?_; clear f A; intro A f
      refine a_do 2 f rfl (by kernel_rfl) blind_cut hS rfl rfl rfl (y_move rfl rfl) ?_; clear f A; intro A f
      refine a_do 3 f rfl (by kernel_rfl) blind_cut hS rfl rfl rfl (y_move rfl rfl) ?_; clear f A; intro A f
      refine a_do 4 f rfl (by kernel_rfl) blind_cut hS rfl rfl rfl (y_index rfl rfl (by first | rfl | assumption) rfl (es rfl) (by omega)) ?_; clear f A; intro A f
      refine a_do 5 f rfl (by kernel_rfl) blind_cut hS rfl rfl rfl (y_field rfl rfl (fo rfl)) ?_; clear f A; intro A f
      refine a_do 6 f rfl (by kernel_rfl) blind_cut hS rfl rfl rfl (y_load1 rfl rfl (ag rfl) (by first | assumption | exact St.q q0 B0 | exact St.q q1 B0 | exact St.q q2 B0 | exact St.q q3 B0 | exact St.q c0x BW | exact St.q c1x BW | exact St.q c2x BW)) ?_; clear f A; intro A f
      refine a_two 7 11 rfl rfl (by kernel_rfl) rfl rfl ?_ ?_
      ·skip
       have hsz7 := hS.size
       refine g_call f (IsCall.mk' (cap := []) rfl rfl rfl) (pl rfl) (pFree_fr _ y ((pickN xb cn : Nat) : Int) bax i (hI.at_.below hS) hI.may hcp hi hia hfst) ?_
       rintro _ We ⟨⟨y2, rfl, hy2, e2, hF⟩, hbe⟩
       refine ⟨_, rfl, Below.next hS hbe, a_put f rfl rfl ?_⟩; clear f A; intro A f
       replace hS := Below.next hS hbe
       have hz2 : y2.hp.zones.length = 2 := by rw [e2]; exact hR.1.zs.n
       replace hF : FreshH W27.heap.size y2 := fun b hb => hF b (by omega)
       refine a_do 8 f rfl (by kernel_rfl) blind_cut hS rfl rfl rfl (y_move rfl rfl) ?_; clear f A; intro A f
       refine a_do 9 f rfl (by kernel_rfl) blind_cut hS rfl rfl rfl (y_ext rfl rfl rfl) ?_; clear f A; intro A f
       refine a_do 10 f rfl (by kernel_rfl) blind_cut hS rfl rfl rfl (y_ext rfl rfl rfl) ?_; clear f A; intro A f
       refine a_one 11 rfl (by kernel_rfl) rfl ?_
       have hsa := hS.size
       refine g_alloc (z := .agg #[.slice none 0 0, .slice none 0 0, .int .i64 0, .slice none 0 0, .slice none 0 0]) rfl (by kernel_rfl) ?_
       intro bA Wg ebA hbg rbA
       dsimp only [Value.cells] at rbA
       refine ⟨Below.next hS hbg, a_put f rfl rfl ?_⟩; clear f A; intro A f
       have hbA0 : W27.heap.size ≤ bA := by omega
       have hob : Off bA y2 := off_old hy2 hz2 (by omega)
       replace hy2 := hy2.below hbg
       replace hS := Below.next hS hbg
       refine a_one 12 rfl (by kernel_rfl) rfl ?_
       refine g_store f rfl rfl rfl rfl rbA (sz rfl) rfl (Nat.le_of_ble_eq_true rfl) rfl ?_
       clear rbA; intro Wh hbh rbA; dsimp only [setL, over, Value.cells] at rbA
       refine ⟨Below.thenBut hS hbh hbA0, ?_⟩
       replace hS := Below.thenBut hS hbh hbA0
       replace hy2 := Off.but hob hy2 hbh
       refine a_do 13 f rfl (by kernel_rfl) blind_cut hS rfl rfl rfl (y_assign rfl rfl) ?_; clear f A; intro A f
       refine a_end (by kernel_rfl) ?_
       exact ⟨rfl, y2, bA, f.sub ⟨rfl, rfl, rfl, rfl, rfl, rfl, rfl, rfl, rfl, rfl, rfl, rfl, trivial⟩, hS, rbA, hbA0, hy2, e2, hF⟩
      skip
      have hsa := hS.size
      refine g_alloc (z := .agg #[.slice none 0 0, .slice none 0 0, .int .i64 0, .slice none 0 0, .slice none 0 0]) rfl (by kernel_rfl) ?_
      intro bA Wg ebA hbg rbA
      dsimp only [Value.cells] at rbA
      refine ⟨Below.next hS hbg, a_put f rfl rfl ?_⟩; clear f A; intro A f
      have hbA0 : W27.heap.size ≤ bA := by omega
      replace hS := Below.next hS hbg
      refine a_one 7 rfl (by kernel_rfl) rfl ?_
      have lrb := row_lt rbA
      have hsz7 := hS.size
      refine g_call f (IsCall.mk' (cap := []) rfl rfl rfl) (pl rfl) (pFree_fr _ y ((pickN xb cn : Nat) : Int) bax i (hI.at_.below hS) hI.may hcp hi hia hfst) ?_
      rintro _ We ⟨⟨y2, rfl, hy2, e2, hF⟩, hbe⟩
      refine ⟨_, rfl, Below.next hS hbe, a_put f rfl rfl ?_⟩; clear f A; intro A f
      replace hS := Below.next hS hbe
      have hz2 : y2.hp.zones.length = 2 := by rw [e2]; exact hR.1.zs.n
      have hob : Off bA y2 := hF bA (by omega)
      replace rbA := row_next rbA hbe
      replace hF : FreshH W27.heap.size y2 := fun b hb => hF b (by omega)
      refine a_do 8 f rfl (by kernel_rfl) blind_cut hS rfl rfl rfl (y_move rfl rfl) ?_; clear f A; intro A f
      refine a_do 9 f rfl (by kernel_rfl) blind_cut hS rfl rfl rfl (y_ext rfl rfl rfl) ?_; clear f A; intro A f
      refine a_do 10 f rfl (by kernel_rfl) blind_cut hS rfl rfl rfl (y_ext rfl rfl rfl) ?_; clear f A; intro A f
      refine a_one 12 rfl (by kernel_rfl) rfl ?_
      refine g_store f rfl rfl rfl rfl rbA (sz rfl) rfl (Nat.le_of_ble_eq_true rfl) rfl ?_
      clear rbA; intro Wh hbh rbA; dsimp only [setL, over, Value.cells] at rbA
      refine ⟨Below.thenBut hS hbh hbA0, ?_⟩
      replace hS := Below.thenBut hS hbh hbA0
      replace hy2 := Off.but hob hy2 hbh
      refine a_do 13 f rfl (by kernel_rfl) blind_cut hS rfl rfl rfl (y_assign rfl rfl) ?_; clear f A; intro A f
      refine a_end (by kernel_rfl) ?_
      exact ⟨rfl, y2, bA, f.sub ⟨rfl, rfl, rfl, rfl, rfl, rfl, rfl, rfl, rfl, rfl, rfl, rfl, trivial⟩, hS, rbA, hbA0, hy2, e2, hF⟩
     skip
     clear f A; rintro A W28 ⟨y2, bA, f, hb4, rbA, hbA, hyA2, e2, hoF⟩
     have o_b1_bA : b1 < bA := by omega
     have o_b4_bA : b4 < bA := by omega
     have o_b11_bA : b11 < bA := by omega
     have o_b17_bA : b17 < bA := by omega
     replace B0 := Below.next B0 hb4; replace rb1 := row_next rb1 hb4; replace rb4 := row_next rb4 hb4; replace rb11 := row_next rb11 hb4; replace rb17 := row_next rb17 hb4; replace hI := hI.below hb4
     have own := hI.own
     have hlive2 : y2.hp.live = y.hp.live.eraseIdx i := (congrArg Hp.live e2).trans hR.2.1
     have hP2 : HMay y2.hp := by rw [e2]; exact hR.1
     have hcp2 : y2.hp.cpus = H0.cpus := (congrArg Hp.cpus e2).trans (hR.2.2.1.trans hI.cpus)
     have hft2 : SameFT y2.hp H0 := sft_trans (by rw [e2]; exact hR.2.2.2.1) hI.ft
     have hoc2 : ∀ q, occ y2.hp q = occ H0 q := fun q => (congrArg (fun G => occ G q) e2).trans ((hR.2.2.2.2 q).trans (hI.occ q))
     have hRc2 : Rch (rawFl l) H0 y2.hp := by rw [e2]; exact hRc.free hI.may hcp hi
     revert A; refine vT (vS (vS (vR (vlm (h:=vlb (y_neq rfl rfl rfl) (h:=?_) (g:=?_))))))
     ·intro c29; exfalso; omega
     intro c29
     refine vW (vD (h:=vK (vT (vS (vR (vl5 (rowq rbA) (h:=?_))))))); intro A f
     refine vls f rb11 ?_
     clear rb11; intro W30 hb31 rb11; dsimp only [setL, over, Value.cells] at rb11; replace B0 := Below.thenBut B0 hb31 (by omega); replace rb1 := But.row hb31 rb1 (by omega); replace rb4 := But.row hb31 rb4 (by omega); replace rb17 := But.row hb31 rb17 (by omega); replace rbA := But.row hb31 rbA (by omega); replace own := owns_butN own hb31 (fun a ha => by have := hvo a ha; omega); replace hyA2 := Off.but (hoF b11 (by omega)) hyA2 hb31
     revert A; refine vW (vR (vlm (h:=vlm (h:=vlm (h:=vlA (h:=?_))))))
     have hgo := owns_blk own
     intro A f
     refine l_call f rfl rfl rfl (IsCall.mk' (cap := []) rfl rfl rfl) (pl rfl) (bDel_all _ w.heap.size vn vc j vo aw hjv (by omega) own) ?_
     clear f A
     rintro _ W32 ⟨g, hgv, rfl, own3, hb33⟩
     refine ⟨_, rfl, ?_⟩
     intro A f
     have hg1 := (hgo _ hgv).1; have hg2 := hvo _ hgv; have hg3 := hvs _ hgv; dsimp only at hg1 hg2 hg3
     clear own
     replace hyA2 := Off.but (hoF g hg3) hyA2 hb33
     replace B0 := Below.thenBut B0 hb33 (by omega)
     replace rb1 := But.row hb33 rb1 (by omega)
     replace rb4 := But.row hb33 rb4 (by omega)
     replace rb11 := But.row hb33 rb11 (by omega)
     revert A; refine vla (h:=vN (vU (vU (vT (vR (vlm (h:=vlA (h:=vla (h:=vW ?_))))))))); intro A f
     exact ⟨ln - (k + 1), by omega, k + 1, y2, aw.eraseIdx j, vo, vn - 1, vc, rfl, by omega, f.sub ⟨rfl, rfl, rfl, rfl, rfl, rfl, rfl, rfl, rfl, trivial⟩, B0, rb1, rb4, rb11, ⟨hyA2, hP2, hcp2, hft2, hoc2, own3, by rw [hlive2]; exact hpm, fun a ha => hoF _ (hvs a ha)⟩, hoF _ (by omega), hoF _ (by omega), hvo, fun h => by omega, hRc2⟩
    intro c25
    refine vlp (h:=vla (h:=vW (vD (h:=vS (vR (vlm (h:=vlb (y_eql rfl rfl rfl) (h:=?_) (g:=?_))))))))
    ·intro c34; exfalso; omega
    intro c34
    refine vla (h:=vW (vD (h:=vS (vR ?_))))
    obtain ⟨g7, hg7⟩ : ∃ g, g = W23.heap.size := ⟨_, rfl⟩
    have o_b1_g7 : b1 < g7 := by have := row_lt rb1; omega
    have o_b4_g7 : b4 < g7 := by have := row_lt rb4; omega
    have o_b11_g7 : b11 < g7 := by have := row_lt rb11; omega
    have o_b17_g7 : b17 < g7 := by have := row_lt rb17; omega
    intro A f
    refine l_opR (R := fun v W => v = .slice (some ⟨g7, 0, none⟩) 7 7 ∧ Below W23.heap.size W23 W ∧ W.heap[g7]? = some (.cells #[.int .i64 0, .int .i64 0, .int .i64 0, .int .i64 1, .int .i64 2, .int .i64 3, .int .i64 4] 3 (0, 0))) f rfl rfl rfl ⟨_, _, bs_exec f rfl rfl (bs_int7 _ _ _ _ _ _ _ _), by rw [hg7], (Below.refl _ _).alloc (Nat.le_refl _) _, by rw [hg7]; show (Array.push _ _)[_]? = _; (rw [Array.getElem?_push, if_pos rfl] <;> rfl)⟩ ?_
    clear f A
    rintro _ W35 ⟨rfl, hb36, rg7⟩ A f
    replace B0 := Below.next B0 hb36; replace rb1 := row_next rb1 hb36; replace rb4 := row_next rb4 hb36; replace rb11 := row_next rb11 hb36; replace rb17 := row_next rb17 hb36; replace hI := hI.below hb36
    revert A; refine vlf (h:=vl1 (rowq rb17) (h:=vlc (c_same (picked_fn xa 7 7 rfl wa (by omega) (by omega) _)) (h:=?_))); intro W38 hb37; replace B0 := Below.next B0 hb37; replace rb1 := row_next rb1 hb37; replace rb4 := row_next rb4 hb37; replace rb11 := row_next rb11 hb37; replace rb17 := row_next rb17 hb37; replace rg7 := row_next rg7 hb37; replace hI := hI.below hb37
    have q7 := pickN_lt xa 7 (by omega)
    obtain ⟨od, hod, hco⟩ := row7_at rg7 q7
    replace hco := St.of hco
    refine vlx (h:=vld (y_load1 rfl rfl (ag rfl) (St.q hco (Below.refl _ _))) (h:=vla (h:=vW (vS ?_))))
    have l_b1 := row_lt rb1
    have l_b4 := row_lt rb4
    have l_b11 := row_lt rb11
    have l_b17 := row_lt rb17
    have l_g7 := row_lt rg7
    have hvs : ∀ a, vo = some a → a.block < W38.heap.size := fun a ha => (owns_blk hI.own a ha).2.1
    have hTW := hT.below B0
    have q5 := pickN_lt xc 5 (by omega)
    have hfl := flA_ok q5
    intro A f
    refine x_cut (fun A W => ∃ (v0 v1 v2 v3 v4 : Value) (p er : Int) (b : Nat), Fr A 155 [(0, .slice lo ln lcc), (2, .int .i64 most), (4, .pointer (some ⟨b1, 0, none⟩)), (6, .pointer (some ⟨b4, 0, none⟩)), (10, .int .i64 0), (11, .pointer (some ⟨b11, 0, none⟩)), (12, .int .i64 0), (13, .slice vo vn vc), (14, .int .i64 (k : Nat)), (23, .int .i64 od), (24, .pointer (some ⟨b, 0, none⟩)), (25, .int .i64 p), (26, .int .i64 er)] ∧ Below W38.heap.size W38 W ∧ W.heap[b]? = some (.cells #[v0, v1, v2, v3, v4] 34 (0, 0)) ∧ W38.heap.size ≤ b ∧ AllocD y ((pickN xb cn : Nat) : Int) od (flA (pickN xc 5)) W38.heap.size W v0 v1 v2 v3 v4 p er) ?_ ?_
    ·skip
     refine a_start (ClB W38) (by kernel_rfl) rfl ?_
     generalize hWd : ({ W38 with drawn := W38.drawn + 1 } : World) = Wd
     have hS := drawn_b hWd
     clear hWd
     refine a_do 0 f rfl (by kernel_rfl) blind_cut hS rfl rfl rfl (y_loadN (vs := [_, _, _, _, _]) rfl rfl (ag rfl) rfl (rowls (rowq rb11) _ _ ⟨rfl, rfl, rfl, rfl, rfl, trivial⟩)) ?_; clear f A; intro A f
     refine a_do 1 f rfl (by kernel_rfl) blind_cut hS rfl rfl rfl (y_move rfl rfl) ?_; clear f A; intro A f
     refine a_do 2 f rfl (by kernel_rfl) blind_cut hS rfl rfl rfl (y_move rfl rfl) ?_; clear f A; intro A f
     refine a_do 4 f rfl (by kernel_rfl) blind_cut hS rfl rfl rfl (y_field rfl rfl (fo rfl)) ?_; clear f A; intro A f
     refine a_do 5 f rfl (by kernel_rfl) blind_cut hS rfl rfl rfl (y_load1 rfl rfl (ag rfl) (rowl (rowq rb17) rfl)) ?_; clear f A; intro A f
     refine a_three 3 6 14 rfl rfl rfl (by kernel_rfl) rfl rfl rfl ?_ ?_ ?_
     ·skip
      obtain ⟨g5, hg5⟩ : ∃ g, g = Wd.heap.size := ⟨_, rfl⟩
      refine g_opR (R := fun v W => v = .slice (some ⟨g5, 0, none⟩) 5 5 ∧ Below Wd.heap.size Wd W ∧ W.heap[g5]? = some (.cells #[.int .i64 0, .int .i64 2, .int .i64 4, .int .i64 1, .int .i64 8] 3 (0, 0))) ⟨_, _, bs_exec f rfl rfl (bs_int5 _ _ _ _ _ _), by rw [hg5], (Below.refl _ _).alloc (Nat.le_refl _) _, by rw [hg5]; show (Array.push _ _)[_]? = _; (rw [Array.getElem?_push, if_pos rfl] <;> rfl)⟩ ?_
      rintro _ We39 ⟨rfl, hbe40, rg5⟩
      refine ⟨Below.next hS hbe40, a_put f rfl rfl ?_⟩; clear f A; intro A f
      replace hS := Below.next hS hbe40
      refine a_two 6 14 rfl rfl (by kernel_rfl) rfl rfl ?_ ?_
      ·skip
       refine g_call f (IsCall.mk' (cap := []) rfl rfl rfl) (pl rfl) (c_same (picked_fn xc 5 5 rfl wc (by omega) (by omega) _)) ?_
       rintro _ We41 ⟨rfl, hbe42⟩
       refine ⟨_, rfl, Below.next hS hbe42, a_put f rfl rfl ?_⟩; clear f A; intro A f
       replace hS := Below.next hS hbe42
       replace rg5 := row_next rg5 hbe42
       refine a_do 7 f rfl (by kernel_rfl) blind_cut hS rfl rfl rfl (y_index rfl rfl (by first | rfl | assumption) rfl (es rfl) (by omega)) ?_; clear f A; intro A f
       refine a_two 8 14 rfl rfl (by kernel_rfl) rfl rfl ?_ ?_
       ·skip
        refine g_val f (y_load1 rfl rfl (ag rfl) (St.q (St.of (row5_at rg5 q5)) (Below.refl _ _))) ?_
        refine ⟨hS, a_put f rfl rfl ?_⟩; clear f A; intro A f
        refine a_two 9 14 rfl rfl (by kernel_rfl) rfl rfl ?_ ?_
        ·skip
         have hsz9 := hS.size
         refine g_call f (IsCall.mk' (cap := []) rfl rfl rfl) (pl rfl) (pAlloc_un _ y ((pickN xb cn : Nat) : Int) od (flA (pickN xc 5)) (hI.at_.below hS) hI.may (hTW.below hS) hcp hod hfl.2.1 hfl.2.2 hfl.1) ?_
         rintro _ We43 ⟨⟨v0, v1, v2, v3, v4, p, er, rfl, o0, o1, o2, o3, o4, hAD⟩, hbe44⟩
         refine ⟨_, rfl, Below.next hS hbe44, a_put f rfl rfl ?_⟩; clear f A; intro A f
         replace hS := Below.next hS hbe44
         replace rg5 := row_next rg5 hbe44
         refine a_do 10 f rfl (by kernel_rfl) blind_cut hS rfl rfl rfl (y_move rfl rfl) ?_; clear f A; intro A f
         refine a_do 11 f rfl (by kernel_rfl) blind_cut hS rfl rfl rfl (y_ext rfl rfl rfl) ?_; clear f A; intro A f
         refine a_do 12 f rfl (by kernel_rfl) blind_cut hS rfl rfl rfl (y_ext rfl rfl rfl) ?_; clear f A; intro A f
         refine a_do 13 f rfl (by kernel_rfl) blind_cut hS rfl rfl rfl (y_ext rfl rfl rfl) ?_; clear f A; intro A f
         refine a_one 14 rfl (by kernel_rfl) rfl ?_
         have hsa := hS.size
         refine g_alloc (z := .agg #[.slice none 0 0, .slice none 0 0, .int .i64 0, .slice none 0 0, .slice none 0 0]) rfl (by kernel_rfl) ?_
         intro bA We45 ebA hbe46 rbA
         dsimp only [Value.cells] at rbA
         refine ⟨Below.next hS hbe46, a_put f rfl rfl ?_⟩; clear f A; intro A f
         have hbA0 : W38.heap.size ≤ bA := by omega
         have hbA1 := hbe46
         replace hS := Below.next hS hbe46
         replace rg5 := row_next rg5 hbe46
         refine a_one 15 rfl (by kernel_rfl) rfl ?_
         refine g_store f rfl rfl rfl rfl rbA (sz rfl) rfl (Nat.le_of_ble_eq_true rfl) (by show ([v0, v1, v2, v3, v4].all (·.oneCell')) = true; simp only [List.all_cons, List.all_nil, o0, o1, o2, o3, o4, Bool.and_self]) ?_
         clear rbA; intro Wh hbh rbA; dsimp only [setL, over, Value.cells] at rbA
         refine ⟨Below.thenBut hS hbh hbA0, ?_⟩
         replace hS := Below.thenBut hS hbh hbA0
         replace hAD := hAD.below (Below.thenBut hbA1 hbh (by omega))
         refine a_do 16 f rfl (by kernel_rfl) blind_cut hS rfl rfl rfl (y_assign rfl rfl) ?_; clear f A; intro A f
         refine a_do 17 f rfl (by kernel_rfl) blind_cut hS rfl rfl rfl (y_assign rfl rfl) ?_; clear f A; intro A f
         refine a_end (by kernel_rfl) ?_
         exact ⟨rfl, v0, v1, v2, v3, v4, p, er, bA, f.sub ⟨rfl, rfl, rfl, rfl, rfl, rfl, rfl, rfl, rfl, rfl, rfl, rfl, rfl, trivial⟩, hS, rbA, hbA0, hAD.less (by omega)⟩
        skip
        have hsa := hS.size
        refine g_alloc (z := .agg #[.slice none 0 0, .slice none 0 0, .int .i64 0, .slice none 0 0, .slice none 0 0]) rfl (by kernel_rfl) ?_
        intro bA We47 ebA hbe48 rbA
        dsimp only [Value.cells] at rbA
        refine ⟨Below.next hS hbe48, a_put f rfl rfl ?_⟩; clear f A; intro A f
        have hbA0 : W38.heap.size ≤ bA := by omega
        replace hS := Below.next hS hbe48
        replace rg5 := row_next rg5 hbe48
        refine a_one 9 rfl (by kernel_rfl) rfl ?_
        have lrb := row_lt rbA
        have hsz9 := hS.size
        refine g_call f (IsCall.mk' (cap := []) rfl rfl rfl) (pl rfl) (pAlloc_un _ y ((pickN xb cn : Nat) : Int) od (flA (pickN xc 5)) (hI.at_.below hS) hI.may (hTW.below hS) hcp hod hfl.2.1 hfl.2.2 hfl.1) ?_
        rintro _ We49 ⟨⟨v0, v1, v2, v3, v4, p, er, rfl, o0, o1, o2, o3, o4, hAD⟩, hbe50⟩
        refine ⟨_, rfl, Below.next hS hbe50, a_put f rfl rfl ?_⟩; clear f A; intro A f
        replace hS := Below.next hS hbe50
        replace rg5 := row_next rg5 hbe50
        replace rbA := row_next rbA hbe50
        refine a_do 10 f rfl (by kernel_rfl) blind_cut hS rfl rfl rfl (y_move rfl rfl) ?_; clear f A; intro A f
        refine a_do 11 f rfl (by kernel_rfl) blind_cut hS rfl rfl rfl (y_ext rfl rfl rfl) ?_; clear f A; intro A f
        refine a_do 12 f rfl (by kernel_rfl) blind_cut hS rfl rfl rfl (y_ext rfl rfl rfl) ?_; clear f A; intro A f
        refine a_do 13 f rfl (by kernel_rfl) blind_cut hS rfl rfl rfl (y_ext rfl rfl rfl) ?_; clear f A; intro A f
        refine a_one 15 rfl (by kernel_rfl) rfl ?_
        refine g_store f rfl rfl rfl rfl rbA (sz rfl) rfl (Nat.le_of_ble_eq_true rfl) (by show ([v0, v1, v2, v3, v4].all (·.oneCell')) = true; simp only [List.all_cons, List.all_nil, o0, o1, o2, o3, o4, Bool.and_self]) ?_
        clear rbA; intro Wh hbh rbA; dsimp only [setL, over, Value.cells] at rbA
        refine ⟨Below.thenBut hS hbh hbA0, ?_⟩
        replace hS := Below.thenBut hS hbh hbA0
        replace hAD := hAD.but hbh (by omega)
        refine a_do 16 f rfl (by kernel_rfl) blind_cut hS rfl rfl rfl (y_assign rfl rfl) ?_; clear f A; intro A f
        refine a_do 17 f rfl (by kernel_rfl) blind_cut hS rfl rfl rfl (y_assign rfl rfl) ?_; clear f A; intro A f
        refine a_end (by kernel_rfl) ?_
        exact ⟨rfl, v0, v1, v2, v3, v4, p, er, bA, f.sub ⟨rfl, rfl, rfl, rfl, rfl, rfl, rfl, rfl, rfl, rfl, rfl, rfl, rfl, trivial⟩, hS, rbA, hbA0, hAD.less (by omega)⟩
       skip
       have hsa := hS.size
       refine g_alloc (z := .agg #[.slice none 0 0, .slice none 0 0, .int .i64 0, .slice none 0 0, .slice none 0 0]) rfl (by kernel_rfl) ?_
       intro bA We51 ebA hbe52 rbA
       dsimp only [Value.cells] at rbA
       refine ⟨Below.next hS hbe52, a_put f rfl rfl ?_⟩; clear f A; intro A f
       have hbA0 : W38.heap.size ≤ bA := by omega
       replace hS := Below.next hS hbe52
       replace rg5 := row_next rg5 hbe52
       refine a_one 8 rfl (by kernel_rfl) rfl ?_
       refine g_val f (y_load1 rfl rfl (ag rfl) (St.q (St.of (row5_at rg5 q5)) (Below.refl _ _))) ?_
       refine ⟨hS, a_put f rfl rfl ?_⟩; clear f A; intro A f
       refine a_one 9 rfl (by kernel_rfl) rfl ?_
       have lrb := row_lt rbA
       have hsz9 := hS.size
       refine g_call f (IsCall.mk' (cap := []) rfl rfl rfl) (pl rfl) (pAlloc_un _ y ((pickN xb cn : Nat) : Int) od (flA (pickN xc 5)) (hI.at_.below hS) hI.may (hTW.below hS) hcp hod hfl.2.1 hfl.2.2 hfl.1) ?_
       rintro _ We53 ⟨⟨v0, v1, v2, v3, v4, p, er, rfl, o0, o1, o2, o3, o4, hAD⟩, hbe54⟩
       refine ⟨_, rfl, Below.next hS hbe54, a_put f rfl rfl ?_⟩; clear f A; intro A f
       replace hS := Below.next hS hbe54
       replace rg5 := row_next rg5 hbe54
       replace rbA := row_next rbA hbe54
       refine a_do 10 f rfl (by kernel_rfl) blind_cut hS rfl rfl rfl (y_move rfl rfl) ?_; clear f A; intro A f
       refine a_do 11 f rfl (by kernel_rfl) blind_cut hS rfl rfl rfl (y_ext rfl rfl rfl) ?_; clear f A; intro A f
       refine a_do 12 f rfl (by kernel_rfl) blind_cut hS rfl rfl rfl (y_ext rfl rfl rfl) ?_; clear f A; intro A f
       refine a_do 13 f rfl (by kernel_rfl) blind_cut hS rfl rfl rfl (y_ext rfl rfl rfl) ?_; clear f A; intro A f
       refine a_one 15 rfl (by kernel_rfl) rfl ?_
       refine g_store f rfl rfl rfl rfl rbA (sz rfl) rfl (Nat.le_of_ble_eq_true rfl) (by show ([v0, v1, v2, v3, v4].all (·.oneCell')) = true; simp only [List.all_cons, List.all_nil, o0, o1, o2, o3, o4, Bool.and_self]) ?_
       clear rbA; intro Wh hbh rbA; dsimp only [setL, over, Value.cells] at rbA
       refine ⟨Below.thenBut hS hbh hbA0, ?_⟩
       replace hS := Below.thenBut hS hbh hbA0
       replace hAD := hAD.but hbh (by omega)
       refine a_do 16 f rfl (by kernel_rfl) blind_cut hS rfl rfl rfl (y_assign rfl rfl) ?_; clear f A; intro A f
       refine a_do 17 f rfl (by kernel_rfl) blind_cut hS rfl rfl rfl (y_assign rfl rfl) ?_; clear f A; intro A f
       refine a_end (by kernel_rfl) ?_
       exact ⟨rfl, v0, v1, v2, v3, v4, p, er, bA, f.sub ⟨rfl, rfl, rfl, rfl, rfl, rfl, rfl, rfl, rfl, rfl, rfl, rfl, rfl, trivial⟩, hS, rbA, hbA0, hAD.less (by omega)⟩
      skip
      have hsa := hS.size
      refine g_alloc (z := .agg #[.slice none 0 0, .slice none 0 0, .int .i64 0, .slice none 0 0, .slice none 0 0]) rfl (by kernel_rfl) ?_
      intro bA We55 ebA hbe56 rbA
      dsimp only [Value.cells] at rbA
      refine ⟨Below.next hS hbe56, a_put f rfl rfl ?_⟩; clear f A; intro A f
      have hbA0 : W38.heap.size ≤ bA := by omega
      replace hS := Below.next hS hbe56
      replace rg5 := row_next rg5 hbe56
      refine a_one 6 rfl (by kernel_rfl) rfl ?_
      refine g_call f (IsCall.mk' (cap := []) rfl rfl rfl) (pl rfl) (c_same (picked_fn xc 5 5 rfl wc (by omega) (by omega) _)) ?_
      rintro _ We57 ⟨rfl, hbe58⟩
      refine ⟨_, rfl, Below.next hS hbe58, a_put f rfl rfl ?_⟩; clear f A; intro A f
      replace hS := Below.next hS hbe58
      replace rg5 := row_next rg5 hbe58
      replace rbA := row_next rbA hbe58
      refine a_do 7 f rfl (by kernel_rfl) blind_cut hS rfl rfl rfl (y_index rfl rfl (by first | rfl | assumption) rfl (es rfl) (by omega)) ?_; clear f A; intro A f
      refine a_one 8 rfl (by kernel_rfl) rfl ?_
      refine g_val f (y_load1 rfl rfl (ag rfl) (St.q (St.of (row5_at rg5 q5)) (Below.refl _ _))) ?_
      refine ⟨hS, a_put f rfl rfl ?_⟩; clear f A; intro A f
      refine a_one 9 rfl (by kernel_rfl) rfl ?_
      have lrb := row_lt rbA
      have hsz9 := hS.size
      refine g_call f (IsCall.mk' (cap := []) rfl rfl rfl) (pl rfl) (pAlloc_un _ y ((pickN xb cn : Nat) : Int) od (flA (pickN xc 5)) (hI.at_.below hS) hI.may (hTW.below hS) hcp hod hfl.2.1 hfl.2.2 hfl.1) ?_
      rintro _ We59 ⟨⟨v0, v1, v2, v3, v4, p, er, rfl, o0, o1, o2, o3, o4, hAD⟩, hbe60⟩
      refine ⟨_, rfl, Below.next hS hbe60, a_put f rfl rfl ?_⟩; clear f A; intro A f
      replace hS := Below.next hS hbe60
      replace rg5 := row_next rg5 hbe60
      replace rbA := row_next rbA hbe60
      refine a_do 10 f rfl (by kernel_rfl) blind_cut hS rfl rfl rfl (y_move rfl rfl) ?_; clear f A; intro A f
      refine a_do 11 f rfl (by kernel_rfl) blind_cut hS rfl rfl rfl (y_ext rfl rfl rfl) ?_; clear f A; intro A f
      refine a_do 12 f rfl (by kernel_rfl) blind_cut hS rfl rfl rfl (y_ext rfl rfl rfl) ?_; clear f A; intro A f
      refine a_do 13 f rfl (by kernel_rfl) blind_cut hS rfl rfl rfl (y_ext rfl rfl rfl) ?_; clear f A; intro A f
      refine a_one 15 rfl (by kernel_rfl) rfl ?_
      refine g_store f rfl rfl rfl rfl rbA (sz rfl) rfl (Nat.le_of_ble_eq_true rfl) (by show ([v0, v1, v2, v3, v4].all (·.oneCell')) = true; simp only [List.all_cons, List.all_nil, o0, o1, o2, o3, o4, Bool.and_self]) ?_
      clear rbA; intro Wh hbh rbA; dsimp only [setL, over, Value.cells] at rbA
      refine ⟨Below.thenBut hS hbh hbA0, ?_⟩
      replace hS := Below.thenBut hS hbh hbA0
      replace hAD := hAD.but hbh (by omega)
      refine a_do 16 f rfl (by kernel_rfl) blind_cut hS rfl rfl rfl (y_assign rfl rfl) ?_; clear f A; intro A f
      refine a_do 17 f rfl (by kernel_rfl) blind_cut hS rfl rfl rfl (y_assign rfl rfl) ?_; clear f A; intro A f
      refine a_end (by kernel_rfl) ?_
      exact ⟨rfl, v0, v1, v2, v3, v4, p, er, bA, f.sub ⟨rfl, rfl, rfl, rfl, rfl, rfl, rfl, rfl, rfl, rfl, rfl, rfl, rfl, trivial⟩, hS, rbA, hbA0, hAD.less (by omega)⟩
     ·skip
      refine g_call f (IsCall.mk' (cap := []) rfl rfl rfl) (pl rfl) (c_same (picked_fn xc 5 5 rfl wc (by omega) (by omega) _)) ?_
      rintro _ We61 ⟨rfl, hbe62⟩
      refine ⟨_, rfl, Below.next hS hbe62, a_put f rfl rfl ?_⟩; clear f A; intro A f
      replace hS := Below.next hS hbe62
      refine a_two 3 14 rfl rfl (by kernel_rfl) rfl rfl ?_ ?_
      ·skip
       obtain ⟨g5, hg5⟩ : ∃ g, g = We61.heap.size := ⟨_, rfl⟩
       refine g_opR (R := fun v W => v = .slice (some ⟨g5, 0, none⟩) 5 5 ∧ Below We61.heap.size We61 W ∧ W.heap[g5]? = some (.cells #[.int .i64 0, .int .i64 2, .int .i64 4, .int .i64 1, .int .i64 8] 3 (0, 0))) ⟨_, _, bs_exec f rfl rfl (bs_int5 _ _ _ _ _ _), by rw [hg5], (Below.refl _ _).alloc (Nat.le_refl _) _, by rw [hg5]; show (Array.push _ _)[_]? = _; (rw [Array.getElem?_push, if_pos rfl] <;> rfl)⟩ ?_
       rintro _ We63 ⟨rfl, hbe64, rg5⟩
       refine ⟨Below.next hS hbe64, a_put f rfl rfl ?_⟩; clear f A; intro A f
       replace hS := Below.next hS hbe64
       refine a_do 7 f rfl (by kernel_rfl) blind_cut hS rfl rfl rfl (y_index rfl rfl (by first | rfl | assumption) rfl (es rfl) (by omega)) ?_; clear f A; intro A f
       refine a_two 8 14 rfl rfl (by kernel_rfl) rfl rfl ?_ ?_
       ·skip
        refine g_val f (y_load1 rfl rfl (ag rfl) (St.q (St.of (row5_at rg5 q5)) (Below.refl _ _))) ?_
        refine ⟨hS, a_put f rfl rfl ?_⟩; clear f A; intro A f
        refine a_two 9 14 rfl rfl (by kernel_rfl) rfl rfl ?_ ?_
        ·skip
         have hsz9 := hS.size
         refine g_call f (IsCall.mk' (cap := []) rfl rfl rfl) (pl rfl) (pAlloc_un _ y ((pickN xb cn : Nat) : Int) od (flA (pickN xc 5)) (hI.at_.below hS) hI.may (hTW.below hS) hcp hod hfl.2.1 hfl.2.2 hfl.1) ?_
         rintro _ We65 ⟨⟨v0, v1, v2, v3, v4, p, er, rfl, o0, o1, o2, o3, o4, hAD⟩, hbe66⟩
         refine ⟨_, rfl, Below.next hS hbe66, a_put f rfl rfl ?_⟩; clear f A; intro A f
         replace hS := Below.next hS hbe66
         replace rg5 := row_next rg5 hbe66
         refine a_do 10 f rfl (by kernel_rfl) blind_cut hS rfl rfl rfl (y_move rfl rfl) ?_; clear f A; intro A f
         refine a_do 11 f rfl (by kernel_rfl) blind_cut hS rfl rfl rfl (y_ext rfl rfl rfl) ?_; clear f A; intro A f
         refine a_do 12 f rfl (by kernel_rfl) blind_cut hS rfl rfl rfl (y_ext rfl rfl rfl) ?_; clear f A; intro A f
         refine a_do 13 f rfl (by kernel_rfl) blind_cut hS rfl rfl rfl (y_ext rfl rfl rfl) ?_; clear f A; intro A f
         refine a_one 14 rfl (by kernel_rfl) rfl ?_
         have hsa := hS.size
         refine g_alloc (z := .agg #[.slice none 0 0, .slice none 0 0, .int .i64 0, .slice none 0 0, .slice none 0 0]) rfl (by kernel_rfl) ?_
         intro bA We67 ebA hbe68 rbA
         dsimp only [Value.cells] at rbA
         refine ⟨Below.next hS hbe68, a_put f rfl rfl ?_⟩; clear f A; intro A f
         have hbA0 : W38.heap.size ≤ bA := by omega
         have hbA1 := hbe68
         replace hS := Below.next hS hbe68
         replace rg5 := row_next rg5 hbe68
         refine a_one 15 rfl (by kernel_rfl) rfl ?_
         refine g_store f rfl rfl rfl rfl rbA (sz rfl) rfl (Nat.le_of_ble_eq_true rfl) (by show ([v0, v1, v2, v3, v4].all (·.oneCell')) = true; simp only [List.all_cons, List.all_nil, o0, o1, o2, o3, o4, Bool.and_self]) ?_
         clear rbA; intro Wh hbh rbA; dsimp only [setL, over, Value.cells] at rbA
         refine ⟨Below.thenBut hS hbh hbA0, ?_⟩
         replace hS := Below.thenBut hS hbh hbA0
         replace hAD := hAD.below (Below.thenBut hbA1 hbh (by omega))
         refine a_do 16 f rfl (by kernel_rfl) blind_cut hS rfl rfl rfl (y_assign rfl rfl) ?_; clear f A; intro A f
         refine a_do 17 f rfl (by kernel_rfl) blind_cut hS rfl rfl rfl (y_assign rfl rfl) ?_; clear f A; intro A f
         refine a_end (by kernel_rfl) ?_
         exact ⟨rfl, v0, v1, v2, v3, v4, p, er, bA, f.sub ⟨rfl, rfl, rfl, rfl, rfl, rfl, rfl, rfl, rfl, rfl, rfl, rfl, rfl, trivial⟩, hS, rbA, hbA0, hAD.less (by omega)⟩
        skip
        have hsa := hS.size
        refine g_alloc (z := .agg #[.slice none 0 0, .slice none 0 0, .int .i64 0, .slice none 0 0, .slice none 0 0]) rfl (by kernel_rfl) ?_
        intro bA We69 ebA hbe70 rbA
        dsimp only [Value.cells] at rbA
        refine ⟨Below.next hS hbe70, a_put f rfl rfl ?_⟩; clear f A; intro A f
        have hbA0 : W38.heap.size ≤ bA := by omega
        replace hS := Below.next hS hbe70
        replace rg5 := row_next rg5 hbe70
        refine a_one 9 rfl (by kernel_rfl) rfl ?_
        have lrb := row_lt rbA
        have hsz9 := hS.size
        refine g_call f (IsCall.mk' (cap := []) rfl rfl rfl) (pl rfl) (pAlloc_un _ y ((pickN xb cn : Nat) : Int) od (flA (pickN xc 5)) (hI.at_.below hS) hI.may (hTW.below hS) hcp hod hfl.2.1 hfl.2.2 hfl.1) ?_
        rintro _ We71 ⟨⟨v0, v1, v2, v3, v4, p, er, rfl, o0, o1, o2, o3, o4, hAD⟩, hbe72⟩
        refine ⟨_, rfl, Below.next hS hbe72, a_put f rfl rfl ?_⟩; clear f A; intro A f
        replace hS := Below.next hS hbe72
        replace rg5 := row_next rg5 hbe72
        replace rbA := row_next rbA hbe72
        refine a_do 10 f rfl (by kernel_rfl) blind_cut hS rfl rfl rfl (y_move rfl rfl) ?_; clear f A; intro A f
        refine a_do 11 f rfl (by kernel_rfl) blind_cut hS rfl rfl rfl (y_ext rfl rfl rfl) ?_; clear f A; intro A f
        refine a_do 12 f rfl (by kernel_rfl) blind_cut hS rfl rfl rfl (y_ext rfl rfl rfl) ?_; clear f A; intro A f
        refine a_do 13 f rfl (by kernel_rfl) blind_cut hS rfl rfl rfl (y_ext rfl rfl rfl) ?_; clear f A; intro A f
        refine a_one 15 rfl (by kernel_rfl) rfl ?_
        refine g_store f rfl rfl rfl rfl rbA (sz rfl) rfl (Nat.le_of_ble_eq_true rfl) (by show ([v0, v1, v2, v3, v4].all (·.oneCell')) = true; simp only [List.all_cons, List.all_nil, o0, o1, o2, o3, o4, Bool.and_self]) ?_
        clear rbA; intro Wh hbh rbA; dsimp only [setL, over, Value.cells] at rbA
        refine ⟨Below.thenBut hS hbh hbA0, ?_⟩
        replace hS := Below.thenBut hS hbh hbA0
        replace hAD := hAD.but hbh (by omega)
        refine a_do 16 f rfl (by kernel_rfl) blind_cut hS rfl rfl rfl (y_assign rfl rfl) ?_; clear f A; intro A f
        refine a_do 17 f rfl (by kernel_rfl) blind_cut hS rfl rfl rfl (y_assign rfl rfl) ?_; clear f A; intro A f
        refine a_end (by kernel_rfl) ?_
        exact ⟨rfl, v0, v1, v2, v3, v4, p, er, bA, f.sub ⟨rfl, rfl, rfl, rfl, rfl, rfl, rfl, rfl, rfl, rfl, rfl, rfl, rfl, trivial⟩, hS, rbA, hbA0, hAD.less (by omega)⟩
       skip
       have hsa := hS.size
       refine g_alloc (z := .agg #[.slice none 0 0, .slice none 0 0, .int .i64 0, .slice none 0 0, .slice none 0 0]) rfl (by kernel_rfl) ?_
       intro bA We73 ebA hbe74 rbA
       dsimp only [Value.cells] at rbA
       refine ⟨Below.next hS hbe74, a_put f rfl rfl ?_⟩; clear f A; intro A f
       have hbA0 : W38.heap.size ≤ bA := by omega
       replace hS := Below.next hS hbe74
       replace rg5 := row_next rg5 hbe74
       refine a_one 8 rfl (by kernel_rfl) rfl ?_
       refine g_val f (y_load1 rfl rfl (ag rfl) (St.q (St.of (row5_at rg5 q5)) (Below.refl _ _))) ?_
       refine ⟨hS, a_put f rfl rfl ?_⟩; clear f A; intro A f
       refine a_one 9 rfl (by kernel_rfl) rfl ?_
       have lrb := row_lt rbA
       have hsz9 := hS.size
       refine g_call f (IsCall.mk' (cap := []) rfl rfl rfl) (pl rfl) (pAlloc_un _ y ((pickN xb cn : Nat) : Int) od (flA (pickN xc 5)) (hI.at_.below hS) hI.may (hTW.below hS) hcp hod hfl.2.1 hfl.2.2 hfl.1) ?_
       rintro _ We75 ⟨⟨v0, v1, v2, v3, v4, p, er, rfl, o0, o1, o2, o3, o4, hAD⟩, hbe76⟩
       refine ⟨_, rfl, Below.next hS hbe76, a_put f rfl rfl ?_⟩; clear f A; intro A f
       replace hS := Below.next hS hbe76
       replace rg5 := row_next rg5 hbe76
       replace rbA := row_next rbA hbe76
       refine a_do 10 f rfl (by kernel_rfl) blind_cut hS rfl rfl rfl (y_move rfl rfl) ?_; clear f A; intro A f
       refine a_do 11 f rfl (by kernel_rfl) blind_cut hS rfl rfl rfl (y_ext rfl rfl rfl) ?_; clear f A; intro A f
       refine a_do 12 f rfl (by kernel_rfl) blind_cut hS rfl rfl rfl (y_ext rfl rfl rfl) ?_; clear f A; intro A f
       refine a_do 13 f rfl (by kernel_rfl) blind_cut hS rfl rfl rfl (y_ext rfl rfl rfl) ?_; clear f A; intro A f
       refine a_one 15 rfl (by kernel_rfl) rfl ?_
       refine g_store f rfl rfl rfl rfl rbA (sz rfl) rfl (Nat.le_of_ble_eq_true rfl) (by show ([v0, v1, v2, v3, v4].all (·.oneCell')) = true; simp only [List.all_cons, List.all_nil, o0, o1, o2, o3, o4, Bool.and_self]) ?_
       clear rbA; intro Wh hbh rbA; dsimp only [setL, over, Value.cells] at rbA
       refine ⟨Below.thenBut hS hbh hbA0, ?_⟩
       replace hS := Below.thenBut hS hbh hbA0
       replace hAD := hAD.but hbh (by omega)
       refine a_do 16 f rfl (by kernel_rfl) blind_cut hS rfl rfl rfl (y_assign rfl rfl) ?_; clear f A; intro A f
       refine a_do 17 f rfl (by kernel_rfl) blind_cut hS rfl rfl rfl (y_assign rfl rfl) ?_; clear f A; intro A f
       refine a_end (by kernel_rfl) ?_
       exact ⟨rfl, v0, v1, v2, v3, v4, p, er, bA, f.sub ⟨rfl, rfl, rfl, rfl, rfl, rfl, rfl, rfl, rfl, rfl, rfl, rfl, rfl, trivial⟩, hS, rbA, hbA0, hAD.less (by omega)⟩
      skip
      have hsa := hS.size
      refine g_alloc (z := .agg #[.slice none 0 0, .slice none 0 0, .int .i64 0, .slice none 0 0, .slice none 0 0]) rfl (by kernel_rfl) ?_
      intro bA We77 ebA hbe78 rbA
      dsimp only [Value.cells] at rbA
      refine ⟨Below.next hS hbe78, a_put f rfl rfl ?_⟩; clear f A; intro A f
      have hbA0 : W38.heap.size ≤ bA := by omega
      replace hS := Below.next hS hbe78
      refine a_one 3 rfl (by kernel_rfl) rfl ?_
      obtain ⟨g5, hg5⟩ : ∃ g, g = We77.heap.size := ⟨_, rfl⟩
      refine g_opR (R := fun v W => v = .slice (some ⟨g5, 0, none⟩) 5 5 ∧ Below We77.heap.size We77 W ∧ W.heap[g5]? = some (.cells #[.int .i64 0, .int .i64 2, .int .i64 4, .int .i64 1, .int .i64 8] 3 (0, 0))) ⟨_, _, bs_exec f rfl rfl (bs_int5 _ _ _ _ _ _), by rw [hg5], (Below.refl _ _).alloc (Nat.le_refl _) _, by rw [hg5]; show (Array.push _ _)[_]? = _; (rw [Array.getElem?_push, if_pos rfl] <;> rfl)⟩ ?_
      rintro _ We79 ⟨rfl, hbe80, rg5⟩
      refine ⟨Below.next hS hbe80, a_put f rfl rfl ?_⟩; clear f A; intro A f
      replace hS := Below.next hS hbe80
      replace rbA := row_next rbA hbe80
      refine a_do 7 f rfl (by kernel_rfl) blind_cut hS rfl rfl rfl (y_index rfl rfl (by first | rfl | assumption) rfl (es rfl) (by omega)) ?_; clear f A; intro A f
      refine a_one 8 rfl (by kernel_rfl) rfl ?_
      refine g_val f (y_load1 rfl rfl (ag rfl) (St.q (St.of (row5_at rg5 q5)) (Below.refl _ _))) ?_
      refine ⟨hS, a_put f rfl rfl ?_⟩; clear f A; intro A f
      refine a_one 9 rfl (by kernel_rfl) rfl ?_
      have lrb := row_lt rbA
      have hsz9 := hS.size
      refine g_call f (IsCall.mk' (cap := []) rfl rfl rfl) (pl rfl) (pAlloc_un _ y ((pickN xb cn : Nat) : Int) od (flA (pickN xc 5)) (hI.at_.below hS) hI.may (hTW.below hS) hcp hod hfl.2.1 hfl.2.2 hfl.1) ?_
      rintro _ We81 ⟨⟨v0, v1, v2, v3, v4, p, er, rfl, o0, o1, o2, o3, o4, hAD⟩, hbe82⟩
      refine ⟨_, rfl, Below.next hS hbe82, a_put f rfl rfl ?_⟩; clear f A; intro A f
      replace hS := Below.next hS hbe82
      replace rg5 := row_next rg5 hbe82
      replace rbA := row_next rbA hbe82
      refine a_do 10 f rfl (by kernel_rfl) blind_cut hS rfl rfl rfl (y_move rfl rfl) ?_; clear f A; intro A f
      refine a_do 11 f rfl (by kernel_rfl) blind_cut hS rfl rfl rfl (y_ext rfl rfl rfl) ?_; clear f A; intro A f
      refine a_do 12 f rfl (by kernel_rfl) blind_cut hS rfl rfl rfl (y_ext rfl rfl rfl) ?_; clear f A; intro A f
      refine a_do 13 f rfl (by kernel_rfl) blind_cut hS rfl rfl rfl (y_ext rfl rfl rfl) ?_; clear f A; intro A f
      refine a_one 15 rfl (by kernel_rfl) rfl ?_
      refine g_store f rfl rfl rfl rfl rbA (sz rfl) rfl (Nat.le_of_ble_eq_true rfl) (by show ([v0, v1, v2, v3, v4].all (·.oneCell')) = true; simp only [List.all_cons, List.all_nil, o0, o1, o2, o3, o4, Bool.and_self]) ?_
      clear rbA; intro Wh hbh rbA; dsimp only [setL, over, Value.cells] at rbA
      refine ⟨Below.thenBut hS hbh hbA0, ?_⟩
      replace hS := Below.thenBut hS hbh hbA0
      replace hAD := hAD.but hbh (by omega)
      refine a_do 16 f rfl (by kernel_rfl) blind_cut hS rfl rfl rfl (y_assign rfl rfl) ?_; clear f A; intro A f
      refine a_do 17 f rfl (by kernel_rfl) blind_cut hS rfl rfl rfl (y_assign rfl rfl) ?_; clear f A; intro A f
      refine a_end (by kernel_rfl) ?_
      exact ⟨rfl, v0, v1, v2, v3, v4, p, er, bA, f.sub ⟨rfl, rfl, rfl, rfl, rfl, rfl, rfl, rfl, rfl, rfl, rfl, rfl, rfl, trivial⟩, hS, rbA, hbA0, hAD.less (by omega)⟩
     skip
     have hsa := hS.size
     refine g_alloc (z := .agg #[.slice none 0 0, .slice none 0 0, .int .i64 0, .slice none 0 0, .slice none 0 0]) rfl (by kernel_rfl) ?_
     intro bA We83 ebA hbe84 rbA
     dsimp only [Value.cells] at rbA
     refine ⟨Below.next hS hbe84, a_put f rfl rfl ?_⟩; clear f A; intro A f
     have hbA0 : W38.heap.size ≤ bA := by omega
     replace hS := Below.next hS hbe84
     refine a_two 3 6 rfl rfl (by kernel_rfl) rfl rfl ?_ ?_
     ·skip
      obtain ⟨g5, hg5⟩ : ∃ g, g = We83.heap.size := ⟨_, rfl⟩
      refine g_opR (R := fun v W => v = .slice (some ⟨g5, 0, none⟩) 5 5 ∧ Below We83.heap.size We83 W ∧ W.heap[g5]? = some (.cells #[.int .i64 0, .int .i64 2, .int .i64 4, .int .i64 1, .int .i64 8] 3 (0, 0))) ⟨_, _, bs_exec f rfl rfl (bs_int5 _ _ _ _ _ _), by rw [hg5], (Below.refl _ _).alloc (Nat.le_refl _) _, by rw [hg5]; show (Array.push _ _)[_]? = _; (rw [Array.getElem?_push, if_pos rfl] <;> rfl)⟩ ?_
      rintro _ We85 ⟨rfl, hbe86, rg5⟩
      refine ⟨Below.next hS hbe86, a_put f rfl rfl ?_⟩; clear f A; intro A f
      replace hS := Below.next hS hbe86
      replace rbA := row_next rbA hbe86
      refine a_one 6 rfl (by kernel_rfl) rfl ?_
      refine g_call f (IsCall.mk' (cap := []) rfl rfl rfl) (pl rfl) (c_same (picked_fn xc 5 5 rfl wc (by omega) (by omega) _)) ?_
      rintro _ We87 ⟨rfl, hbe88⟩
      refine ⟨_, rfl, Below.next hS hbe88, a_put f rfl rfl ?_⟩; clear f A; intro A f
      replace hS := Below.next hS hbe88
      replace rg5 := row_next rg5 hbe88
      replace rbA := row_next rbA hbe88
      refine a_do 7 f rfl (by kernel_rfl) blind_cut hS rfl rfl rfl (y_index rfl rfl (by first | rfl | assumption) rfl (es rfl) (by omega)) ?_; clear f A; intro A f
      refine a_one 8 rfl (by kernel_rfl) rfl ?_
      refine g_val f (y_load1 rfl rfl (ag rfl) (St.q (St.of (row5_at rg5 q5)) (Below.refl _ _))) ?_
      refine ⟨hS, a_put f rfl rfl ?_⟩; clear f A; intro A f
      refine a_one 9 rfl (by kernel_rfl) rfl ?_
      have lrb := row_lt rbA
      have hsz9 := hS.size
      refine g_call f (IsCall.mk' (cap := []) rfl rfl rfl) (pl rfl) (pAlloc_un _ y ((pickN xb cn : Nat) : Int) od (flA (pickN xc 5)) (hI.at_.below hS) hI.may (hTW.below hS) hcp hod hfl.2.1 hfl.2.2 hfl.1) ?_
      rintro _ We89 ⟨⟨v0, v1, v2, v3, v4, p, er, rfl, o0, o1, o2, o3, o4, hAD⟩, hbe90⟩
      refine ⟨_, rfl, Below.next hS hbe90, a_put f rfl rfl ?_⟩; clear f A; intro A f
      replace hS := Below.next hS hbe90
      replace rg5 := row_next rg5 hbe90
      replace rbA := row_next rbA hbe90
      refine a_do 10 f rfl (by kernel_rfl) blind_cut hS rfl rfl rfl (y_move rfl rfl) ?_; clear f A; intro A f
      refine a_do 11 f rfl (by kernel_rfl) blind_cut hS rfl rfl rfl (y_ext rfl rfl rfl) ?_; clear f A; intro A f
      refine a_do 12 f rfl (by kernel_rfl) blind_cut hS rfl rfl rfl (y_ext rfl rfl rfl) ?_; clear f A; intro A f
      refine a_do 13 f rfl (by kernel_rfl) blind_cut hS rfl rfl rfl (y_ext rfl rfl rfl) ?_; clear f A; intro A f
      refine a_one 15 rfl (by kernel_rfl) rfl ?_
      refine g_store f rfl rfl rfl rfl rbA (sz rfl) rfl (Nat.le_of_ble_eq_true rfl) (by show ([v0, v1, v2, v3, v4].all (·.oneCell')) = true; simp only [List.all_cons, List.all_nil, o0, o1, o2, o3, o4, Bool.and_self]) ?_
      clear rbA; intro Wh hbh rbA; dsimp only [setL, over, Value.cells] at rbA
      refine ⟨Below.thenBut hS hbh hbA0, ?_⟩
      replace hS := Below.thenBut hS hbh hbA0
      replace hAD := hAD.but hbh (by omega)
      refine a_do 16 f rfl (by kernel_rfl) blind_cut hS rfl rfl rfl (y_assign rfl rfl) ?_; clear f A; intro A f
      refine a_do 17 f rfl (by kernel_rfl) blind_cut hS rfl rfl rfl (y_assign rfl rfl) ?_; clear f A; intro A f
      refine a_end (by kernel_rfl) ?_
      exact ⟨rfl, v0, v1, v2, v3, v4, p, er, bA, f.sub ⟨rfl, rfl, rfl, rfl, rfl, rfl, rfl, rfl, rfl, rfl, rfl, rfl, rfl, trivial⟩, hS, rbA, hbA0, hAD.less (by omega)⟩
     skip
     refine g_call f (IsCall.mk' (cap := []) rfl rfl rfl) (pl rfl) (c_same (picked_fn xc 5 5 rfl wc (by omega) (by omega) _)) ?_
     rintro _ We91 ⟨rfl, hbe92⟩
     refine ⟨_, rfl, Below.next hS hbe92, a_put f rfl rfl ?_⟩; clear f A; intro A f
     replace hS := Below.next hS hbe92
     replace rbA := row_next rbA hbe92
     refine a_one 3 rfl (by kernel_rfl) rfl ?_
     obtain ⟨g5, hg5⟩ : ∃ g, g = We91.heap.size := ⟨_, rfl⟩
     refine g_opR (R := fun v W => v = .slice (some ⟨g5, 0, none⟩) 5 5 ∧ Below We91.heap.size We91 W ∧ W.heap[g5]? = some (.cells #[.int .i64 0, .int .i64 2, .int .i64 4, .int .i64 1, .int .i64 8] 3 (0, 0))) ⟨_, _, bs_exec f rfl rfl (bs_int5 _ _ _ _ _ _), by rw [hg5], (Below.refl _ _).alloc (Nat.le_refl _) _, by rw [hg5]; show (Array.push _ _)[_]? = _; (rw [Array.getElem?_push, if_pos rfl] <;> rfl)⟩ ?_
     rintro _ We93 ⟨rfl, hbe94, rg5⟩
     refine ⟨Below.next hS hbe94, a_put f rfl rfl ?_⟩; clear f A; intro A f
     replace hS := Below.next hS hbe94
     replace rbA := row_next rbA hbe94
     refine a_do 7 f rfl (by kernel_rfl) blind_cut hS rfl rfl rfl (y_index rfl rfl (by first | rfl | assumption) rfl (es rfl) (by omega)) ?_; clear f A; intro A f
     refine a_one 8 rfl (by kernel_rfl) rfl ?_
     refine g_val f (y_load1 rfl rfl (ag rfl) (St.q (St.of (row5_at rg5 q5)) (Below.refl _ _))) ?_
     refine ⟨hS, a_put f rfl rfl ?_⟩; clear f A; intro A f
     refine a_one 9 rfl (by kernel_rfl) rfl ?_
     have lrb := row_lt rbA
     have hsz9 := hS.size
     refine g_call f (IsCall.mk' (cap := []) rfl rfl rfl) (pl rfl) (pAlloc_un _ y ((pickN xb cn : Nat) : Int) od (flA (pickN xc 5)) (hI.at_.below hS) hI.may (hTW.below hS) hcp hod hfl.2.1 hfl.2.2 hfl.1) ?_
     rintro _ We95 ⟨⟨v0, v1, v2, v3, v4, p, er, rfl, o0, o1, o2, o3, o4, hAD⟩, hbe96⟩
     refine ⟨_, rfl, Below.next hS hbe96, a_put f rfl rfl ?_⟩; clear f A; intro A f
     replace hS := Below.next hS hbe96
     replace rg5 := row_next rg5 hbe96
     replace rbA := row_next rbA hbe96
     refine a_do 10 f rfl (by kernel_rfl) blind_cut hS rfl rfl rfl (y_move rfl rfl) ?_; clear f A; intro A f
     refine a_do 11 f rfl (by kernel_rfl) blind_cut hS rfl rfl rfl (y_ext rfl rfl rfl) ?_; clear f A; intro A f
     refine a_do 12 f rfl (by kernel_rfl) blind_cut hS rfl rfl rfl (y_ext rfl rfl rfl) ?_; clear f A; intro A f
     refine a_do 13 f rfl (by kernel_rfl) blind_cut hS rfl rfl rfl (y_ext rfl rfl rfl) ?_; clear f A; intro A f
     refine a_one 15 rfl (by kernel_rfl) rfl ?_
     refine g_store f rfl rfl rfl rfl rbA (sz rfl) rfl (Nat.le_of_ble_eq_true rfl) (by show ([v0, v1, v2, v3, v4].all (·.oneCell')) = true; simp only [List.all_cons, List.all_nil, o0, o1, o2, o3, o4, Bool.and_self]) ?_
     clear rbA; intro Wh hbh rbA; dsimp only [setL, over, Value.cells] at rbA
     refine ⟨Below.thenBut hS hbh hbA0, ?_⟩
     replace hS := Below.thenBut hS hbh hbA0
     replace hAD := hAD.but hbh (by omega)
     refine a_do 16 f rfl (by kernel_rfl) blind_cut hS rfl rfl rfl (y_assign rfl rfl) ?_; clear f A; intro A f
     refine a_do 17 f rfl (by kernel_rfl) blind_cut hS rfl rfl rfl (y_assign rfl rfl) ?_; clear f A; intro A f
     refine a_end (by kernel_rfl) ?_
     exact ⟨rfl, v0, v1, v2, v3, v4, p, er, bA, f.sub ⟨rfl, rfl, rfl, rfl, rfl, rfl, rfl, rfl, rfl, rfl, rfl, rfl, rfl, trivial⟩, hS, rbA, hbA0, hAD.less (by omega)⟩
    skip
    clear f A; rintro A W97 ⟨v0, v1, v2, v3, v4, p, er, bA, f, hb4, rbA, hbA, hAD⟩
    have o_b1_bA : b1 < bA := by omega
    have o_b4_bA : b4 < bA := by omega
    have o_b11_bA : b11 < bA := by omega
    have o_b17_bA : b17 < bA := by omega
    have o_g7_bA : g7 < bA := by omega
    replace B0 := Below.next B0 hb4; replace rb1 := row_next rb1 hb4; replace rb4 := row_next rb4 hb4; replace rb11 := row_next rb11 hb4; replace rb17 := row_next rb17 hb4; replace rg7 := row_next rg7 hb4; replace hI := hI.below hb4
    rcases hAD with rfl | ⟨rfl, y2, G, hfd, rfl, rfl, rfl, rfl, rfl, hyA2, e2, hoF⟩
    ·skip
     revert A; refine vT (vS (vR (vlm (h:=vlb (y_eql rfl rfl rfl) (h:=?_) (g:=?_)))))
     ·intro c98; exfalso; omega
     intro c98
     refine vW (vD (h:=vS (vR (vlm (h:=vlb (y_neq rfl rfl rfl) (h:=?_) (g:=?_))))))
     ·intro c99; exfalso; omega
     intro c99
     refine vW (vD (h:=vK (vU (vU (vT (vR (vlm (h:=vlA (h:=vla (h:=vW ?_)))))))))); intro A f
     exact ⟨ln - (k + 1), by omega, k + 1, y, aw, vo, vn, vc, rfl, by omega, f.sub ⟨rfl, rfl, rfl, rfl, rfl, rfl, rfl, rfl, rfl, trivial⟩, B0, rb1, rb4, rb11, hI, ho6, ho11, hvo, fun h => by omega, hRc⟩
    skip
    have own := hI.own
    have hR := alloc_may hI.may hcp hod hfd
    have hlive2 : y2.hp.live = addB y.hp.live ⟨p, od, typeF (flA (pickN xc 5))⟩ := by rw [e2, ← hR.2.1]
    have hP2 : HMay y2.hp := by rw [e2]; exact hR.1
    have hz2 := hP2.zs.n
    have hcp2 : y2.hp.cpus = H0.cpus := (congrArg Hp.cpus e2).trans (hR.2.2.1.trans hI.cpus)
    have hft2 : SameFT y2.hp H0 := sft_trans (by rw [e2]; exact hR.2.2.2.1) hI.ft
    have hoc2 : ∀ q, occ y2.hp q = occ H0 q := fun q => (congrArg (fun G => occ G q) e2).trans ((hR.2.2.2.2 q).trans (hI.occ q))
    have hRc2 : Rch (rawFl l) H0 y2.hp := by rw [e2]; exact hRc.alloc hI.may ⟨k, by rw [hl.len]; omega, by rw [exc]⟩ hod hcp hfd
    revert A; refine vT (vS (vR (vlm (h:=vlb (y_eql rfl rfl rfl) (h:=?_) (g:=?_)))))
    ·intro c100
     refine vW (vC (h:=vS (vR (vl5 (rowq rbA) (h:=?_))))); intro A f
     refine vls f rb11 ?_
     clear rb11; intro W101 hb102 rb11; dsimp only [setL, over, Value.cells] at rb11; replace B0 := Below.thenBut B0 hb102 (by omega); replace rb1 := But.row hb102 rb1 (by omega); replace rb4 := But.row hb102 rb4 (by omega); replace rb17 := But.row hb102 rb17 (by omega); replace rg7 := But.row hb102 rg7 (by omega); replace rbA := But.row hb102 rbA (by omega); replace own := owns_butN own hb102 (fun a ha => by have := hvo a ha; omega); replace hyA2 := Off.but (hoF b11 (by omega)) hyA2 hb102
     revert A; refine vW (vR (vlm (h:=vlm (h:=vlm (h:=vld (y_build #[.int .i64 p, .int .i64 od, .int .i64 0] rfl rfl (by kernel_rfl)) (h:=?_))))))
     obtain ⟨gb, hgb⟩ : ∃ g, g = W101.heap.size := ⟨_, rfl⟩
     have o_b1_gb : b1 < gb := by have := row_lt rb1; omega
     have o_b4_gb : b4 < gb := by have := row_lt rb4; omega
     have o_b11_gb : b11 < gb := by have := row_lt rb11; omega
     have o_b17_gb : b17 < gb := by have := row_lt rb17; omega
     have o_g7_gb : g7 < gb := by have := row_lt rg7; omega
     have o_bA_gb : bA < gb := by have := row_lt rbA; omega
     intro A f
     refine l_opR (R := fun v W => v = .slice (some ⟨gb, 0, none⟩) 1 1 ∧ Below W101.heap.size W101 W ∧ W.heap[gb]? = some (.cells #[.int .i64 p, .int .i64 od, .int .i64 0] 40 (0, 0))) f rfl rfl rfl ⟨_, _, bs_exec f rfl rfl (bs_blk1 _ _ _ _), by rw [hgb], (Below.refl _ _).alloc (Nat.le_refl _) _, by rw [hgb]; show (Array.push _ _)[_]? = _; (rw [Array.getElem?_push, if_pos rfl] <;> rfl)⟩ ?_
     clear f A
     rintro _ W103 ⟨rfl, hb104, rgb⟩ A f
     replace B0 := Below.next B0 hb104; replace rb1 := row_next rb1 hb104; replace rb4 := row_next rb4 hb104; replace rb11 := row_next rb11 hb104; replace rb17 := row_next rb17 hb104; replace rg7 := row_next rg7 hb104; replace rbA := row_next rbA hb104; replace own := owns_below own hb104 (Nat.le_refl _); replace hyA2 := hyA2.below hb104
     have hsb := B0.size
     refine l_opR (R := fun v W => ∃ g9 c9, v = .slice (some ⟨g9, 0, none⟩) (vn + 1) c9 ∧ W.ownsRow w.heap.size 40 3 (.slice (some ⟨g9, 0, none⟩) (vn + 1) c9) (vn + 1) (bvals (aw ++ [⟨p, od, 0⟩])) ∧ ((vo = some ⟨g9, 0, none⟩ ∧ But g9 W103 W) ∨ (g9 = W103.heap.size ∧ Below W103.heap.size W103 W))) f rfl rfl rfl (by obtain ⟨g1, c1, W1, h1, h2, h3⟩ := app_own3 W103 _ _ vo vn vc aw ⟨p, od, 0⟩ gb own (by omega) rgb (by omega); exact ⟨_, W1, append_exec f rfl rfl rfl h1, g1, c1, rfl, h2, h3⟩) ?_
     clear f A
     rintro _ W105 ⟨g9, c9, rfl, own9, hcs⟩ A f
     have k_b11 := row_lt rb11
     have hall : Below w.heap.size w W105 ∧ W105.heap[b1]? = some (.cells #[.slice mo mn mc, .slice ro rn rc, .int .i64 split, .int .i64 least, .int .i64 cpus] 27 (0, 0)) ∧ W105.heap[b4]? = some (.cells #[.slice none 0 0, .slice none 0 0, .int .i64 0, .slice none 0 0, .slice none 0 0] 34 (0, 0)) ∧ W105.heap[b11]? = some (.cells #[.slice y2.zo y2.zn y2.zc, .slice y2.mo y2.mn y2.mc, .int .i64 y2.cpus, .slice y2.lo y2.ln y2.lc, .slice y2.vo y2.vn y2.vc] 34 (0, 0)) ∧ y2.At W105 ∧ Off g9 y2 ∧ b11 < g9 := by
      rcases hcs with ⟨e9, h9⟩ | ⟨e9, h9⟩
      ·have u1 := (owns_blk own _ e9).1; have u2 := hvo _ e9; have u3 := hvs _ e9; dsimp only at u1 u2 u3
       exact ⟨Below.thenBut B0 h9 (by omega), But.row h9 rb1 (by omega), But.row h9 rb4 (by omega), But.row h9 rb11 (by omega), Off.but (hoF g9 u3) hyA2 h9, hoF g9 u3, u2⟩
      exact ⟨Below.next B0 h9, row_next rb1 h9, row_next rb4 h9, row_next rb11 h9, hyA2.below h9, off_old hyA2 hz2 (by omega), by omega⟩
     clear B0 rb1 rb4 rb11 hyA2 own
     obtain ⟨B0, rb1, rb4, rb11, hyA2, ho9, hb9⟩ := hall
     revert A; refine vla (h:=vN (vU (vU (vT (vR (vlm (h:=vlA (h:=vla (h:=vW ?_))))))))); intro A f
     exact ⟨ln - (k + 1), by omega, k + 1, y2, aw ++ [⟨p, od, 0⟩], some ⟨g9, 0, none⟩, vn + 1, c9, rfl, by omega, f.sub ⟨rfl, rfl, rfl, rfl, rfl, rfl, rfl, rfl, rfl, trivial⟩, B0, rb1, rb4, rb11, ⟨hyA2, hP2, hcp2, hft2, hoc2, own9, by rw [hlive2]; exact alloc_perm hI.perm _ _ _ _, fun a ha => by cases ha; exact ho9⟩, hoF _ (by omega), hoF _ (by omega), (fun a ha => by cases ha; exact hb9), fun h => by omega, hRc2⟩
    intro c100; exfalso; omega
   intro c24
   refine vlm (h:=vlO 3 (h:=vlp (h:=vla (h:=vW (vD (h:=vS (vR (vlm (h:=vlb (y_eql rfl rfl rfl) (h:=?_) (g:=?_))))))))))
   ·intro c106
    refine vla (h:=vW (vC (h:=vS (vR (vl5 (rowq rb11) (h:=?_))))))
    have l_b1 := row_lt rb1
    have l_b4 := row_lt rb4
    have l_b11 := row_lt rb11
    have l_b17 := row_lt rb17
    have hvs : ∀ a, vo = some a → a.block < W23.heap.size := fun a ha => (owns_blk hI.own a ha).2.1
    intro A f
    refine l_call f rfl rfl rfl (IsCall.mk' (cap := []) rfl rfl rfl) (pl rfl) (pDrain_fr _ y hI.at_ hI.may hI.may.canBacks.1) ?_
    clear f A
    rintro _ W107 ⟨⟨y2, rfl, e2, hyA2, hoF⟩, hb108⟩
    refine ⟨_, rfl, ?_⟩
    intro A f
    replace B0 := Below.next B0 hb108; replace rb1 := row_next rb1 hb108; replace rb4 := row_next rb4 hb108; replace rb11 := row_next rb11 hb108; replace rb17 := row_next rb17 hb108; replace hI := hI.below hb108
    have own := hI.own
    have hR := drain_may hI.may
    have hRe := emptyH_rest y.hp
    have hlive2 : y2.hp.live = y.hp.live := (congrArg Hp.live e2).trans hRe.2.2.1
    have hP2 : HMay y2.hp := by rw [e2]; exact hR.1
    have hcp2 : y2.hp.cpus = H0.cpus := (congrArg Hp.cpus e2).trans (hRe.2.1.trans hI.cpus)
    have hft2 : SameFT y2.hp H0 := sft_trans (fun i => by rw [e2]; have h := backs_ft i (y.hp.lists.flatMap (·.pages)) y.hp; exact h) hI.ft
    have hoc2 : ∀ q, occ y2.hp q = occ H0 q := fun q => (congrArg (fun G => occ G q) e2).trans ((hR.2 q).trans (hI.occ q))
    have hRc2 : Rch (rawFl l) H0 y2.hp := by rw [e2]; exact hRc.drain hI.may
    revert A; refine vlm (h:=vle (h:=vle (h:=?_))); intro A f
    refine l_as (z := .agg #[.slice none 0 0, .slice none 0 0, .int .i64 0, .slice none 0 0, .slice none 0 0]) f rfl rfl rfl rfl (by kernel_rfl) rfl rfl (fun _ => rfl) (fun _ => rfl) rfl (by intro u hu; simp [Value.cells] at hu; rcases hu with rfl | rfl | rfl | rfl | rfl <;> rfl) ?_; clear f A; intro b109 W110 eb109 hb111 rb109 A f
    dsimp only [Value.cells] at rb109
    have hpb109 := hb111
    have o_b1_b109 : b1 < b109 := by have := row_lt rb1; omega
    have o_b4_b109 : b4 < b109 := by have := row_lt rb4; omega
    have o_b11_b109 : b11 < b109 := by have := row_lt rb11; omega
    have o_b17_b109 : b17 < b109 := by have := row_lt rb17; omega
    have z_B0_b109 := B0.size; rw [eb109] at z_B0_b109
    replace B0 := Below.next B0 hb111; replace rb1 := row_next rb1 hb111; replace rb4 := row_next rb4 hb111; replace rb11 := row_next rb11 hb111; replace rb17 := row_next rb17 hb111; replace own := owns_below own hb111 (Nat.le_refl _); replace hyA2 := hyA2.below hb111
    revert A; refine vla (h:=vW (vS (vS (vR (vlm (h:=vlb (y_neq rfl rfl rfl) (h:=?_) (g:=?_)))))))
    ·intro c112; exfalso; omega
    intro c112
    refine vW (vD (h:=vK (vT (vR (vl5 (rowq rb109) (h:=?_)))))); intro A f
    refine vls f rb11 ?_
    clear rb11; intro W113 hb114 rb11; dsimp only [setL, over, Value.cells] at rb11; replace B0 := Below.thenBut B0 hb114 (by omega); replace rb1 := But.row hb114 rb1 (by omega); replace rb4 := But.row hb114 rb4 (by omega); replace rb17 := But.row hb114 rb17 (by omega); replace rb109 := But.row hb114 rb109 (by omega); replace own := owns_butN own hb114 (fun a ha => by have := hvo a ha; omega); replace hyA2 := Off.but (hoF b11 (by omega)) hyA2 hb114
    revert A; refine vN (vU (vU (vT (vR (vlm (h:=vlA (h:=vla (h:=vW ?_)))))))); intro A f
    exact ⟨ln - (k + 1), by omega, k + 1, y2, aw, vo, vn, vc, rfl, by omega, f.sub ⟨rfl, rfl, rfl, rfl, rfl, rfl, rfl, rfl, rfl, trivial⟩, B0, rb1, rb4, rb11, ⟨hyA2, hP2, hcp2, hft2, hoc2, own, by rw [hlive2]; exact hI.perm, fun a ha => hoF _ (hvs a ha)⟩, hoF _ (by omega), hoF _ (by omega), hvo, fun h => by omega, hRc2⟩
   intro c106
   refine vla (h:=vW (vD (h:=vS (vR ?_))))
   obtain ⟨g7, hg7⟩ : ∃ g, g = W23.heap.size := ⟨_, rfl⟩
   have o_b1_g7 : b1 < g7 := by have := row_lt rb1; omega
   have o_b4_g7 : b4 < g7 := by have := row_lt rb4; omega
   have o_b11_g7 : b11 < g7 := by have := row_lt rb11; omega
   have o_b17_g7 : b17 < g7 := by have := row_lt rb17; omega
   intro A f
   refine l_opR (R := fun v W => v = .slice (some ⟨g7, 0, none⟩) 7 7 ∧ Below W23.heap.size W23 W ∧ W.heap[g7]? = some (.cells #[.int .i64 0, .int .i64 0, .int .i64 0, .int .i64 1, .int .i64 2, .int .i64 3, .int .i64 4] 3 (0, 0))) f rfl rfl rfl ⟨_, _, bs_exec f rfl rfl (bs_int7 _ _ _ _ _ _ _ _), by rw [hg7], (Below.refl _ _).alloc (Nat.le_refl _) _, by rw [hg7]; show (Array.push _ _)[_]? = _; (rw [Array.getElem?_push, if_pos rfl] <;> rfl)⟩ ?_
   clear f A
   rintro _ W115 ⟨rfl, hb116, rg7⟩ A f
   replace B0 := Below.next B0 hb116; replace rb1 := row_next rb1 hb116; replace rb4 := row_next rb4 hb116; replace rb11 := row_next rb11 hb116; replace rb17 := row_next rb17 hb116; replace hI := hI.below hb116
   revert A; refine vlf (h:=vl1 (rowq rb17) (h:=vlc (c_same (picked_fn xa 7 7 rfl wa (by omega) (by omega) _)) (h:=?_))); intro W118 hb117; replace B0 := Below.next B0 hb117; replace rb1 := row_next rb1 hb117; replace rb4 := row_next rb4 hb117; replace rb11 := row_next rb11 hb117; replace rb17 := row_next rb17 hb117; replace rg7 := row_next rg7 hb117; replace hI := hI.below hb117
   have q7 := pickN_lt xa 7 (by omega)
   obtain ⟨od, hod, hco⟩ := row7_at rg7 q7
   replace hco := St.of hco
   refine vlx (h:=vld (y_load1 rfl rfl (ag rfl) (St.q hco (Below.refl _ _))) (h:=vla (h:=vW (vS ?_))))
   have l_b1 := row_lt rb1
   have l_b4 := row_lt rb4
   have l_b11 := row_lt rb11
   have l_b17 := row_lt rb17
   have l_g7 := row_lt rg7
   have hvs : ∀ a, vo = some a → a.block < W118.heap.size := fun a ha => (owns_blk hI.own a ha).2.1
   have hTW := hT.below B0
   have q5 := pickN_lt xc 5 (by omega)
   have hfl := flA_ok q5
   intro A f
   refine x_cut (fun A W => ∃ (v0 v1 v2 v3 v4 : Value) (p er : Int) (b : Nat), Fr A 155 [(0, .slice lo ln lcc), (2, .int .i64 most), (4, .pointer (some ⟨b1, 0, none⟩)), (6, .pointer (some ⟨b4, 0, none⟩)), (10, .int .i64 0), (11, .pointer (some ⟨b11, 0, none⟩)), (12, .int .i64 0), (13, .slice vo vn vc), (14, .int .i64 (k : Nat)), (23, .int .i64 od), (24, .pointer (some ⟨b, 0, none⟩)), (25, .int .i64 p), (26, .int .i64 er)] ∧ Below W118.heap.size W118 W ∧ W.heap[b]? = some (.cells #[v0, v1, v2, v3, v4] 34 (0, 0)) ∧ W118.heap.size ≤ b ∧ AllocD y ((pickN xb cn : Nat) : Int) od (flA (pickN xc 5)) W118.heap.size W v0 v1 v2 v3 v4 p er) ?_ ?_
   ·skip
    refine a_start (ClB W118) (by kernel_rfl) rfl ?_
    generalize hWd : ({ W118 with drawn := W118.drawn + 1 } : World) = Wd
    have hS := drawn_b hWd
    clear hWd
    refine a_do 0 f rfl (by kernel_rfl) blind_cut hS rfl rfl rfl (y_loadN (vs := [_, _, _, _, _]) rfl rfl (ag rfl) rfl (rowls (rowq rb11) _ _ ⟨rfl, rfl, rfl, rfl, rfl, trivial⟩)) ?_; clear f A; intro A f
    refine a_do 1 f rfl (by kernel_rfl) blind_cut hS rfl rfl rfl (y_move rfl rfl) ?_; clear f A; intro A f
    refine a_do 2 f rfl (by kernel_rfl) blind_cut hS rfl rfl rfl (y_move rfl rfl) ?_; clear f A; intro A f
    refine a_do 4 f rfl (by kernel_rfl) blind_cut hS rfl rfl rfl (y_field rfl rfl (fo rfl)) ?_; clear f A; intro A f
    refine a_do 5 f rfl (by kernel_rfl) blind_cut hS rfl rfl rfl (y_load1 rfl rfl (ag rfl) (rowl (rowq rb17) rfl)) ?_; clear f A; intro A f
    refine a_three 3 6 14 rfl rfl rfl (by kernel_rfl) rfl rfl rfl ?_ ?_ ?_
    ·skip
     obtain ⟨g5, hg5⟩ : ∃ g, g = Wd.heap.size := ⟨_, rfl⟩
     refine g_opR (R := fun v W => v = .slice (some ⟨g5, 0, none⟩) 5 5 ∧ Below Wd.heap.size Wd W ∧ W.heap[g5]? = some (.cells #[.int .i64 0, .int .i64 2, .int .i64 4, .int .i64 1, .int .i64 8] 3 (0, 0))) ⟨_, _, bs_exec f rfl rfl (bs_int5 _ _ _ _ _ _), by rw [hg5], (Below.refl _ _).alloc (Nat.le_refl _) _, by rw [hg5]; show (Array.push _ _)[_]? = _; (rw [Array.getElem?_push, if_pos rfl] <;> rfl)⟩ ?_
     rintro _ We119 ⟨rfl, hbe120, rg5⟩
     refine ⟨Below.next hS hbe120, a_put f rfl rfl ?_⟩; clear f A; intro A f
     replace hS := Below.next hS hbe120
     refine a_two 6 14 rfl rfl (by kernel_rfl) rfl rfl ?_ ?_
     ·skip
      refine g_call f (IsCall.mk' (cap := []) rfl rfl rfl) (pl rfl) (c_same (picked_fn xc 5 5 rfl wc (by omega) (by omega) _)) ?_
      rintro _ We121 ⟨rfl, hbe122⟩
      refine ⟨_, rfl, Below.next hS hbe122, a_put f rfl rfl ?_⟩; clear f A; intro A f
      replace hS := Below.next hS hbe122
      replace rg5 := row_next rg5 hbe122
      refine a_do 7 f rfl (by kernel_rfl) blind_cut hS rfl rfl rfl (y_index rfl rfl (by first | rfl | assumption) rfl (es rfl) (by omega)) ?_; clear f A; intro A f
      refine a_two 8 14 rfl rfl (by kernel_rfl) rfl rfl ?_ ?_
      ·skip
       refine g_val f (y_load1 rfl rfl (ag rfl) (St.q (St.of (row5_at rg5 q5)) (Below.refl _ _))) ?_
       refine ⟨hS, a_put f rfl rfl ?_⟩; clear f A; intro A f
       refine a_two 9 14 rfl rfl (by kernel_rfl) rfl rfl ?_ ?_
       ·skip
        have hsz9 := hS.size
        refine g_call f (IsCall.mk' (cap := []) rfl rfl rfl) (pl rfl) (pAlloc_un _ y ((pickN xb cn : Nat) : Int) od (flA (pickN xc 5)) (hI.at_.below hS) hI.may (hTW.below hS) hcp hod hfl.2.1 hfl.2.2 hfl.1) ?_
        rintro _ We123 ⟨⟨v0, v1, v2, v3, v4, p, er, rfl, o0, o1, o2, o3, o4, hAD⟩, hbe124⟩
        refine ⟨_, rfl, Below.next hS hbe124, a_put f rfl rfl ?_⟩; clear f A; intro A f
        replace hS := Below.next hS hbe124
        replace rg5 := row_next rg5 hbe124
        refine a_do 10 f rfl (by kernel_rfl) blind_cut hS rfl rfl rfl (y_move rfl rfl) ?_; clear f A; intro A f
        refine a_do 11 f rfl (by kernel_rfl) blind_cut hS rfl rfl rfl (y_ext rfl rfl rfl) ?_; clear f A; intro A f
        refine a_do 12 f rfl (by kernel_rfl) blind_cut hS rfl rfl rfl (y_ext rfl rfl rfl) ?_; clear f A; intro A f
        refine a_do 13 f rfl (by kernel_rfl) blind_cut hS rfl rfl rfl (y_ext rfl rfl rfl) ?_; clear f A; intro A f
        refine a_one 14 rfl (by kernel_rfl) rfl ?_
        have hsa := hS.size
        refine g_alloc (z := .agg #[.slice none 0 0, .slice none 0 0, .int .i64 0, .slice none 0 0, .slice none 0 0]) rfl (by kernel_rfl) ?_
        intro bA We125 ebA hbe126 rbA
        dsimp only [Value.cells] at rbA
        refine ⟨Below.next hS hbe126, a_put f rfl rfl ?_⟩; clear f A; intro A f
        have hbA0 : W118.heap.size ≤ bA := by omega
        have hbA1 := hbe126
        replace hS := Below.next hS hbe126
        replace rg5 := row_next rg5 hbe126
        refine a_one 15 rfl (by kernel_rfl) rfl ?_
        refine g_store f rfl rfl rfl rfl rbA (sz rfl) rfl (Nat.le_of_ble_eq_true rfl) (by show ([v0, v1, v2, v3, v4].all (·.oneCell')) = true; simp only [List.all_cons, List.all_nil, o0, o1, o2, o3, o4, Bool.and_self]) ?_
        clear rbA; intro Wh hbh rbA; dsimp only [setL, over, Value.cells] at rbA
        refine ⟨Below.thenBut hS hbh hbA0, ?_⟩
        replace hS := Below.thenBut hS hbh hbA0
        replace hAD := hAD.below (Below.thenBut hbA1 hbh (by omega))
        refine a_do 16 f rfl (by kernel_rfl) blind_cut hS rfl rfl rfl (y_assign rfl rfl) ?_; clear f A; intro A f
        refine a_do 17 f rfl (by kernel_rfl) blind_cut hS rfl rfl rfl (y_assign rfl rfl) ?_; clear f A; intro A f
        refine a_end (by kernel_rfl) ?_
        exact ⟨rfl, v0, v1, v2, v3, v4, p, er, bA, f.sub ⟨rfl, rfl, rfl, rfl, rfl, rfl, rfl, rfl, rfl, rfl, rfl, rfl, rfl, trivial⟩, hS, rbA, hbA0, hAD.less (by omega)⟩
       skip
       have hsa := hS.size
       refine g_alloc (z := .agg #[.slice none 0 0, .slice none 0 0, .int .i64 0, .slice none 0 0, .slice none 0 0]) rfl (by kernel_rfl) ?_
       intro bA We127 ebA hbe128 rbA
       dsimp only [Value.cells] at rbA
       refine ⟨Below.next hS hbe128, a_put f rfl rfl ?_⟩; clear f A; intro A f
       have hbA0 : W118.heap.size ≤ bA := by omega
       replace hS := Below.next hS hbe128
       replace rg5 := row_next rg5 hbe128
       refine a_one 9 rfl (by kernel_rfl) rfl ?_
       have lrb := row_lt rbA
       have hsz9 := hS.size
       refine g_call f (IsCall.mk' (cap := []) rfl rfl rfl) (pl rfl) (pAlloc_un _ y ((pickN xb cn : Nat) : Int) od (flA (pickN xc 5)) (hI.at_.below hS) hI.may (hTW.below hS) hcp hod hfl.2.1 hfl.2.2 hfl.1) ?_
       rintro _ We129 ⟨⟨v0, v1, v2, v3, v4, p, er, rfl, o0, o1, o2, o3, o4, hAD⟩, hbe130⟩
       refine ⟨_, rfl, Below.next hS hbe130, a_put f rfl rfl ?_⟩; clear f A; intro A f
       replace hS := Below.next hS hbe130
       replace rg5 := row_next rg5 hbe130
       replace rbA := row_next rbA hbe130
       refine a_do 10 f rfl (by kernel_rfl) blind_cut hS rfl rfl rfl (y_move rfl rfl) ?_; clear f A; intro A f
       refine a_do 11 f rfl (by kernel_rfl) blind_cut hS rfl rfl rfl (y_ext rfl rfl rfl) ?_; clear f A; intro A f
       refine a_do 12 f rfl (by kernel_rfl) blind_cut hS rfl rfl rfl (y_ext rfl rfl rfl) ?_; clear f A; intro A f
       refine a_do 13 f rfl (by kernel_rfl) blind_cut hS rfl rfl rfl (y_ext rfl rfl rfl) ?_; clear f A; intro A f
       refine a_one 15 rfl (by kernel_rfl) rfl ?_
       refine g_store f rfl rfl rfl rfl rbA (sz rfl) rfl (Nat.le_of_ble_eq_true rfl) (by show ([v0, v1, v2, v3, v4].all (·.oneCell')) = true; simp only [List.all_cons, List.all_nil, o0, o1, o2, o3, o4, Bool.and_self]) ?_
       clear rbA; intro Wh hbh rbA; dsimp only [setL, over, Value.cells] at rbA
       refine ⟨Below.thenBut hS hbh hbA0, ?_⟩
       replace hS := Below.thenBut hS hbh hbA0
       replace hAD := hAD.but hbh (by omega)
       refine a_do 16 f rfl (by kernel_rfl) blind_cut hS rfl rfl rfl (y_assign rfl rfl) ?_; clear f A; intro A f
       refine a_do 17 f rfl (by kernel_rfl) blind_cut hS rfl rfl rfl (y_assign rfl rfl) ?_; clear f A; intro A f
       refine a_end (by kernel_rfl) ?_
       exact ⟨rfl, v0, v1, v2, v3, v4, p, er, bA, f.sub ⟨rfl, rfl, rfl, rfl, rfl, rfl, rfl, rfl, rfl, rfl, rfl, rfl, rfl, trivial⟩, hS, rbA, hbA0, hAD.less (by omega)⟩
      skip
      have hsa := hS.size
      refine g_alloc (z := .agg #[.slice none 0 0, .slice none 0 0, .int .i64 0, .slice none 0 0, .slice none 0 0]) rfl (by kernel_rfl) ?_
      intro bA We131 ebA hbe132 rbA
      dsimp only [Value.cells] at rbA
      refine ⟨Below.next hS hbe132, a_put f rfl rfl ?_⟩; clear f A; intro A f
      have hbA0 : W118.heap.size ≤ bA := by omega
      replace hS := Below.next hS hbe132
      replace rg5 := row_next rg5 hbe132
      refine a_one 8 rfl (by kernel_rfl) rfl ?_
      refine g_val f (y_load1 rfl rfl (ag rfl) (St.q (St.of (row5_at rg5 q5)) (Below.refl _ _))) ?_
      refine ⟨hS, a_put f rfl rfl ?_⟩; clear f A; intro A f
      refine a_one 9 rfl (by kernel_rfl) rfl ?_
      have lrb := row_lt rbA
      have hsz9 := hS.size
      refine g_call f (IsCall.mk' (cap := []) rfl rfl rfl) (pl rfl) (pAlloc_un _ y ((pickN xb cn : Nat) : Int) od (flA (pickN xc 5)) (hI.at_.below hS) hI.may (hTW.below hS) hcp hod hfl.2.1 hfl.2.2 hfl.1) ?_
      rintro _ We133 ⟨⟨v0, v1, v2, v3, v4, p, er, rfl, o0, o1, o2, o3, o4, hAD⟩, hbe134⟩
      refine ⟨_, rfl, Below.next hS hbe134, a_put f rfl rfl ?_⟩; clear f A; intro A f
      replace hS := Below.next hS hbe134
      replace rg5 := row_next rg5 hbe134
      replace rbA := row_next rbA hbe134
      refine a_do 10 f rfl (by kernel_rfl) blind_cut hS rfl rfl rfl (y_move rfl rfl) ?_; clear f A; intro A f
      refine a_do 11 f rfl (by kernel_rfl) blind_cut hS rfl rfl rfl (y_ext rfl rfl rfl) ?_; clear f A; intro A f
      refine a_do 12 f rfl (by kernel_rfl) blind_cut hS rfl rfl rfl (y_ext rfl rfl rfl) ?_; clear f A; intro A f
      refine a_do 13 f rfl (by kernel_rfl) blind_cut hS rfl rfl rfl (y_ext rfl rfl rfl) ?_; clear f A; intro A f
      refine a_one 15 rfl (by kernel_rfl) rfl ?_
      refine g_store f rfl rfl rfl rfl rbA (sz rfl) rfl (Nat.le_of_ble_eq_true rfl) (by show ([v0, v1, v2, v3, v4].all (·.oneCell')) = true; simp only [List.all_cons, List.all_nil, o0, o1, o2, o3, o4, Bool.and_self]) ?_
      clear rbA; intro Wh hbh rbA; dsimp only [setL, over, Value.cells] at rbA
      refine ⟨Below.thenBut hS hbh hbA0, ?_⟩
      replace hS := Below.thenBut hS hbh hbA0
      replace hAD := hAD.but hbh (by omega)
      refine a_do 16 f rfl (by kernel_rfl) blind_cut hS rfl rfl rfl (y_assign rfl rfl) ?_; clear f A; intro A f
      refine a_do 17 f rfl (by kernel_rfl) blind_cut hS rfl rfl rfl (y_assign rfl rfl) ?_; clear f A; intro A f
      refine a_end (by kernel_rfl) ?_
      exact ⟨rfl, v0, v1, v2, v3, v4, p, er, bA, f.sub ⟨rfl, rfl, rfl, rfl, rfl, rfl, rfl, rfl, rfl, rfl, rfl, rfl, rfl, trivial⟩, hS, rbA, hbA0, hAD.less (by omega)⟩
     skip
     have hsa := hS.size
     refine g_alloc (z := .agg #[.slice none 0 0, .slice none 0 0, .int .i64 0, .slice none 0 0, .slice none 0 0]) rfl (by kernel_rfl) ?_
     intro bA We135 ebA hbe136 rbA
     dsimp only [Value.cells] at rbA
     refine ⟨Below.next hS hbe136, a_put f rfl rfl ?_⟩; clear f A; intro A f
     have hbA0 : W118.heap.size ≤ bA := by omega
     replace hS := Below.next hS hbe136
     replace rg5 := row_next rg5 hbe136
     refine a_one 6 rfl (by kernel_rfl) rfl ?_
     refine g_call f (IsCall.mk' (cap := []) rfl rfl rfl) (pl rfl) (c_same (picked_fn xc 5 5 rfl wc (by omega) (by omega) _)) ?_
     rintro _ We137 ⟨rfl, hbe138⟩
     refine ⟨_, rfl, Below.next hS hbe138, a_put f rfl rfl ?_⟩; clear f A; intro A f
     replace hS := Below.next hS hbe138
     replace rg5 := row_next rg5 hbe138
     replace rbA := row_next rbA hbe138
     refine a_do 7 f rfl (by kernel_rfl) blind_cut hS rfl rfl rfl (y_index rfl rfl (by first | rfl | assumption) rfl (es rfl) (by omega)) ?_; clear f A; intro A f
     refine a_one 8 rfl (by kernel_rfl) rfl ?_
     refine g_val f (y_load1 rfl rfl (ag rfl) (St.q (St.of (row5_at rg5 q5)) (Below.refl _ _))) ?_
     refine ⟨hS, a_put f rfl rfl ?_⟩; clear f A; intro A f
     refine a_one 9 rfl (by kernel_rfl) rfl ?_
     have lrb := row_lt rbA
     have hsz9 := hS.size
     refine g_call f (IsCall.mk' (cap := []) rfl rfl rfl) (pl rfl) (pAlloc_un _ y ((pickN xb cn : Nat) : Int) od (flA (pickN xc 5)) (hI.at_.below hS) hI.may (hTW.below hS) hcp hod hfl.2.1 hfl.2.2 hfl.1) ?_
     rintro _ We139 ⟨⟨v0, v1, v2, v3, v4, p, er, rfl, o0, o1, o2, o3, o4, hAD⟩, hbe140⟩
     refine ⟨_, rfl, Below.next hS hbe140, a_put f rfl rfl ?_⟩; clear f A; intro A f
     replace hS := Below.next hS hbe140
     replace rg5 := row_next rg5 hbe140
     replace rbA := row_next rbA hbe140
     refine a_do 10 f rfl (by kernel_rfl) blind_cut hS rfl rfl rfl (y_move rfl rfl) ?_; clear f A; intro A f
     refine a_do 11 f rfl (by kernel_rfl) blind_cut hS rfl rfl rfl (y_ext rfl rfl rfl) ?_; clear f A; intro A f
     refine a_do 12 f rfl (by kernel_rfl) blind_cut hS rfl rfl rfl (y_ext rfl rfl rfl) ?_; clear f A; intro A f
     refine a_do 13 f rfl (by kernel_rfl) blind_cut hS rfl rfl rfl (y_ext rfl rfl rfl) ?_; clear f A; intro A f
     refine a_one 15 rfl (by kernel_rfl) rfl ?_
     refine g_store f rfl rfl rfl rfl rbA (sz rfl) rfl (Nat.le_of_ble_eq_true rfl) (by show ([v0, v1, v2, v3, v4].all (·.oneCell')) = true; simp only [List.all_cons, List.all_nil, o0, o1, o2, o3, o4, Bool.and_self]) ?_
     clear rbA; intro Wh hbh rbA; dsimp only [setL, over, Value.cells] at rbA
     refine ⟨Below.thenBut hS hbh hbA0, ?_⟩
     replace hS := Below.thenBut hS hbh hbA0
     replace hAD := hAD.but hbh (by omega)
     refine a_do 16 f rfl (by kernel_rfl) blind_cut hS rfl rfl rfl (y_assign rfl rfl) ?_; clear f A; intro A f
     refine a_do 17 f rfl (by kernel_rfl) blind_cut hS rfl rfl rfl (y_assign rfl rfl) ?_; clear f A; intro A f
     refine a_end (by kernel_rfl) ?_
     exact ⟨rfl, v0, v1, v2, v3, v4, p, er, bA, f.sub ⟨rfl, rfl, rfl, rfl, rfl, rfl, rfl, rfl, rfl, rfl, rfl, rfl, rfl, trivial⟩, hS, rbA, hbA0, hAD.less (by omega)⟩
    ·skip
     refine g_call f (IsCall.mk' (cap := []) rfl rfl rfl) (pl rfl) (c_same (picked_fn xc 5 5 rfl wc (by omega) (by omega) _)) ?_
     rintro _ We141 ⟨rfl, hbe142⟩
     refine ⟨_, rfl, Below.next hS hbe142, a_put f rfl rfl ?_⟩; clear f A; intro A f
     replace hS := Below.next hS hbe142
     refine a_two 3 14 rfl rfl (by kernel_rfl) rfl rfl ?_ ?_
     ·skip
      obtain ⟨g5, hg5⟩ : ∃ g, g = We141.heap.size := ⟨_, rfl⟩
      refine g_opR (R := fun v W => v = .slice (some ⟨g5, 0, none⟩) 5 5 ∧ Below We141.heap.size We141 W ∧ W.heap[g5]? = some (.cells #[.int .i64 0, .int .i64 2, .int .i64 4, .int .i64 1, .int .i64 8] 3 (0, 0))) ⟨_, _, bs_exec f rfl rfl (bs_int5 _ _ _ _ _ _), by rw [hg5], (Below.refl _ _).alloc (Nat.le_refl _) _, by rw [hg5]; show (Array.push _ _)[_]? = _; (rw [Array.getElem?_push, if_pos rfl] <;> rfl)⟩ ?_
      rintro _ We143 ⟨rfl, hbe144, rg5⟩
      refine ⟨Below.next hS hbe144, a_put f rfl rfl ?_⟩; clear f A; intro A f
      replace hS := Below.next hS hbe144
      refine a_do 7 f rfl (by kernel_rfl) blind_cut hS rfl rfl rfl (y_index rfl rfl (by first | rfl | assumption) rfl (es rfl) (by omega)) ?_; clear f A; intro A f
      refine a_two 8 14 rfl rfl (by kernel_rfl) rfl rfl ?_ ?_
      ·skip
       refine g_val f (y_load1 rfl rfl (ag rfl) (St.q (St.of (row5_at rg5 q5)) (Below.refl _ _))) ?_
       refine ⟨hS, a_put f rfl rfl ?_⟩; clear f A; intro A f
       refine a_two 9 14 rfl rfl (by kernel_rfl) rfl rfl ?_ ?_
       ·skip
        have hsz9 := hS.size
        refine g_call f (IsCall.mk' (cap := []) rfl rfl rfl) (pl rfl) (pAlloc_un _ y ((pickN xb cn : Nat) : Int) od (flA (pickN xc 5)) (hI.at_.below hS) hI.may (hTW.below hS) hcp hod hfl.2.1 hfl.2.2 hfl.1) ?_
        rintro _ We145 ⟨⟨v0, v1, v2, v3, v4, p, er, rfl, o0, o1, o2, o3, o4, hAD⟩, hbe146⟩
        refine ⟨_, rfl, Below.next hS hbe146, a_put f rfl rfl ?_⟩; clear f A; intro A f
        replace hS := Below.next hS hbe146
        replace rg5 := row_next rg5 hbe146
        refine a_do 10 f rfl (by kernel_rfl) blind_cut hS rfl rfl rfl (y_move rfl rfl) ?_; clear f A; intro A f
        refine a_do 11 f rfl (by kernel_rfl) blind_cut hS rfl rfl rfl (y_ext rfl rfl rfl) ?_; clear f A; intro A f
        refine a_do 12 f rfl (by kernel_rfl) blind_cut hS rfl rfl rfl (y_ext rfl rfl rfl) ?_; clear f A; intro A f
        refine a_do 13 f rfl (by kernel_rfl) blind_cut hS rfl rfl rfl (y_ext rfl rfl rfl) ?_; clear f A; intro A f
        refine a_one 14 rfl (by kernel_rfl) rfl ?_
        have hsa := hS.size
        refine g_alloc (z := .agg #[.slice none 0 0, .slice none 0 0, .int .i64 0, .slice none 0 0, .slice none 0 0]) rfl (by kernel_rfl) ?_
        intro bA We147 ebA hbe148 rbA
        dsimp only [Value.cells] at rbA
        refine ⟨Below.next hS hbe148, a_put f rfl rfl ?_⟩; clear f A; intro A f
        have hbA0 : W118.heap.size ≤ bA := by omega
        have hbA1 := hbe148
        replace hS := Below.next hS hbe148
        replace rg5 := row_next rg5 hbe148
        refine a_one 15 rfl (by kernel_rfl) rfl ?_
        refine g_store f rfl rfl rfl rfl rbA (sz rfl) rfl (Nat.le_of_ble_eq_true rfl) (by show ([v0, v1, v2, v3, v4].all (·.oneCell')) = true; simp only [List.all_cons, List.all_nil, o0, o1, o2, o3, o4, Bool.and_self]) ?_
        clear rbA; intro Wh hbh rbA; dsimp only [setL, over, Value.cells] at rbA
        refine ⟨Below.thenBut hS hbh hbA0, ?_⟩
        replace hS := Below.thenBut hS hbh hbA0
        replace hAD := hAD.below (Below.thenBut hbA1 hbh (by omega))
        refine a_do 16 f rfl (by kernel_rfl) blind_cut hS rfl rfl rfl (y_assign rfl rfl) ?_; clear f A; intro A f
        refine a_do 17 f rfl (by kernel_rfl) blind_cut hS rfl rfl rfl (y_assign rfl rfl) ?_; clear f A; intro A f
        refine a_end (by kernel_rfl) ?_
        exact ⟨rfl, v0, v1, v2, v3, v4, p, er, bA, f.sub ⟨rfl, rfl, rfl, rfl, rfl, rfl, rfl, rfl, rfl, rfl, rfl, rfl, rfl, trivial⟩, hS, rbA, hbA0, hAD.less (by omega)⟩
       skip
       have hsa := hS.size
       refine g_alloc (z := .agg #[.slice none 0 0, .slice none 0 0, .int .i64 0, .slice none 0 0, .slice none 0 0]) rfl (by kernel_rfl) ?_
       intro bA We149 ebA hbe150 rbA
       dsimp only [Value.cells] at rbA
       refine ⟨Below.next hS hbe150, a_put f rfl rfl ?_⟩; clear f A; intro A f
       have hbA0 : W118.heap.size ≤ bA := by omega
       replace hS := Below.next hS hbe150
       replace rg5 := row_next rg5 hbe150
       refine a_one 9 rfl (by kernel_rfl) rfl ?_
       have lrb := row_lt rbA
       have hsz9 := hS.size
       refine g_call f (IsCall.mk' (cap := []) rfl rfl rfl) (pl rfl) (pAlloc_un _ y ((pickN xb cn : Nat) : Int) od (flA (pickN xc 5)) (hI.at_.below hS) hI.may (hTW.below hS) hcp hod hfl.2.1 hfl.2.2 hfl.1) ?_
       rintro _ We151 ⟨⟨v0, v1, v2, v3, v4, p, er, rfl, o0, o1, o2, o3, o4, hAD⟩, hbe152⟩
       refine ⟨_, rfl, Below.next hS hbe152, a_put f rfl rfl ?_⟩; clear f A; intro A f
       replace hS := Below.next hS hbe152
       replace rg5 := row_next rg5 hbe152
       replace rbA := row_next rbA hbe152
       refine a_do 10 f rfl (by kernel_rfl) blind_cut hS rfl rfl rfl (y_move rfl rfl) ?_; clear f A; intro A f
       refine a_do 11 f rfl (by kernel_rfl) blind_cut hS rfl rfl rfl (y_ext rfl rfl rfl) ?_; clear f A; intro A f
       refine a_do 12 f rfl (by kernel_rfl) blind_cut hS rfl rfl rfl (y_ext rfl rfl rfl) ?_; clear f A; intro A f
       refine a_do 13 f rfl (by kernel_rfl) blind_cut hS rfl rfl rfl (y_ext rfl rfl rfl) ?_; clear f A; intro A f
       refine a_one 15 rfl (by kernel_rfl) rfl ?_
       refine g_store f rfl rfl rfl rfl rbA (sz rfl) rfl (Nat.le_of_ble_eq_true rfl) (by show ([v0, v1, v2, v3, v4].all (·.oneCell')) = true; simp only [List.all_cons, List.all_nil, o0, o1, o2, o3, o4, Bool.and_self]) ?_
       clear rbA; intro Wh hbh rbA; dsimp only [setL, over, Value.cells] at rbA
       refine ⟨Below.thenBut hS hbh hbA0, ?_⟩
       replace hS := Below.thenBut hS hbh hbA0
       replace hAD := hAD.but hbh (by omega)
       refine a_do 16 f rfl (by kernel_rfl) blind_cut hS rfl rfl rfl (y_assign rfl rfl) ?_; clear f A; intro A f
       refine a_do 17 f rfl (by kernel_rfl) blind_cut hS rfl rfl rfl (y_assign rfl rfl) ?_; clear f A; intro A f
       refine a_end (by kernel_rfl) ?_
       exact ⟨rfl, v0, v1, v2, v3, v4, p, er, bA, f.sub ⟨rfl, rfl, rfl, rfl, rfl, rfl, rfl, rfl, rfl, rfl, rfl, rfl, rfl, trivial⟩, hS, rbA, hbA0, hAD.less (by omega)⟩
      skip
      have hsa := hS.size
      refine g_alloc (z := .agg #[.slice none 0 0, .slice none 0 0, .int .i64 0, .slice none 0 0, .slice none 0 0]) rfl (by kernel_rfl) ?_
      intro bA We153 ebA hbe154 rbA
      dsimp only [Value.cells] at rbA
      refine ⟨Below.next hS hbe154, a_put f rfl rfl ?_⟩; clear f A; intro A f
      have hbA0 : W118.heap.size ≤ bA := by omega
      replace hS := Below.next hS hbe154
      replace rg5 := row_next rg5 hbe154
      refine a_one 8 rfl (by kernel_rfl) rfl ?_
      refine g_val f (y_load1 rfl rfl (ag rfl) (St.q (St.of (row5_at rg5 q5)) (Below.refl _ _))) ?_
      refine ⟨hS, a_put f rfl rfl ?_⟩; clear f A; intro A f
      refine a_one 9 rfl (by kernel_rfl) rfl ?_
      have lrb := row_lt rbA
      have hsz9 := hS.size
      refine g_call f (IsCall.mk' (cap := []) rfl rfl rfl) (pl rfl) (pAlloc_un _ y ((pickN xb cn : Nat) : Int) od (flA (pickN xc 5)) (hI.at_.below hS) hI.may (hTW.below hS) hcp hod hfl.2.1 hfl.2.2 hfl.1) ?_
      rintro _ We155 ⟨⟨v0, v1, v2, v3, v4, p, er, rfl, o0, o1, o2, o3, o4, hAD⟩, hbe156⟩
      refine ⟨_, rfl, Below.next hS hbe156, a_put f rfl rfl ?_⟩; clear f A; intro A f
      replace hS := Below.next hS hbe156
      replace rg5 := row_next rg5 hbe156
      replace rbA := row_next rbA hbe156
      refine a_do 10 f rfl (by kernel_rfl) blind_cut hS rfl rfl rfl (y_move rfl rfl) ?_; clear f A; intro A f
      refine a_do 11 f rfl (by kernel_rfl) blind_cut hS rfl rfl rfl (y_ext rfl rfl rfl) ?_; clear f A; intro A f
      refine a_do 12 f rfl (by kernel_rfl) blind_cut hS rfl rfl rfl (y_ext rfl rfl rfl) ?_; clear f A; intro A f
      refine a_do 13 f rfl (by kernel_rfl) blind_cut hS rfl rfl rfl (y_ext rfl rfl rfl) ?_; clear f A; intro A f
      refine a_one 15 rfl (by kernel_rfl) rfl ?_
      refine g_store f rfl rfl rfl rfl rbA (sz rfl) rfl (Nat.le_of_ble_eq_true rfl) (by show ([v0, v1, v2, v3, v4].all (·.oneCell')) = true; simp only [List.all_cons, List.all_nil, o0, o1, o2, o3, o4, Bool.and_self]) ?_
      clear rbA; intro Wh hbh rbA; dsimp only [setL, over, Value.cells] at rbA
      refine ⟨Below.thenBut hS hbh hbA0, ?_⟩
      replace hS := Below.thenBut hS hbh hbA0
      replace hAD := hAD.but hbh (by omega)
      refine a_do 16 f rfl (by kernel_rfl) blind_cut hS rfl rfl rfl (y_assign rfl rfl) ?_; clear f A; intro A f
      refine a_do 17 f rfl (by kernel_rfl) blind_cut hS rfl rfl rfl (y_assign rfl rfl) ?_; clear f A; intro A f
      refine a_end (by kernel_rfl) ?_
      exact ⟨rfl, v0, v1, v2, v3, v4, p, er, bA, f.sub ⟨rfl, rfl, rfl, rfl, rfl, rfl, rfl, rfl, rfl, rfl, rfl, rfl, rfl, trivial⟩, hS, rbA, hbA0, hAD.less (by omega)⟩
     skip
     have hsa := hS.size
     refine g_alloc (z := .agg #[.slice none 0 0, .slice none 0 0, .int .i64 0, .slice none 0 0, .slice none 0 0]) rfl (by kernel_rfl) ?_
     intro bA We157 ebA hbe158 rbA
     dsimp only [Value.cells] at rbA
     refine ⟨Below.next hS hbe158, a_put f rfl rfl ?_⟩; clear f A; intro A f
     have hbA0 : W118.heap.size ≤ bA := by omega
     replace hS := Below.next hS hbe158
     refine a_one 3 rfl (by kernel_rfl) rfl ?_
     obtain ⟨g5, hg5⟩ : ∃ g, g = We157.heap.size := ⟨_, rfl⟩
     refine g_opR (R := fun v W => v = .slice (some ⟨g5, 0, none⟩) 5 5 ∧ Below We157.heap.size We157 W ∧ W.heap[g5]? = some (.cells #[.int .i64 0, .int .i64 2, .int .i64 4, .int .i64 1, .int .i64 8] 3 (0, 0))) ⟨_, _, bs_exec f rfl rfl (bs_int5 _ _ _ _ _ _), by rw [hg5], (Below.refl _ _).alloc (Nat.le_refl _) _, by rw [hg5]; show (Array.push _ _)[_]? = _; (rw [Array.getElem?_push, if_pos rfl] <;> rfl)⟩ ?_
     rintro _ We159 ⟨rfl, hbe160, rg5⟩
     refine ⟨Below.next hS hbe160, a_put f rfl rfl ?_⟩; clear f A; intro A f
     replace hS := Below.next hS hbe160
     replace rbA := row_next rbA hbe160
     refine a_do 7 f rfl (by kernel_rfl) blind_cut hS rfl rfl rfl (y_index rfl rfl (by first | rfl | assumption) rfl (es rfl) (by omega)) ?_; clear f A; intro A f
     refine a_one 8 rfl (by kernel_rfl) rfl ?_
     refine g_val f (y_load1 rfl rfl (ag rfl) (St.q (St.of (row5_at rg5 q5)) (Below.refl _ _))) ?_
     refine ⟨hS, a_put f rfl rfl ?_⟩; clear f A; intro A f
     refine a_one 9 rfl (by kernel_rfl) rfl ?_
     have lrb := row_lt rbA
     have hsz9 := hS.size
     refine g_call f (IsCall.mk' (cap := []) rfl rfl rfl) (pl rfl) (pAlloc_un _ y ((pickN xb cn : Nat) : Int) od (flA (pickN xc 5)) (hI.at_.below hS) hI.may (hTW.below hS) hcp hod hfl.2.1 hfl.2.2 hfl.1) ?_
     rintro _ We161 ⟨⟨v0, v1, v2, v3, v4, p, er, rfl, o0, o1, o2, o3, o4, hAD⟩, hbe162⟩
     refine ⟨_, rfl, Below.next hS hbe162, a_put f rfl rfl ?_⟩; clear f A; intro A f
     replace hS := Below.next hS hbe162
     replace rg5 := row_next rg5 hbe162
     replace rbA := row_next rbA hbe162
     refine a_do 10 f rfl (by kernel_rfl) blind_cut hS rfl rfl rfl (y_move rfl rfl) ?_; clear f A; intro A f
     refine a_do 11 f rfl (by kernel_rfl) blind_cut hS rfl rfl rfl (y_ext rfl rfl rfl) ?_; clear f A; intro A f
     refine a_do 12 f rfl (by kernel_rfl) blind_cut hS rfl rfl rfl (y_ext rfl rfl rfl) ?_; clear f A; intro A f
     refine a_do 13 f rfl (by kernel_rfl) blind_cut hS rfl rfl rfl (y_ext rfl rfl rfl) ?_; clear f A; intro A f
     refine a_one 15 rfl (by kernel_rfl) rfl ?_
     refine g_store f rfl rfl rfl rfl rbA (sz rfl) rfl (Nat.le_of_ble_eq_true rfl) (by show ([v0, v1, v2, v3, v4].all (·.oneCell')) = true; simp only [List.all_cons, List.all_nil, o0, o1, o2, o3, o4, Bool.and_self]) ?_
     clear rbA; intro Wh hbh rbA; dsimp only [setL, over, Value.cells] at rbA
     refine ⟨Below.thenBut hS hbh hbA0, ?_⟩
     replace hS := Below.thenBut hS hbh hbA0
     replace hAD := hAD.but hbh (by omega)
     refine a_do 16 f rfl (by kernel_rfl) blind_cut hS rfl rfl rfl (y_assign rfl rfl) ?_; clear f A; intro A f
     refine a_do 17 f rfl (by kernel_rfl) blind_cut hS rfl rfl rfl (y_assign rfl rfl) ?_; clear f A; intro A f
     refine a_end (by kernel_rfl) ?_
     exact ⟨rfl, v0, v1, v2, v3, v4, p, er, bA, f.sub ⟨rfl, rfl, rfl, rfl, rfl, rfl, rfl, rfl, rfl, rfl, rfl, rfl, rfl, trivial⟩, hS, rbA, hbA0, hAD.less (by omega)⟩
    skip
    have hsa := hS.size
    refine g_alloc (z := .agg #[.slice none 0 0, .slice none 0 0, .int .i64 0, .slice none 0 0, .slice none 0 0]) rfl (by kernel_rfl) ?_
    intro bA We163 ebA hbe164 rbA
    dsimp only [Value.cells] at rbA
    refine ⟨Below.next hS hbe164, a_put f rfl rfl ?_⟩; clear f A; intro A f
    have hbA0 : W118.heap.size ≤ bA := by omega
    replace hS := Below.next hS hbe164
    refine a_two 3 6 rfl rfl (by kernel_rfl) rfl rfl ?_ ?_
    ·skip
     obtain ⟨g5, hg5⟩ : ∃ g, g = We163.heap.size := ⟨_, rfl⟩
     refine g_opR (R := fun v W => v = .slice (some ⟨g5, 0, none⟩) 5 5 ∧ Below We163.heap.size We163 W ∧ W.heap[g5]? = some (.cells #[.int .i64 0, .int .i64 2, .int .i64 4, .int .i64 1, .int .i64 8] 3 (0, 0))) ⟨_, _, bs_exec f rfl rfl (bs_int5 _ _ _ _ _ _), by rw [hg5], (Below.refl _ _).alloc (Nat.le_refl _) _, by rw [hg5]; show (Array.push _ _)[_]? = _; (rw [Array.getElem?_push, if_pos rfl] <;> rfl)⟩ ?_
     rintro _ We165 ⟨rfl, hbe166, rg5⟩
     refine ⟨Below.next hS hbe166, a_put f rfl rfl ?_⟩; clear f A; intro A f
     replace hS := Below.next hS hbe166
     replace rbA := row_next rbA hbe166
     refine a_one 6 rfl (by kernel_rfl) rfl ?_
     refine g_call f (IsCall.mk' (cap := []) rfl rfl rfl) (pl rfl) (c_same (picked_fn xc 5 5 rfl wc (by omega) (by omega) _)) ?_
     rintro _ We167 ⟨rfl, hbe168⟩
     refine ⟨_, rfl, Below.next hS hbe168, a_put f rfl rfl ?_⟩; clear f A; intro A f
     replace hS := Below.next hS hbe168
     replace rg5 := row_next rg5 hbe168
     replace rbA := row_next rbA hbe168
     refine a_do 7 f rfl (by kernel_rfl) blind_cut hS rfl rfl rfl (y_index rfl rfl (by first | rfl | assumption) rfl (es rfl) (by omega)) ?_; clear f A; intro A f
     refine a_one 8 rfl (by kernel_rfl) rfl ?_
     refine g_val f (y_load1 rfl rfl (ag rfl) (St.q (St.of (row5_at rg5 q5)) (Below.refl _ _))) ?_
     refine ⟨hS, a_put f rfl rfl ?_⟩; clear f A; intro A f
     refine a_one 9 rfl (by kernel_rfl) rfl ?_
     have lrb := row_lt rbA
     have hsz9 := hS.size
     refine g_call f (IsCall.mk' (cap := []) rfl rfl rfl) (pl rfl) (pAlloc_un _ y ((pickN xb cn : Nat) : Int) od (flA (pickN xc 5)) (hI.at_.below hS) hI.may (hTW.below hS) hcp hod hfl.2.1 hfl.2.2 hfl.1) ?_
     rintro _ We169 ⟨⟨v0, v1, v2, v3, v4, p, er, rfl, o0, o1, o2, o3, o4, hAD⟩, hbe170⟩
     refine ⟨_, rfl, Below.next hS hbe170, a_put f rfl rfl ?_⟩; clear f A; intro A f
     replace hS := Below.next hS hbe170
     replace rg5 := row_next rg5 hbe170
     replace rbA := row_next rbA hbe170
     refine a_do 10 f rfl (by kernel_rfl) blind_cut hS rfl rfl rfl (y_move rfl rfl) ?_; clear f A; intro A f
     refine a_do 11 f rfl (by kernel_rfl) blind_cut hS rfl rfl rfl (y_ext rfl rfl rfl) ?_; clear f A; intro A f
     refine a_do 12 f rfl (by kernel_rfl) blind_cut hS rfl rfl rfl (y_ext rfl rfl rfl) ?_; clear f A; intro A f
     refine a_do 13 f rfl (by kernel_rfl) blind_cut hS rfl rfl rfl (y_ext rfl rfl rfl) ?_; clear f A; intro A f
     refine a_one 15 rfl (by kernel_rfl) rfl ?_
     refine g_store f rfl rfl rfl rfl rbA (sz rfl) rfl (Nat.le_of_ble_eq_true rfl) (by show ([v0, v1, v2, v3, v4].all (·.oneCell')) = true; simp only [List.all_cons, List.all_nil, o0, o1, o2, o3, o4, Bool.and_self]) ?_
     clear rbA; intro Wh hbh rbA; dsimp only [setL, over, Value.cells] at rbA
     refine ⟨Below.thenBut hS hbh hbA0, ?_⟩
     replace hS := Below.thenBut hS hbh hbA0
     replace hAD := hAD.but hbh (by omega)
     refine a_do 16 f rfl (by kernel_rfl) blind_cut hS rfl rfl rfl (y_assign rfl rfl) ?_; clear f A; intro A f
     refine a_do 17 f rfl (by kernel_rfl) blind_cut hS rfl rfl rfl (y_assign rfl rfl) ?_; clear f A; intro A f
     refine a_end (by kernel_rfl) ?_
     exact ⟨rfl, v0, v1, v2, v3, v4, p, er, bA, f.sub ⟨rfl, rfl, rfl, rfl, rfl, rfl, rfl, rfl, rfl, rfl, rfl, rfl, rfl, trivial⟩, hS, rbA, hbA0, hAD.less (by omega)⟩
    skip
    refine g_call f (IsCall.mk' (cap := []) rfl rfl rfl) (pl rfl) (c_same (picked_fn xc 5 5 rfl wc (by omega) (by omega) _)) ?_
    rintro _ We171 ⟨rfl, hbe172⟩
    refine ⟨_, rfl, Below.next hS hbe172, a_put f rfl rfl ?_⟩; clear f A; intro A f
    replace hS := Below.next hS hbe172
    replace rbA := row_next rbA hbe172
    refine a_one 3 rfl (by kernel_rfl) rfl ?_
    obtain ⟨g5, hg5⟩ : ∃ g, g = We171.heap.size := ⟨_, rfl⟩
    refine g_opR (R := fun v W => v = .slice (some ⟨g5, 0, none⟩) 5 5 ∧ Below We171.heap.size We171 W ∧ W.heap[g5]? = some (.cells #[.int .i64 0, .int .i64 2, .int .i64 4, .int .i64 1, .int .i64 8] 3 (0, 0))) ⟨_, _, bs_exec f rfl rfl (bs_int5 _ _ _ _ _ _), by rw [hg5], (Below.refl _ _).alloc (Nat.le_refl _) _, by rw [hg5]; show (Array.push _ _)[_]? = _; (rw [Array.getElem?_push, if_pos rfl] <;> rfl)⟩ ?_
    rintro _ We173 ⟨rfl, hbe174, rg5⟩
    refine ⟨Below.next hS hbe174, a_put f rfl rfl ?_⟩; clear f A; intro A f
    replace hS := Below.next hS hbe174
    replace rbA := row_next rbA hbe174
    refine a_do 7 f rfl (by kernel_rfl) blind_cut hS rfl rfl rfl (y_index rfl rfl (by first | rfl | assumption) rfl (es rfl) (by omega)) ?_; clear f A; intro A f
    refine a_one 8 rfl (by kernel_rfl) rfl ?_
    refine g_val f (y_load1 rfl rfl (ag rfl) (St.q (St.of (row5_at rg5 q5)) (Below.refl _ _))) ?_
    refine ⟨hS, a_put f rfl rfl ?_⟩; clear f A; intro A f
    refine a_one 9 rfl (by kernel_rfl) rfl ?_
    have lrb := row_lt rbA
    have hsz9 := hS.size
    refine g_call f (IsCall.mk' (cap := []) rfl rfl rfl) (pl rfl) (pAlloc_un _ y ((pickN xb cn : Nat) : Int) od (flA (pickN xc 5)) (hI.at_.below hS) hI.may (hTW.below hS) hcp hod hfl.2.1 hfl.2.2 hfl.1) ?_
    rintro _ We175 ⟨⟨v0, v1, v2, v3, v4, p, er, rfl, o0, o1, o2, o3, o4, hAD⟩, hbe176⟩
    refine ⟨_, rfl, Below.next hS hbe176, a_put f rfl rfl ?_⟩; clear f A; intro A f
    replace hS := Below.next hS hbe176
    replace rg5 := row_next rg5 hbe176
    replace rbA := row_next rbA hbe176
    refine a_do 10 f rfl (by kernel_rfl) blind_cut hS rfl rfl rfl (y_move rfl rfl) ?_; clear f A; intro A f
    refine a_do 11 f rfl (by kernel_rfl) blind_cut hS rfl rfl rfl (y_ext rfl rfl rfl) ?_; clear f A; intro A f
    refine a_do 12 f rfl (by kernel_rfl) blind_cut hS rfl rfl rfl (y_ext rfl rfl rfl) ?_; clear f A; intro A f
    refine a_do 13 f rfl (by kernel_rfl) blind_cut hS rfl rfl rfl (y_ext rfl rfl rfl) ?_; clear f A; intro A f
    refine a_one 15 rfl (by kernel_rfl) rfl ?_
    refine g_store f rfl rfl rfl rfl rbA (sz rfl) rfl (Nat.le_of_ble_eq_true rfl) (by show ([v0, v1, v2, v3, v4].all (·.oneCell')) = true; simp only [List.all_cons, List.all_nil, o0, o1, o2, o3, o4, Bool.and_self]) ?_
    clear rbA; intro Wh hbh rbA; dsimp only [setL, over, Value.cells] at rbA
    refine ⟨Below.thenBut hS hbh hbA0, ?_⟩
    replace hS := Below.thenBut hS hbh hbA0
    replace hAD := hAD.but hbh (by omega)
    refine a_do 16 f rfl (by kernel_rfl) blind_cut hS rfl rfl rfl (y_assign rfl rfl) ?_; clear f A; intro A f
    refine a_do 17 f rfl (by kernel_rfl) blind_cut hS rfl rfl rfl (y_assign rfl rfl) ?_; clear f A; intro A f
    refine a_end (by kernel_rfl) ?_
    exact ⟨rfl, v0, v1, v2, v3, v4, p, er, bA, f.sub ⟨rfl, rfl, rfl, rfl, rfl, rfl, rfl, rfl, rfl, rfl, rfl, rfl, rfl, trivial⟩, hS, rbA, hbA0, hAD.less (by omega)⟩
   skip
   clear f A; rintro A W177 ⟨v0, v1, v2, v3, v4, p, er, bA, f, hb4, rbA, hbA, hAD⟩
   have o_b1_bA : b1 < bA := by omega
   have o_b4_bA : b4 < bA := by omega
   have o_b11_bA : b11 < bA := by omega
   have o_b17_bA : b17 < bA := by omega
   have o_g7_bA : g7 < bA := by omega
   replace B0 := Below.next B0 hb4; replace rb1 := row_next rb1 hb4; replace rb4 := row_next rb4 hb4; replace rb11 := row_next rb11 hb4; replace rb17 := row_next rb17 hb4; replace rg7 := row_next rg7 hb4; replace hI := hI.below hb4
   rcases hAD with rfl | ⟨rfl, y2, G, hfd, rfl, rfl, rfl, rfl, rfl, hyA2, e2, hoF⟩
   ·skip
    revert A; refine vT (vS (vR (vlm (h:=vlb (y_eql rfl rfl rfl) (h:=?_) (g:=?_)))))
    ·intro c178; exfalso; omega
    intro c178
    refine vW (vD (h:=vS (vR (vlm (h:=vlb (y_neq rfl rfl rfl) (h:=?_) (g:=?_))))))
    ·intro c179; exfalso; omega
    intro c179
    refine vW (vD (h:=vK (vU (vU (vT (vR (vlm (h:=vlA (h:=vla (h:=vW ?_)))))))))); intro A f
    exact ⟨ln - (k + 1), by omega, k + 1, y, aw, vo, vn, vc, rfl, by omega, f.sub ⟨rfl, rfl, rfl, rfl, rfl, rfl, rfl, rfl, rfl, trivial⟩, B0, rb1, rb4, rb11, hI, ho6, ho11, hvo, fun h => by omega, hRc⟩
   skip
   have own := hI.own
   have hR := alloc_may hI.may hcp hod hfd
   have hlive2 : y2.hp.live = addB y.hp.live ⟨p, od, typeF (flA (pickN xc 5))⟩ := by rw [e2, ← hR.2.1]
   have hP2 : HMay y2.hp := by rw [e2]; exact hR.1
   have hz2 := hP2.zs.n
   have hcp2 : y2.hp.cpus = H0.cpus := (congrArg Hp.cpus e2).trans (hR.2.2.1.trans hI.cpus)
   have hft2 : SameFT y2.hp H0 := sft_trans (by rw [e2]; exact hR.2.2.2.1) hI.ft
   have hoc2 : ∀ q, occ y2.hp q = occ H0 q := fun q => (congrArg (fun G => occ G q) e2).trans ((hR.2.2.2.2 q).trans (hI.occ q))
   have hRc2 : Rch (rawFl l) H0 y2.hp := by rw [e2]; exact hRc.alloc hI.may ⟨k, by rw [hl.len]; omega, by rw [exc]⟩ hod hcp hfd
   revert A; refine vT (vS (vR (vlm (h:=vlb (y_eql rfl rfl rfl) (h:=?_) (g:=?_)))))
   ·intro c180
    refine vW (vC (h:=vS (vR (vl5 (rowq rbA) (h:=?_))))); intro A f
    refine vls f rb11 ?_
    clear rb11; intro W181 hb182 rb11; dsimp only [setL, over, Value.cells] at rb11; replace B0 := Below.thenBut B0 hb182 (by omega); replace rb1 := But.row hb182 rb1 (by omega); replace rb4 := But.row hb182 rb4 (by omega); replace rb17 := But.row hb182 rb17 (by omega); replace rg7 := But.row hb182 rg7 (by omega); replace rbA := But.row hb182 rbA (by omega); replace own := owns_butN own hb182 (fun a ha => by have := hvo a ha; omega); replace hyA2 := Off.but (hoF b11 (by omega)) hyA2 hb182
    revert A; refine vW (vR (vlm (h:=vlm (h:=vlm (h:=vld (y_build #[.int .i64 p, .int .i64 od, .int .i64 0] rfl rfl (by kernel_rfl)) (h:=?_))))))
    obtain ⟨gb, hgb⟩ : ∃ g, g = W181.heap.size := ⟨_, rfl⟩
    have o_b1_gb : b1 < gb := by have := row_lt rb1; omega
    have o_b4_gb : b4 < gb := by have := row_lt rb4; omega
    have o_b11_gb : b11 < gb := by have := row_lt rb11; omega
    have o_b17_gb : b17 < gb := by have := row_lt rb17; omega
    have o_g7_gb : g7 < gb := by have := row_lt rg7; omega
    have o_bA_gb : bA < gb := by have := row_lt rbA; omega
    intro A f
    refine l_opR (R := fun v W => v = .slice (some ⟨gb, 0, none⟩) 1 1 ∧ Below W181.heap.size W181 W ∧ W.heap[gb]? = some (.cells #[.int .i64 p, .int .i64 od, .int .i64 0] 40 (0, 0))) f rfl rfl rfl ⟨_, _, bs_exec f rfl rfl (bs_blk1 _ _ _ _), by rw [hgb], (Below.refl _ _).alloc (Nat.le_refl _) _, by rw [hgb]; show (Array.push _ _)[_]? = _; (rw [Array.getElem?_push, if_pos rfl] <;> rfl)⟩ ?_
    clear f A
    rintro _ W183 ⟨rfl, hb184, rgb⟩ A f
    replace B0 := Below.next B0 hb184; replace rb1 := row_next rb1 hb184; replace rb4 := row_next rb4 hb184; replace rb11 := row_next rb11 hb184; replace rb17 := row_next rb17 hb184; replace rg7 := row_next rg7 hb184; replace rbA := row_next rbA hb184; replace own := owns_below own hb184 (Nat.le_refl _); replace hyA2 := hyA2.below hb184
    have hsb := B0.size
    refine l_opR (R := fun v W => ∃ g9 c9, v = .slice (some ⟨g9, 0, none⟩) (vn + 1) c9 ∧ W.ownsRow w.heap.size 40 3 (.slice (some ⟨g9, 0, none⟩) (vn + 1) c9) (vn + 1) (bvals (aw ++ [⟨p, od, 0⟩])) ∧ ((vo = some ⟨g9, 0, none⟩ ∧ But g9 W183 W) ∨ (g9 = W183.heap.size ∧ Below W183.heap.size W183 W))) f rfl rfl rfl (by obtain ⟨g1, c1, W1, h1, h2, h3⟩ := app_own3 W183 _ _ vo vn vc aw ⟨p, od, 0⟩ gb own (by omega) rgb (by omega); exact ⟨_, W1, append_exec f rfl rfl rfl h1, g1, c1, rfl, h2, h3⟩) ?_
    clear f A
    rintro _ W185 ⟨g9, c9, rfl, own9, hcs⟩ A f
    have k_b11 := row_lt rb11
    have hall : Below w.heap.size w W185 ∧ W185.heap[b1]? = some (.cells #[.slice mo mn mc, .slice ro rn rc, .int .i64 split, .int .i64 least, .int .i64 cpus] 27 (0, 0)) ∧ W185.heap[b4]? = some (.cells #[.slice none 0 0, .slice none 0 0, .int .i64 0, .slice none 0 0, .slice none 0 0] 34 (0, 0)) ∧ W185.heap[b11]? = some (.cells #[.slice y2.zo y2.zn y2.zc, .slice y2.mo y2.mn y2.mc, .int .i64 y2.cpus, .slice y2.lo y2.ln y2.lc, .slice y2.vo y2.vn y2.vc] 34 (0, 0)) ∧ y2.At W185 ∧ Off g9 y2 ∧ b11 < g9 := by
     rcases hcs with ⟨e9, h9⟩ | ⟨e9, h9⟩
     ·have u1 := (owns_blk own _ e9).1; have u2 := hvo _ e9; have u3 := hvs _ e9; dsimp only at u1 u2 u3
      exact ⟨Below.thenBut B0 h9 (by omega), But.row h9 rb1 (by omega), But.row h9 rb4 (by omega), But.row h9 rb11 (by omega), Off.but (hoF g9 u3) hyA2 h9, hoF g9 u3, u2⟩
     exact ⟨Below.next B0 h9, row_next rb1 h9, row_next rb4 h9, row_next rb11 h9, hyA2.below h9, off_old hyA2 hz2 (by omega), by omega⟩
    clear B0 rb1 rb4 rb11 hyA2 own
    obtain ⟨B0, rb1, rb4, rb11, hyA2, ho9, hb9⟩ := hall
    revert A; refine vla (h:=vN (vU (vU (vT (vR (vlm (h:=vlA (h:=vla (h:=vW ?_))))))))); intro A f
    exact ⟨ln - (k + 1), by omega, k + 1, y2, aw ++ [⟨p, od, 0⟩], some ⟨g9, 0, none⟩, vn + 1, c9, rfl, by omega, f.sub ⟨rfl, rfl, rfl, rfl, rfl, rfl, rfl, rfl, rfl, trivial⟩, B0, rb1, rb4, rb11, ⟨hyA2, hP2, hcp2, hft2, hoc2, own9, by rw [hlive2]; exact alloc_perm hI.perm _ _ _ _, fun a ha => by cases ha; exact ho9⟩, hoF _ (by omega), hoF _ (by omega), (fun a ha => by cases ha; exact hb9), fun h => by omega, hRc2⟩
   intro c180; exfalso; omega
  intro c16
  refine vlp (h:=vW (vD (h:=vX (vH (vH (vI (vT (vS (vR (vl5 (rowq rb11) (h:=vlm (h:=vlm (h:=vlb (y_eql rfl rfl rfl) (h:=?_) (g:=?_))))))))))))))
  ·intro c186
   refine vlm (h:=vlm (h:=vlb (y_eql rfl rfl rfl) (h:=?_) (g:=?_)))
   ·intro c187
    refine vlp (h:=?_); intro A f
    refine vls f rb4 ?_
    clear rb4; intro W188 hb189 rb4; dsimp only [setL, over, Value.cells] at rb4; replace B0 := Below.thenBut B0 hb189 (by omega); replace rb1 := But.row hb189 rb1 (by omega); replace rb11 := But.row hb189 rb11 (by omega); replace hI := hI.but hb189 ho6 (fun a ha => by have := hvo a ha; omega)
    revert A; refine vla (h:=vla (h:=vW (vE ?_))); intro A f
    refine x_retc2 f rfl rfl rfl rfl (ag rfl) rb4 rfl ?_
    exact ⟨H0, y, aw, vo, vn, vc, rfl, hNH, hI, fun h => hz0 (by omega), hRc, B0⟩
   intro c187; exfalso; omega
  intro c186; exfalso; omega
 intro c15
 refine vlm (h:=vlO 3 (h:=vlp (h:=vW (vD (h:=vX (vH (vH (vI (vT (vS (vR (vl5 (rowq rb11) (h:=vlm (h:=vlm (h:=vlb (y_eql rfl rfl rfl) (h:=?_) (g:=?_))))))))))))))))
 ·intro c190
  refine vlm (h:=vlm (h:=vlb (y_eql rfl rfl rfl) (h:=?_) (g:=?_)))
  ·intro c191
   refine vlp (h:=?_); intro A f
   refine vls f rb4 ?_
   clear rb4; intro W192 hb193 rb4; dsimp only [setL, over, Value.cells] at rb4; replace B0 := Below.thenBut B0 hb193 (by omega); replace rb1 := But.row hb193 rb1 (by omega); replace rb11 := But.row hb193 rb11 (by omega); replace hI := hI.but hb193 ho6 (fun a ha => by have := hvo a ha; omega)
   revert A; refine vla (h:=vla (h:=vW (vE ?_))); intro A f
   refine x_retc2 f rfl rfl rfl rfl (ag rfl) rb4 rfl ?_
   exact ⟨H0, y, aw, vo, vn, vc, rfl, hNH, hI, fun h => hz0 (by omega), hRc, B0⟩
  intro c191; exfalso; omega
 intro c190; exfalso; omega
end Go.Proofs.YtjohdbiipeedkaaGreatDoor
