/-
  OWN TEXTS.
-/
import Derived.Test.YtjohdbiipeedkabGreatDoorPagesBadPart14
set_option maxRecDepth 10000
set_option maxHeartbeats 4000000
namespace Go.Proofs.YtjohdbiipeedkabGreatDoor
open Go Go.RowKit Go.Proofs.YtjohdbiipeedkabGreatDoor.Kit
def totN (h : Int → Nat) : Nat → Nat
 | 0 => 0
 | n + 1 => totN h n + h n
def sumP : List (Int × Int) → Int
 | [] => 0
 | x :: l => pw x.2 + sumP l
def zonesN (H : Hp) : Int := freeN (H.zones.flatMap (·.free))
def listsN (H : Hp) : Int := ((H.lists.flatMap (·.pages)).length : Nat)
theorem raws_below {w w' : World} {ao : Option Addr} {n cap : Nat} {l : List Raw4} (h : IsRaws w ao n cap l) (hb : Below w.heap.size w w') : IsRaws w' ao n cap l := ⟨h.len, h.le, h.reach, h.at_.below hb, h.wf⟩
theorem su_new (a b c : Int) : newOk 0 (16 * (pickN a 9 : Int)) ∧ newGood (pickN b 12 : Int) (1 + (pickN c 4 : Int)) ∧ (1 + (pickN c 4 : Int)) = ((1 + pickN c 4 : Nat) : Int) := by
 have h1 := pickN_lt a 9 (by omega)
 have h2 := pickN_lt b 12 (by omega)
 have h3 := pickN_lt c 4 (by omega)
 refine ⟨by unfold newOk; omega, ⟨by omega, by omega⟩, by omega⟩
theorem su_drawn (a b c : Int) : MayP (drawnAll (freeH (suM a b c) (suR a b c))) := drawnAll_may (by have := su_few a b c; omega)
def cntP : List (Int × Int) → Int → Nat
 | [], _ => 0
 | x :: l, p => hit x.1 x.2 p + cntP l p
def flB (j : Nat) : Int := [16, -1, 6, 7, 14].getD j 0
theorem row5b_at {w : World} {g : Nat} (h : w.heap[g]? = some (.cells #[.int .i64 16, .int .i64 (-1), .int .i64 6, .int .i64 7, .int .i64 14] 3 (0, 0))) {j : Nat} (hj : j < 5) : w.cell? ⟨g, 0 + j * 1, none⟩ = some (.int .i64 (flB j)) := by
 rcases (show j = 0 ∨ j = 1 ∨ j = 2 ∨ j = 3 ∨ j = 4 by omega) with rfl | rfl | rfl | rfl | rfl
 ·exact cell_of_row w g 0 _ _ _ h
 ·exact cell_of_row w g 1 _ _ _ h
 ·exact cell_of_row w g 2 _ _ _ h
 ·exact cell_of_row w g 3 _ _ _ h
 exact cell_of_row w g 4 _ _ _ h
theorem flB_ok {j : Nat} (hj : j < 5) : ¬ flagsOk (flB j) ∧ -9223372036854775808 ≤ flB j ∧ flB j ≤ 9223372036854775807 := by
 rcases (show j = 0 ∨ j = 1 ∨ j = 2 ∨ j = 3 ∨ j = 4 by omega) with rfl | rfl | rfl | rfl | rfl <;> decide
theorem pFree_bad (w : World) (x : Hx) (p : Int) (aw : List Bk) (hx : x.At w) (hM : HMay x.hp) (hc : (0 : Int) ≤ 0 ∧ (0 : Int) ≤ x.cpus - 1) (hp : (aw.map prB).Perm (x.hp.live.map prB)) :
    Calls Tryz.prog 8 #[.agg #[.slice x.zo x.zn x.zc, .slice x.mo x.mn x.mc, .int .i64 x.cpus, .slice x.lo x.ln x.lc, .slice x.vo x.vn x.vc], .int .i64 0, .int .i64 p] w fun e w' => (∃ v0 v1 v2 v3 v4 er, e = .returned (.tuple #[.agg #[v0, v1, v2, v3, v4], .int .i64 er]) ∧ v0.oneCell' = true ∧ v1.oneCell' = true ∧ v2.oneCell' = true ∧ v3.oneCell' = true ∧ v4.oneCell' = true ∧ er = bif aw.any (fun b => decide (b.a = p)) then 0 else 4) ∧ Below w.heap.size w w' := by
 cases hany : aw.any (fun b => decide (b.a = p)) with
 | true =>
  obtain ⟨b, hb, hd⟩ := List.any_eq_true.1 hany
  have hd := of_decide_eq_true hd
  obtain ⟨j, hj, rfl⟩ := List.getElem_of_mem hb
  obtain ⟨i, hi, hia, hfst, _⟩ := away_find hp hM.lv hj
  have e : aw.getD j .zero = aw[j] := by rw [List.getD_eq_getElem?_getD, List.getElem?_eq_getElem hj]; rfl
  rw [e, hd] at hia hfst
  refine (pFree_fr w x 0 p i hx hM hc hi hia hfst).mono ?_
  rintro e w' ⟨⟨y2, rfl, _⟩, hb⟩
  exact ⟨⟨_, _, _, _, _, _, rfl, rfl, rfl, rfl, rfl, rfl, rfl⟩, hb⟩
 | false =>
  have hno : ∀ k, k < x.live.length → (x.live.getD k .zero).a ≠ p := fun k hk e => by
   have hm : x.live.getD k .zero ∈ x.hp.live := getD_mem (d := Bk.zero) hk
   have hm2 : prB (x.live.getD k .zero) ∈ aw.map prB := hp.mem_iff.2 (List.mem_map.2 ⟨_, hm, rfl⟩)
   obtain ⟨b, hb, eb⟩ := List.mem_map.1 hm2
   have ea : b.a = (x.live.getD k .zero).a := congrArg Prod.fst eb
   have := List.any_eq_false.1 hany b hb
   exact this (decide_eq_true (by rw [ea, e]))
  refine (pFree_no4 w x 0 p hx hM hc hno).mono ?_
  rintro e w' ⟨rfl, hb⟩
  exact ⟨⟨_, _, _, _, _, _, rfl, rfl, rfl, rfl, rfl, rfl, rfl⟩, hb⟩
theorem pbF_c (w : World) (b : Bk) (g : Nat) (p : Int) (hq : St w ⟨g, 0, none⟩ (.int .i64 p)) :
    Calls Tryz.prog 10 #[.agg #[.int .i64 b.a, .int .i64 b.o, .int .i64 b.t], .pointer (some ⟨g, 0, none⟩)] w fun e w' => e = .returned (.bool (decide (b.a = p))) ∧ Below w.heap.size w w' := by
 have B0 := Below.refl w.heap.size w
 refine sx_enter (args := [_, _]) 8 Tryz.func10 rfl rfl rfl ?_
 refine vS (vR ?_); intro A f
 refine l_box f rfl rfl rfl rfl rfl ?_; clear f A; intro b1 W2 eb1 hb3 rb1 A f; dsimp only [Value.cells] at rb1
 have z_B0_b1 := B0.size; rw [eb1] at z_B0_b1
 replace B0 := Below.next B0 hb3
 revert A; refine vla (h:=vW (vS (vR (vlf (h:=vl1 (rowq rb1) (h:=vld (y_load1 rfl rfl (ag rfl) (St.q hq B0)) (h:=vld (y_eql rfl rfl rfl) (h:=vla (h:=vW (vE ?_)))))))))); intro A f
 refine x_ret1 f rfl rfl ?_
 exact ⟨rfl, B0⟩
theorem pagesBad_walk (ao : Option Addr) (n cap : Nat) (l : List Raw4) (a b c d : Int) (w : World) (h : IsRaws w ao n cap l) (wa : (Lit.int .i64 a).wf = true) (wb : (Lit.int .i64 b).wf = true) (wc : (Lit.int .i64 c).wf = true) (wd : (Lit.int .i64 d).wf = true) (hT : TabAt w) :
    Calls Tryz.prog 3 #[.slice ao n cap, .int .i64 a, .int .i64 b, .int .i64 c, .int .i64 d] w fun e w' => e = .returned (.bool true) ∧ Below w.heap.size w w' := by
 have B0 := Below.refl w.heap.size w
 refine sx_enter (args := [_, _, _, _, _]) 105 Tryz.func3 rfl rfl rfl ?_
 refine vS (vR (vla (h:=vW (vS (vR (vlm (h:=vlm (h:=vlm (h:=?_))))))))); intro A f
 refine l_call f rfl rfl rfl (IsCall.mk' (cap := []) rfl rfl rfl) (pl rfl) (setup_c _ a b c wa wb wc) ?_
 clear f A
 rintro _ W1 ⟨gm, gr, rfl, hm, hr, hb2⟩
 refine ⟨_, rfl, ?_⟩
 intro A f
 replace B0 := Below.next B0 hb2
 refine l_as (z := .agg #[.slice none 0 0, .slice none 0 0, .int .i64 0, .int .i64 0, .int .i64 0]) f rfl rfl rfl rfl (by kernel_rfl) rfl rfl (fun _ => rfl) (fun _ => rfl) rfl (by intro u hu; simp [Value.cells] at hu; rcases hu with rfl | rfl | rfl | rfl | rfl <;> rfl) ?_; clear f A; intro b3 W4 eb3 hb5 rb3 A f
 dsimp only [Value.cells] at rb3
 have hpb3 := hb5
 have z_B0_b3 := B0.size; rw [eb3] at z_B0_b3
 replace B0 := Below.next B0 hb5; replace hm := hm.below hb5; replace hr := hr.below hb5
 revert A; refine vW (vS (vR (vlm (h:=vl5 (rowq rb3) (h:=?_))))); intro A f
 refine l_call f rfl rfl rfl (IsCall.mk' (cap := []) rfl rfl rfl) (pl rfl) (paged_c _ ao n cap cap l (raws_below h B0) (some ⟨gm, 0, none⟩) 2 2 (suM a b c) (some ⟨gr, 0, none⟩) 2 2 (suR a b c) hm hr ⟨suM_may a b c, suR_may a b c⟩ _ rfl (su_drawn a b c) (16 * (pickN a 9 : Int)) (pickN b 12 : Int) (1 + (pickN c 4 : Int)) 30 (1 + pickN c 4) (su_new a b c).2.2 (su_new a b c).1 (su_new a b c).2.1 (hT.below B0)) ?_
 clear f A
 rintro _ W6 ⟨H, y, aw, vo, vn, vc, rfl, hNH, hI, hz, hRc, hb7⟩
 refine ⟨_, rfl, ?_⟩
 intro A f
 replace B0 := Below.next B0 hb7; replace hm := hm.below hb7; replace hr := hr.below hb7; replace rb3 := row_next rb3 hb7
 have hNM := new_may hNH (su_new a b c).2.1
 have hyc : y.cpus = 1 + (pickN c 4 : Int) := hI.cpus.trans hNM.2.2.2.1
 have q4 := pickN_lt c 4 (by omega)
 revert A; refine vlm (h:=vle (h:=vle (h:=vle (h:=?_)))); intro A f
 refine l_as (z := .agg #[.slice none 0 0, .slice none 0 0, .int .i64 0, .slice none 0 0, .slice none 0 0]) f rfl rfl rfl rfl (by kernel_rfl) rfl rfl (fun _ => rfl) (fun _ => rfl) rfl (by intro u hu; simp [Value.cells] at hu; rcases hu with rfl | rfl | rfl | rfl | rfl <;> rfl) ?_; clear f A; intro b8 W9 eb8 hb10 rb8 A f
 dsimp only [Value.cells] at rb8
 have hpb8 := hb10
 have o_b3_b8 : b3 < b8 := by have := row_lt rb3; omega
 have z_B0_b8 := B0.size; rw [eb8] at z_B0_b8
 replace B0 := Below.next B0 hb10; replace hm := hm.below hb10; replace hr := hr.below hb10; replace hI := hI.below hb10; replace rb3 := row_next rb3 hb10
 revert A; refine vla (h:=vla (h:=vW (vS (vR (vl5 (rowq rb8) (h:=vlf (h:=vl1 (rowq rb3) (h:=vlc (pAlloc_no1a _ y (1 + (pickN c 4 : Int)) 0 0 hI.at_ hI.may (by omega)) (h:=?_))))))))); intro W11 hb12; replace B0 := Below.next B0 hb12; replace hm := hm.below hb12; replace hr := hr.below hb12; replace hI := hI.below hb12; replace rb3 := row_next rb3 hb12; replace rb8 := row_next rb8 hb12
 refine vlm (h:=vle (h:=vle (h:=vle (h:=?_)))); intro A f
 refine l_as (z := .agg #[.slice none 0 0, .slice none 0 0, .int .i64 0, .slice none 0 0, .slice none 0 0]) f rfl rfl rfl rfl (by kernel_rfl) rfl rfl (fun _ => rfl) (fun _ => rfl) rfl (by intro u hu; simp [Value.cells] at hu; rcases hu with rfl | rfl | rfl | rfl | rfl <;> rfl) ?_; clear f A; intro b13 W14 eb13 hb15 rb13 A f
 dsimp only [Value.cells] at rb13
 have hpb13 := hb15
 have o_b3_b13 : b3 < b13 := by have := row_lt rb3; omega
 have o_b8_b13 : b8 < b13 := by have := row_lt rb8; omega
 have z_B0_b13 := B0.size; rw [eb13] at z_B0_b13
 replace B0 := Below.next B0 hb15; replace hm := hm.below hb15; replace hr := hr.below hb15; replace hI := hI.below hb15; replace rb3 := row_next rb3 hb15; replace rb8 := row_next rb8 hb15
 revert A; refine vla (h:=vla (h:=vW (vS (vR (vl5 (rowq rb8) (h:=vlc (pAlloc_no1b _ y 0 5 0 hI.at_ hI.may (by omega) (by omega)) (h:=?_))))))); intro W16 hb17; replace B0 := Below.next B0 hb17; replace hm := hm.below hb17; replace hr := hr.below hb17; replace hI := hI.below hb17; replace rb3 := row_next rb3 hb17; replace rb8 := row_next rb8 hb17; replace rb13 := row_next rb13 hb17
 refine vlm (h:=vle (h:=vle (h:=vle (h:=?_)))); intro A f
 refine l_as (z := .agg #[.slice none 0 0, .slice none 0 0, .int .i64 0, .slice none 0 0, .slice none 0 0]) f rfl rfl rfl rfl (by kernel_rfl) rfl rfl (fun _ => rfl) (fun _ => rfl) rfl (by intro u hu; simp [Value.cells] at hu; rcases hu with rfl | rfl | rfl | rfl | rfl <;> rfl) ?_; clear f A; intro b18 W19 eb18 hb20 rb18 A f
 dsimp only [Value.cells] at rb18
 have hpb18 := hb20
 have o_b3_b18 : b3 < b18 := by have := row_lt rb3; omega
 have o_b8_b18 : b8 < b18 := by have := row_lt rb8; omega
 have o_b13_b18 : b13 < b18 := by have := row_lt rb13; omega
 have z_B0_b18 := B0.size; rw [eb18] at z_B0_b18
 replace B0 := Below.next B0 hb20; replace hm := hm.below hb20; replace hr := hr.below hb20; replace hI := hI.below hb20; replace rb3 := row_next rb3 hb20; replace rb8 := row_next rb8 hb20; replace rb13 := row_next rb13 hb20
 revert A; refine vla (h:=vla (h:=vW (vS ?_)))
 have l_b3 := row_lt rb3
 have l_b8 := row_lt rb8
 have hTW := hT.below B0
 have q5 := pickN_lt d 5 (by omega)
 have hfl := flB_ok q5
 intro A f
 refine x_cut (fun A W => Fr A 105 [(4, .int .i64 d), (11, .pointer (some ⟨b3, 0, none⟩)), (12, .pointer (some ⟨b8, 0, none⟩)), (13, .slice vo vn vc), (14, .bool true), (17, .int .i64 1), (20, .int .i64 1), (23, .int .i64 3)] ∧ Below W19.heap.size W19 W) ?_ ?_
 ·skip
  refine a_start (ClB W19) (by kernel_rfl) rfl ?_
  generalize hWd : ({ W19 with drawn := W19.drawn + 1 } : World) = Wd
  have hS := drawn_b hWd
  clear hWd
  refine a_do 0 f rfl (by kernel_rfl) blind_cut hS rfl rfl rfl (y_loadN (vs := [_, _, _, _, _]) rfl rfl (ag rfl) rfl (rowls (rowq rb8) _ _ ⟨rfl, rfl, rfl, rfl, rfl, trivial⟩)) ?_; clear f A; intro A f
  refine a_do 2 f rfl (by kernel_rfl) blind_cut hS rfl rfl rfl (y_move rfl rfl) ?_; clear f A; intro A f
  refine a_three 1 3 11 rfl rfl rfl (by kernel_rfl) rfl rfl rfl ?_ ?_ ?_
  ·skip
   obtain ⟨g5, hg5⟩ : ∃ g, g = Wd.heap.size := ⟨_, rfl⟩
   refine g_opR (R := fun v W => v = .slice (some ⟨g5, 0, none⟩) 5 5 ∧ Below Wd.heap.size Wd W ∧ W.heap[g5]? = some (.cells #[.int .i64 16, .int .i64 (-1), .int .i64 6, .int .i64 7, .int .i64 14] 3 (0, 0))) ⟨_, _, bs_exec f rfl rfl (bs_int5 _ _ _ _ _ _), by rw [hg5], (Below.refl _ _).alloc (Nat.le_refl _) _, by rw [hg5]; show (Array.push _ _)[_]? = _; (rw [Array.getElem?_push, if_pos rfl] <;> rfl)⟩ ?_
   rintro _ We21 ⟨rfl, hbe22, rg5⟩
   refine ⟨Below.next hS hbe22, a_put f rfl rfl ?_⟩; clear f A; intro A f
   replace hS := Below.next hS hbe22
   refine a_two 3 11 rfl rfl (by kernel_rfl) rfl rfl ?_ ?_
   ·skip
    refine g_call f (IsCall.mk' (cap := []) rfl rfl rfl) (pl rfl) (c_same (picked_fn d 5 5 rfl wd (by omega) (by omega) _)) ?_
    rintro _ We23 ⟨rfl, hbe24⟩
    refine ⟨_, rfl, Below.next hS hbe24, a_put f rfl rfl ?_⟩; clear f A; intro A f
    replace hS := Below.next hS hbe24
    replace rg5 := row_next rg5 hbe24
    refine a_do 4 f rfl (by kernel_rfl) blind_cut hS rfl rfl rfl (y_index rfl rfl (by first | rfl | assumption) rfl (es rfl) (by omega)) ?_; clear f A; intro A f
    refine a_two 5 11 rfl rfl (by kernel_rfl) rfl rfl ?_ ?_
    ·skip
     refine g_val f (y_load1 rfl rfl (ag rfl) (St.q (St.of (row5b_at rg5 q5)) (Below.refl _ _))) ?_
     refine ⟨hS, a_put f rfl rfl ?_⟩; clear f A; intro A f
     refine a_two 6 11 rfl rfl (by kernel_rfl) rfl rfl ?_ ?_
     ·skip
      refine g_call f (IsCall.mk' (cap := []) rfl rfl rfl) (pl rfl) (pAlloc_no3 _ y 0 0 (flB (pickN d 5)) (hI.at_.below hS) hI.may (by omega) (by omega) hfl.2.1 hfl.2.2 hfl.1) ?_
      rintro _ We25 ⟨rfl, hbe26⟩
      refine ⟨_, rfl, Below.next hS hbe26, a_put f rfl rfl ?_⟩; clear f A; intro A f
      replace hS := Below.next hS hbe26
      replace rg5 := row_next rg5 hbe26
      refine a_do 7 f rfl (by kernel_rfl) blind_cut hS rfl rfl rfl (y_move rfl rfl) ?_; clear f A; intro A f
      refine a_do 8 f rfl (by kernel_rfl) blind_cut hS rfl rfl rfl (y_ext rfl rfl rfl) ?_; clear f A; intro A f
      refine a_do 9 f rfl (by kernel_rfl) blind_cut hS rfl rfl rfl (y_ext rfl rfl rfl) ?_; clear f A; intro A f
      refine a_do 10 f rfl (by kernel_rfl) blind_cut hS rfl rfl rfl (y_ext rfl rfl rfl) ?_; clear f A; intro A f
      refine a_one 11 rfl (by kernel_rfl) rfl ?_
      have hsa := hS.size
      refine g_alloc (z := .agg #[.slice none 0 0, .slice none 0 0, .int .i64 0, .slice none 0 0, .slice none 0 0]) rfl (by kernel_rfl) ?_
      intro bA We27 ebA hbe28 rbA
      dsimp only [Value.cells] at rbA
      refine ⟨Below.next hS hbe28, a_put f rfl rfl ?_⟩; clear f A; intro A f
      have hbA0 : W19.heap.size ≤ bA := by omega
      replace hS := Below.next hS hbe28
      replace rg5 := row_next rg5 hbe28
      refine a_one 12 rfl (by kernel_rfl) rfl ?_
      refine g_store f rfl rfl rfl rfl rbA (sz rfl) rfl (Nat.le_of_ble_eq_true rfl) rfl ?_
      clear rbA; intro Wh hbh rbA; dsimp only [setL, over, Value.cells] at rbA
      refine ⟨Below.thenBut hS hbh hbA0, ?_⟩
      replace hS := Below.thenBut hS hbh hbA0
      refine a_do 13 f rfl (by kernel_rfl) blind_cut hS rfl rfl rfl (y_assign rfl rfl) ?_; clear f A; intro A f
      refine a_do 14 f rfl (by kernel_rfl) blind_cut hS rfl rfl rfl (y_assign rfl rfl) ?_; clear f A; intro A f
      refine a_end (by kernel_rfl) ?_
      exact ⟨rfl, f.sub ⟨rfl, rfl, rfl, rfl, rfl, rfl, rfl, rfl, trivial⟩, hS⟩
     skip
     have hsa := hS.size
     refine g_alloc (z := .agg #[.slice none 0 0, .slice none 0 0, .int .i64 0, .slice none 0 0, .slice none 0 0]) rfl (by kernel_rfl) ?_
     intro bA We29 ebA hbe30 rbA
     dsimp only [Value.cells] at rbA
     refine ⟨Below.next hS hbe30, a_put f rfl rfl ?_⟩; clear f A; intro A f
     have hbA0 : W19.heap.size ≤ bA := by omega
     replace hS := Below.next hS hbe30
     replace rg5 := row_next rg5 hbe30
     refine a_one 6 rfl (by kernel_rfl) rfl ?_
     refine g_call f (IsCall.mk' (cap := []) rfl rfl rfl) (pl rfl) (pAlloc_no3 _ y 0 0 (flB (pickN d 5)) (hI.at_.below hS) hI.may (by omega) (by omega) hfl.2.1 hfl.2.2 hfl.1) ?_
     rintro _ We31 ⟨rfl, hbe32⟩
     refine ⟨_, rfl, Below.next hS hbe32, a_put f rfl rfl ?_⟩; clear f A; intro A f
     replace hS := Below.next hS hbe32
     replace rg5 := row_next rg5 hbe32
     replace rbA := row_next rbA hbe32
     refine a_do 7 f rfl (by kernel_rfl) blind_cut hS rfl rfl rfl (y_move rfl rfl) ?_; clear f A; intro A f
     refine a_do 8 f rfl (by kernel_rfl) blind_cut hS rfl rfl rfl (y_ext rfl rfl rfl) ?_; clear f A; intro A f
     refine a_do 9 f rfl (by kernel_rfl) blind_cut hS rfl rfl rfl (y_ext rfl rfl rfl) ?_; clear f A; intro A f
     refine a_do 10 f rfl (by kernel_rfl) blind_cut hS rfl rfl rfl (y_ext rfl rfl rfl) ?_; clear f A; intro A f
     refine a_one 12 rfl (by kernel_rfl) rfl ?_
     refine g_store f rfl rfl rfl rfl rbA (sz rfl) rfl (Nat.le_of_ble_eq_true rfl) rfl ?_
     clear rbA; intro Wh hbh rbA; dsimp only [setL, over, Value.cells] at rbA
     refine ⟨Below.thenBut hS hbh hbA0, ?_⟩
     replace hS := Below.thenBut hS hbh hbA0
     refine a_do 13 f rfl (by kernel_rfl) blind_cut hS rfl rfl rfl (y_assign rfl rfl) ?_; clear f A; intro A f
     refine a_do 14 f rfl (by kernel_rfl) blind_cut hS rfl rfl rfl (y_assign rfl rfl) ?_; clear f A; intro A f
     refine a_end (by kernel_rfl) ?_
     exact ⟨rfl, f.sub ⟨rfl, rfl, rfl, rfl, rfl, rfl, rfl, rfl, trivial⟩, hS⟩
    skip
    have hsa := hS.size
    refine g_alloc (z := .agg #[.slice none 0 0, .slice none 0 0, .int .i64 0, .slice none 0 0, .slice none 0 0]) rfl (by kernel_rfl) ?_
    intro bA We33 ebA hbe34 rbA
    dsimp only [Value.cells] at rbA
    refine ⟨Below.next hS hbe34, a_put f rfl rfl ?_⟩; clear f A; intro A f
    have hbA0 : W19.heap.size ≤ bA := by omega
    replace hS := Below.next hS hbe34
    replace rg5 := row_next rg5 hbe34
    refine a_one 5 rfl (by kernel_rfl) rfl ?_
    refine g_val f (y_load1 rfl rfl (ag rfl) (St.q (St.of (row5b_at rg5 q5)) (Below.refl _ _))) ?_
    refine ⟨hS, a_put f rfl rfl ?_⟩; clear f A; intro A f
    refine a_one 6 rfl (by kernel_rfl) rfl ?_
    refine g_call f (IsCall.mk' (cap := []) rfl rfl rfl) (pl rfl) (pAlloc_no3 _ y 0 0 (flB (pickN d 5)) (hI.at_.below hS) hI.may (by omega) (by omega) hfl.2.1 hfl.2.2 hfl.1) ?_
    rintro _ We35 ⟨rfl, hbe36⟩
    refine ⟨_, rfl, Below.next hS hbe36, a_put f rfl rfl ?_⟩; clear f A; intro A f
    replace hS := Below.next hS hbe36
    replace rg5 := row_next rg5 hbe36
    replace rbA := row_next rbA hbe36
    refine a_do 7 f rfl (by kernel_rfl) blind_cut hS rfl rfl rfl (y_move rfl rfl) ?_; clear f A; intro A f
    refine a_do 8 f rfl (by kernel_rfl) blind_cut hS rfl rfl rfl (y_ext rfl rfl rfl) ?_; clear f A; intro A f
    refine a_do 9 f rfl (by kernel_rfl) blind_cut hS rfl rfl rfl (y_ext rfl rfl rfl) ?_; clear f A; intro A f
    refine a_do 10 f rfl (by kernel_rfl) blind_cut hS rfl rfl rfl (y_ext rfl rfl rfl) ?_; clear f A; intro A f
    refine a_one 12 rfl (by kernel_rfl) rfl ?_
    refine g_store f rfl rfl rfl rfl rbA (sz rfl) rfl (Nat.le_of_ble_eq_true rfl) rfl ?_
    clear rbA; intro Wh hbh rbA; dsimp only [setL, over, Value.cells] at rbA
    refine ⟨Below.thenBut hS hbh hbA0, ?_⟩
    replace hS := Below.thenBut hS hbh hbA0
    refine a_do 13 f rfl (by kernel_rfl) blind_cut hS rfl rfl rfl (y_assign rfl rfl) ?_; clear f A; intro A f
    refine a_do 14 f rfl (by kernel_rfl) blind_cut hS rfl rfl rfl (y_assign rfl rfl) ?_; clear f A; intro A f
    refine a_end (by kernel_rfl) ?_
    exact ⟨rfl, f.sub ⟨rfl, rfl, rfl, rfl, rfl, rfl, rfl, rfl, trivial⟩, hS⟩
   skip
   have hsa := hS.size
   refine g_alloc (z := .agg #[.slice none 0 0, .slice none 0 0, .int .i64 0, .slice none 0 0, .slice none 0 0]) rfl (by kernel_rfl) ?_
   intro bA We37 ebA hbe38 rbA
   dsimp only [Value.cells] at rbA
   refine ⟨Below.next hS hbe38, a_put f rfl rfl ?_⟩; clear f A; intro A f
   have hbA0 : W19.heap.size ≤ bA := by omega
   replace hS := Below.next hS hbe38
   replace rg5 := row_next rg5 hbe38
   refine a_one 3 rfl (by kernel_rfl) rfl ?_
   refine g_call f (IsCall.mk' (cap := []) rfl rfl rfl) (pl rfl) (c_same (picked_fn d 5 5 rfl wd (by omega) (by omega) _)) ?_
   rintro _ We39 ⟨rfl, hbe40⟩
   refine ⟨_, rfl, Below.next hS hbe40, a_put f rfl rfl ?_⟩; clear f A; intro A f
   replace hS := Below.next hS hbe40
   replace rg5 := row_next rg5 hbe40
   replace rbA := row_next rbA hbe40
   refine a_do 4 f rfl (by kernel_rfl) blind_cut hS rfl rfl rfl (y_index rfl rfl (by first | rfl | assumption) rfl (es rfl) (by omega)) ?_; clear f A; intro A f
   refine a_one 5 rfl (by kernel_rfl) rfl ?_
   refine g_val f (y_load1 rfl rfl (ag rfl) (St.q (St.of (row5b_at rg5 q5)) (Below.refl _ _))) ?_
   refine ⟨hS, a_put f rfl rfl ?_⟩; clear f A; intro A f
   refine a_one 6 rfl (by kernel_rfl) rfl ?_
   refine g_call f (IsCall.mk' (cap := []) rfl rfl rfl) (pl rfl) (pAlloc_no3 _ y 0 0 (flB (pickN d 5)) (hI.at_.below hS) hI.may (by omega) (by omega) hfl.2.1 hfl.2.2 hfl.1) ?_
   rintro _ We41 ⟨rfl, hbe42⟩
   refine ⟨_, rfl, Below.next hS hbe42, a_put f rfl rfl ?_⟩; clear f A; intro A f
   replace hS := Below.next hS hbe42
   replace rg5 := row_next rg5 hbe42
   replace rbA := row_next rbA hbe42
   refine a_do 7 f rfl (by kernel_rfl) blind_cut hS rfl rfl rfl (y_move rfl rfl) ?_; clear f A; intro A f
   refine a_do 8 f rfl (by kernel_rfl) blind_cut hS rfl rfl rfl (y_ext rfl rfl rfl) ?_; clear f A; intro A f
   refine a_do 9 f rfl (by kernel_rfl) blind_cut hS rfl rfl rfl (y_ext rfl rfl rfl) ?_; clear f A; intro A f
   refine a_do 10 f rfl (by kernel_rfl) blind_cut hS rfl rfl rfl (y_ext rfl rfl rfl) ?_; clear f A; intro A f
   refine a_one 12 rfl (by kernel_rfl) rfl ?_
   refine g_store f rfl rfl rfl rfl rbA (sz rfl) rfl (Nat.le_of_ble_eq_true rfl) rfl ?_
   clear rbA; intro Wh hbh rbA; dsimp only [setL, over, Value.cells] at rbA
   refine ⟨Below.thenBut hS hbh hbA0, ?_⟩
   replace hS := Below.thenBut hS hbh hbA0
   refine a_do 13 f rfl (by kernel_rfl) blind_cut hS rfl rfl rfl (y_assign rfl rfl) ?_; clear f A; intro A f
   refine a_do 14 f rfl (by kernel_rfl) blind_cut hS rfl rfl rfl (y_assign rfl rfl) ?_; clear f A; intro A f
   refine a_end (by kernel_rfl) ?_
   exact ⟨rfl, f.sub ⟨rfl, rfl, rfl, rfl, rfl, rfl, rfl, rfl, trivial⟩, hS⟩
  ·skip
   refine g_call f (IsCall.mk' (cap := []) rfl rfl rfl) (pl rfl) (c_same (picked_fn d 5 5 rfl wd (by omega) (by omega) _)) ?_
   rintro _ We43 ⟨rfl, hbe44⟩
   refine ⟨_, rfl, Below.next hS hbe44, a_put f rfl rfl ?_⟩; clear f A; intro A f
   replace hS := Below.next hS hbe44
   refine a_two 1 11 rfl rfl (by kernel_rfl) rfl rfl ?_ ?_
   ·skip
    obtain ⟨g5, hg5⟩ : ∃ g, g = We43.heap.size := ⟨_, rfl⟩
    refine g_opR (R := fun v W => v = .slice (some ⟨g5, 0, none⟩) 5 5 ∧ Below We43.heap.size We43 W ∧ W.heap[g5]? = some (.cells #[.int .i64 16, .int .i64 (-1), .int .i64 6, .int .i64 7, .int .i64 14] 3 (0, 0))) ⟨_, _, bs_exec f rfl rfl (bs_int5 _ _ _ _ _ _), by rw [hg5], (Below.refl _ _).alloc (Nat.le_refl _) _, by rw [hg5]; show (Array.push _ _)[_]? = _; (rw [Array.getElem?_push, if_pos rfl] <;> rfl)⟩ ?_
    rintro _ We45 ⟨rfl, hbe46, rg5⟩
    refine ⟨Below.next hS hbe46, a_put f rfl rfl ?_⟩; clear f A; intro A f
    replace hS := Below.next hS hbe46
    refine a_do 4 f rfl (by kernel_rfl) blind_cut hS rfl rfl rfl (y_index rfl rfl (by first | rfl | assumption) rfl (es rfl) (by omega)) ?_; clear f A; intro A f
    refine a_two 5 11 rfl rfl (by kernel_rfl) rfl rfl ?_ ?_
    ·skip
     refine g_val f (y_load1 rfl rfl (ag rfl) (St.q (St.of (row5b_at rg5 q5)) (Below.refl _ _))) ?_
     refine ⟨hS, a_put f rfl rfl ?_⟩; clear f A; intro A f
     refine a_two 6 11 rfl rfl (by kernel_rfl) rfl rfl ?_ ?_
     ·skip
      refine g_call f (IsCall.mk' (cap := []) rfl rfl rfl) (pl rfl) (pAlloc_no3 _ y 0 0 (flB (pickN d 5)) (hI.at_.below hS) hI.may (by omega) (by omega) hfl.2.1 hfl.2.2 hfl.1) ?_
      rintro _ We47 ⟨rfl, hbe48⟩
      refine ⟨_, rfl, Below.next hS hbe48, a_put f rfl rfl ?_⟩; clear f A; intro A f
      replace hS := Below.next hS hbe48
      replace rg5 := row_next rg5 hbe48
      refine a_do 7 f rfl (by kernel_rfl) blind_cut hS rfl rfl rfl (y_move rfl rfl) ?_; clear f A; intro A f
      refine a_do 8 f rfl (by kernel_rfl) blind_cut hS rfl rfl rfl (y_ext rfl rfl rfl) ?_; clear f A; intro A f
      refine a_do 9 f rfl (by kernel_rfl) blind_cut hS rfl rfl rfl (y_ext rfl rfl rfl) ?_; clear f A; intro A f
      refine a_do 10 f rfl (by kernel_rfl) blind_cut hS rfl rfl rfl (y_ext rfl rfl rfl) ?_; clear f A; intro A f
      refine a_one 11 rfl (by kernel_rfl) rfl ?_
      have hsa := hS.size
      refine g_alloc (z := .agg #[.slice none 0 0, .slice none 0 0, .int .i64 0, .slice none 0 0, .slice none 0 0]) rfl (by kernel_rfl) ?_
      intro bA We49 ebA hbe50 rbA
      dsimp only [Value.cells] at rbA
      refine ⟨Below.next hS hbe50, a_put f rfl rfl ?_⟩; clear f A; intro A f
      have hbA0 : W19.heap.size ≤ bA := by omega
      replace hS := Below.next hS hbe50
      replace rg5 := row_next rg5 hbe50
      refine a_one 12 rfl (by kernel_rfl) rfl ?_
      refine g_store f rfl rfl rfl rfl rbA (sz rfl) rfl (Nat.le_of_ble_eq_true rfl) rfl ?_
      clear rbA; intro Wh hbh rbA; dsimp only [setL, over, Value.cells] at rbA
      refine ⟨Below.thenBut hS hbh hbA0, ?_⟩
      replace hS := Below.thenBut hS hbh hbA0
      refine a_do 13 f rfl (by kernel_rfl) blind_cut hS rfl rfl rfl (y_assign rfl rfl) ?_; clear f A; intro A f
      refine a_do 14 f rfl (by kernel_rfl) blind_cut hS rfl rfl rfl (y_assign rfl rfl) ?_; clear f A; intro A f
      refine a_end (by kernel_rfl) ?_
      exact ⟨rfl, f.sub ⟨rfl, rfl, rfl, rfl, rfl, rfl, rfl, rfl, trivial⟩, hS⟩
     skip
     have hsa := hS.size
     refine g_alloc (z := .agg #[.slice none 0 0, .slice none 0 0, .int .i64 0, .slice none 0 0, .slice none 0 0]) rfl (by kernel_rfl) ?_
     intro bA We51 ebA hbe52 rbA
     dsimp only [Value.cells] at rbA
     refine ⟨Below.next hS hbe52, a_put f rfl rfl ?_⟩; clear f A; intro A f
     have hbA0 : W19.heap.size ≤ bA := by omega
     replace hS := Below.next hS hbe52
     replace rg5 := row_next rg5 hbe52
     refine a_one 6 rfl (by kernel_rfl) rfl ?_
     refine g_call f (IsCall.mk' (cap := []) rfl rfl rfl) (pl rfl) (pAlloc_no3 _ y 0 0 (flB (pickN d 5)) (hI.at_.below hS) hI.may (by omega) (by omega) hfl.2.1 hfl.2.2 hfl.1) ?_
     rintro _ We53 ⟨rfl, hbe54⟩
     refine ⟨_, rfl, Below.next hS hbe54, a_put f rfl rfl ?_⟩; clear f A; intro A f
     replace hS := Below.next hS hbe54
     replace rg5 := row_next rg5 hbe54
     replace rbA := row_next rbA hbe54
     refine a_do 7 f rfl (by kernel_rfl) blind_cut hS rfl rfl rfl (y_move rfl rfl) ?_; clear f A; intro A f
     refine a_do 8 f rfl (by kernel_rfl) blind_cut hS rfl rfl rfl (y_ext rfl rfl rfl) ?_; clear f A; intro A f
     refine a_do 9 f rfl (by kernel_rfl) blind_cut hS rfl rfl rfl (y_ext rfl rfl rfl) ?_; clear f A; intro A f
     refine a_do 10 f rfl (by kernel_rfl) blind_cut hS rfl rfl rfl (y_ext rfl rfl rfl) ?_; clear f A; intro A f
     refine a_one 12 rfl (by kernel_rfl) rfl ?_
     refine g_store f rfl rfl rfl rfl rbA (sz rfl) rfl (Nat.le_of_ble_eq_true rfl) rfl ?_
     clear rbA; intro Wh hbh rbA; dsimp only [setL, over, Value.cells] at rbA
     refine ⟨Below.thenBut hS hbh hbA0, ?_⟩
     replace hS := Below.thenBut hS hbh hbA0
     refine a_do 13 f rfl (by kernel_rfl) blind_cut hS rfl rfl rfl (y_assign rfl rfl) ?_; clear f A; intro A f
     refine a_do 14 f rfl (by kernel_rfl) blind_cut hS rfl rfl rfl (y_assign rfl rfl) ?_; clear f A; intro A f
     refine a_end (by kernel_rfl) ?_
     exact ⟨rfl, f.sub ⟨rfl, rfl, rfl, rfl, rfl, rfl, rfl, rfl, trivial⟩, hS⟩
    skip
    have hsa := hS.size
    refine g_alloc (z := .agg #[.slice none 0 0, .slice none 0 0, .int .i64 0, .slice none 0 0, .slice none 0 0]) rfl (by kernel_rfl) ?_
    intro bA We55 ebA hbe56 rbA
    dsimp only [Value.cells] at rbA
    refine ⟨Below.next hS hbe56, a_put f rfl rfl ?_⟩; clear f A; intro A f
    have hbA0 : W19.heap.size ≤ bA := by omega
    replace hS := Below.next hS hbe56
    replace rg5 := row_next rg5 hbe56
    refine a_one 5 rfl (by kernel_rfl) rfl ?_
    refine g_val f (y_load1 rfl rfl (ag rfl) (St.q (St.of (row5b_at rg5 q5)) (Below.refl _ _))) ?_
    refine ⟨hS, a_put f rfl rfl ?_⟩; clear f A; intro A f
    refine a_one 6 rfl (by kernel_rfl) rfl ?_
    refine g_call f (IsCall.mk' (cap := []) rfl rfl rfl) (pl rfl) (pAlloc_no3 _ y 0 0 (flB (pickN d 5)) (hI.at_.below hS) hI.may (by omega) (by omega) hfl.2.1 hfl.2.2 hfl.1) ?_
    rintro _ We57 ⟨rfl, hbe58⟩
    refine ⟨_, rfl, Below.next hS hbe58, a_put f rfl rfl ?_⟩; clear f A; intro A f
    replace hS := Below.next hS hbe58
    replace rg5 := row_next rg5 hbe58
    replace rbA := row_next rbA hbe58
    refine a_do 7 f rfl (by kernel_rfl) blind_cut hS rfl rfl rfl (y_move rfl rfl) ?_; clear f A; intro A f
    refine a_do 8 f rfl (by kernel_rfl) blind_cut hS rfl rfl rfl (y_ext rfl rfl rfl) ?_; clear f A; intro A f
    refine a_do 9 f rfl (by kernel_rfl) blind_cut hS rfl rfl rfl (y_ext rfl rfl rfl) ?_; clear f A; intro A f
    refine a_do 10 f rfl (by kernel_rfl) blind_cut hS rfl rfl rfl (y_ext rfl rfl rfl) ?_; clear f A; intro A f
    refine a_one 12 rfl (by kernel_rfl) rfl ?_
    refine g_store f rfl rfl rfl rfl rbA (sz rfl) rfl (Nat.le_of_ble_eq_true rfl) rfl ?_
    clear rbA; intro Wh hbh rbA; dsimp only [setL, over, Value.cells] at rbA
    refine ⟨Below.thenBut hS hbh hbA0, ?_⟩
    replace hS := Below.thenBut hS hbh hbA0
    refine a_do 13 f rfl (by kernel_rfl) blind_cut hS rfl rfl rfl (y_assign rfl rfl) ?_; clear f A; intro A f
    refine a_do 14 f rfl (by kernel_rfl) blind_cut hS rfl rfl rfl (y_assign rfl rfl) ?_; clear f A; intro A f
    refine a_end (by kernel_rfl) ?_
    exact ⟨rfl, f.sub ⟨rfl, rfl, rfl, rfl, rfl, rfl, rfl, rfl, trivial⟩, hS⟩
   skip
   have hsa := hS.size
   refine g_alloc (z := .agg #[.slice none 0 0, .slice none 0 0, .int .i64 0, .slice none 0 0, .slice none 0 0]) rfl (by kernel_rfl) ?_
   intro bA We59 ebA hbe60 rbA
   dsimp only [Value.cells] at rbA
   refine ⟨Below.next hS hbe60, a_put f rfl rfl ?_⟩; clear f A; intro A f
   have hbA0 : W19.heap.size ≤ bA := by omega
   replace hS := Below.next hS hbe60
   refine a_one 1 rfl (by kernel_rfl) rfl ?_
   obtain ⟨g5, hg5⟩ : ∃ g, g = We59.heap.size := ⟨_, rfl⟩
   refine g_opR (R := fun v W => v = .slice (some ⟨g5, 0, none⟩) 5 5 ∧ Below We59.heap.size We59 W ∧ W.heap[g5]? = some (.cells #[.int .i64 16, .int .i64 (-1), .int .i64 6, .int .i64 7, .int .i64 14] 3 (0, 0))) ⟨_, _, bs_exec f rfl rfl (bs_int5 _ _ _ _ _ _), by rw [hg5], (Below.refl _ _).alloc (Nat.le_refl _) _, by rw [hg5]; show (Array.push _ _)[_]? = _; (rw [Array.getElem?_push, if_pos rfl] <;> rfl)⟩ ?_
   rintro _ We61 ⟨rfl, hbe62, rg5⟩
   refine ⟨Below.next hS hbe62, a_put f rfl rfl ?_⟩; clear f A; intro A f
   replace hS := Below.next hS hbe62
   replace rbA := row_next rbA hbe62
   refine a_do 4 f rfl (by kernel_rfl) blind_cut hS rfl rfl rfl (y_index rfl rfl (by first | rfl | assumption) rfl (es rfl) (by omega)) ?_; clear f A; intro A f
   refine a_one 5 rfl (by kernel_rfl) rfl ?_
   refine g_val f (y_load1 rfl rfl (ag rfl) (St.q (St.of (row5b_at rg5 q5)) (Below.refl _ _))) ?_
   refine ⟨hS, a_put f rfl rfl ?_⟩; clear f A; intro A f
   refine a_one 6 rfl (by kernel_rfl) rfl ?_
   refine g_call f (IsCall.mk' (cap := []) rfl rfl rfl) (pl rfl) (pAlloc_no3 _ y 0 0 (flB (pickN d 5)) (hI.at_.below hS) hI.may (by omega) (by omega) hfl.2.1 hfl.2.2 hfl.1) ?_
   rintro _ We63 ⟨rfl, hbe64⟩
   refine ⟨_, rfl, Below.next hS hbe64, a_put f rfl rfl ?_⟩; clear f A; intro A f
   replace hS := Below.next hS hbe64
   replace rg5 := row_next rg5 hbe64
   replace rbA := row_next rbA hbe64
   refine a_do 7 f rfl (by kernel_rfl) blind_cut hS rfl rfl rfl (y_move rfl rfl) ?_; clear f A; intro A f
   refine a_do 8 f rfl (by kernel_rfl) blind_cut hS rfl rfl rfl (y_ext rfl rfl rfl) ?_; clear f A; intro A f
   refine a_do 9 f rfl (by kernel_rfl) blind_cut hS rfl rfl rfl (y_ext rfl rfl rfl) ?_; clear f A; intro A f
   refine a_do 10 f rfl (by kernel_rfl) blind_cut hS rfl rfl rfl (y_ext rfl rfl rfl) ?_; clear f A; intro A f
   refine a_one 12 rfl (by kernel_rfl) rfl ?_
   refine g_store f rfl rfl rfl rfl rbA (sz rfl) rfl (Nat.le_of_ble_eq_true rfl) rfl ?_
   clear rbA; intro Wh hbh rbA; dsimp only [setL, over, Value.cells] at rbA
   refine ⟨Below.thenBut hS hbh hbA0, ?_⟩
   replace hS := Below.thenBut hS hbh hbA0
   refine a_do 13 f rfl (by kernel_rfl) blind_cut hS rfl rfl rfl (y_assign rfl rfl) ?_; clear f A; intro A f
   refine a_do 14 f rfl (by kernel_rfl) blind_cut hS rfl rfl rfl (y_assign rfl rfl) ?_; clear f A; intro A f
   refine a_end (by kernel_rfl) ?_
   exact ⟨rfl, f.sub ⟨rfl, rfl, rfl, rfl, rfl, rfl, rfl, rfl, trivial⟩, hS⟩
  skip
  have hsa := hS.size
  refine g_alloc (z := .agg #[.slice none 0 0, .slice none 0 0, .int .i64 0, .slice none 0 0, .slice none 0 0]) rfl (by kernel_rfl) ?_
  intro bA We65 ebA hbe66 rbA
  dsimp only [Value.cells] at rbA
  refine ⟨Below.next hS hbe66, a_put f rfl rfl ?_⟩; clear f A; intro A f
  have hbA0 : W19.heap.size ≤ bA := by omega
  replace hS := Below.next hS hbe66
  refine a_two 1 3 rfl rfl (by kernel_rfl) rfl rfl ?_ ?_
  ·skip
   obtain ⟨g5, hg5⟩ : ∃ g, g = We65.heap.size := ⟨_, rfl⟩
   refine g_opR (R := fun v W => v = .slice (some ⟨g5, 0, none⟩) 5 5 ∧ Below We65.heap.size We65 W ∧ W.heap[g5]? = some (.cells #[.int .i64 16, .int .i64 (-1), .int .i64 6, .int .i64 7, .int .i64 14] 3 (0, 0))) ⟨_, _, bs_exec f rfl rfl (bs_int5 _ _ _ _ _ _), by rw [hg5], (Below.refl _ _).alloc (Nat.le_refl _) _, by rw [hg5]; show (Array.push _ _)[_]? = _; (rw [Array.getElem?_push, if_pos rfl] <;> rfl)⟩ ?_
   rintro _ We67 ⟨rfl, hbe68, rg5⟩
   refine ⟨Below.next hS hbe68, a_put f rfl rfl ?_⟩; clear f A; intro A f
   replace hS := Below.next hS hbe68
   replace rbA := row_next rbA hbe68
   refine a_one 3 rfl (by kernel_rfl) rfl ?_
   refine g_call f (IsCall.mk' (cap := []) rfl rfl rfl) (pl rfl) (c_same (picked_fn d 5 5 rfl wd (by omega) (by omega) _)) ?_
   rintro _ We69 ⟨rfl, hbe70⟩
   refine ⟨_, rfl, Below.next hS hbe70, a_put f rfl rfl ?_⟩; clear f A; intro A f
   replace hS := Below.next hS hbe70
   replace rg5 := row_next rg5 hbe70
   replace rbA := row_next rbA hbe70
   refine a_do 4 f rfl (by kernel_rfl) blind_cut hS rfl rfl rfl (y_index rfl rfl (by first | rfl | assumption) rfl (es rfl) (by omega)) ?_; clear f A; intro A f
   refine a_one 5 rfl (by kernel_rfl) rfl ?_
   refine g_val f (y_load1 rfl rfl (ag rfl) (St.q (St.of (row5b_at rg5 q5)) (Below.refl _ _))) ?_
   refine ⟨hS, a_put f rfl rfl ?_⟩; clear f A; intro A f
   refine a_one 6 rfl (by kernel_rfl) rfl ?_
   refine g_call f (IsCall.mk' (cap := []) rfl rfl rfl) (pl rfl) (pAlloc_no3 _ y 0 0 (flB (pickN d 5)) (hI.at_.below hS) hI.may (by omega) (by omega) hfl.2.1 hfl.2.2 hfl.1) ?_
   rintro _ We71 ⟨rfl, hbe72⟩
   refine ⟨_, rfl, Below.next hS hbe72, a_put f rfl rfl ?_⟩; clear f A; intro A f
   replace hS := Below.next hS hbe72
   replace rg5 := row_next rg5 hbe72
   replace rbA := row_next rbA hbe72
   refine a_do 7 f rfl (by kernel_rfl) blind_cut hS rfl rfl rfl (y_move rfl rfl) ?_; clear f A; intro A f
   refine a_do 8 f rfl (by kernel_rfl) blind_cut hS rfl rfl rfl (y_ext rfl rfl rfl) ?_; clear f A; intro A f
   refine a_do 9 f rfl (by kernel_rfl) blind_cut hS rfl rfl rfl (y_ext rfl rfl rfl) ?_; clear f A; intro A f
   refine a_do 10 f rfl (by kernel_rfl) blind_cut hS rfl rfl rfl (y_ext rfl rfl rfl) ?_; clear f A; intro A f
   refine a_one 12 rfl (by kernel_rfl) rfl ?_
   refine g_store f rfl rfl rfl rfl rbA (sz rfl) rfl (Nat.le_of_ble_eq_true rfl) rfl ?_
   clear rbA; intro Wh hbh rbA; dsimp only [setL, over, Value.cells] at rbA
   refine ⟨Below.thenBut hS hbh hbA0, ?_⟩
   replace hS := Below.thenBut hS hbh hbA0
   refine a_do 13 f rfl (by kernel_rfl) blind_cut hS rfl rfl rfl (y_assign rfl rfl) ?_; clear f A; intro A f
   refine a_do 14 f rfl (by kernel_rfl) blind_cut hS rfl rfl rfl (y_assign rfl rfl) ?_; clear f A; intro A f
   refine a_end (by kernel_rfl) ?_
   exact ⟨rfl, f.sub ⟨rfl, rfl, rfl, rfl, rfl, rfl, rfl, rfl, trivial⟩, hS⟩
  skip
  refine g_call f (IsCall.mk' (cap := []) rfl rfl rfl) (pl rfl) (c_same (picked_fn d 5 5 rfl wd (by omega) (by omega) _)) ?_
  rintro _ We73 ⟨rfl, hbe74⟩
  refine ⟨_, rfl, Below.next hS hbe74, a_put f rfl rfl ?_⟩; clear f A; intro A f
  replace hS := Below.next hS hbe74
  replace rbA := row_next rbA hbe74
  refine a_one 1 rfl (by kernel_rfl) rfl ?_
  obtain ⟨g5, hg5⟩ : ∃ g, g = We73.heap.size := ⟨_, rfl⟩
  refine g_opR (R := fun v W => v = .slice (some ⟨g5, 0, none⟩) 5 5 ∧ Below We73.heap.size We73 W ∧ W.heap[g5]? = some (.cells #[.int .i64 16, .int .i64 (-1), .int .i64 6, .int .i64 7, .int .i64 14] 3 (0, 0))) ⟨_, _, bs_exec f rfl rfl (bs_int5 _ _ _ _ _ _), by rw [hg5], (Below.refl _ _).alloc (Nat.le_refl _) _, by rw [hg5]; show (Array.push _ _)[_]? = _; (rw [Array.getElem?_push, if_pos rfl] <;> rfl)⟩ ?_
  rintro _ We75 ⟨rfl, hbe76, rg5⟩
  refine ⟨Below.next hS hbe76, a_put f rfl rfl ?_⟩; clear f A; intro A f
  replace hS := Below.next hS hbe76
  replace rbA := row_next rbA hbe76
  refine a_do 4 f rfl (by kernel_rfl) blind_cut hS rfl rfl rfl (y_index rfl rfl (by first | rfl | assumption) rfl (es rfl) (by omega)) ?_; clear f A; intro A f
  refine a_one 5 rfl (by kernel_rfl) rfl ?_
  refine g_val f (y_load1 rfl rfl (ag rfl) (St.q (St.of (row5b_at rg5 q5)) (Below.refl _ _))) ?_
  refine ⟨hS, a_put f rfl rfl ?_⟩; clear f A; intro A f
  refine a_one 6 rfl (by kernel_rfl) rfl ?_
  refine g_call f (IsCall.mk' (cap := []) rfl rfl rfl) (pl rfl) (pAlloc_no3 _ y 0 0 (flB (pickN d 5)) (hI.at_.below hS) hI.may (by omega) (by omega) hfl.2.1 hfl.2.2 hfl.1) ?_
  rintro _ We77 ⟨rfl, hbe78⟩
  refine ⟨_, rfl, Below.next hS hbe78, a_put f rfl rfl ?_⟩; clear f A; intro A f
  replace hS := Below.next hS hbe78
  replace rg5 := row_next rg5 hbe78
  replace rbA := row_next rbA hbe78
  refine a_do 7 f rfl (by kernel_rfl) blind_cut hS rfl rfl rfl (y_move rfl rfl) ?_; clear f A; intro A f
  refine a_do 8 f rfl (by kernel_rfl) blind_cut hS rfl rfl rfl (y_ext rfl rfl rfl) ?_; clear f A; intro A f
  refine a_do 9 f rfl (by kernel_rfl) blind_cut hS rfl rfl rfl (y_ext rfl rfl rfl) ?_; clear f A; intro A f
  refine a_do 10 f rfl (by kernel_rfl) blind_cut hS rfl rfl rfl (y_ext rfl rfl rfl) ?_; clear f A; intro A f
  refine a_one 12 rfl (by kernel_rfl) rfl ?_
  refine g_store f rfl rfl rfl rfl rbA (sz rfl) rfl (Nat.le_of_ble_eq_true rfl) rfl ?_
  clear rbA; intro Wh hbh rbA; dsimp only [setL, over, Value.cells] at rbA
  refine ⟨Below.thenBut hS hbh hbA0, ?_⟩
  replace hS := Below.thenBut hS hbh hbA0
  refine a_do 13 f rfl (by kernel_rfl) blind_cut hS rfl rfl rfl (y_assign rfl rfl) ?_; clear f A; intro A f
  refine a_do 14 f rfl (by kernel_rfl) blind_cut hS rfl rfl rfl (y_assign rfl rfl) ?_; clear f A; intro A f
  refine a_end (by kernel_rfl) ?_
  exact ⟨rfl, f.sub ⟨rfl, rfl, rfl, rfl, rfl, rfl, rfl, rfl, trivial⟩, hS⟩
 skip
 clear f A; rintro A W79 ⟨f, hb4⟩
 replace B0 := Below.next B0 hb4; replace hm := hm.below hb4; replace hr := hr.below hb4; replace hI := hI.below hb4; replace rb3 := row_next rb3 hb4; replace rb8 := row_next rb8 hb4
 revert A; refine vT (vS (vR (vlm (h:=vlc (c_same (picked_fn d 256 256 rfl wd (by omega) (by omega) _)) (h:=?_))))); intro W80 hb81; replace B0 := Below.next B0 hb81; replace hm := hm.below hb81; replace hr := hr.below hb81; replace hI := hI.below hb81; replace rb3 := row_next rb3 hb81; replace rb8 := row_next rb8 hb81
 intro A f
 refine l_as (z := .int .i64 0) f rfl rfl rfl rfl (by kernel_rfl) rfl rfl (fun _ => rfl) (fun _ => rfl) rfl (by intro u hu; simp [Value.cells] at hu; rcases hu with rfl <;> rfl) ?_; clear f A; intro b82 W83 eb82 hb84 rb82 A f
 dsimp only [Value.cells] at rb82
 have hpb82 := hb84
 have o_b3_b82 : b3 < b82 := by have := row_lt rb3; omega
 have o_b8_b82 : b8 < b82 := by have := row_lt rb8; omega
 have z_B0_b82 := B0.size; rw [eb82] at z_B0_b82
 replace B0 := Below.next B0 hb84; replace hm := hm.below hb84; replace hr := hr.below hb84; replace hI := hI.below hb84; replace rb3 := row_next rb3 hb84; replace rb8 := row_next rb8 hb84
 revert A; refine vW (vS (vR (vl5 (rowq rb8) (h:=vl1 (rowq rb82) (h:=?_))))); intro A f
 refine l_call f rfl rfl rfl (IsCall.mk' (cap := []) rfl rfl rfl) (pl rfl) (pFree_bad _ y _ aw hI.at_ hI.may (by omega) hI.perm) ?_
 clear f A
 rintro _ W85 ⟨⟨v0, v1, v2, v3, v4, er, rfl, o0, o1, o2, o3, o4, hER⟩, hb86⟩
 refine ⟨_, rfl, ?_⟩
 intro A f
 replace B0 := Below.next B0 hb86; replace hm := hm.below hb86; replace hr := hr.below hb86; replace hI := hI.below hb86; replace rb3 := row_next rb3 hb86; replace rb8 := row_next rb8 hb86; replace rb82 := row_next rb82 hb86
 revert A; refine vlm (h:=vle (h:=vle (h:=?_))); intro A f
 refine l_as (z := .agg #[.slice none 0 0, .slice none 0 0, .int .i64 0, .slice none 0 0, .slice none 0 0]) f rfl rfl rfl rfl (by kernel_rfl) rfl rfl (fun _ => rfl) (fun _ => rfl) rfl (by intro u hu; simp [Value.cells] at hu; rcases hu with rfl | rfl | rfl | rfl | rfl <;> assumption) ?_; clear f A; intro b87 W88 eb87 hb89 rb87 A f
 dsimp only [Value.cells] at rb87
 have hpb87 := hb89
 have o_b3_b87 : b3 < b87 := by have := row_lt rb3; omega
 have o_b8_b87 : b8 < b87 := by have := row_lt rb8; omega
 have o_b82_b87 : b82 < b87 := by have := row_lt rb82; omega
 have z_B0_b87 := B0.size; rw [eb87] at z_B0_b87
 replace B0 := Below.next B0 hb89; replace hm := hm.below hb89; replace hr := hr.below hb89; replace hI := hI.below hb89; replace rb3 := row_next rb3 hb89; replace rb8 := row_next rb8 hb89; replace rb82 := row_next rb82 hb89
 revert A; refine vla (h:=vW (vS (vR (vla (h:=vW (vS (vS (vR (vlm (h:=vld (y_func rfl rfl) (h:=?_)))))))))))
 have hcc := bContains_any _ 10 #[.pointer (some ⟨b82, 0, none⟩)] vo vn vc aw (fun b => decide (b.a = (pickN d 256 : Int))) hI.blks (fun args W => pl rfl args W) (fun i hi W hW => pbF_c W (aw.getD i .zero) b82 (pickN d 256 : Int) (fun wx hx => by rw [cell_of_row _ _ _ _ _ _ (row_next rb82 (Below.next hW hx))]; rfl))
 obtain ⟨e, he⟩ : ∃ e, aw.any (fun b => decide (b.a = (pickN d 256 : Int))) = e := ⟨_, rfl⟩
 intro A f
 rw [he] at hcc hER
 refine l_callif (e = true) f rfl rfl rfl (IsCall.mk' (cap := []) rfl rfl rfl) (pl rfl) (by rw [Bool.decide_eq_true]; exact hcc) ?_ ?_
 ·clear f A; intro c90 W92 hb91 A f
  replace B0 := Below.next B0 hb91; replace hm := hm.below hb91; replace hr := hr.below hb91; replace hI := hI.below hb91; replace rb3 := row_next rb3 hb91; replace rb8 := row_next rb8 hb91; replace rb82 := row_next rb82 hb91; replace rb87 := row_next rb87 hb91
  have her : er = 0 := by rw [c90] at hER; exact hER
  revert A; refine vW (vC (h:=vR (vla (h:=vW (vS (vR (vl5 (rowq rb8) (h:=vl1 (rowq rb82) (h:=vlc (pFree_no1 _ y (-1) _ hI.at_ hI.may (by omega)) (h:=?_)))))))))); intro W93 hb94; replace B0 := Below.next B0 hb94; replace hm := hm.below hb94; replace hr := hr.below hb94; replace hI := hI.below hb94; replace rb3 := row_next rb3 hb94; replace rb8 := row_next rb8 hb94; replace rb82 := row_next rb82 hb94; replace rb87 := row_next rb87 hb94
  refine vlm (h:=vle (h:=vle (h:=?_))); intro A f
  refine l_as (z := .agg #[.slice none 0 0, .slice none 0 0, .int .i64 0, .slice none 0 0, .slice none 0 0]) f rfl rfl rfl rfl (by kernel_rfl) rfl rfl (fun _ => rfl) (fun _ => rfl) rfl (by intro u hu; simp [Value.cells] at hu; rcases hu with rfl | rfl | rfl | rfl | rfl <;> rfl) ?_; clear f A; intro b95 W96 eb95 hb97 rb95 A f
  dsimp only [Value.cells] at rb95
  have hpb95 := hb97
  have o_b3_b95 : b3 < b95 := by have := row_lt rb3; omega
  have o_b8_b95 : b8 < b95 := by have := row_lt rb8; omega
  have o_b82_b95 : b82 < b95 := by have := row_lt rb82; omega
  have o_b87_b95 : b87 < b95 := by have := row_lt rb87; omega
  have z_B0_b95 := B0.size; rw [eb95] at z_B0_b95
  replace B0 := Below.next B0 hb97; replace hm := hm.below hb97; replace hr := hr.below hb97; replace hI := hI.below hb97; replace rb3 := row_next rb3 hb97; replace rb8 := row_next rb8 hb97; replace rb82 := row_next rb82 hb97; replace rb87 := row_next rb87 hb97
  revert A; refine vla (h:=vW (vS (vR (vlm (h:=vlm (h:=vlm (h:=vlb (y_eql rfl rfl rfl) (h:=?_) (g:=?_))))))))
  ·intro c98
   refine vlp (h:=vlm (h:=vlm (h:=vlb (y_eql rfl rfl rfl) (h:=?_) (g:=?_))))
   ·intro c99
    refine vlp (h:=vlm (h:=vlm (h:=vlb (y_eql rfl rfl rfl) (h:=?_) (g:=?_))))
    ·intro c100
     refine vlp (h:=vlm (h:=vlm (h:=vlm (h:=vlb (y_eql rfl rfl rfl) (h:=?_) (g:=?_)))))
     ·intro c101
      refine vlp (h:=vlm (h:=vlm (h:=vlb (y_eql rfl rfl rfl) (h:=?_) (g:=?_))))
      ·intro c102
       refine vlp (h:=vla (h:=vW (vE ?_))); intro A f
       refine x_ret1 f rfl rfl ?_
       exact ⟨rfl, B0⟩
      intro c102; exfalso; omega
     intro c101; exfalso; omega
    intro c100; exfalso; omega
   intro c99; exfalso; omega
  intro c98; exfalso; omega
 clear f A; intro c90 W92 hb91 A f
 replace B0 := Below.next B0 hb91; replace hm := hm.below hb91; replace hr := hr.below hb91; replace hI := hI.below hb91; replace rb3 := row_next rb3 hb91; replace rb8 := row_next rb8 hb91; replace rb82 := row_next rb82 hb91; replace rb87 := row_next rb87 hb91
 have her : er = 4 := by rw [(by simpa using c90 : e = false)] at hER; exact hER
 revert A; refine vW (vD (h:=vK (vT (vS (vR (vl5 (rowq rb8) (h:=vl1 (rowq rb82) (h:=vlc (pFree_no1 _ y (-1) _ hI.at_ hI.may (by omega)) (h:=?_))))))))); intro W103 hb104; replace B0 := Below.next B0 hb104; replace hm := hm.below hb104; replace hr := hr.below hb104; replace hI := hI.below hb104; replace rb3 := row_next rb3 hb104; replace rb8 := row_next rb8 hb104; replace rb82 := row_next rb82 hb104; replace rb87 := row_next rb87 hb104
 refine vlm (h:=vle (h:=vle (h:=?_))); intro A f
 refine l_as (z := .agg #[.slice none 0 0, .slice none 0 0, .int .i64 0, .slice none 0 0, .slice none 0 0]) f rfl rfl rfl rfl (by kernel_rfl) rfl rfl (fun _ => rfl) (fun _ => rfl) rfl (by intro u hu; simp [Value.cells] at hu; rcases hu with rfl | rfl | rfl | rfl | rfl <;> rfl) ?_; clear f A; intro b105 W106 eb105 hb107 rb105 A f
 dsimp only [Value.cells] at rb105
 have hpb105 := hb107
 have o_b3_b105 : b3 < b105 := by have := row_lt rb3; omega
 have o_b8_b105 : b8 < b105 := by have := row_lt rb8; omega
 have o_b82_b105 : b82 < b105 := by have := row_lt rb82; omega
 have o_b87_b105 : b87 < b105 := by have := row_lt rb87; omega
 have z_B0_b105 := B0.size; rw [eb105] at z_B0_b105
 replace B0 := Below.next B0 hb107; replace hm := hm.below hb107; replace hr := hr.below hb107; replace hI := hI.below hb107; replace rb3 := row_next rb3 hb107; replace rb8 := row_next rb8 hb107; replace rb82 := row_next rb82 hb107; replace rb87 := row_next rb87 hb107
 revert A; refine vla (h:=vW (vS (vR (vlm (h:=vlm (h:=vlm (h:=vlb (y_eql rfl rfl rfl) (h:=?_) (g:=?_))))))))
 ·intro c108
  refine vlp (h:=vlm (h:=vlm (h:=vlb (y_eql rfl rfl rfl) (h:=?_) (g:=?_))))
  ·intro c109
   refine vlp (h:=vlm (h:=vlm (h:=vlb (y_eql rfl rfl rfl) (h:=?_) (g:=?_))))
   ·intro c110
    refine vlp (h:=vlm (h:=vlm (h:=vlm (h:=vlb (y_eql rfl rfl rfl) (h:=?_) (g:=?_)))))
    ·intro c111
     refine vlp (h:=vlm (h:=vlm (h:=vlb (y_eql rfl rfl rfl) (h:=?_) (g:=?_))))
     ·intro c112
      refine vlp (h:=vla (h:=vW (vE ?_))); intro A f
      refine x_ret1 f rfl rfl ?_
      exact ⟨rfl, B0⟩
     intro c112; exfalso; omega
    intro c111; exfalso; omega
   intro c110; exfalso; omega
  intro c109; exfalso; omega
 intro c108; exfalso; omega
end Go.Proofs.YtjohdbiipeedkabGreatDoor
