/-
  OWN TEXTS.
-/
import Derived.Test.YtjohdbiipeedkaaGreatDoorPart15
set_option maxRecDepth 10000
set_option maxHeartbeats 4000000
namespace Go.Proofs.YtjohdbiipeedkaaGreatDoor
open Go Go.RowKit Go.Proofs.YtjohdbiipeedkaaGreatDoor.Kit
theorem ao_at {l m : List Bk} (h : Kit.ao l = Kit.ao m) {k : Nat} (hk : k < l.length) (hk' : k < m.length) : (l.getD k .zero).a = (m.getD k .zero).a ∧ (l.getD k .zero).o = (m.getD k .zero).o := by
 have e := congrArg (·[k]?) h
 simp only [Kit.ao, List.getElem?_map, List.getElem?_eq_getElem hk, List.getElem?_eq_getElem hk', Option.map_some, Option.some.injEq, Prod.mk.injEq] at e
 simpa [List.getD_eq_getElem?_getD, List.getElem?_eq_getElem hk, List.getElem?_eq_getElem hk'] using e
theorem ao_len {l m : List Bk} (h : Kit.ao l = Kit.ao m) : l.length = m.length := by
 have := congrArg List.length h
 simpa [Kit.ao] using this
theorem wholeF_true (W : World) (ba bo bt bt' : Int) :
    Calls Tryz.prog 20 #[.agg #[.int .i64 ba, .int .i64 bo, .int .i64 bt], .agg #[.int .i64 ba, .int .i64 bo, .int .i64 bt']] W fun e W' => e = .returned (.bool true) ∧ Below W.heap.size W W' := by
 have q1 : (ba == ba) = true := by simp
 have q2 : (bo == bo) = true := by simp
 go_enter Tryz.func20, Tryz.ntmps20
 go_wp2
 go_ret
 exact ⟨rfl, ((Below.refl _ _).alloc (Nat.le_refl _) _).alloc (by simp) _⟩
theorem bEqual_true (w : World) (xo yo : Option Addr) (n cx cy : Nat) (l m : List Bk) (hl : Blks w xo n l) (hm : Blks w yo n m) (h : Kit.ao l = Kit.ao m) :
    Calls Tryz.prog 19 #[.slice xo n cx, .slice yo n cy, .func (.func 20) #[] #[]] w fun e w' => e = .returned (.bool true) ∧ Below w.heap.size w w' := by
 obtain ⟨l1, l2, l3⟩ := hl
 obtain ⟨m1, m2, m3⟩ := hm
 have HA : Hid _ := h
 have q0 : ((n : Int) != (n : Int)) = false := by simp
 clear h
 go_enter Tryz.func19, Tryz.ntmps19
 go_wp2_with fail
 go_loopw [17] (fun i wr => ∃ k : Nat, k ≤ n ∧ i = .int .i64 k ∧ Below w.heap.size w wr) (fun i _ => n - (intOf i).toNat)
 case atStart => exact ⟨0, Nat.zero_le _, rfl, Below.refl _ _⟩
 case round =>
  obtain ⟨k, hk, rfl, hB⟩ := hrel
  by_cases hlt : k < n
  ·obtain ⟨b1, o1, x, y, u, rfl, c1, c2, c3, hX⟩ := (l3.below hB).at k (by omega)
   obtain ⟨b2, o2, x', y', u', rfl, d1, d2, d3, hX'⟩ := (m3.below hB).at k (by omega)
   obtain ⟨e1, e2⟩ := ao_at HA.out (k := k) (by omega) (by omega)
   rw [hX.out, hX'.out] at e1 e2
   dsimp only at e1 e2
   subst e1
   subst e2
   have hb1 := below_box wr (.cells #[.int .i64 x, .int .i64 y, .int .i64 u] 40)
   have d1' := keep d1 hb1
   have d2' := keep d2 hb1
   have d3' := keep d3 hb1
   have f := tbox_new' wr ⟨x, y, u⟩ 40
   dsimp only at f
   obtain ⟨W1, hW1⟩ : ∃ W1, wr.alloc (.cells #[.int .i64 x, .int .i64 y, .int .i64 u] 40) = W1 := ⟨_, rfl⟩
   rw [hW1] at hb1 d1' d2' d3' f
   have HW1 : Hid _ := hW1
   obtain ⟨f0, f1, f2⟩ := f
   have hb2 := below_box W1 (.cells #[.int .i64 x, .int .i64 y, .int .i64 u'] 40)
   have f0' := keep f0 hb2
   have f1' := keep f1 hb2
   have f2' := keep f2 hb2
   have g := tbox_new' W1 ⟨x, y, u'⟩ 40
   dsimp only at g
   obtain ⟨W2, hW2⟩ : ∃ W2, W1.alloc (.cells #[.int .i64 x, .int .i64 y, .int .i64 u'] 40) = W2 := ⟨_, rfl⟩
   rw [hW2] at hb2 f0' f1' f2' g
   have HW2 : Hid _ := hW2
   obtain ⟨g0, g1, g2⟩ := g
   have hB1 := hB.trans (hb1.mono hB.size)
   have hB2 := hB1.trans (hb2.mono hB1.size)
   clear hW1 hW2 hX hX' l3 m3 hb1 hb2
   go_wp2_with (first | rw [HW1.out] | rw [HW2.out])
   go_at_call 20
   refine (wholeF_true W2 x y u u').mono ?_
   rintro e w3 ⟨rfl, hb3⟩
   have hB3 := hB2.trans (hb3.mono hB2.size)
   clear HW1 HW2 hB1 hB2 hb3 c1 c2 c3 d1 d2 d3 d1' d2' d3' f0 f1 f2 f0' f1' f2' g0 g1 g2
   go_wp2
   go_roundw
   case rel => exact ⟨k + 1, by omega, by go_num, hB3⟩
   case measure => simp [intOf]; omega
  go_wp2
  go_ret
  exact ⟨rfl, hB⟩
structure PgF (H0 : Hp) (W : World) (y : Hx) (l : List Bk) : Prop where
 at_ : y.At W
 may : HMay y.hp
 cpus : y.hp.cpus = H0.cpus
 ft : SameFT y.hp H0
 occ : ∀ q, occ y.hp q = occ H0 q
 perm : (l.map prB).Perm (y.hp.live.map prB)
theorem PgF.below {H0 : Hp} {W W' : World} {y : Hx} {l : List Bk} (h : PgF H0 W y l) (hb : Below W.heap.size W W') : PgF H0 W' y l := ⟨h.at_.below hb, h.may, h.cpus, h.ft, h.occ, h.perm⟩
theorem PgF.but {H0 : Hp} {b : Nat} {W W' : World} {y : Hx} {l : List Bk} (h : PgF H0 W y l) (hb : But b W W') (ho : Off b y) : PgF H0 W' y l := ⟨ho.but h.at_ hb, h.may, h.cpus, h.ft, h.occ, h.perm⟩
theorem PgI.toF {B : Nat} {H0 : Hp} {W : World} {y : Hx} {aw : List Bk} {vo : Option Addr} {vn vc : Nat} (h : PgI B H0 W y aw vo vn vc) : PgF H0 W y aw := ⟨h.at_, h.may, h.cpus, h.ft, h.occ, h.perm⟩
theorem erase_drop {l : List Bk} {k : Nat} : (l.drop k).eraseIdx 0 = l.drop (k + 1) := by
 rw [List.eraseIdx_zero, List.tail_drop]
theorem getD_drop {l : List Bk} {k : Nat} : (l.drop k).getD 0 .zero = l.getD k .zero := by
 simp [List.getD_eq_getElem?_getD]
theorem regs_but {w w' : World} {b : Nat} {ao : Option Addr} {n : Nat} {l : List (Int × Int)} (h : Regs w ao n l) (hb : But b w w') (hne : ∀ a, ao = some a → a.block ≠ b) : Regs w' ao n l :=
 ⟨h.len, h.reach, fun i hi => by
  obtain ⟨c, off, e, h1, h2⟩ := h.at_ i hi
  have hc := hne _ e
  have lt1 := World.block_lt_of_cell? w _ h1
  exact ⟨c, off, e, (World.cell?_of_block (a := ⟨c, off + i * 2, none⟩) (hb.block c lt1 hc)).trans h1, (World.cell?_of_block (a := ⟨c, off + i * 2 + 1, none⟩) (hb.block c lt1 hc)).trans h2⟩⟩
theorem zone_bounds {H G : Hp} (hs : SameFT H G) (h : HMay H) (g : HMay G) : (H.zones.getD 1 ⟨0, 0, [], []⟩).f = (H.zones.getD 0 ⟨0, 0, [], []⟩).t ∧ (G.zones.getD 1 ⟨0, 0, [], []⟩).f = (H.zones.getD 0 ⟨0, 0, [], []⟩).t ∧ (G.zones.getD 0 ⟨0, 0, [], []⟩).t = (H.zones.getD 0 ⟨0, 0, [], []⟩).t := by
 have a := (hs 0).2
 have b := h.zs.f1
 have c := g.zs.f1
 exact ⟨b, by rw [c, a], a.symm⟩
theorem zones_same {H G : Hp} (h : HMay H) (g : HMay G) (hs : SameFT H G) (ho : ∀ q, occ H q = occ G q) (h1 : H.live = []) (h2 : H.lists = []) (g1 : G.live = []) (g2 : G.lists = []) (k : Nat) (hk : k < 2) : Kit.ao (H.zones.getD k ⟨0, 0, [], []⟩).free = Kit.ao (G.zones.getD k ⟨0, 0, [], []⟩).free := by
 have m : ∀ (F : Hp), HMay F → ∀ j, j < 2 → ZMay (F.zones.getD j ⟨0, 0, [], []⟩) := fun F hF j hj => by
  rcases (show j = 0 ∨ j = 1 by omega) with rfl | rfl
  ·exact hF.zs.m0
  exact hF.zs.m1
 have hz : ∀ (F : Hp), F.live = [] → F.lists = [] → ∀ q, occ F q = zcnt F q := fun F a b q => by
  unfold occ lcnt
  rw [a, b]
  rfl
 have out : ∀ (F : Hp), HMay F → ∀ j, j < 2 → ∀ q, ¬ ((F.zones.getD j ⟨0, 0, [], []⟩).f ≤ q ∧ q < (F.zones.getD j ⟨0, 0, [], []⟩).t) → Kit.cnt (F.zones.getD j ⟨0, 0, [], []⟩).free q = 0 := fun F hF j hj q hn => by
  have ha := (free_iff.1 (m F hF j hj).free).1
  generalize (F.zones.getD j ⟨0, 0, [], []⟩).free = l at ha
  induction l with
  | nil => rfl
  | cons b l ih =>
   have hb := (ha b List.mem_cons_self).1
   obtain ⟨b1, b2, b3, b4⟩ := hb
   have n := (m F hF j hj).new
   unfold newOk at n
   have e0 : hit b.a b.o q = 0 := by
    unfold hit
    rw [if_neg]
    rcases ord_cases b1 with ⟨_, e⟩ | ⟨_, e⟩ | ⟨_, e⟩ | ⟨_, e⟩ | ⟨_, e⟩ <;> rw [e] at b4 ⊢ <;> omega
   show hit b.a b.o q + Kit.cnt l q = 0
   rw [e0, ih (fun c hc => ha c (List.mem_cons_of_mem _ hc))]
 refine free_unique (m H h k hk) (m G g k hk) (hs k).1 (hs k).2 fun q => ?_
 have e := ho q
 rw [hz H h1 h2, hz G g1 g2, zcnt_two h.zs.n, zcnt_two g.zs.n] at e
 have z := zone_bounds hs h g
 rcases (show k = 0 ∨ k = 1 by omega) with rfl | rfl
 ·by_cases hq : q < (H.zones.getD 0 ⟨0, 0, [], []⟩).t
  ·rw [out H h 1 (by omega) q (by omega), out G g 1 (by omega) q (by omega)] at e; omega
  rw [out H h 0 (by omega) q (by omega), out G g 0 (by omega) q (by omega)]
 by_cases hq : q < (H.zones.getD 0 ⟨0, 0, [], []⟩).t
 ·rw [out H h 1 (by omega) q (by omega), out G g 1 (by omega) q (by omega)]
 rw [out H h 0 (by omega) q (by omega), out G g 0 (by omega) q (by omega)] at e; omega
theorem regs_lt {w : World} {g n : Nat} {x : Int × Int} {l : List (Int × Int)} (h : Regs w (some ⟨g, 0, none⟩) n (x :: l)) : g < w.heap.size := by
 obtain ⟨c, off, e, h1, _⟩ := h.at_ 0 (by simp)
 cases e
 exact World.block_lt_of_cell? w _ h1
theorem pagesWhole_walk (ao : Option Addr) (n cap : Nat) (l : List Raw4) (a b c : Int) (w : World) (h : IsRaws w ao n cap l) (wa : (Lit.int .i64 a).wf = true) (wb : (Lit.int .i64 b).wf = true) (wc : (Lit.int .i64 c).wf = true) (hT : TabAt w) :
    Calls Tryz.prog 5 #[.slice ao n cap, .int .i64 a, .int .i64 b, .int .i64 c] w fun e w' => e = .returned (.bool true) ∧ Below w.heap.size w w' := by
 have B0 := Below.refl w.heap.size w
 refine sx_enter (args := [_, _, _, _]) 103 Tryz.func5 rfl rfl rfl ?_
 refine vS (vR (vla (h:=vW (vS (vS (vR (vlc (tells_c _ (hT.below B0)) (h:=?_)))))))); intro W1 hb2; replace B0 := Below.next B0 hb2
 refine vln (h:=vW (vD (h:=vK (vT (vS (vR (vlm (h:=vlm (h:=vlm (h:=?_)))))))))); intro A f
 refine l_call f rfl rfl rfl (IsCall.mk' (cap := []) rfl rfl rfl) (pl rfl) (setup_c _ a b c wa wb wc) ?_
 clear f A
 rintro _ W3 ⟨gm, gr, rfl, hm, hr, hb4⟩
 refine ⟨_, rfl, ?_⟩
 intro A f
 replace B0 := Below.next B0 hb4
 refine l_as (z := .agg #[.slice none 0 0, .slice none 0 0, .int .i64 0, .int .i64 0, .int .i64 0]) f rfl rfl rfl rfl (by kernel_rfl) rfl rfl (fun _ => rfl) (fun _ => rfl) rfl (by intro u hu; simp [Value.cells] at hu; rcases hu with rfl | rfl | rfl | rfl | rfl <;> rfl) ?_; clear f A; intro b5 W6 eb5 hb7 rb5 A f
 dsimp only [Value.cells] at rb5
 have hpb5 := hb7
 have z_B0_b5 := B0.size; rw [eb5] at z_B0_b5
 replace B0 := Below.next B0 hb7; replace hm := hm.below hb7; replace hr := hr.below hb7
 revert A; refine vW (vS (vR (vlm (h:=vl5 (rowq rb5) (h:=?_))))); intro A f
 refine l_call f rfl rfl rfl (IsCall.mk' (cap := []) rfl rfl rfl) (pl rfl) (paged_c _ ao n cap l (raws_below h B0) (some ⟨gm, 0, none⟩) 2 2 (suM a b c) (some ⟨gr, 0, none⟩) 2 2 (suR a b c) hm hr ⟨suM_may a b c, suR_may a b c⟩ _ rfl (su_drawn a b c) (16 * (pickN a 9 : Int)) (pickN b 12 : Int) (1 + (pickN c 4 : Int)) 70 (1 + pickN c 4) (su_new a b c).2.2 (su_new a b c).1 (su_new a b c).2.1 (hT.below B0)) ?_
 clear f A
 rintro _ W8 ⟨H, y, aw, vo, vn, vc, rfl, hNH, hI, hz, hRc, hb9⟩
 refine ⟨_, rfl, ?_⟩
 intro A f
 replace B0 := Below.next B0 hb9; replace hm := hm.below hb9; replace hr := hr.below hb9; replace rb5 := row_next rb5 hb9
 revert A; refine vlm (h:=vle (h:=vle (h:=vle (h:=?_))))
 have hy0 := hI.at_
 have hgm := regs_lt hm
 have hgr := regs_lt hr
 have hvs : ∀ a, vo = some a → a.block < W8.heap.size := fun a ha => (owns_blk hI.own a ha).2.1
 intro A f
 refine l_as (z := .agg #[.slice none 0 0, .slice none 0 0, .int .i64 0, .slice none 0 0, .slice none 0 0]) f rfl rfl rfl rfl (by kernel_rfl) rfl rfl (fun _ => rfl) (fun _ => rfl) rfl (by intro u hu; simp [Value.cells] at hu; rcases hu with rfl | rfl | rfl | rfl | rfl <;> rfl) ?_; clear f A; intro b10 W11 eb10 hb12 rb10 A f
 dsimp only [Value.cells] at rb10
 have hpb10 := hb12
 have o_b5_b10 : b5 < b10 := by have := row_lt rb5; omega
 have z_B0_b10 := B0.size; rw [eb10] at z_B0_b10
 replace B0 := Below.next B0 hb12; replace hm := hm.below hb12; replace hr := hr.below hb12; replace hI := hI.below hb12; replace rb5 := row_next rb5 hb12
 have ho10 : Off b10 y := off_old hy0 hI.may.zs.n (by omega)
 have hv10 : ∀ a, vo = some a → a.block < b10 := fun a ha => by have := hvs a ha; omega
 revert A; refine vla (h:=vla (h:=vW (vS (vS (vR (vlm (h:=vlz (h:=vlm (h:=vW (vB ?_))))))))))
 have hNM := new_may hNH (su_new a b c).2.1
 have hvl := hI.len
 have own := hI.own
 have hF := hI.toF
 have hcH : H.cpus = 1 + (pickN c 4 : Int) := hNM.2.2.2.1
 have hc4 := pickN_lt c 4 (by omega)
 intro A f
 refine x_loop (fun n A W => ∃ (k : Nat) (y : Hx), n = vn - k ∧ k ≤ vn ∧ Fr A 103 [(9, .pointer (some ⟨b5, 0, none⟩)), (10, .pointer (some ⟨b10, 0, none⟩)), (12, .bool true), (36, .slice vo vn vc), (37, .int .i64 (vn : Nat)), (38, .int .i64 (k : Nat))] ∧ Below w.heap.size w W ∧ W.heap[b5]? = some (.cells #[.slice (some ⟨gm, 0, none⟩) 2 2, .slice (some ⟨gr, 0, none⟩) 2 2, .int .i64 (16 * (pickN a 9 : Int)), .int .i64 (pickN b 12 : Int), .int .i64 (1 + (pickN c 4 : Int))] 27 (0, 0)) ∧ W.heap[b10]? = some (.cells #[.slice y.zo y.zn y.zc, .slice y.mo y.mn y.mc, .int .i64 y.cpus, .slice y.lo y.ln y.lc, .slice y.vo y.vn y.vc] 34 (0, 0)) ∧ PgF H W y (aw.drop k) ∧ Off b10 y ∧ W.ownsRow _ 40 3 (.slice vo vn vc) vn (bvals aw) ∧ Regs W (some ⟨gm, 0, none⟩) 2 (suM a b c) ∧ Regs W (some ⟨gr, 0, none⟩) 2 (suR a b c)) (n0 := vn) (⟨0, y, rfl, Nat.zero_le _, f.sub ⟨rfl, rfl, rfl, rfl, rfl, rfl, trivial⟩, B0, rb5, rb10, hF, ho10, own, hm, hr⟩) ?_
 clear f A
 clear B0 hI hF ho10 own hm hr hy0 rb5 rb10
 rintro n2 A W13 ⟨k, y, hn, hk, f, B0, rb5, rb10, hF, ho10, own, hm, hr⟩
 have hc0 : (0 : Int) ≤ 0 ∧ (0 : Int) ≤ y.cpus - 1 := by have h1 := hF.cpus; have h2 : y.hp.cpus = y.cpus := rfl; omega
 revert A; refine vS (vR (vlb (y_lss rfl rfl rfl) (h:=?_) (g:=?_)))
 ·intro c14
  refine vW (vS (vC (h:=vK (vT (vS (vB (vS (vR ?_))))))))
  have BW := Below.refl W13.heap.size W13
  have hB := blks_own own (by omega)
  obtain ⟨gx, ox, bax, box, btx, hax, c0x, c1x, c2x, hXx⟩ := hB.at_.at (k) (by have := hB.len; omega)
  replace c0x := St.of c0x; replace c1x := St.of c1x; replace c2x := St.of c2x
  refine vlx (h:=vld (y_loadN (vs := [_, _, _]) rfl rfl (ag rfl) rfl ⟨(by first | assumption | exact St.q c0x BW | exact St.q c1x BW | exact St.q c2x BW), (by first | assumption | exact St.q c0x BW | exact St.q c1x BW | exact St.q c2x BW), (by first | assumption | exact St.q c0x BW | exact St.q c1x BW | exact St.q c2x BW), trivial⟩) (h:=?_)); intro A f
  refine l_as (z := .agg #[.int .i64 0, .int .i64 0, .int .i64 0]) f rfl rfl rfl rfl (by kernel_rfl) rfl rfl (fun _ => rfl) (fun _ => rfl) rfl (by intro u hu; simp [Value.cells] at hu; rcases hu with rfl | rfl | rfl <;> rfl) ?_; clear f A; intro b15 W16 eb15 hb17 rb15 A f
  dsimp only [Value.cells] at rb15
  have hpb15 := hb17
  have o_b5_b15 : b5 < b15 := by have := row_lt rb5; omega
  have o_b10_b15 : b10 < b15 := by have := row_lt rb10; omega
  have z_B0_b15 := B0.size; rw [eb15] at z_B0_b15
  replace B0 := Below.next B0 hb17; replace hF := hF.below hb17; replace hm := hm.below hb17; replace hr := hr.below hb17; replace rb5 := row_next rb5 hb17; replace rb10 := row_next rb10 hb17; replace own := owns_below own hb17 (Nat.le_refl _)
  revert A; refine vW (vS (vR (vl5 (rowq rb10) (h:=vlf (h:=vl1 (rowq rb15) (h:=?_))))))
  have l_b5 := row_lt rb5
  have l_b10 := row_lt rb10
  have l_b15 := row_lt rb15
  obtain ⟨i, hi, hia, hfst, hpm⟩ := away_find hF.perm hF.may.lv (show 0 < (aw.drop k).length by rw [List.length_drop]; omega)
  intro A f
  rw [getD_drop, hXx.out] at hia hfst
  dsimp only at hia hfst
  rw [erase_drop] at hpm
  have hR := release_may hF.may hc0 hi
  refine l_call f rfl rfl rfl (IsCall.mk' (cap := []) rfl rfl rfl) (pl rfl) (pFree_fr _ y 0 bax i hF.at_ hF.may hc0 hi hia hfst) ?_
  clear f A
  rintro _ W18 ⟨⟨y2, rfl, hyA2, e2, hoF⟩, hb19⟩
  refine ⟨_, rfl, ?_⟩
  intro A f
  replace B0 := Below.next B0 hb19; replace hF := hF.below hb19; replace hm := hm.below hb19; replace hr := hr.below hb19; replace rb5 := row_next rb5 hb19; replace rb10 := row_next rb10 hb19; replace rb15 := row_next rb15 hb19; replace own := owns_below own hb19 (Nat.le_refl _)
  have hF2 : PgF H W18 y2 (aw.drop (k + 1)) := ⟨hyA2, by rw [e2]; exact hR.1, (congrArg Hp.cpus e2).trans (hR.2.2.1.trans hF.cpus), sft_trans (by rw [e2]; exact hR.2.2.2.1) hF.ft, fun q => (congrArg (fun G => occ G q) e2).trans ((hR.2.2.2.2 q).trans (hF.occ q)), by rw [show y2.hp.live = y.hp.live.eraseIdx i from (congrArg Hp.live e2).trans hR.2.1]; exact hpm⟩
  clear hF
  revert A; refine vlm (h:=vle (h:=vle (h:=?_))); intro A f
  refine l_as (z := .agg #[.slice none 0 0, .slice none 0 0, .int .i64 0, .slice none 0 0, .slice none 0 0]) f rfl rfl rfl rfl (by kernel_rfl) rfl rfl (fun _ => rfl) (fun _ => rfl) rfl (by intro u hu; simp [Value.cells] at hu; rcases hu with rfl | rfl | rfl | rfl | rfl <;> rfl) ?_; clear f A; intro b20 W21 eb20 hb22 rb20 A f
  dsimp only [Value.cells] at rb20
  have hpb20 := hb22
  have o_b5_b20 : b5 < b20 := by have := row_lt rb5; omega
  have o_b10_b20 : b10 < b20 := by have := row_lt rb10; omega
  have o_b15_b20 : b15 < b20 := by have := row_lt rb15; omega
  have z_B0_b20 := B0.size; rw [eb20] at z_B0_b20
  replace B0 := Below.next B0 hb22; replace hF2 := hF2.below hb22; replace hm := hm.below hb22; replace hr := hr.below hb22; replace rb5 := row_next rb5 hb22; replace rb10 := row_next rb10 hb22; replace rb15 := row_next rb15 hb22; replace own := owns_below own hb22 (Nat.le_refl _)
  revert A; refine vla (h:=vW (vS (vS (vR (vlm (h:=vlb (y_neq rfl rfl rfl) (h:=?_) (g:=?_)))))))
  ·intro c23; exfalso; omega
  intro c23
  refine vW (vD (h:=vK (vT (vR (vl5 (rowq rb20) (h:=?_)))))); intro A f
  refine vls f rb10 ?_
  clear rb10; intro W24 hb25 rb10; dsimp only [setL, over, Value.cells] at rb10; replace B0 := Below.thenBut B0 hb25 (by omega); replace rb5 := But.row hb25 rb5 (by omega); replace rb15 := But.row hb25 rb15 (by omega); replace rb20 := But.row hb25 rb20 (by omega); replace hm := regs_but hm hb25 (fun a ha => by cases ha; dsimp only; omega); replace hr := regs_but hr hb25 (fun a ha => by cases ha; dsimp only; omega); replace own := owns_butN own hb25 (fun a ha => by have := hv10 a ha; omega); replace hF2 := hF2.but hb25 (hoF b10 (by omega))
  revert A; refine vN (vU (vT (vR (vlA (h:=vlm (h:=vW ?_)))))); intro A f
  exact ⟨vn - (k + 1), by omega, k + 1, y2, rfl, by omega, f.sub ⟨rfl, rfl, rfl, rfl, rfl, rfl, trivial⟩, B0, rb5, rb10, hF2, hoF _ (by omega), own, hm, hr⟩
 intro c14
 refine vW (vS (vD (h:=vX (vH (vH (vI (vT (vS (vR (vl5 (rowq rb10) (h:=?_)))))))))))
 have d_b5 := row_lt rb5
 have d_b10 := row_lt rb10
 have ek : k = aw.length := by omega
 have hlv : y.hp.live = [] := by have h := hF.perm; rw [ek, List.drop_length, List.map_nil] at h; exact List.map_eq_nil_iff.1 h.nil_eq.symm
 intro A f
 refine l_call f rfl rfl rfl (IsCall.mk' (cap := []) rfl rfl rfl) (pl rfl) (pDrain_fr _ y hF.at_ hF.may hF.may.canBacks.1) ?_
 clear f A
 rintro _ W26 ⟨⟨y2, rfl, e2, hyA2, hoF⟩, hb27⟩
 refine ⟨_, rfl, ?_⟩
 intro A f
 replace B0 := Below.next B0 hb27; replace hF := hF.below hb27; replace hm := hm.below hb27; replace hr := hr.below hb27; replace rb5 := row_next rb5 hb27; replace rb10 := row_next rb10 hb27; replace own := owns_below own hb27 (Nat.le_refl _)
 have hR := drain_may hF.may
 have hRe := emptyH_rest y.hp
 have hP2 : HMay y2.hp := by rw [e2]; exact hR.1
 have hlv2 : y2.hp.live = [] := ((congrArg Hp.live e2).trans hRe.2.2.1).trans hlv
 have hls2 : y2.hp.lists = [] := (congrArg Hp.lists e2).trans hRe.2.2.2
 have hft2 : SameFT y2.hp H := sft_trans (fun i => by rw [e2]; have h := backs_ft i (y.hp.lists.flatMap (·.pages)) y.hp; exact h) hF.ft
 have hoc2 : ∀ q, occ y2.hp q = occ H q := fun q => (congrArg (fun G => occ G q) e2).trans ((hR.2 q).trans (hF.occ q))
 clear hF
 revert A; refine vlm (h:=vle (h:=vle (h:=?_))); intro A f
 refine vls f rb10 ?_
 clear rb10; intro W28 hb29 rb10; dsimp only [setL, over, Value.cells] at rb10; replace B0 := Below.thenBut B0 hb29 (by omega); replace rb5 := But.row hb29 rb5 (by omega); replace hm := regs_but hm hb29 (fun a ha => by cases ha; dsimp only; omega); replace hr := regs_but hr hb29 (fun a ha => by cases ha; dsimp only; omega); replace hyA2 := Off.but (hoF b10 (by omega)) hyA2 hb29
 revert A; refine vla (h:=vW (vS (vR (vl5 (rowq rb5) (h:=?_))))); intro A f
 refine l_call f rfl rfl rfl (IsCall.mk' (cap := []) rfl rfl rfl) (pl rfl) (paged_c _ none 0 0 [] (raws_none _) (some ⟨gm, 0, none⟩) 2 2 (suM a b c) (some ⟨gr, 0, none⟩) 2 2 (suR a b c) hm hr ⟨suM_may a b c, suR_may a b c⟩ _ rfl (su_drawn a b c) (16 * (pickN a 9 : Int)) (pickN b 12 : Int) (1 + (pickN c 4 : Int)) 0 (1 + pickN c 4) (su_new a b c).2.2 (su_new a b c).1 (su_new a b c).2.1 (hT.below B0)) ?_
 clear f A
 rintro _ W30 ⟨H1, y1, aw1, vo1, vn1, vc1, rfl, hNH1, hI1, hz1, hRc1, hb31⟩
 refine ⟨_, rfl, ?_⟩
 intro A f
 replace B0 := Below.next B0 hb31; replace hyA2 := hyA2.below hb31; replace hm := hm.below hb31; replace hr := hr.below hb31; replace rb5 := row_next rb5 hb31; replace rb10 := row_next rb10 hb31
 revert A; refine vlm (h:=vle (h:=vle (h:=vle (h:=?_)))); intro A f
 refine l_as (z := .agg #[.slice none 0 0, .slice none 0 0, .int .i64 0, .slice none 0 0, .slice none 0 0]) f rfl rfl rfl rfl (by kernel_rfl) rfl rfl (fun _ => rfl) (fun _ => rfl) rfl (by intro u hu; simp [Value.cells] at hu; rcases hu with rfl | rfl | rfl | rfl | rfl <;> rfl) ?_; clear f A; intro b32 W33 eb32 hb34 rb32 A f
 dsimp only [Value.cells] at rb32
 have hpb32 := hb34
 have o_b5_b32 : b5 < b32 := by have := row_lt rb5; omega
 have o_b10_b32 : b10 < b32 := by have := row_lt rb10; omega
 have z_B0_b32 := B0.size; rw [eb32] at z_B0_b32
 replace B0 := Below.next B0 hb34; replace hyA2 := hyA2.below hb34; replace hm := hm.below hb34; replace hr := hr.below hb34; replace hI1 := hI1.below hb34; replace rb5 := row_next rb5 hb34; replace rb10 := row_next rb10 hb34
 revert A; refine vla (h:=vla (h:=vW (vS (vS (vR (vlf (h:=vl1 (rowq rb10) (h:=vlz (h:=vlm (h:=vW (vB ?_)))))))))))
 have eH : y1.hp = H := by rw [(hz1 rfl).1]; exact newH_unique hNH1 hNH
 have hsame := zones_same hP2 hNM.1 hft2 hoc2 hlv2 hls2 hNM.2.1 hNM.2.2.1
 intro A f
 rw [← eH] at hsame
 have hzl : y2.zn = 2 := by have h1 := hyA2.zones.len; have h2 := hP2.zs.n; have e : y2.hp.zones.length = y2.zs.length := (by show (y2.zs.map _).length = _; rw [List.length_map]); omega
 have hzl1 : y1.zn = 2 := by have h1 := hI1.at_.zones.len; have h2 := hI1.may.zs.n; have e : y1.hp.zones.length = y1.zs.length := (by show (y1.zs.map _).length = _; rw [List.length_map]); omega
 have hvn2 : y2.vn = 0 := by have h1 := hyA2.live.len; have h2 : y2.live = [] := hlv2; rw [h2] at h1; exact h1.symm
 have hln2 : y2.ln = 0 := by have h1 := hyA2.lists.len; have h2 : y2.hp.lists.length = y2.ls.length := (by show (y2.ls.map _).length = _; rw [List.length_map]); rw [hls2] at h2; rw [← h2] at h1; exact h1.symm
 refine x_loop (fun n A W => ∃ j : Nat, n = y2.zn - j ∧ j ≤ y2.zn ∧ Fr A 103 [(10, .pointer (some ⟨b10, 0, none⟩)), (12, .bool true), (17, .int .i64 0), (18, .pointer (some ⟨b32, 0, none⟩)), (20, .bool true), (65, .slice y2.zo y2.zn y2.zc), (66, .int .i64 (y2.zn : Nat)), (67, .int .i64 (j : Nat))] ∧ Below w.heap.size w W ∧ W.heap[b10]? = some (.cells #[.slice y2.zo y2.zn y2.zc, .slice y2.mo y2.mn y2.mc, .int .i64 y2.cpus, .slice y2.lo y2.ln y2.lc, .slice y2.vo y2.vn y2.vc] 34 (0, 0)) ∧ W.heap[b32]? = some (.cells #[.slice y1.zo y1.zn y1.zc, .slice y1.mo y1.mn y1.mc, .int .i64 y1.cpus, .slice y1.lo y1.ln y1.lc, .slice y1.vo y1.vn y1.vc] 34 (0, 0)) ∧ y2.At W ∧ y1.At W) (n0 := y2.zn) (⟨0, rfl, Nat.zero_le _, f.sub ⟨rfl, rfl, rfl, rfl, rfl, rfl, rfl, rfl, trivial⟩, B0, rb10, rb32, hyA2, hI1.at_⟩) ?_
 clear f A
 clear B0 hyA2 hI1 rb10 rb32
 rintro n3 A W35 ⟨j, hn3, hj, f, B0, rb10, rb32, hyA2, hy1⟩
 revert A; refine vS (vR (vlb (y_lss rfl rfl rfl) (h:=?_) (g:=?_)))
 ·intro c36
  refine vW (vS (vC (h:=vK (vT (vS (vB (vS (vR (vlm (h:=?_))))))))))
  have BW := Below.refl W35.heap.size W35
  obtain ⟨gz, oz, zz, foz, fnz, fcz, toz, tnz, tcz, haz, c0z, c1z, c2z, c3z, hatz, hXz⟩ := hyA2.zones.at (j) (by omega)
  replace c0z := St.of c0z; replace c1z := St.of c1z; replace c2z := St.of c2z; replace c3z := St.of c3z
  obtain ⟨gu, ou, zu, fou, fnu, fcu, tou, tnu, tcu, hau, c0u, c1u, c2u, c3u, hatu, hXu⟩ := hy1.zones.at (j) (by omega)
  replace c0u := St.of c0u; replace c1u := St.of c1u; replace c2u := St.of c2u; replace c3u := St.of c3u
  have hao := hsame j (by omega)
  intro A f
  rw [hp_zone, hXz.out, hp_zone, hXu.out] at hao
  dsimp only at hao
  revert A; refine vlx (h:=vld (y_loadN (vs := [_, _, _, _]) rfl rfl (ag rfl) rfl ⟨(by first | assumption | exact St.q c0z BW | exact St.q c1z BW | exact St.q c2z BW | exact St.q c3z BW | exact St.q c0u BW | exact St.q c1u BW | exact St.q c2u BW | exact St.q c3u BW), (by first | assumption | exact St.q c0z BW | exact St.q c1z BW | exact St.q c2z BW | exact St.q c3z BW | exact St.q c0u BW | exact St.q c1u BW | exact St.q c2u BW | exact St.q c3u BW), (by first | assumption | exact St.q c0z BW | exact St.q c1z BW | exact St.q c2z BW | exact St.q c3z BW | exact St.q c0u BW | exact St.q c1u BW | exact St.q c2u BW | exact St.q c3u BW), (by first | assumption | exact St.q c0z BW | exact St.q c1z BW | exact St.q c2z BW | exact St.q c3z BW | exact St.q c0u BW | exact St.q c1u BW | exact St.q c2u BW | exact St.q c3u BW), trivial⟩) (h:=?_)); intro A f
  refine l_alloc (z := .agg #[.int .i64 0, .int .i64 0, .slice none 0 0, .slice none 0 0]) f rfl rfl rfl rfl (by kernel_rfl) ?_; clear f A; intro b37 W38 eb37 hb39 rb37 A f; dsimp only [Value.cells] at rb37
  have o_b10_b37 : b10 < b37 := by have := row_lt rb10; omega
  have o_b32_b37 : b32 < b37 := by have := row_lt rb32; omega
  have z_B0_b37 := B0.size; rw [eb37] at z_B0_b37
  have z_BW_b37 := BW.size; rw [eb37] at z_BW_b37
  replace B0 := Below.next B0 hb39; replace BW := Below.next BW hb39; replace rb10 := row_next rb10 hb39; replace rb32 := row_next rb32 hb39
  revert A; refine vla (h:=?_); intro A f
  refine vls f rb37 ?_
  clear rb37; intro W40 hb41 rb37; dsimp only [setL, over, Value.cells] at rb37; replace B0 := Below.thenBut B0 hb41 (by omega); replace BW := Below.thenBut BW hb41 (by omega); replace rb10 := But.row hb41 rb10 (by omega); replace rb32 := But.row hb41 rb32 (by omega)
  revert A; refine vW (vS ?_); intro A f
  refine sx_quiet (by kernel_rfl) (by kernel_rfl) ?_
  revert A; refine vqf (h:=vq1 (rowq rb37) (h:=vqf (h:=vq1 (rowq rb32) (h:=vqm (h:=vqx (h:=vqf (h:=vqd (y_load1 rfl rfl (ag rfl) (by first | assumption | exact St.q c0z BW | exact St.q c1z BW | exact St.q c2z BW | exact St.q c3z BW | exact St.q c0u BW | exact St.q c1u BW | exact St.q c2u BW | exact St.q c3u BW)) (h:=?_))))))))
  have hnl : fnz = fnu := by have h1 := hatz.free.len; have h2 := hatu.free.len; have h3 := ao_len hao; omega
  intro A f
  subst hnl
  revert A; refine vqc (fun wx hx => (bEqual_true wx foz fou fnz fcz fcu zz.free zu.free (hatz.free.below (Below.next BW hx)) (hatu.free.below (Below.next BW hx)) hao).mono fun _ _ g => ⟨g.1, Below.next hx g.2⟩) (h:=vqn (h:=vQ ?_)); intro W43 hb42; replace B0 := Below.next B0 hb42; replace BW := Below.next BW hb42; replace rb10 := row_next rb10 hb42; replace rb32 := row_next rb32 hb42; replace rb37 := row_next rb37 hb42
  refine vT (vD (h:=vK (vU (vT (vR (vlA (h:=vlm (h:=vW ?_)))))))); intro A f
  exact ⟨y2.zn - (j + 1), by omega, j + 1, rfl, by omega, f.sub ⟨rfl, rfl, rfl, rfl, rfl, rfl, rfl, rfl, trivial⟩, B0, rb10, rb32, hyA2.below BW, hy1.below BW⟩
 intro c36
 refine vW (vS (vD (h:=vX (vH (vH (vI (vT (vS (vR (vlm (h:=vlm (h:=vlm (h:=vlp (h:=vlm (h:=vlm (h:=vlb (y_eql rfl rfl rfl) (h:=?_) (g:=?_)))))))))))))))))
 ·intro c44
  refine vlp (h:=vlm (h:=vlf (h:=vl1 (rowq rb10) (h:=vlz (h:=vlb (y_eql rfl rfl rfl) (h:=?_) (g:=?_))))))
  ·intro c45
   refine vlp (h:=vlm (h:=vlf (h:=vl1 (rowq rb10) (h:=vlz (h:=vlb (y_eql rfl rfl rfl) (h:=?_) (g:=?_))))))
   ·intro c46
    refine vlp (h:=vla (h:=vW (vE ?_))); intro A f
    refine x_ret1 f rfl rfl ?_
    exact ⟨rfl, B0⟩
   intro c46; exfalso; omega
  intro c45; exfalso; omega
 intro c44; exfalso; omega
end Go.Proofs.YtjohdbiipeedkaaGreatDoor
