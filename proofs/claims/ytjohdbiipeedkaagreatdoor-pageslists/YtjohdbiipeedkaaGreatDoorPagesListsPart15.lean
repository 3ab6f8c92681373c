/-
  OWN TEXTS.
-/
import Derived.Test.YtjohdbiipeedkaaGreatDoorPagesListsPart14
set_option maxRecDepth 10000
set_option maxHeartbeats 4000000
namespace Go.Proofs.YtjohdbiipeedkaaGreatDoor
open Go Go.RowKit Go.Proofs.YtjohdbiipeedkaaGreatDoor.Kit
def totN (h : Int → Nat) : Nat → Nat
 | 0 => 0
 | n + 1 => totN h n + h n
def sumP : List (Int × Int) → Int
 | [] => 0
 | x :: l => pw x.2 + sumP l
def zonesN (H : Hp) : Int := freeN (H.zones.flatMap (·.free))
def listsN (H : Hp) : Int := ((H.lists.flatMap (·.pages)).length : Nat)
def zK (x : Hx) (k : Nat) : Int := freeN ((x.zs.take k).flatMap (fun z => z.z.free))
def lK (x : Hx) (k : Nat) : Int := (((x.ls.take k).flatMap (fun l => l.l.pages)).length : Nat)
theorem raws_below {w w' : World} {ao : Option Addr} {n cap : Nat} {l : List Raw4} (h : IsRaws w ao n cap l) (hb : Below w.heap.size w w') : IsRaws w' ao n cap l := ⟨h.len, h.le, h.reach, h.at_.below hb, h.wf⟩
theorem raws_none (w : World) : IsRaws w none 0 0 [] := ⟨rfl, Nat.le_refl _, by omega, RawsAt.nil _ _, fun i hi => absurd hi (Nat.not_lt_zero i)⟩
theorem pgI_inP {B : Nat} {H0 : Hp} {W : World} {y : Hx} {aw : List Bk} {vo : Option Addr} {vn vc : Nat} (h : PgI B H0 W y aw vo vn vc) {j : Nat} (hj : j < aw.length) : InP (aw.getD j .zero) := by
 have e : aw.getD j .zero = aw[j] := by rw [List.getD_eq_getElem?_getD, List.getElem?_eq_getElem hj]; rfl
 have hm : prB aw[j] ∈ y.hp.live.map prB := h.perm.mem_iff.1 (List.mem_map.2 ⟨_, List.getElem_mem hj, rfl⟩)
 obtain ⟨b, hb, eb⟩ := List.mem_map.1 hm
 have hp := ((lvs_iff.1 h.may.lv).1 b hb).inP
 have ea : b.a = aw[j].a := congrArg Prod.fst eb
 have eo : b.o = aw[j].o := congrArg Prod.snd eb
 rw [e]
 refine ⟨?_, ?_, ?_⟩
 ·rw [← eo]; exact hp.1
 ·rw [← ea]; exact hp.2.1
 rw [← ea, ← eo]; exact hp.2.2
theorem su_new (a b c : Int) : newOk 0 (16 * (pickN a 9 : Int)) ∧ newGood (pickN b 12 : Int) (1 + (pickN c 4 : Int)) ∧ (1 + (pickN c 4 : Int)) = ((1 + pickN c 4 : Nat) : Int) := by
 have h1 := pickN_lt a 9 (by omega)
 have h2 := pickN_lt b 12 (by omega)
 have h3 := pickN_lt c 4 (by omega)
 refine ⟨by unfold newOk; omega, ⟨by omega, by omega⟩, by omega⟩
theorem su_drawn (a b c : Int) : MayP (drawnAll (freeH (suM a b c) (suR a b c))) := drawnAll_may (by have := su_few a b c; omega)
theorem y_neqb {P : Program} {C : World → Prop} {L : List (Nat × Value)} {o : Oper} {t u : TypeId} {x y : Operand} {b c : Bool} (ht : P.underlying t = some .bool) (ho : o.op = .binOp .neq t x y u) (hx : ev L x = some (.bool b)) (hy : ev L y = some (.bool c)) : YC P C L o (.bool (b != c)) := by
 intro ρ hρ wx _
 cases b <;> cases c <;> simp [execOp, ho, hρ _ _ hx, hρ _ _ hy, eqGuard, binOp, run_equal_bool _ t _ _ ht, go_sem]
def cntP : List (Int × Int) → Int → Nat
 | [], _ => 0
 | x :: l, p => hit x.1 x.2 p + cntP l p
theorem cntP_perm {l m : List (Int × Int)} (h : l.Perm m) (p : Int) : cntP l p = cntP m p := by
 induction h with
 | nil => rfl
 | cons x _ ih => simp only [cntP, ih]
 | swap x y l => simp only [cntP]; omega
 | trans _ _ i1 i2 => exact i1.trans i2
theorem cnt_pr (l : List Bk) (p : Int) : Kit.cnt l p = cntP (l.map prB) p := by
 induction l with
 | nil => rfl
 | cons b l ih => simp only [List.map_cons, cntP, ← ih]; rfl
theorem pgI_cnt {B : Nat} {H0 : Hp} {W : World} {y : Hx} {aw : List Bk} {vo : Option Addr} {vn vc : Nat} (h : PgI B H0 W y aw vo vn vc) (p : Int) : Kit.cnt aw p = Kit.cnt y.hp.live p := by
 rw [cnt_pr, cnt_pr]
 exact cntP_perm h.perm p
theorem cnt_mem {l : List Bk} {b : Bk} (hb : b ∈ l) (p : Int) : hit b.a b.o p ≤ Kit.cnt l p := by
 obtain ⟨i, hi, rfl⟩ := List.getElem_of_mem hb
 have := cnt_ge hi p
 rwa [List.getD_eq_getElem?_getD, List.getElem?_eq_getElem hi] at this
theorem list_not_away {B : Nat} {H0 : Hp} {W : World} {y : Hx} {aw : List Bk} {vo : Option Addr} {vn vc : Nat} (h : PgI B H0 W y aw vo vn vc) {l : Ls} (hl : l ∈ y.hp.lists) {p : Int} (hp : p ∈ l.pages) : aw.any (fun b => decide (b.a ≤ p ∧ p < b.a + pw b.o)) = false := by
 rw [Bool.eq_false_iff]
 intro ht
 obtain ⟨b, hb, hd⟩ := List.any_eq_true.1 ht
 have hd := of_decide_eq_true hd
 have h1 : hit b.a b.o p = 1 := by unfold hit; rw [if_pos hd]
 have h2 := cnt_mem hb p
 have h3 := pgI_cnt h p
 have h4 : hit p 0 p = 1 := by unfold hit; rw [if_pos ⟨Int.le_refl _, by have := pw_pos 0; omega⟩]
 have h5 := cnt_mem (l := (y.hp.lists.flatMap (·.pages)).map pgB) (b := pgB p) (List.mem_map.2 ⟨p, List.mem_flatMap.2 ⟨l, hl, hp⟩, rfl⟩) p
 have h6 := h.may.occLe p
 have h7 : occ y.hp p = zcnt y.hp p + (Kit.cnt ((y.hp.lists.flatMap (·.pages)).map pgB) p + Kit.cnt y.hp.live p) := rfl
 have h8 : hit (pgB p).a (pgB p).o p = hit p 0 p := rfl
 omega
theorem tells_c (w : World) (hT : TabAt w) :
    Calls Tryz.prog 16 #[] w fun e w' => e = .returned (.bool true) ∧ Below w.heap.size w w' := by
 have B0 := Below.refl w.heap.size w
 refine sx_enter (args := []) 17 Tryz.func16 rfl rfl rfl ?_
 refine vS (vR (vla (h:=vW (vS (vR ?_))))); intro A f
 refine l_call f rfl rfl rfl (IsCall.mk' (cap := []) rfl rfl rfl) (pl rfl) (setup_c _ 0 0 0 rfl rfl rfl) ?_
 clear f A
 rintro _ W1 ⟨gm, gr, rfl, hm, hr, hb2⟩
 refine ⟨_, rfl, ?_⟩
 intro A f
 replace B0 := Below.next B0 hb2
 refine l_call f rfl rfl rfl (IsCall.mk' (cap := []) rfl rfl rfl) (pl rfl) (paged_c _ none 0 0 [] (raws_none _) (some ⟨gm, 0, none⟩) 2 2 (suM 0 0 0) (some ⟨gr, 0, none⟩) 2 2 (suR 0 0 0) hm hr ⟨suM_may 0 0 0, suR_may 0 0 0⟩ _ rfl (su_drawn 0 0 0) (16 * (pickN 0 9 : Int)) (pickN 0 12 : Int) (1 + (pickN 0 4 : Int)) 0 (1 + pickN 0 4) (su_new 0 0 0).2.2 (su_new 0 0 0).1 (su_new 0 0 0).2.1 (hT.below B0)) ?_
 clear f A
 rintro _ W3 ⟨H, y, aw, vo, vn, vc, rfl, hNH, hI, hz, hb4⟩
 refine ⟨_, rfl, ?_⟩
 intro A f
 replace B0 := Below.next B0 hb4; replace hm := hm.below hb4; replace hr := hr.below hb4
 have hzn : y.zn = 2 := by have h1 := hI.at_.zones.len; have h2 := hI.may.zs.n; have e : y.hp.zones.length = y.zs.length := (by show (y.zs.map _).length = _; rw [List.length_map]); omega
 revert A; refine vlm (h:=vle (h:=vle (h:=vle (h:=?_)))); intro A f
 refine l_as (z := .agg #[.slice none 0 0, .slice none 0 0, .int .i64 0, .slice none 0 0, .slice none 0 0]) f rfl rfl rfl rfl (by kernel_rfl) rfl rfl (fun _ => rfl) (fun _ => rfl) rfl (by intro u hu; simp [Value.cells] at hu; rcases hu with rfl | rfl | rfl | rfl | rfl <;> rfl) ?_; clear f A; intro b5 W6 eb5 hb7 rb5 A f
 dsimp only [Value.cells] at rb5
 have hpb5 := hb7
 have z_B0_b5 := B0.size; rw [eb5] at z_B0_b5
 replace B0 := Below.next B0 hb7
 revert A; refine vla (h:=vla (h:=vW (vS (vR (vlm (h:=vlm (h:=vlf (h:=vl1 (rowq rb5) (h:=vlz (h:=vlb (y_gtr rfl rfl rfl) (h:=?_) (g:=?_)))))))))))
 ·intro c8
  refine vlp (h:=vla (h:=vW (vE ?_))); intro A f
  refine x_ret1 f rfl rfl ?_
  exact ⟨rfl, B0⟩
 intro c8; exfalso; omega
theorem pg_zone {B : Nat} {H : Hp} {W : World} {y : Hx} {aw : List Bk} {vo : Option Addr} {vn vc : Nat} {split cpus z p : Int} {oc : Prop} (h : PgI B H W y aw vo vn vc) (hN : HMay H ∧ H.live = [] ∧ H.lists = [] ∧ H.cpus = cpus ∧ (H.zones.getD 0 ⟨0, 0, [], []⟩).t = split ∧ oc) (hz : 0 ≤ z ∧ z < 2)
    (hp : (y.hp.zones.getD z.toNat ⟨0, 0, [], []⟩).f ≤ p ∧ p < (y.hp.zones.getD z.toNat ⟨0, 0, [], []⟩).t) : (z = 0 ∧ p < split) ∨ (z = 1 ∧ split ≤ p) := by
 have f0 := h.ft 0
 have f1 := h.ft 1
 have e := hN.1.zs.f1
 have e2 := hN.2.2.2.2.1
 rcases (show z = 0 ∨ z = 1 by omega) with rfl | rfl
 ·rw [show (0 : Int).toNat = 0 from rfl, f0.2, e2] at hp
  exact .inl ⟨rfl, hp.2⟩
 rw [show (1 : Int).toNat = 1 from rfl, f1.1, e, e2] at hp
 exact .inr ⟨rfl, hp.1⟩
theorem kListsF_c (w : World) (b : Bk) (g : Nat) (p : Int) (hq : St w ⟨g, 0, none⟩ (.int .i64 p)) (ho : ordOk b.o) (hb : 0 ≤ b.a ∧ b.a + pw b.o ≤ 256) :
    Calls Tryz.prog 27 #[.agg #[.int .i64 b.a, .int .i64 b.o, .int .i64 b.t], .pointer (some ⟨g, 0, none⟩)] w fun e w' => e = .returned (.bool (decide (b.a ≤ p ∧ p < b.a + pw b.o))) ∧ Below w.heap.size w w' := by
 have hpp := pw_pos b.o
 have B0 := Below.refl w.heap.size w
 refine sx_enter (args := [_, _]) 18 Tryz.func27 rfl rfl rfl ?_
 refine vS (vR ?_); intro A f
 refine l_box f rfl rfl rfl rfl rfl ?_; clear f A; intro b1 W2 eb1 hb3 rb1 A f; dsimp only [Value.cells] at rb1
 have z_B0_b1 := B0.size; rw [eb1] at z_B0_b1
 replace B0 := Below.next B0 hb3
 revert A; refine vla (h:=vW (vS ?_)); intro A f
 refine sx_quiet (by kernel_rfl) (by kernel_rfl) ?_
 revert A; refine vqf (h:=vq1 (rowq rb1) (h:=vqd (y_load1 rfl rfl (ag rfl) (St.q hq B0)) (h:=vqb (y_leq rfl rfl rfl) (h:=?_) (g:=?_))))
 ·intro c4
  refine vqm (h:=vqd (y_load1 rfl rfl (ag rfl) (St.q hq B0)) (h:=vqf (h:=vq1 (rowq rb1) (h:=vqf (h:=vq1 (rowq rb1) (h:=vqd (y_shl1 rfl rfl rfl ho) (h:=vqA (h:=vqb (y_lss rfl rfl rfl) (h:=?_) (g:=?_)))))))))
  ·intro c5
   refine vqp (h:=vqa (h:=vQ ?_)); intro W7 hb6; replace B0 := Below.next B0 hb6; replace rb1 := row_next rb1 hb6
   refine vT (vE ?_); intro A f
   refine x_ret1 f rfl rfl ?_
   exact ⟨by rw [decide_eq_true (by omega)], B0⟩
  intro c5
  refine vqp (h:=vqa (h:=vQ ?_)); intro W9 hb8; replace B0 := Below.next B0 hb8; replace rb1 := row_next rb1 hb8
  refine vT (vE ?_); intro A f
  refine x_ret1 f rfl rfl ?_
  exact ⟨by rw [decide_eq_false (by omega)], B0⟩
 intro c4
 refine vqm (h:=vqO 8 (h:=vqp (h:=vqa (h:=vQ ?_)))); intro W11 hb10; replace B0 := Below.next B0 hb10; replace rb1 := row_next rb1 hb10
 refine vT (vE ?_); intro A f
 refine x_ret1 f rfl rfl ?_
 exact ⟨by rw [decide_eq_false (by omega)], B0⟩
theorem pagesLists_walk (ao : Option Addr) (n cap : Nat) (l : List Raw4) (a b c : Int) (w : World) (h : IsRaws w ao n cap l) (wa : (Lit.int .i64 a).wf = true) (wb : (Lit.int .i64 b).wf = true) (wc : (Lit.int .i64 c).wf = true) (hT : TabAt w) :
    Calls Tryz.prog 8 #[.slice ao n cap, .int .i64 a, .int .i64 b, .int .i64 c] w fun e w' => e = .returned (.bool true) ∧ Below w.heap.size w w' := by
 have B0 := Below.refl w.heap.size w
 refine sx_enter (args := [_, _, _, _]) 77 Tryz.func8 rfl rfl rfl ?_
 refine vS (vR (vla (h:=vW (vS (vS (vR (vlc (tells_c _ (hT.below B0)) (h:=?_)))))))); intro W1 hb2; replace B0 := Below.next B0 hb2
 refine vln (h:=vW (vD (h:=vK (vT (vS (vR (vlm (h:=vlm (h:=vlm (h:=?_)))))))))); intro A f
 refine l_call f rfl rfl rfl (IsCall.mk' (cap := []) rfl rfl rfl) (pl rfl) (setup_c _ a b c wa wb wc) ?_
 clear f A
 rintro _ W3 ⟨gm, gr, rfl, hm, hr, hb4⟩
 refine ⟨_, rfl, ?_⟩
 intro A f
 replace B0 := Below.next B0 hb4
 refine l_as (z := .agg #[.slice none 0 0, .slice none 0 0, .int .i64 0, .int .i64 0, .int .i64 0]) f rfl rfl rfl rfl (by kernel_rfl) rfl rfl (fun _ => rfl) (fun _ => rfl) rfl (by intro u hu; simp [Value.cells] at hu; rcases hu with rfl | rfl | rfl | rfl | rfl <;> rfl) ?_; clear f A; intro b5 W6 eb5 hb7 rb5 A f
 dsimp only [Value.cells] at rb5
 have hpb5 := hb7
 have z_B0_b5 := B0.size; rw [eb5] at z_B0_b5
 replace B0 := Below.next B0 hb7; replace hm := hm.below hb7; replace hr := hr.below hb7
 revert A; refine vW (vS (vR (vlm (h:=vl5 (rowq rb5) (h:=?_))))); intro A f
 refine l_call f rfl rfl rfl (IsCall.mk' (cap := []) rfl rfl rfl) (pl rfl) (paged_c _ ao n cap l (raws_below h B0) (some ⟨gm, 0, none⟩) 2 2 (suM a b c) (some ⟨gr, 0, none⟩) 2 2 (suR a b c) hm hr ⟨suM_may a b c, suR_may a b c⟩ _ rfl (su_drawn a b c) (16 * (pickN a 9 : Int)) (pickN b 12 : Int) (1 + (pickN c 4 : Int)) 70 (1 + pickN c 4) (su_new a b c).2.2 (su_new a b c).1 (su_new a b c).2.1 (hT.below B0)) ?_
 clear f A
 rintro _ W8 ⟨H, y, aw, vo, vn, vc, rfl, hNH, hI, hz, hb9⟩
 refine ⟨_, rfl, ?_⟩
 intro A f
 replace B0 := Below.next B0 hb9; replace hm := hm.below hb9; replace hr := hr.below hb9; replace rb5 := row_next rb5 hb9
 revert A; refine vlm (h:=vle (h:=vle (h:=vle (h:=?_)))); intro A f
 refine l_as (z := .agg #[.slice none 0 0, .slice none 0 0, .int .i64 0, .slice none 0 0, .slice none 0 0]) f rfl rfl rfl rfl (by kernel_rfl) rfl rfl (fun _ => rfl) (fun _ => rfl) rfl (by intro u hu; simp [Value.cells] at hu; rcases hu with rfl | rfl | rfl | rfl | rfl <;> rfl) ?_; clear f A; intro b10 W11 eb10 hb12 rb10 A f
 dsimp only [Value.cells] at rb10
 have hpb10 := hb12
 have o_b5_b10 : b5 < b10 := by have := row_lt rb5; omega
 have z_B0_b10 := B0.size; rw [eb10] at z_B0_b10
 replace B0 := Below.next B0 hb12; replace hm := hm.below hb12; replace hr := hr.below hb12; replace hI := hI.below hb12; replace rb5 := row_next rb5 hb12
 revert A; refine vla (h:=vla (h:=vW (vS (vS (vR (vlf (h:=vl1 (rowq rb10) (h:=vlz (h:=vlm (h:=vW (vB ?_)))))))))))
 have hNM := new_may hNH (su_new a b c).2.1
 have hlr := hI.at_.lists.reach
 have hyc : y.cpus = 1 + (pickN c 4 : Int) := hI.cpus.trans hNM.2.2.2.1
 intro A f
 refine x_loop (fun n A W => ∃ k : Nat, n = y.ln - k ∧ k ≤ y.ln ∧ Fr A 77 [(9, .pointer (some ⟨b5, 0, none⟩)), (11, .slice vo vn vc), (12, .bool true), (31, .slice y.lo y.ln y.lc), (32, .int .i64 (y.ln : Nat)), (33, .int .i64 (k : Nat))] ∧ Below w.heap.size w W ∧ W.heap[b5]? = some (.cells #[.slice (some ⟨gm, 0, none⟩) 2 2, .slice (some ⟨gr, 0, none⟩) 2 2, .int .i64 (16 * (pickN a 9 : Int)), .int .i64 (pickN b 12 : Int), .int .i64 (1 + (pickN c 4 : Int))] 27 (0, 0)) ∧ PgI _ H W y aw vo vn vc) (n0 := y.ln) (⟨0, rfl, Nat.zero_le _, f.sub ⟨rfl, rfl, rfl, rfl, rfl, rfl, trivial⟩, B0, rb5, hI⟩) ?_
 clear f A
 clear B0 hI rb5 rb10 hm hr
 rintro n2 A W13 ⟨k, hn, hk, f, B0, rb5, hI⟩
 revert A; refine vS (vR (vlb (y_lss rfl rfl rfl) (h:=?_) (g:=?_)))
 ·intro c14
  refine vW (vS (vC (h:=vK (vT (vS (vB (vS (vR ?_))))))))
  have BW := Below.refl W13.heap.size W13
  obtain ⟨gl, ol, lcl, lzl, ltl, lpl, pol, pnl, pcl, hal, c0l, c1l, c2l, c3l, hatl, hXl⟩ := hI.at_.lists.at (k) (by omega)
  replace c0l := St.of c0l; replace c1l := St.of c1l; replace c2l := St.of c2l; replace c3l := St.of c3l
  have hll := hI.at_.lists.len
  have hkk := hI.may.ls.ok k (by show k < (y.ls.map _).length; rw [List.length_map]; omega)
  have hmem : (⟨lcl, lzl, ltl, lpl⟩ : Ls) ∈ y.hp.lists := by
   have h := getD_mem (d := Ls.zero) (show k < y.hp.lists.length by show k < (y.ls.map _).length; rw [List.length_map]; omega)
   rw [listOf_hp, hXl.out] at h
   exact h
  intro A f
  rw [listOf_hp, hXl.out] at hkk
  have hk1 := hkk.c
  have hk2 := hkk.z
  have hk3 := hkk.n
  have hk4 := hkk.p
  dsimp only at hk1 hk2 hk3 hk4
  have hk5 : y.hp.cpus = y.cpus := rfl
  have hk6 := hatl.len
  have hk7 := hatl.reach
  revert A; refine vlx (h:=vld (y_loadN (vs := [_, _, _, _]) rfl rfl (ag rfl) rfl ⟨(by first | assumption | exact St.q c0l BW | exact St.q c1l BW | exact St.q c2l BW | exact St.q c3l BW), (by first | assumption | exact St.q c0l BW | exact St.q c1l BW | exact St.q c2l BW | exact St.q c3l BW), (by first | assumption | exact St.q c0l BW | exact St.q c1l BW | exact St.q c2l BW | exact St.q c3l BW), (by first | assumption | exact St.q c0l BW | exact St.q c1l BW | exact St.q c2l BW | exact St.q c3l BW), trivial⟩) (h:=?_)); intro A f
  refine l_as (z := .agg #[.int .i64 0, .int .i64 0, .int .i64 0, .slice none 0 0]) f rfl rfl rfl rfl (by kernel_rfl) rfl rfl (fun _ => rfl) (fun _ => rfl) rfl (by intro u hu; simp [Value.cells] at hu; rcases hu with rfl | rfl | rfl | rfl <;> rfl) ?_; clear f A; intro b15 W16 eb15 hb17 rb15 A f
  dsimp only [Value.cells] at rb15
  have hpb15 := hb17
  have o_b5_b15 : b5 < b15 := by have := row_lt rb5; omega
  have z_B0_b15 := B0.size; rw [eb15] at z_B0_b15
  replace B0 := Below.next B0 hb17; replace hI := hI.below hb17; replace hatl := hatl.below hb17; replace rb5 := row_next rb5 hb17
  revert A; refine vW (vS (vS (vR (vlf (h:=vl1 (rowq rb15) (h:=vlz (h:=vlb (y_eql rfl rfl rfl) (h:=?_) (g:=?_))))))))
  ·intro c18; exfalso; omega
  intro c18
  refine vlm (h:=vlf (h:=vl1 (rowq rb15) (h:=vlz (h:=vlb (y_gtr rfl rfl rfl) (h:=?_) (g:=?_)))))
  ·intro c19; exfalso; omega
  intro c19
  refine vlp (h:=vlm (h:=vlf (h:=vl1 (rowq rb15) (h:=vlf (h:=vl1 (rowq rb5) (h:=vlb (y_geq rfl rfl rfl) (h:=?_) (g:=?_)))))))
  ·intro c20; exfalso; omega
  intro c20
  refine vlp (h:=vW (vD (h:=vK (vT (vS (vR (vlf (h:=vl1 (rowq rb15) (h:=vlz (h:=vlm (h:=vW (vB ?_)))))))))))); intro A f
  refine x_loop (fun n A W => ∃ j : Nat, n = pnl - j ∧ j ≤ pnl ∧ Fr A 77 [(9, .pointer (some ⟨b5, 0, none⟩)), (11, .slice vo vn vc), (12, .bool true), (31, .slice y.lo y.ln y.lc), (32, .int .i64 (y.ln : Nat)), (33, .int .i64 (k : Nat)), (14, .pointer (some ⟨b15, 0, none⟩)), (55, .slice pol pnl pcl), (56, .int .i64 (pnl : Nat)), (57, .int .i64 (j : Nat))] ∧ Below w.heap.size w W ∧ W.heap[b5]? = some (.cells #[.slice (some ⟨gm, 0, none⟩) 2 2, .slice (some ⟨gr, 0, none⟩) 2 2, .int .i64 (16 * (pickN a 9 : Int)), .int .i64 (pickN b 12 : Int), .int .i64 (1 + (pickN c 4 : Int))] 27 (0, 0)) ∧ W.heap[b15]? = some (.cells #[.int .i64 lcl, .int .i64 lzl, .int .i64 ltl, .slice pol pnl pcl] 69 (0, 0)) ∧ PgI _ H W y aw vo vn vc ∧ Nums W pol pnl lpl) (n0 := pnl) (⟨0, rfl, Nat.zero_le _, f.sub ⟨rfl, rfl, rfl, rfl, rfl, rfl, rfl, rfl, rfl, rfl, trivial⟩, B0, rb5, rb15, hI, hatl⟩) ?_
  clear f A
  clear B0 hI hatl rb5 rb15
  rintro n3 A W21 ⟨j, hn3, hj, f, B0, rb5, rb15, hI, hatl⟩
  revert A; refine vS (vR (vlb (y_lss rfl rfl rfl) (h:=?_) (g:=?_)))
  ·intro c22
   refine vW (vS (vC (h:=vK (vT (vS (vB (vS (vR ?_))))))))
   have BV := Below.refl W21.heap.size W21
   obtain ⟨gp, op, vp, hap, c0p, hXp⟩ := hatl.at_.at (j) (by have := hatl.len; omega)
   replace c0p := St.of c0p
   intro A f
   rw [show op + j = op + j * 1 by omega] at c0p
   have hpj := hk4 j (by omega)
   rw [hXp.out] at hpj
   have hpm : vp ∈ lpl := by have h := getD_mem (d := (0 : Int)) (show j < lpl.length by omega); rw [hXp.out] at h; exact h
   have hpz := pg_zone hI hNM hk2 hpj
   have hcf := list_not_away hI hmem hpm
   revert A; refine vlx (h:=vld (y_load1 rfl rfl (ag rfl) (by first | assumption | exact St.q c0l BW | exact St.q c1l BW | exact St.q c2l BW | exact St.q c3l BW | exact St.q c0p BV)) (h:=?_)); intro A f
   refine l_as (z := .int .i64 0) f rfl rfl rfl rfl (by kernel_rfl) rfl rfl (fun _ => rfl) (fun _ => rfl) rfl (by intro u hu; simp [Value.cells] at hu; rcases hu with rfl <;> rfl) ?_; clear f A; intro b23 W24 eb23 hb25 rb23 A f
   dsimp only [Value.cells] at rb23
   have hpb23 := hb25
   have o_b5_b23 : b5 < b23 := by have := row_lt rb5; omega
   have o_b15_b23 : b15 < b23 := by have := row_lt rb15; omega
   have z_B0_b23 := B0.size; rw [eb23] at z_B0_b23
   replace B0 := Below.next B0 hb25; replace hI := hI.below hb25; replace hatl := hatl.below hb25; replace rb5 := row_next rb5 hb25; replace rb15 := row_next rb15 hb25
   revert A; refine vW (vS (vR (vl1 (rowq rb23) (h:=vlf (h:=vl1 (rowq rb5) (h:=vlb (y_lss rfl rfl rfl) (h:=?_) (g:=?_)))))))
   ·intro c26
    refine vlf (h:=vl1 (rowq rb15) (h:=vlb (y_eql rfl rfl rfl) (h:=?_) (g:=?_)))
    ·intro c27
     refine vld (y_neqb Tryz.underlying4 rfl rfl rfl) (h:=vlm (h:=vlm (h:=vld (y_func rfl rfl) (h:=?_))))
     have hcc := bContains_any _ 27 #[.pointer (some ⟨b23, 0, none⟩)] vo vn vc aw (fun b => decide (b.a ≤ vp ∧ vp < b.a + pw b.o)) hI.blks (fun args W => pl rfl args W) (fun i hi W hW => kListsF_c W (aw.getD i .zero) b23 vp (fun wx hx => by rw [cell_of_row _ _ _ _ _ _ (row_next rb23 (Below.next hW hx))]; rfl) (pgI_inP hI hi).1 (pgI_inP hI hi).2)
     intro A f
     rw [hcf] at hcc
     refine l_call f rfl rfl rfl (IsCall.mk' (cap := []) rfl rfl rfl) (pl rfl) hcc ?_; clear f A hcc; rintro _ W28 ⟨rfl, hb29⟩; refine ⟨_, rfl, ?_⟩; intro A f; replace B0 := Below.next B0 hb29; replace hI := hI.below hb29; replace hatl := hatl.below hb29; replace rb5 := row_next rb5 hb29; replace rb15 := row_next rb15 hb29; replace rb23 := row_next rb23 hb29
     revert A; refine vlp (h:=vW (vD (h:=vK (vU (vT (vR (vlA (h:=vlm (h:=vW ?_))))))))); intro A f
     exact ⟨pnl - (j + 1), by omega, j + 1, rfl, by omega, f.sub ⟨rfl, rfl, rfl, rfl, rfl, rfl, rfl, rfl, rfl, rfl, trivial⟩, B0, rb5, rb15, hI, hatl⟩
    intro c27; exfalso; omega
   intro c26
   refine vlf (h:=vl1 (rowq rb15) (h:=vlb (y_eql rfl rfl rfl) (h:=?_) (g:=?_)))
   ·intro c30; exfalso; omega
   intro c30
   refine vld (y_neqb Tryz.underlying4 rfl rfl rfl) (h:=vlm (h:=vlm (h:=vld (y_func rfl rfl) (h:=?_))))
   have hcc := bContains_any _ 27 #[.pointer (some ⟨b23, 0, none⟩)] vo vn vc aw (fun b => decide (b.a ≤ vp ∧ vp < b.a + pw b.o)) hI.blks (fun args W => pl rfl args W) (fun i hi W hW => kListsF_c W (aw.getD i .zero) b23 vp (fun wx hx => by rw [cell_of_row _ _ _ _ _ _ (row_next rb23 (Below.next hW hx))]; rfl) (pgI_inP hI hi).1 (pgI_inP hI hi).2)
   intro A f
   rw [hcf] at hcc
   refine l_call f rfl rfl rfl (IsCall.mk' (cap := []) rfl rfl rfl) (pl rfl) hcc ?_; clear f A hcc; rintro _ W31 ⟨rfl, hb32⟩; refine ⟨_, rfl, ?_⟩; intro A f; replace B0 := Below.next B0 hb32; replace hI := hI.below hb32; replace hatl := hatl.below hb32; replace rb5 := row_next rb5 hb32; replace rb15 := row_next rb15 hb32; replace rb23 := row_next rb23 hb32
   revert A; refine vlp (h:=vW (vD (h:=vK (vU (vT (vR (vlA (h:=vlm (h:=vW ?_))))))))); intro A f
   exact ⟨pnl - (j + 1), by omega, j + 1, rfl, by omega, f.sub ⟨rfl, rfl, rfl, rfl, rfl, rfl, rfl, rfl, rfl, rfl, trivial⟩, B0, rb5, rb15, hI, hatl⟩
  intro c22
  refine vW (vS (vD (h:=vX (vH (vH (vI (vU (vT (vR (vlA (h:=vlm (h:=vW ?_)))))))))))); intro A f
  exact ⟨y.ln - (k + 1), by omega, k + 1, rfl, by omega, f.sub ⟨rfl, rfl, rfl, rfl, rfl, rfl, trivial⟩, B0, rb5, hI⟩
 intro c14
 refine vW (vS (vD (h:=vX (vH (vH (vI (vT (vS (vR (vlm (h:=vla (h:=vW (vE ?_))))))))))))); intro A f
 refine x_ret1 f rfl rfl ?_
 exact ⟨rfl, B0⟩
end Go.Proofs.YtjohdbiipeedkaaGreatDoor
