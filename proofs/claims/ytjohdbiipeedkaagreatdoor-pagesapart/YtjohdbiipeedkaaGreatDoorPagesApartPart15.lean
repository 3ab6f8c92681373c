/-
  OWN TEXTS.
-/
import Derived.Test.YtjohdbiipeedkaaGreatDoorPagesApartPart14
set_option maxRecDepth 10000
set_option maxHeartbeats 4000000
namespace Go.Proofs.YtjohdbiipeedkaaGreatDoor
open Go Go.RowKit Go.Proofs.YtjohdbiipeedkaaGreatDoor.Kit
def totN (h : Int → Nat) : Nat → Nat
 | 0 => 0
 | n + 1 => totN h n + h n
theorem totN_congr {h g : Int → Nat} : ∀ (n : Nat), (∀ i : Nat, i < n → h i = g i) → totN h n = totN g n
 | 0, _ => rfl
 | n + 1, e => by unfold totN; rw [totN_congr n (fun i hi => e i (by omega)), e n (by omega)]
theorem totN_add (h g : Int → Nat) : ∀ n : Nat, totN (fun p => h p + g p) n = totN h n + totN g n
 | 0 => rfl
 | n + 1 => by unfold totN; rw [totN_add h g n]; omega
theorem totN_zero : ∀ n : Nat, totN (fun _ => 0) n = 0
 | 0 => rfl
 | n + 1 => by unfold totN; rw [totN_zero n]
theorem totN_hit (a o : Int) (ha : 0 ≤ a) : ∀ n : Nat, (totN (hit a o) n : Int) = (if (n : Int) ≤ a then 0 else if (n : Int) ≤ a + pw o then n - a else pw o)
 | 0 => by
  have := pw_pos o
  rw [if_pos (by omega)]; rfl
 | n + 1 => by
  have hp := pw_pos o
  have ih := totN_hit a o ha n
  unfold totN
  have e : hit a o (n : Int) = if a ≤ (n : Int) ∧ (n : Int) < a + pw o then 1 else 0 := rfl
  rw [e]
  push_cast
  rw [ih]
  split <;> split <;> (try split) <;> (try split) <;> (try split) <;> omega
theorem totN_cnt {l : List Bk} (h : ∀ b ∈ l, InP b) : (totN (Kit.cnt l) 256 : Int) = freeN l := by
 induction l with
 | nil => rw [totN_congr (g := fun _ => 0) 256 (fun _ _ => rfl), totN_zero]; rfl
 | cons b l ih =>
  have e := totN_add (hit b.a b.o) (Kit.cnt l) 256
  have e1 : totN (Kit.cnt (b :: l)) 256 = totN (fun p => hit b.a b.o p + Kit.cnt l p) 256 := totN_congr 256 (fun _ _ => rfl)
  have hb := h b List.mem_cons_self
  have e2 := totN_hit b.a b.o hb.2.1 256
  have hp := pw_pos b.o
  have := hb.2.2
  rw [if_neg (by omega)] at e2
  rw [e1, e]
  push_cast
  rw [ih (fun c hc => h c (List.mem_cons_of_mem _ hc)), e2]
  show _ = pw b.o + freeN l
  split <;> omega
def sumP : List (Int × Int) → Int
 | [] => 0
 | x :: l => pw x.2 + sumP l
def zonesN (H : Hp) : Int := freeN (H.zones.flatMap (·.free))
def listsN (H : Hp) : Int := ((H.lists.flatMap (·.pages)).length : Nat)
def zK (x : Hx) (k : Nat) : Int := freeN ((x.zs.take k).flatMap (fun z => z.z.free))
def lK (x : Hx) (k : Nat) : Int := (((x.ls.take k).flatMap (fun l => l.l.pages)).length : Nat)
theorem raws_below {w w' : World} {ao : Option Addr} {n cap : Nat} {l : List Raw4} (h : IsRaws w ao n cap l) (hb : Below w.heap.size w w') : IsRaws w' ao n cap l := ⟨h.len, h.le, h.reach, h.at_.below hb, h.wf⟩
theorem raws_none (w : World) : IsRaws w none 0 0 [] := ⟨rfl, Nat.le_refl _, by omega, RawsAt.nil _ _, fun i hi => absurd hi (Nat.not_lt_zero i)⟩
theorem pgI_inP {B : Nat} {H0 : Hp} {W : World} {y : Hx} {aw : List Bk} {vo : Option Addr} {vn vc : Nat} (h : PgI B H0 W y aw vo vn vc) {j : Nat} (hj : j < aw.length) : InP (aw.getD j .zero) := by
 have e : aw.getD j .zero = aw[j] := by rw [List.getD_eq_getElem?_getD, List.getElem?_eq_getElem hj]; rfl
 have hm : prB aw[j] ∈ y.hp.live.map prB := h.perm.mem_iff.1 (List.mem_map.2 ⟨_, List.getElem_mem hj, rfl⟩)
 obtain ⟨b, hb, eb⟩ := List.mem_map.1 hm
 have hp := ((lvs_iff.1 h.may.lv).1 b hb).inP
 have ea : b.a = aw[j].a := congrArg Prod.fst eb
 have eo : b.o = aw[j].o := congrArg Prod.snd eb
 rw [e]
 refine ⟨?_, ?_, ?_⟩
 ·rw [← eo]; exact hp.1
 ·rw [← ea]; exact hp.2.1
 rw [← ea, ← eo]; exact hp.2.2
theorem su_new (a b c : Int) : newOk 0 (16 * (pickN a 9 : Int)) ∧ newGood (pickN b 12 : Int) (1 + (pickN c 4 : Int)) ∧ (1 + (pickN c 4 : Int)) = ((1 + pickN c 4 : Nat) : Int) := by
 have h1 := pickN_lt a 9 (by omega)
 have h2 := pickN_lt b 12 (by omega)
 have h3 := pickN_lt c 4 (by omega)
 refine ⟨by unfold newOk; omega, ⟨by omega, by omega⟩, by omega⟩
theorem su_drawn (a b c : Int) : MayP (drawnAll (freeH (suM a b c) (suR a b c))) := drawnAll_may (by have := su_few a b c; omega)
def cntP : List (Int × Int) → Int → Nat
 | [], _ => 0
 | x :: l, p => hit x.1 x.2 p + cntP l p
theorem cntP_perm {l m : List (Int × Int)} (h : l.Perm m) (p : Int) : cntP l p = cntP m p := by
 induction h with
 | nil => rfl
 | cons x _ ih => simp only [cntP, ih]
 | swap x y l => simp only [cntP]; omega
 | trans _ _ i1 i2 => exact i1.trans i2
theorem cnt_pr (l : List Bk) (p : Int) : Kit.cnt l p = cntP (l.map prB) p := by
 induction l with
 | nil => rfl
 | cons b l ih => simp only [List.map_cons, cntP, ← ih]; rfl
theorem pgI_cnt {B : Nat} {H0 : Hp} {W : World} {y : Hx} {aw : List Bk} {vo : Option Addr} {vn vc : Nat} (h : PgI B H0 W y aw vo vn vc) (p : Int) : Kit.cnt aw p = Kit.cnt y.hp.live p := by
 rw [cnt_pr, cnt_pr]
 exact cntP_perm h.perm p
theorem cnt_mem {l : List Bk} {b : Bk} (hb : b ∈ l) (p : Int) : hit b.a b.o p ≤ Kit.cnt l p := by
 obtain ⟨i, hi, rfl⟩ := List.getElem_of_mem hb
 have := cnt_ge hi p
 rwa [List.getD_eq_getElem?_getD, List.getElem?_eq_getElem hi] at this
theorem ao_at {l m : List Bk} (h : Kit.ao l = Kit.ao m) {k : Nat} (hk : k < l.length) (hk' : k < m.length) : (l.getD k .zero).a = (m.getD k .zero).a ∧ (l.getD k .zero).o = (m.getD k .zero).o := by
 have e := congrArg (·[k]?) h
 simp only [Kit.ao, List.getElem?_map, List.getElem?_eq_getElem hk, List.getElem?_eq_getElem hk', Option.map_some, Option.some.injEq, Prod.mk.injEq] at e
 simpa [List.getD_eq_getElem?_getD, List.getElem?_eq_getElem hk, List.getElem?_eq_getElem hk'] using e
theorem ao_len {l m : List Bk} (h : Kit.ao l = Kit.ao m) : l.length = m.length := by
 have := congrArg List.length h
 simpa [Kit.ao] using this
theorem wholeF_true (W : World) (ba bo bt bt' : Int) :
    Calls Tryz.prog 20 #[.agg #[.int .i64 ba, .int .i64 bo, .int .i64 bt], .agg #[.int .i64 ba, .int .i64 bo, .int .i64 bt']] W fun e W' => e = .returned (.bool true) ∧ Below W.heap.size W W' := by
 have q1 : (ba == ba) = true := by simp
 have q2 : (bo == bo) = true := by simp
 go_enter Tryz.func20, Tryz.ntmps20
 go_wp2
 go_ret
 exact ⟨rfl, ((Below.refl _ _).alloc (Nat.le_refl _) _).alloc (by simp) _⟩
theorem bEqual_true (w : World) (xo yo : Option Addr) (n cx cy : Nat) (l m : List Bk) (hl : Blks w xo n l) (hm : Blks w yo n m) (h : Kit.ao l = Kit.ao m) :
    Calls Tryz.prog 19 #[.slice xo n cx, .slice yo n cy, .func (.func 20) #[] #[]] w fun e w' => e = .returned (.bool true) ∧ Below w.heap.size w w' := by
 obtain ⟨l1, l2, l3⟩ := hl
 obtain ⟨m1, m2, m3⟩ := hm
 have HA : Hid _ := h
 have q0 : ((n : Int) != (n : Int)) = false := by simp
 clear h
 go_enter Tryz.func19, Tryz.ntmps19
 go_wp2_with fail
 go_loopw [17] (fun i wr => ∃ k : Nat, k ≤ n ∧ i = .int .i64 k ∧ Below w.heap.size w wr) (fun i _ => n - (intOf i).toNat)
 case atStart => exact ⟨0, Nat.zero_le _, rfl, Below.refl _ _⟩
 case round =>
  obtain ⟨k, hk, rfl, hB⟩ := hrel
  by_cases hlt : k < n
  ·obtain ⟨b1, o1, x, y, u, rfl, c1, c2, c3, hX⟩ := (l3.below hB).at k (by omega)
   obtain ⟨b2, o2, x', y', u', rfl, d1, d2, d3, hX'⟩ := (m3.below hB).at k (by omega)
   obtain ⟨e1, e2⟩ := ao_at HA.out (k := k) (by omega) (by omega)
   rw [hX.out, hX'.out] at e1 e2
   dsimp only at e1 e2
   subst e1
   subst e2
   have hb1 := below_box wr (.cells #[.int .i64 x, .int .i64 y, .int .i64 u] 40)
   have d1' := keep d1 hb1
   have d2' := keep d2 hb1
   have d3' := keep d3 hb1
   have f := tbox_new' wr ⟨x, y, u⟩ 40
   dsimp only at f
   obtain ⟨W1, hW1⟩ : ∃ W1, wr.alloc (.cells #[.int .i64 x, .int .i64 y, .int .i64 u] 40) = W1 := ⟨_, rfl⟩
   rw [hW1] at hb1 d1' d2' d3' f
   have HW1 : Hid _ := hW1
   obtain ⟨f0, f1, f2⟩ := f
   have hb2 := below_box W1 (.cells #[.int .i64 x, .int .i64 y, .int .i64 u'] 40)
   have f0' := keep f0 hb2
   have f1' := keep f1 hb2
   have f2' := keep f2 hb2
   have g := tbox_new' W1 ⟨x, y, u'⟩ 40
   dsimp only at g
   obtain ⟨W2, hW2⟩ : ∃ W2, W1.alloc (.cells #[.int .i64 x, .int .i64 y, .int .i64 u'] 40) = W2 := ⟨_, rfl⟩
   rw [hW2] at hb2 f0' f1' f2' g
   have HW2 : Hid _ := hW2
   obtain ⟨g0, g1, g2⟩ := g
   have hB1 := hB.trans (hb1.mono hB.size)
   have hB2 := hB1.trans (hb2.mono hB1.size)
   clear hW1 hW2 hX hX' l3 m3 hb1 hb2
   go_wp2_with (first | rw [HW1.out] | rw [HW2.out])
   go_at_call 20
   refine (wholeF_true W2 x y u u').mono ?_
   rintro e w3 ⟨rfl, hb3⟩
   have hB3 := hB2.trans (hb3.mono hB2.size)
   clear HW1 HW2 hB1 hB2 hb3 c1 c2 c3 d1 d2 d3 d1' d2' d3' f0 f1 f2 f0' f1' f2' g0 g1 g2
   go_wp2
   go_roundw
   case rel => exact ⟨k + 1, by omega, by go_num, hB3⟩
   case measure => simp [intOf]; omega
  go_wp2
  go_ret
  exact ⟨rfl, hB⟩
structure PgF (H0 : Hp) (W : World) (y : Hx) (l : List Bk) : Prop where
 at_ : y.At W
 may : HMay y.hp
 cpus : y.hp.cpus = H0.cpus
 ft : SameFT y.hp H0
 occ : ∀ q, occ y.hp q = occ H0 q
 perm : (l.map prB).Perm (y.hp.live.map prB)
theorem PgF.below {H0 : Hp} {W W' : World} {y : Hx} {l : List Bk} (h : PgF H0 W y l) (hb : Below W.heap.size W W') : PgF H0 W' y l := ⟨h.at_.below hb, h.may, h.cpus, h.ft, h.occ, h.perm⟩
theorem PgF.but {H0 : Hp} {b : Nat} {W W' : World} {y : Hx} {l : List Bk} (h : PgF H0 W y l) (hb : But b W W') (ho : Off b y) : PgF H0 W' y l := ⟨ho.but h.at_ hb, h.may, h.cpus, h.ft, h.occ, h.perm⟩
theorem PgI.toF {B : Nat} {H0 : Hp} {W : World} {y : Hx} {aw : List Bk} {vo : Option Addr} {vn vc : Nat} (h : PgI B H0 W y aw vo vn vc) : PgF H0 W y aw := ⟨h.at_, h.may, h.cpus, h.ft, h.occ, h.perm⟩
theorem erase_drop {l : List Bk} {k : Nat} : (l.drop k).eraseIdx 0 = l.drop (k + 1) := by
 rw [List.eraseIdx_zero, List.tail_drop]
theorem getD_drop {l : List Bk} {k : Nat} : (l.drop k).getD 0 .zero = l.getD k .zero := by
 simp [List.getD_eq_getElem?_getD]
theorem regs_but {w w' : World} {b : Nat} {ao : Option Addr} {n : Nat} {l : List (Int × Int)} (h : Regs w ao n l) (hb : But b w w') (hne : ∀ a, ao = some a → a.block ≠ b) : Regs w' ao n l :=
 ⟨h.len, h.reach, fun i hi => by
  obtain ⟨c, off, e, h1, h2⟩ := h.at_ i hi
  have hc := hne _ e
  have lt1 := World.block_lt_of_cell? w _ h1
  exact ⟨c, off, e, (World.cell?_of_block (a := ⟨c, off + i * 2, none⟩) (hb.block c lt1 hc)).trans h1, (World.cell?_of_block (a := ⟨c, off + i * 2 + 1, none⟩) (hb.block c lt1 hc)).trans h2⟩⟩
theorem zone_bounds {H G : Hp} (hs : SameFT H G) (h : HMay H) (g : HMay G) : (H.zones.getD 1 ⟨0, 0, [], []⟩).f = (H.zones.getD 0 ⟨0, 0, [], []⟩).t ∧ (G.zones.getD 1 ⟨0, 0, [], []⟩).f = (H.zones.getD 0 ⟨0, 0, [], []⟩).t ∧ (G.zones.getD 0 ⟨0, 0, [], []⟩).t = (H.zones.getD 0 ⟨0, 0, [], []⟩).t := by
 have a := (hs 0).2
 have b := h.zs.f1
 have c := g.zs.f1
 exact ⟨b, by rw [c, a], a.symm⟩
theorem zones_same {H G : Hp} (h : HMay H) (g : HMay G) (hs : SameFT H G) (ho : ∀ q, occ H q = occ G q) (h1 : H.live = []) (h2 : H.lists = []) (g1 : G.live = []) (g2 : G.lists = []) (k : Nat) (hk : k < 2) : Kit.ao (H.zones.getD k ⟨0, 0, [], []⟩).free = Kit.ao (G.zones.getD k ⟨0, 0, [], []⟩).free := by
 have m : ∀ (F : Hp), HMay F → ∀ j, j < 2 → ZMay (F.zones.getD j ⟨0, 0, [], []⟩) := fun F hF j hj => by
  rcases (show j = 0 ∨ j = 1 by omega) with rfl | rfl
  ·exact hF.zs.m0
  exact hF.zs.m1
 have hz : ∀ (F : Hp), F.live = [] → F.lists = [] → ∀ q, occ F q = zcnt F q := fun F a b q => by
  unfold occ lcnt
  rw [a, b]
  rfl
 have out : ∀ (F : Hp), HMay F → ∀ j, j < 2 → ∀ q, ¬ ((F.zones.getD j ⟨0, 0, [], []⟩).f ≤ q ∧ q < (F.zones.getD j ⟨0, 0, [], []⟩).t) → Kit.cnt (F.zones.getD j ⟨0, 0, [], []⟩).free q = 0 := fun F hF j hj q hn => by
  have ha := (free_iff.1 (m F hF j hj).free).1
  generalize (F.zones.getD j ⟨0, 0, [], []⟩).free = l at ha
  induction l with
  | nil => rfl
  | cons b l ih =>
   have hb := (ha b List.mem_cons_self).1
   obtain ⟨b1, b2, b3, b4⟩ := hb
   have n := (m F hF j hj).new
   unfold newOk at n
   have e0 : hit b.a b.o q = 0 := by
    unfold hit
    rw [if_neg]
    rcases ord_cases b1 with ⟨_, e⟩ | ⟨_, e⟩ | ⟨_, e⟩ | ⟨_, e⟩ | ⟨_, e⟩ <;> rw [e] at b4 ⊢ <;> omega
   show hit b.a b.o q + Kit.cnt l q = 0
   rw [e0, ih (fun c hc => ha c (List.mem_cons_of_mem _ hc))]
 refine free_unique (m H h k hk) (m G g k hk) (hs k).1 (hs k).2 fun q => ?_
 have e := ho q
 rw [hz H h1 h2, hz G g1 g2, zcnt_two h.zs.n, zcnt_two g.zs.n] at e
 have z := zone_bounds hs h g
 rcases (show k = 0 ∨ k = 1 by omega) with rfl | rfl
 ·by_cases hq : q < (H.zones.getD 0 ⟨0, 0, [], []⟩).t
  ·rw [out H h 1 (by omega) q (by omega), out G g 1 (by omega) q (by omega)] at e; omega
  rw [out H h 0 (by omega) q (by omega), out G g 0 (by omega) q (by omega)]
 by_cases hq : q < (H.zones.getD 0 ⟨0, 0, [], []⟩).t
 ·rw [out H h 1 (by omega) q (by omega), out G g 1 (by omega) q (by omega)]
 rw [out H h 0 (by omega) q (by omega), out G g 0 (by omega) q (by omega)] at e; omega
def elA (P : Program) (t : TypeId) : Option (Nat × Nat) :=
 match P.underlying t with
 | some (.array n e) => (P.info? e).map (fun i => (i.size, n))
 | _ => none
theorem y_markAt {P : Program} {C : World → Prop} {L : List (Nat × Value)} {o : Oper} {t : TypeId} {x ix : Operand} {b q : Nat} {i : Int} (ho : o.op = .indexAddr t x ix) (hx : ev L x = some (.pointer (some ⟨b, 0, none⟩))) (hi : ev L ix = some (.int .i64 i)) (hq : (q : Int) = i) (hs : elA P t = some (1, 256)) (h : q < 256) : YC P C L o (.pointer (some ⟨b, q, none⟩)) := by
 subst hq
 intro ρ hρ wx _
 unfold elA at hs
 cases hu : P.underlying t with
 | none => rw [hu] at hs; cases hs
 | some d =>
  rw [hu] at hs
  cases d with
  | array n e =>
   simp only at hs
   cases hif : P.info? e with
   | none => rw [hif] at hs; cases hs
   | some inf =>
    rw [hif] at hs
    simp only [Option.map_some, Option.some.injEq, Prod.mk.injEq] at hs
    obtain ⟨h1, rfl⟩ := hs
    have hk : ((q : Nat) : Int) < ((256 : Nat) : Int) := by omega
    simp [execOp, ho, hρ _ _ hx, hρ _ _ hi, Instr.indexAt, Instr.sureAddr, asIntOf, run_under hu, run_size hif, h1, h, Addr.add, go_sem]
    exact fun e => e.symm
  | _ => cases hs
theorem st_mark {w W : World} {b q : Nat} {t : TypeId} {h : Int → Bool} {v : Bool} (hm : MarksAt W b t h) (hq : q < 256) (hv : h (q : Int) = v) (_hw : w = w) : StC (ClB W) ⟨b, q, none⟩ (.bool v) := fun wx hx => by
 rw [(hm.below hx).cell q hq, hv]
theorem mark_store {w : World} {b q : Nat} {t : TypeId} {h : Int → Bool} (hm : MarksAt w b t h) (hq : q < 256) (g : Int → Bool) (hg : ∀ p : Nat, p < 256 → g p = if p = q then true else h p) :
    ∃ W, (storeVar 4 ⟨b, q, none⟩ (.bool true)).run Tryz.prog w = .ok () W ∧ MarksAt W b t g ∧ But b w W := by
 have hr : w.heap[b]? = some (.cells (mk h).toList.toArray t (0, 0)) := by rw [Array.toArray_toList]; exact hm
 obtain ⟨W, h1, h2, h3⟩ := row_store (P := Tryz.prog) (vs := [.bool true]) (o := q) hr (by simp [mk_size]; omega) (fun v hv => by rw [List.mem_singleton] at hv; subst hv; rfl)
 refine ⟨W, ?_, ?_, h2⟩
 ·have hs : szB Tryz.prog 4 = some 1 := sz rfl
  unfold szB at hs
  simp only [Option.map_eq_some_iff] at hs
  obtain ⟨i, hi, hn⟩ := hs
  exact run_storeVar' (a := ⟨b, q, none⟩) hi (by rw [hn]; rfl) h1
 ·unfold MarksAt
  rw [h3]
  have e : (setL (mk h).toList q [.bool true]).toArray = mk g := by
   rw [setL_eq _ _ _ (by simp [mk_size]; omega)]
   refine mk_eq (by simp [mk_size]; omega) fun p hp => ?_
   rw [hg p hp]
   have hs : (mk h).toList[p]? = some (.bool (h p)) := by rw [Array.getElem?_toList, mk_get h p hp]
   have hl : (mk h).toList.length = 256 := by simp [mk_size]
   simp only [List.getElem?_toArray]
   by_cases e : p = q
   ·subst e
    rw [if_pos rfl, List.getElem?_append_left (by simp [hl]; omega), List.getElem?_append_right (by simp [hl]; omega)]
    rw [List.length_take, hl, Nat.min_eq_left (show p ≤ 256 by omega), Nat.sub_self]
    rfl
   ·rw [if_neg e, ← hs]
    by_cases hlt : p < q
    ·rw [List.getElem?_append_left (by simp [hl]; omega), List.getElem?_append_left (by simp [hl]; omega), List.getElem?_take, if_pos hlt]
    ·rw [List.getElem?_append_right (by simp [hl]; omega), List.getElem?_drop]
     rw [List.length_append, List.length_take, hl, Nat.min_eq_left (show q ≤ 256 by omega)]
     rw [show q + [Value.bool true].length + (p - (q + [Value.bool true].length)) = p by have : [Value.bool true].length = 1 := rfl; omega]
  rw [e]
def HoldsR (F : Nat) (caps : Array Value) (l : List (Int × Int)) (g : Int × Int → Bool) (w : World) : Prop :=
 ∀ (i : Nat), i < l.length → ∀ W : World, Below w.heap.size w W → Calls Tryz.prog F (#[Value.agg #[.int .i64 (l.getD i (0, 0)).1, .int .i64 (l.getD i (0, 0)).2]] ++ caps) W fun e W' => e = .returned (.bool (g (l.getD i (0, 0)))) ∧ Below W.heap.size W W'
def FoundIff (e : Ending) (b : Bool) : Prop := ∃ i : Int, e = .returned (.int .i64 i) ∧ (0 ≤ i ↔ b = true)
theorem any_next {g : Int × Int → Bool} {l : List (Int × Int)} {k : Nat} (h : (l.take k).any g = false) (hk : k < l.length) : (l.take (k + 1)).any g = g (l.getD k (0, 0)) := by
 rw [List.take_add_one, List.any_append, h]
 simp [List.getD_eq_getElem?_getD, hk]
theorem any_of_take {g : Int × Int → Bool} {l : List (Int × Int)} {k : Nat} (h : (l.take k).any g = true) : l.any g = true := by
 rw [List.any_eq_true] at h ⊢
 obtain ⟨x, hx, hg⟩ := h
 exact ⟨x, List.mem_of_mem_take hx, hg⟩
theorem rIndex_any (w : World) (F : Nat) (caps : Array Value) (ao : Option Addr) (n cap : Nat) (l : List (Int × Int)) (g : Int × Int → Bool) (h : Regs w ao n l)
    (hcall : ∀ args W, (callFunc F args).run Tryz.prog W = .ok (.enter F args) W) (hc : HoldsR F caps l g w) :
    Calls Tryz.prog 37 #[.slice ao n cap, .func (.func F) #[] caps] w fun e w' => FoundIff e (l.any g) ∧ Below w.heap.size w w' := by
 have hlen := h.len
 have hrch := h.reach
 go_enter Tryz.func37, Tryz.ntmps37
 go_wp2
 go_loopw [8] (fun i wr => ∃ k : Nat, k ≤ n ∧ i = .int .i64 k ∧ Hid ((l.take k).any g = false) ∧ Below w.heap.size w wr) (fun i _ => n - (intOf i).toNat)
 case atStart => exact ⟨0, Nat.zero_le _, rfl, rfl, Below.refl _ _⟩
 case round =>
  obtain ⟨k, hk, rfl, hN, hb⟩ := hrel
  by_cases hlt : k < n
  ·obtain ⟨b, o, rfl, c0, c1⟩ := h.at_ k (by omega)
   have hc1 := hc k (by omega) wr hb
   have HA : Hid ((l.take (k + 1)).any g = g (l.getD k (0, 0))) := any_next hN.out (by omega)
   obtain ⟨r, hr⟩ : ∃ r, l.getD k (0, 0) = r := ⟨_, rfl⟩
   rw [hr] at c0 c1 hc1 HA
   clear hr hN
   obtain ⟨f, s⟩ := r
   dsimp only at c0 c1 hc1
   have d0 := keep c0 hb
   have d1 := keep c1 hb
   clear c0 c1
   go_wp2_with fail
   refine hc1.mono ?_
   rintro e w1 ⟨rfl, hb1⟩
   have hB := hb.trans (hb1.mono hb.size)
   clear hc1 d0 d1
   by_cases hg : g (f, s) = true
   ·have HF : Hid (l.any g = true) := by have := HA.out; rw [hg] at this; exact any_of_take this
    clear HA hc
    go_wp2
    go_ret
    exact ⟨⟨k, rfl, fun _ => HF.out, fun _ => by omega⟩, hB⟩
   have hg' : g (f, s) = false := by simpa using hg
   have HF : Hid ((l.take (k + 1)).any g = false) := by have := HA.out; rw [hg'] at this; exact this
   clear HA hc hg
   go_wp2
   go_roundw
   case rel => exact ⟨k + 1, by omega, by go_num, HF, hB⟩
   case measure => simp [intOf]; omega
  have HF : Hid (l.any g = false) := by have := hN.out; rw [List.take_of_length_le (by omega)] at this; exact this
  clear hN hc
  go_wp2
  go_ret
  exact ⟨⟨-1, rfl, fun g => absurd g (by omega), fun g => by rw [HF.out] at g; cases g⟩, hb⟩
theorem rContains_any (w : World) (F : Nat) (caps : Array Value) (ao : Option Addr) (n cap : Nat) (l : List (Int × Int)) (g : Int × Int → Bool) (h : Regs w ao n l)
    (hcall : ∀ args W, (callFunc F args).run Tryz.prog W = .ok (.enter F args) W) (hc : HoldsR F caps l g w) :
    Calls Tryz.prog 13 #[.slice ao n cap, .func (.func F) #[] caps] w fun e w' => e = .returned (.bool (l.any g)) ∧ Below w.heap.size w w' := by
 go_enter Tryz.func13, Tryz.ntmps13
 go_wp2_with fail
 go_at_call 37
 refine (rIndex_any w F caps ao n cap l g h hcall hc).mono ?_
 rintro e w1 ⟨⟨i, rfl, hi⟩, hb⟩
 by_cases hn : (0 : Int) ≤ i
 ·have HF : Hid (l.any g = true) := hi.1 hn
  clear hi hc
  go_wp2
  go_ret
  exact ⟨ret_bool HF.out.symm, hb⟩
 have HF : Hid (l.any g = false) := by
  show _ = _
  cases hh : l.any g with
  | false => rfl
  | true => exact absurd (hi.2 hh) hn
 have hd : decide (0 ≤ i) = false := decide_eq_false hn
 clear hi hc
 go_wp2
 go_ret
 exact ⟨ret_bool HF.out.symm, hb⟩
theorem regs_lt {w : World} {g n : Nat} {x : Int × Int} {l : List (Int × Int)} (h : Regs w (some ⟨g, 0, none⟩) n (x :: l)) : g < w.heap.size := by
 obtain ⟨c, off, e, h1, _⟩ := h.at_ 0 (by simp)
 cases e
 exact World.block_lt_of_cell? w _ h1
theorem cov_cnt {P : List Bk} {q : Int} (h : cov P q = true) : 1 ≤ Kit.cnt P q := by
 obtain ⟨b, hb, hd⟩ := List.any_eq_true.1 h
 have hd := of_decide_eq_true hd
 have h1 : hit b.a b.o q = 1 := by unfold hit; rw [if_pos hd]
 have h2 := cnt_mem hb q
 omega
theorem away_free {B : Nat} {H : Hp} {W : World} {y : Hx} {aw : List Bk} {vo : Option Addr} {vn vc : Nat} {M R : List (Int × Int)} {split least cpus : Int} (h : PgI B H W y aw vo vn vc) (hN : NewH H (drawnAll (freeH M R)) split least cpus) (hg : newGood least cpus) {j : Nat} (hj : j < aw.length) {q : Int}
    (hq : (aw.getD j .zero).a ≤ q ∧ q < (aw.getD j .zero).a + pw (aw.getD j .zero).o) : inL M q = true ∧ inL R q = false ∧ cov (aw.take j) q = false := by
 obtain ⟨h1, h2, h3⟩ := pgI_inP h hj
 have hb : 0 ≤ q ∧ q < 256 := by omega
 have e1 := pgI_cnt h q
 have e2 := h.may.occLe q
 have e3 := h.occ q
 have e4 := new_occ hN hg hb
 have e5 : occ y.hp q = zcnt y.hp q + (lcnt y.hp.lists q + Kit.cnt y.hp.live q) := rfl
 have e6 : Kit.cnt aw q = Kit.cnt (aw.take j) q + Kit.cnt (aw.drop j) q := by rw [← cnt_append, List.take_append_drop]
 have e7 : 1 ≤ Kit.cnt (aw.drop j) q := by
  have h4 := cnt_mem (l := aw.drop j) (b := aw.getD j .zero) (by rw [List.getD_eq_getElem?_getD, List.getElem?_eq_getElem hj]; rw [List.drop_eq_getElem_cons hj]; exact List.mem_cons_self) q
  have h5 : hit (aw.getD j .zero).a (aw.getD j .zero).o q = 1 := by unfold hit; rw [if_pos hq]
  omega
 rw [drawnAll_pages _ q hb.1 hb.2] at e4
 have e8 : freeH M R q = true := by
  cases hf : freeH M R q with
  | true => rfl
  | false => rw [hf] at e4; simp at e4; omega
 have e9 : cov (aw.take j) q = false := by
  cases hf : cov (aw.take j) q with
  | false => rfl
  | true => have := cov_cnt hf; omega
 unfold freeH at e8
 rw [Bool.and_eq_true, Bool.not_eq_true'] at e8
 exact ⟨e8.1, e8.2, e9⟩
theorem apF1_c (w : World) (r : Int × Int) (g : Nat) (p : Int) (hq : St w ⟨g, 0, none⟩ (.int .i64 p)) (ho : regOk r) :
    Calls Tryz.prog 14 #[.agg #[.int .i64 r.1, .int .i64 r.2], .pointer (some ⟨g, 0, none⟩)] w fun e w' => e = .returned (.bool (decide (r.1 ≤ p ∧ p ≤ r.1 + r.2 - 1))) ∧ Below w.heap.size w w' := by
 obtain ⟨o1, o2, o3, o4, o5⟩ := ho
 have B0 := Below.refl w.heap.size w
 refine sx_enter (args := [_, _]) 17 Tryz.func14 rfl rfl rfl ?_
 refine vS (vR ?_); intro A f
 refine l_box f rfl rfl rfl rfl rfl ?_; clear f A; intro b1 W2 eb1 hb3 rb1 A f; dsimp only [Value.cells] at rb1
 have z_B0_b1 := B0.size; rw [eb1] at z_B0_b1
 replace B0 := Below.next B0 hb3
 revert A; refine vla (h:=vW (vS (vR (vlf (h:=vl1 (rowq rb1) (h:=vld (y_load1 rfl rfl (ag rfl) (St.q hq B0)) (h:=vlb (y_leq rfl rfl rfl) (h:=?_) (g:=?_))))))))
 ·intro c4
  refine vlm (h:=vld (y_load1 rfl rfl (ag rfl) (St.q hq B0)) (h:=vlf (h:=vl1 (rowq rb1) (h:=vlf (h:=vl1 (rowq rb1) (h:=vlA (h:=vlb (y_lss rfl rfl rfl) (h:=?_) (g:=?_))))))))
  ·intro c5
   refine vlp (h:=vla (h:=vW (vE ?_))); intro A f
   refine x_ret1 f rfl rfl ?_
   exact ⟨by rw [decide_eq_true (by omega)], B0⟩
  intro c5
  refine vlp (h:=vla (h:=vW (vE ?_))); intro A f
  refine x_ret1 f rfl rfl ?_
  exact ⟨by rw [decide_eq_false (by omega)], B0⟩
 intro c4
 refine vlm (h:=vlO 7 (h:=vlp (h:=vla (h:=vW (vE ?_))))); intro A f
 refine x_ret1 f rfl rfl ?_
 exact ⟨by rw [decide_eq_false (by omega)], B0⟩
theorem apF2_c (w : World) (r : Int × Int) (g : Nat) (p : Int) (hq : St w ⟨g, 0, none⟩ (.int .i64 p)) (ho : regOk r) :
    Calls Tryz.prog 15 #[.agg #[.int .i64 r.1, .int .i64 r.2], .pointer (some ⟨g, 0, none⟩)] w fun e w' => e = .returned (.bool (decide (r.1 ≤ p ∧ p ≤ r.1 + r.2 - 1))) ∧ Below w.heap.size w w' := by
 obtain ⟨o1, o2, o3, o4, o5⟩ := ho
 have B0 := Below.refl w.heap.size w
 refine sx_enter (args := [_, _]) 17 Tryz.func15 rfl rfl rfl ?_
 refine vS (vR ?_); intro A f
 refine l_box f rfl rfl rfl rfl rfl ?_; clear f A; intro b1 W2 eb1 hb3 rb1 A f; dsimp only [Value.cells] at rb1
 have z_B0_b1 := B0.size; rw [eb1] at z_B0_b1
 replace B0 := Below.next B0 hb3
 revert A; refine vla (h:=vW (vS (vR (vlf (h:=vl1 (rowq rb1) (h:=vld (y_load1 rfl rfl (ag rfl) (St.q hq B0)) (h:=vlb (y_leq rfl rfl rfl) (h:=?_) (g:=?_))))))))
 ·intro c4
  refine vlm (h:=vld (y_load1 rfl rfl (ag rfl) (St.q hq B0)) (h:=vlf (h:=vl1 (rowq rb1) (h:=vlf (h:=vl1 (rowq rb1) (h:=vlA (h:=vlb (y_lss rfl rfl rfl) (h:=?_) (g:=?_))))))))
  ·intro c5
   refine vlp (h:=vla (h:=vW (vE ?_))); intro A f
   refine x_ret1 f rfl rfl ?_
   exact ⟨by rw [decide_eq_true (by omega)], B0⟩
  intro c5
  refine vlp (h:=vla (h:=vW (vE ?_))); intro A f
  refine x_ret1 f rfl rfl ?_
  exact ⟨by rw [decide_eq_false (by omega)], B0⟩
 intro c4
 refine vlm (h:=vlO 7 (h:=vlp (h:=vla (h:=vW (vE ?_))))); intro A f
 refine x_ret1 f rfl rfl ?_
 exact ⟨by rw [decide_eq_false (by omega)], B0⟩
theorem pagesApart_walk (ao : Option Addr) (n cap : Nat) (l : List Raw4) (a b c : Int) (w : World) (h : IsRaws w ao n cap l) (wa : (Lit.int .i64 a).wf = true) (wb : (Lit.int .i64 b).wf = true) (wc : (Lit.int .i64 c).wf = true) (hT : TabAt w) :
    Calls Tryz.prog 4 #[.slice ao n cap, .int .i64 a, .int .i64 b, .int .i64 c] w fun e w' => e = .returned (.bool true) ∧ Below w.heap.size w w' := by
 have B0 := Below.refl w.heap.size w
 refine sx_enter (args := [_, _, _, _]) 71 Tryz.func4 rfl rfl rfl ?_
 refine vS (vR (vla (h:=vW (vS (vR (vlm (h:=vlm (h:=vlm (h:=?_))))))))); intro A f
 refine l_call f rfl rfl rfl (IsCall.mk' (cap := []) rfl rfl rfl) (pl rfl) (setup_c _ a b c wa wb wc) ?_
 clear f A
 rintro _ W1 ⟨gm, gr, rfl, hm, hr, hb2⟩
 refine ⟨_, rfl, ?_⟩
 intro A f
 replace B0 := Below.next B0 hb2
 refine l_as (z := .agg #[.slice none 0 0, .slice none 0 0, .int .i64 0, .int .i64 0, .int .i64 0]) f rfl rfl rfl rfl (by kernel_rfl) rfl rfl (fun _ => rfl) (fun _ => rfl) rfl (by intro u hu; simp [Value.cells] at hu; rcases hu with rfl | rfl | rfl | rfl | rfl <;> rfl) ?_; clear f A; intro b3 W4 eb3 hb5 rb3 A f
 dsimp only [Value.cells] at rb3
 have hpb3 := hb5
 have z_B0_b3 := B0.size; rw [eb3] at z_B0_b3
 replace B0 := Below.next B0 hb5; replace hm := hm.below hb5; replace hr := hr.below hb5
 revert A; refine vW (vS (vR (vlm (h:=vl5 (rowq rb3) (h:=?_))))); intro A f
 refine l_call f rfl rfl rfl (IsCall.mk' (cap := []) rfl rfl rfl) (pl rfl) (paged_c _ ao n cap l (raws_below h B0) (some ⟨gm, 0, none⟩) 2 2 (suM a b c) (some ⟨gr, 0, none⟩) 2 2 (suR a b c) hm hr ⟨suM_may a b c, suR_may a b c⟩ _ rfl (su_drawn a b c) (16 * (pickN a 9 : Int)) (pickN b 12 : Int) (1 + (pickN c 4 : Int)) 70 (1 + pickN c 4) (su_new a b c).2.2 (su_new a b c).1 (su_new a b c).2.1 (hT.below B0)) ?_
 clear f A
 rintro _ W6 ⟨H, y, aw, vo, vn, vc, rfl, hNH, hI, hz, hRc, hb7⟩
 refine ⟨_, rfl, ?_⟩
 intro A f
 replace B0 := Below.next B0 hb7; replace hm := hm.below hb7; replace hr := hr.below hb7; replace rb3 := row_next rb3 hb7
 revert A; refine vlm (h:=vle (h:=vle (h:=vle (h:=?_))))
 have hgm := regs_lt hm
 have hgr := regs_lt hr
 have hvs : ∀ a, vo = some a → a.block < W6.heap.size := fun a ha => (owns_blk hI.own a ha).2.1
 have hvl := hI.len
 have hB := hI.blks
 have hpg := fun (j : Nat) (hj : j < aw.length) (q : Int) => away_free hI hNH (su_new a b c).2.1 hj (q := q)
 have hin := fun (j : Nat) (hj : j < aw.length) => pgI_inP hI hj
 intro A f
 clear hI
 refine l_as (z := .agg #[.slice none 0 0, .slice none 0 0, .int .i64 0, .slice none 0 0, .slice none 0 0]) f rfl rfl rfl rfl (by kernel_rfl) rfl rfl (fun _ => rfl) (fun _ => rfl) rfl (by intro u hu; simp [Value.cells] at hu; rcases hu with rfl | rfl | rfl | rfl | rfl <;> rfl) ?_; clear f A; intro b8 W9 eb8 hb10 rb8 A f
 dsimp only [Value.cells] at rb8
 have hpb8 := hb10
 have o_b3_b8 : b3 < b8 := by have := row_lt rb3; omega
 have z_B0_b8 := B0.size; rw [eb8] at z_B0_b8
 replace B0 := Below.next B0 hb10; replace hm := hm.below hb10; replace hr := hr.below hb10; replace hB := hB.below hb10; replace rb3 := row_next rb3 hb10
 revert A; refine vla (h:=vla (h:=vW (vS (vR ?_))))
 obtain ⟨Z, hZ⟩ : ∃ Z, mk (fun _ => false) = Z := ⟨_, rfl⟩
 have hzz : (Tryz.prog.info? 44).map (·.zero) = some (some (.agg Z)) := by rw [← hZ]; kernel_rfl
 intro A f
 refine l_alloc (z := .agg Z) f rfl rfl rfl rfl hzz ?_; clear f A; intro b11 W12 eb11 hb13 hM A f
 have o_b3_b11 : b3 < b11 := by have := row_lt rb3; omega
 have o_b8_b11 : b8 < b11 := by have := row_lt rb8; omega
 have z_B0_b11 := B0.size; rw [eb11] at z_B0_b11
 replace B0 := Below.next B0 hb13; replace hm := hm.below hb13; replace hr := hr.below hb13; replace hB := hB.below hb13; replace rb3 := row_next rb3 hb13; replace rb8 := row_next rb8 hb13
 replace hM : MarksAt W12 b11 44 (cov (aw.take 0)) := by rw [show cov (aw.take 0) = fun _ => false from rfl]; unfold MarksAt; rw [hZ]; exact hM
 clear hzz hZ
 have o_v_b11 : ∀ a, vo = some a → a.block < b11 := fun a ha => by have := hvs a ha; have := row_lt rb3; omega
 revert A; refine vW (vS (vS (vR (vlm (h:=vlz (h:=vlm (h:=vW (vB ?_))))))))
 have e_gm : gm < b11 := by omega
 have e_gr : gr < b11 := by omega
 intro A f
 refine x_loop (fun n A W => ∃ k : Nat, n = vn - k ∧ k ≤ vn ∧ Fr A 71 [(9, .pointer (some ⟨b3, 0, none⟩)), (12, .bool true), (13, .pointer (some ⟨b11, 0, none⟩)), (30, .slice vo vn vc), (31, .int .i64 (vn : Nat)), (32, .int .i64 (k : Nat))] ∧ Below w.heap.size w W ∧ W.heap[b3]? = some (.cells #[.slice (some ⟨gm, 0, none⟩) 2 2, .slice (some ⟨gr, 0, none⟩) 2 2, .int .i64 (16 * (pickN a 9 : Int)), .int .i64 (pickN b 12 : Int), .int .i64 (1 + (pickN c 4 : Int))] 27 (0, 0)) ∧ MarksAt W b11 44 (cov (aw.take k)) ∧ Blks W vo vn aw ∧ Regs W (some ⟨gm, 0, none⟩) 2 (suM a b c) ∧ Regs W (some ⟨gr, 0, none⟩) 2 (suR a b c)) (n0 := vn) (⟨0, rfl, Nat.zero_le _, f.sub ⟨rfl, rfl, rfl, rfl, rfl, rfl, trivial⟩, B0, rb3, hM, hB, hm, hr⟩) ?_
 clear f A
 clear B0 hB hm hr hM rb3
 rintro n2 A W14 ⟨k, hn, hk, f, B0, rb3, hM, hB, hm, hr⟩
 revert A; refine vS (vR (vlb (y_lss rfl rfl rfl) (h:=?_) (g:=?_)))
 ·intro c15
  refine vW (vS (vC (h:=vK (vT (vS (vB (vS (vR ?_))))))))
  have BW := Below.refl W14.heap.size W14
  obtain ⟨gx, ox, bax, box, btx, hax, c0x, c1x, c2x, hXx⟩ := hB.at_.at (k) (by have := hB.len; omega)
  replace c0x := St.of c0x; replace c1x := St.of c1x; replace c2x := St.of c2x
  have hpk := hpg k (by omega)
  have hik := hin k (by omega)
  have hmx := hM
  have etk : aw.take (k + 1) = aw.take k ++ [⟨bax, box, btx⟩] := by
   rw [List.take_add_one, List.getElem?_eq_getElem (show k < aw.length by omega)]
   rw [List.getD_eq_getElem?_getD, List.getElem?_eq_getElem (show k < aw.length by omega)] at hXx
   have h := hXx.out
   simp only [Option.getD_some] at h
   rw [h]; rfl
  intro A f
  rw [hXx.out] at hpk hik
  dsimp only at hpk
  obtain ⟨hio, hia, hib⟩ := hik
  dsimp only at hio hia hib
  clear hmx
  revert A; refine vlx (h:=vld (y_loadN (vs := [_, _, _]) rfl rfl (ag rfl) rfl ⟨(by first | assumption | exact St.q c0x BW | exact St.q c1x BW | exact St.q c2x BW), (by first | assumption | exact St.q c0x BW | exact St.q c1x BW | exact St.q c2x BW), (by first | assumption | exact St.q c0x BW | exact St.q c1x BW | exact St.q c2x BW), trivial⟩) (h:=?_))
  have lM := hM.lt
  intro A f
  refine l_as (z := .agg #[.int .i64 0, .int .i64 0, .int .i64 0]) f rfl rfl rfl rfl (by kernel_rfl) rfl rfl (fun _ => rfl) (fun _ => rfl) rfl (by intro u hu; simp [Value.cells] at hu; rcases hu with rfl | rfl | rfl <;> rfl) ?_; clear f A; intro b16 W17 eb16 hb18 rb16 A f
  dsimp only [Value.cells] at rb16
  have hpb16 := hb18
  have o_b3_b16 : b3 < b16 := by have := row_lt rb3; omega
  have z_B0_b16 := B0.size; rw [eb16] at z_B0_b16
  replace B0 := Below.next B0 hb18; replace hm := hm.below hb18; replace hr := hr.below hb18; replace hB := hB.below hb18; replace rb3 := row_next rb3 hb18; replace hM := hM.below hb18
  revert A; refine vW (vS (vR (vlf (h:=vl1 (rowq rb16) (h:=?_))))); intro A f
  refine l_as (z := .int .i64 0) f rfl rfl rfl rfl (by kernel_rfl) rfl rfl (fun _ => rfl) (fun _ => rfl) rfl (by intro u hu; simp [Value.cells] at hu; rcases hu with rfl <;> rfl) ?_; clear f A; intro b19 W20 eb19 hb21 rb19 A f
  dsimp only [Value.cells] at rb19
  have hpb19 := hb21
  have o_b3_b19 : b3 < b19 := by have := row_lt rb3; omega
  have o_b16_b19 : b16 < b19 := by have := row_lt rb16; omega
  have z_B0_b19 := B0.size; rw [eb19] at z_B0_b19
  replace B0 := Below.next B0 hb21; replace hm := hm.below hb21; replace hr := hr.below hb21; replace hB := hB.below hb21; replace rb3 := row_next rb3 hb21; replace rb16 := row_next rb16 hb21; replace hM := hM.below hb21
  revert A; refine vW (vB ?_)
  have l_b16 := row_lt rb16
  obtain ⟨N2, hN2⟩ : ∃ N : Nat, (N : Int) = pw box := ⟨(pw box).toNat, by have := pw_pos box; omega⟩
  obtain ⟨ban, hban⟩ : ∃ N : Nat, (N : Int) = bax := ⟨bax.toNat, by omega⟩
  intro A f
  refine x_loop (fun n A W => ∃ (j bq : Nat), n = N2 - j ∧ j ≤ N2 ∧ b16 < bq ∧ Fr A 71 [(9, .pointer (some ⟨b3, 0, none⟩)), (12, .bool true), (13, .pointer (some ⟨b11, 0, none⟩)), (30, .slice vo vn vc), (31, .int .i64 (vn : Nat)), (32, .int .i64 (k : Nat)), (15, .pointer (some ⟨b16, 0, none⟩)), (16, .pointer (some ⟨bq, 0, none⟩))] ∧ Below w.heap.size w W ∧ W.heap[b3]? = some (.cells #[.slice (some ⟨gm, 0, none⟩) 2 2, .slice (some ⟨gr, 0, none⟩) 2 2, .int .i64 (16 * (pickN a 9 : Int)), .int .i64 (pickN b 12 : Int), .int .i64 (1 + (pickN c 4 : Int))] 27 (0, 0)) ∧ W.heap[b16]? = some (.cells #[.int .i64 bax, .int .i64 box, .int .i64 btx] 40 (0, 0)) ∧ W.heap[bq]? = some (.cells #[.int .i64 (bax + (j : Nat))] 3 (0, 0)) ∧ MarksAt W b11 44 (setH ban j true (cov (aw.take k))) ∧ Blks W vo vn aw ∧ Regs W (some ⟨gm, 0, none⟩) 2 (suM a b c) ∧ Regs W (some ⟨gr, 0, none⟩) 2 (suR a b c)) (n0 := N2) (⟨0, b19, rfl, Nat.zero_le _, o_b16_b19, f.sub ⟨rfl, rfl, rfl, rfl, rfl, rfl, rfl, rfl, trivial⟩, B0, rb3, rb16, by rw [show bax + ((0 : Nat) : Int) = bax by omega]; exact rb19, by have h := mk_set0 ban true (cov (aw.take k)); unfold MarksAt at hM ⊢; rw [show ((0 : Nat) : Int) = 0 from rfl, h]; exact hM, hB, hm, hr⟩) ?_
  clear f A
  clear B0 hB hm hr hM rb3 rb16 rb19 o_b16_b19
  rintro n3 A W22 ⟨j, bq, hn3, hj, oq, f, B0, rb3, rb16, rbq, hM, hB, hm, hr⟩
  revert A; refine vS (vS ?_); intro A f
  refine sx_quiet (by kernel_rfl) (by kernel_rfl) ?_
  revert A; refine vq1 (rowq rbq) (h:=vqf (h:=vq1 (rowq rb16) (h:=vqf (h:=vq1 (rowq rb16) (h:=vqd (y_shl1 rfl rfl rfl hio) (h:=vqA (h:=?_)))))))
  have hpj : j < N2 → _ := fun hh => hpk (bax + (j : Nat)) ⟨by omega, by omega⟩
  have hpw := pw_pos box
  refine vqb (y_lss rfl rfl rfl) (h:=?_) (g:=?_)
  ·intro c23
   refine vQ ?_; intro W25 hb24; replace B0 := Below.next B0 hb24; replace hm := hm.below hb24; replace hr := hr.below hb24; replace hB := hB.below hb24; replace rb3 := row_next rb3 hb24; replace rb16 := row_next rb16 hb24; replace rbq := row_next rbq hb24; replace hM := hM.below hb24
   refine vT (vC (h:=vK (vT (vS (vB (vS (vS (vR (vl1 (rowq rbq) (h:=vld (y_markAt (q := ban + j) rfl rfl rfl (by omega) rfl (by omega)) (h:=vld (y_load1 rfl rfl (ag rfl) (st_mark (v := false) hM (by omega) (by unfold setH; rw [if_neg (by omega)]; rw [show ((ban + j : Nat) : Int) = bax + (j : Nat) by omega]; exact (hpj (by omega)).2.2) (rfl : w = w))) (h:=vW (vD (h:=vK (vT (vS (vR (vl1 (rowq rbq) (h:=vld (y_markAt (q := ban + j) rfl rfl rfl (by omega) rfl (by omega)) (h:=?_))))))))))))))))))))
   have k_b3_W26 := row_lt rb3
   have k_b16_W26 := row_lt rb16
   have k_bq_W26 := row_lt rbq
   intro A f
   refine l_storeR f rfl rfl rfl rfl rfl (mark_store hM (show ban + j < 256 by omega) (setH ban ((j + 1 : Nat) : Int) true (cov (aw.take k))) (fun p hp => by unfold setH; by_cases e : p = ban + j; (rw [if_pos e, if_pos (by omega)]); (rw [if_neg e]; by_cases e2 : (ban : Int) ≤ p ∧ (p : Int) < ban + j; (rw [if_pos e2, if_pos (by omega)]); (rw [if_neg e2, if_neg (by omega)])))) ?_
   rintro W26 ⟨hM2, hb27⟩
   clear hM
   replace B0 := Below.thenBut B0 hb27 (by omega); replace rb3 := But.row hb27 rb3 (by omega); replace rb16 := But.row hb27 rb16 (by omega); replace rbq := But.row hb27 rbq (by omega); replace hm := regs_but hm hb27 (fun a ha => by cases ha; dsimp only; omega); replace hr := regs_but hr hb27 (fun a ha => by cases ha; dsimp only; omega); replace hB := blks_but hB hb27 (fun _ a ha => by have := o_v_b11 a ha; omega); replace hM := hM2; clear hM2
   revert A; refine vW (vS (vR (vlf (h:=vlf (h:=vl1 (rowq rb3) (h:=vld (y_func rfl rfl) (h:=?_)))))))
   have hcc := rContains_any _ 14 #[.pointer (some ⟨bq, 0, none⟩)] (some ⟨gm, 0, none⟩) 2 2 (suM a b c) (fun r => decide (r.1 ≤ bax + (j : Nat) ∧ bax + (j : Nat) ≤ r.1 + r.2 - 1)) hm (fun args W => pl rfl args W) (fun i hi W hW => apF1_c W ((suM a b c).getD i (0, 0)) bq (bax + (j : Nat)) (fun wx hx => by rw [cell_of_row _ _ _ _ _ _ (row_next rbq (Below.next hW hx))]; rfl) ((suM_may a b c).ok i hi))
   intro A f
   rw [show (suM a b c).any (fun r => decide (r.1 ≤ bax + (j : Nat) ∧ bax + (j : Nat) ≤ r.1 + r.2 - 1)) = true from (hpj (by omega)).1] at hcc
   refine l_call f rfl rfl rfl (IsCall.mk' (cap := []) rfl rfl rfl) (pl rfl) hcc ?_; clear f A hcc; rintro _ W28 ⟨rfl, hb29⟩; refine ⟨_, rfl, ?_⟩; intro A f; replace B0 := Below.next B0 hb29; replace hm := hm.below hb29; replace hr := hr.below hb29; replace hB := hB.below hb29; replace rb3 := row_next rb3 hb29; replace rb16 := row_next rb16 hb29; replace rbq := row_next rbq hb29; replace hM := hM.below hb29
   revert A; refine vla (h:=vW (vS (vR (vlf (h:=vlf (h:=vl1 (rowq rb3) (h:=vld (y_func rfl rfl) (h:=?_))))))))
   have hcc := rContains_any _ 15 #[.pointer (some ⟨bq, 0, none⟩)] (some ⟨gr, 0, none⟩) 2 2 (suR a b c) (fun r => decide (r.1 ≤ bax + (j : Nat) ∧ bax + (j : Nat) ≤ r.1 + r.2 - 1)) hr (fun args W => pl rfl args W) (fun i hi W hW => apF2_c W ((suR a b c).getD i (0, 0)) bq (bax + (j : Nat)) (fun wx hx => by rw [cell_of_row _ _ _ _ _ _ (row_next rbq (Below.next hW hx))]; rfl) ((suR_may a b c).ok i hi))
   intro A f
   rw [show (suR a b c).any (fun r => decide (r.1 ≤ bax + (j : Nat) ∧ bax + (j : Nat) ≤ r.1 + r.2 - 1)) = false from (hpj (by omega)).2.1] at hcc
   refine l_call f rfl rfl rfl (IsCall.mk' (cap := []) rfl rfl rfl) (pl rfl) hcc ?_; clear f A hcc; rintro _ W30 ⟨rfl, hb31⟩; refine ⟨_, rfl, ?_⟩; intro A f; replace B0 := Below.next B0 hb31; replace hm := hm.below hb31; replace hr := hr.below hb31; replace hB := hB.below hb31; replace rb3 := row_next rb3 hb31; replace rb16 := row_next rb16 hb31; replace rbq := row_next rbq hb31; replace hM := hM.below hb31
   revert A; refine vla (h:=vW (vS (vR (vlm (h:=vln (h:=vlm (h:=vlm (h:=vlp (h:=vW (vD (h:=vK (vU (vT (vS (vS (vR (vl1 (rowq rbq) (h:=vW (vR ?_))))))))))))))))))); intro A f
   refine l_as (z := .int .i64 0) f rfl rfl rfl rfl (by kernel_rfl) rfl rfl (fun _ => rfl) (fun _ => rfl) rfl (by intro u hu; simp [Value.cells] at hu; rcases hu with rfl <;> rfl) ?_; clear f A; intro b32 W33 eb32 hb34 rb32 A f
   dsimp only [Value.cells] at rb32
   have hpb32 := hb34
   have o_b3_b32 : b3 < b32 := by have := row_lt rb3; omega
   have o_b16_b32 : b16 < b32 := by have := row_lt rb16; omega
   have o_bq_b32 : bq < b32 := by have := row_lt rbq; omega
   have z_B0_b32 := B0.size; rw [eb32] at z_B0_b32
   replace B0 := Below.next B0 hb34; replace hm := hm.below hb34; replace hr := hr.below hb34; replace hB := hB.below hb34; replace rb3 := row_next rb3 hb34; replace rb16 := row_next rb16 hb34; replace rbq := row_next rbq hb34; replace hM := hM.below hb34
   revert A; refine vW (vR (vl1 (rowq rb32) (h:=vlA (h:=?_)))); intro A f
   refine vls f rb32 ?_
   clear rb32; intro W35 hb36 rb32; dsimp only [setL, over, Value.cells] at rb32; replace B0 := Below.thenBut B0 hb36 (by omega); replace rb3 := But.row hb36 rb3 (by omega); replace rb16 := But.row hb36 rb16 (by omega); replace rbq := But.row hb36 rbq (by omega); replace hm := regs_but hm hb36 (fun a ha => by cases ha; dsimp only; omega); replace hr := regs_but hr hb36 (fun a ha => by cases ha; dsimp only; omega); replace hB := blks_but hB hb36 (fun _ a ha => by have := o_v_b11 a ha; omega); replace hM := hM.but hb36 (by omega)
   revert A; refine vW ?_; intro A f
   exact ⟨N2 - (j + 1), by omega, j + 1, b32, rfl, by omega, by omega, f.sub ⟨rfl, rfl, rfl, rfl, rfl, rfl, rfl, rfl, trivial⟩, B0, rb3, rb16, (by rw [show bax + ((j + 1 : Nat) : Int) = bax + (j : Nat) + 1 by omega]; exact rb32), hM, hB, hm, hr⟩
  intro c23
  refine vQ ?_; intro W38 hb37; replace B0 := Below.next B0 hb37; replace hm := hm.below hb37; replace hr := hr.below hb37; replace hB := hB.below hb37; replace rb3 := row_next rb3 hb37; replace rb16 := row_next rb16 hb37; replace rbq := row_next rbq hb37; replace hM := hM.below hb37
  refine vT (vD (h:=vX (vH (vH (vI (vU (vT (vR ?_))))))))
  have ejn : j = N2 := by omega
  intro A f
  subst ejn
  replace hM : MarksAt W38 b11 44 (cov (aw.take (k + 1))) := by
   have e : mk (setH ban j true (cov (aw.take k))) = mk (cov (aw.take (k + 1))) := mk_ext fun p _ => by rw [etk]; exact cov_set (aw.take k) ⟨bax, box, btx⟩ ban j hban hN2 p
   unfold MarksAt at hM ⊢
   rw [← e]; exact hM
  revert A; refine vlA (h:=vlm (h:=vW ?_)); intro A f
  exact ⟨vn - (k + 1), by omega, k + 1, rfl, by omega, f.sub ⟨rfl, rfl, rfl, rfl, rfl, rfl, trivial⟩, B0, rb3, hM, hB, hm, hr⟩
 intro c15
 refine vW (vS (vD (h:=vX (vH (vH (vI (vT (vS (vR (vlm (h:=vla (h:=vW (vE ?_))))))))))))); intro A f
 refine x_ret1 f rfl rfl ?_
 exact ⟨rfl, B0⟩
end Go.Proofs.YtjohdbiipeedkaaGreatDoor
