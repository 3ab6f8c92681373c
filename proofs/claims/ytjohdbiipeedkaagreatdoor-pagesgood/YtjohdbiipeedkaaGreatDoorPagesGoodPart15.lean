/-
  OWN TEXTS.
-/
import Derived.Test.YtjohdbiipeedkaaGreatDoorPagesGoodPart14
set_option maxRecDepth 10000
set_option maxHeartbeats 4000000
namespace Go.Proofs.YtjohdbiipeedkaaGreatDoor
open Go Go.RowKit Go.Proofs.YtjohdbiipeedkaaGreatDoor.Kit
def totN (h : Int → Nat) : Nat → Nat
 | 0 => 0
 | n + 1 => totN h n + h n
theorem totN_congr {h g : Int → Nat} : ∀ (n : Nat), (∀ i : Nat, i < n → h i = g i) → totN h n = totN g n
 | 0, _ => rfl
 | n + 1, e => by unfold totN; rw [totN_congr n (fun i hi => e i (by omega)), e n (by omega)]
theorem totN_add (h g : Int → Nat) : ∀ n : Nat, totN (fun p => h p + g p) n = totN h n + totN g n
 | 0 => rfl
 | n + 1 => by unfold totN; rw [totN_add h g n]; omega
theorem totN_zero : ∀ n : Nat, totN (fun _ => 0) n = 0
 | 0 => rfl
 | n + 1 => by unfold totN; rw [totN_zero n]
theorem totN_hit (a o : Int) (ha : 0 ≤ a) : ∀ n : Nat, (totN (hit a o) n : Int) = (if (n : Int) ≤ a then 0 else if (n : Int) ≤ a + pw o then n - a else pw o)
 | 0 => by
  have := pw_pos o
  rw [if_pos (by omega)]; rfl
 | n + 1 => by
  have hp := pw_pos o
  have ih := totN_hit a o ha n
  unfold totN
  have e : hit a o (n : Int) = if a ≤ (n : Int) ∧ (n : Int) < a + pw o then 1 else 0 := rfl
  rw [e]
  push_cast
  rw [ih]
  split <;> split <;> (try split) <;> (try split) <;> (try split) <;> omega
theorem freeN_app (l m : List Bk) : freeN (l ++ m) = freeN l + freeN m := by
 induction l with
 | nil => simp [freeN]
 | cons b l ih => simp only [List.cons_append, freeN, ih]; omega
theorem freeN_nn (l : List Bk) : 0 ≤ freeN l := by
 induction l with
 | nil => simp [freeN]
 | cons b l ih => have := pw_pos b.o; simp only [freeN]; omega
theorem totN_cnt {l : List Bk} (h : ∀ b ∈ l, InP b) : (totN (Kit.cnt l) 256 : Int) = freeN l := by
 induction l with
 | nil => rw [totN_congr (g := fun _ => 0) 256 (fun _ _ => rfl), totN_zero]; rfl
 | cons b l ih =>
  have e := totN_add (hit b.a b.o) (Kit.cnt l) 256
  have e1 : totN (Kit.cnt (b :: l)) 256 = totN (fun p => hit b.a b.o p + Kit.cnt l p) 256 := totN_congr 256 (fun _ _ => rfl)
  have hb := h b List.mem_cons_self
  have e2 := totN_hit b.a b.o hb.2.1 256
  have hp := pw_pos b.o
  have := hb.2.2
  rw [if_neg (by omega)] at e2
  rw [e1, e]
  push_cast
  rw [ih (fun c hc => h c (List.mem_cons_of_mem _ hc)), e2]
  show _ = pw b.o + freeN l
  split <;> omega
def sumP : List (Int × Int) → Int
 | [] => 0
 | x :: l => pw x.2 + sumP l
theorem sumP_perm {l m : List (Int × Int)} (h : l.Perm m) : sumP l = sumP m := by
 induction h with
 | nil => rfl
 | cons x _ ih => simp only [sumP, ih]
 | swap x y l => simp only [sumP]; omega
 | trans _ _ i1 i2 => exact i1.trans i2
theorem freeN_pr (l : List Bk) : freeN l = sumP (l.map prB) := by
 induction l with
 | nil => rfl
 | cons b l ih => simp only [freeN, List.map_cons, sumP, ih]; rfl
theorem freeN_pg (l : List Int) : freeN (l.map pgB) = l.length := by
 induction l with
 | nil => rfl
 | cons p l ih =>
  simp only [List.map_cons, freeN, ih, List.length_cons]
  have : pw (pgB p).o = 1 := rfl
  omega
def zonesN (H : Hp) : Int := freeN (H.zones.flatMap (·.free))
def listsN (H : Hp) : Int := ((H.lists.flatMap (·.pages)).length : Nat)
theorem zones_inP {H : Hp} (h : ZsOk H) : ∀ b ∈ H.zones.flatMap (·.free), InP b := by
 intro b hb
 rw [zs_two h.n] at hb
 simp only [List.flatMap_cons, List.flatMap_nil, List.append_nil, List.mem_append] at hb
 have key : ∀ z : Zn, ZMay z → b ∈ z.free → InP b := fun z hz hm => by
  obtain ⟨i, hi, rfl⟩ := List.getElem_of_mem hm
  have := free_inP hz i hi
  rwa [List.getD_eq_getElem?_getD, List.getElem?_eq_getElem hi] at this
 rcases hb with hb | hb
 ·exact key _ h.m0 hb
 exact key _ h.m1 hb
theorem occ_sum {H : Hp} (h : HMay H) : (totN (occ H) 256 : Int) = zonesN H + listsN H + freeN H.live := by
 have e1 : totN (occ H) 256 = totN (zcnt H) 256 + (totN (lcnt H.lists) 256 + totN (Kit.cnt H.live) 256) := by
  rw [← totN_add, ← totN_add]
  exact totN_congr 256 (fun _ _ => rfl)
 have a1 : (totN (zcnt H) 256 : Int) = zonesN H := totN_cnt (zones_inP h.zs)
 have a2 : (totN (lcnt H.lists) 256 : Int) = listsN H := by
  have := totN_cnt (l := (H.lists.flatMap (·.pages)).map pgB) (fun b hb => by
   obtain ⟨p, hp, rfl⟩ := List.mem_map.1 hb
   obtain ⟨l, hl, hpl⟩ := List.mem_flatMap.1 hp
   obtain ⟨i, hi, rfl⟩ := List.getElem_of_mem hpl
   have hk := lss_mem h.ls hl
   have hq := hk.p i hi
   rw [List.getD_eq_getElem?_getD (l := l.pages), List.getElem?_eq_getElem hi] at hq
   have hz : (H.zones.getD l.z.toNat ⟨0, 0, [], []⟩).f ≤ l.pages[i] ∧ l.pages[i] < (H.zones.getD l.z.toNat ⟨0, 0, [], []⟩).t := hq
   have h2 := zone_in256 h.zs (show l.z.toNat < 2 by have := hk.z; omega)
   refine ⟨by show ordOk 0; unfold ordOk; omega, ?_, ?_⟩
   ·show 0 ≤ l.pages[i]; omega
   show l.pages[i] + 1 ≤ 256; omega)
  rw [freeN_pg] at this
  exact this
 have a3 : (totN (Kit.cnt H.live) 256 : Int) = freeN H.live := totN_cnt (fun b hb => ((lvs_iff.1 h.lv).1 b hb).inP)
 rw [e1]
 push_cast
 omega
def zK (x : Hx) (k : Nat) : Int := freeN ((x.zs.take k).flatMap (fun z => z.z.free))
def lK (x : Hx) (k : Nat) : Int := (((x.ls.take k).flatMap (fun l => l.l.pages)).length : Nat)
theorem zk_may {x : Hx} (h : HMay x.hp) {k : Nat} {z : Zn} {fo to_ : Option Addr} {fn fc tn tc : Nat} (e : x.zs.getD k .zero = ⟨z, fo, fn, fc, to_, tn, tc⟩) (hk : k < x.zs.length) : ZMay z := by
 have e1 : x.hp.zones.getD k ⟨0, 0, [], []⟩ = z := by rw [hp_zone, e]
 have h2 : x.zs.length = 2 := by have := h.zs.n; have e : x.hp.zones.length = x.zs.length := (by show (x.zs.map _).length = _; rw [List.length_map]); omega
 rw [← e1]
 rcases (show k = 0 ∨ k = 1 by omega) with rfl | rfl
 ·exact h.zs.m0
 exact h.zs.m1
theorem zK_succ {x : Hx} {k : Nat} (hk : k < x.zs.length) {z : Zn} {fo to_ : Option Addr} {fn fc tn tc : Nat} (e : x.zs.getD k .zero = ⟨z, fo, fn, fc, to_, tn, tc⟩) : zK x (k + 1) = zK x k + freeN z.free := by
 have e2 : x.zs[k] = ⟨z, fo, fn, fc, to_, tn, tc⟩ := by rw [← e, List.getD_eq_getElem?_getD, List.getElem?_eq_getElem hk]; rfl
 unfold zK
 rw [List.take_succ_eq_append_getElem hk, List.flatMap_append, freeN_app, e2]
 simp
theorem zK_all (x : Hx) : zK x x.zs.length = zonesN x.hp := by
 unfold zK zonesN
 rw [List.take_length]
 show _ = freeN ((x.zs.map (·.z)).flatMap _)
 rw [List.flatMap_map]
theorem zonesN_le {H : Hp} (h : HMay H) : zonesN H ≤ 512 := by
 have e : zonesN H = freeN (H.zones.getD 0 ⟨0, 0, [], []⟩).free + freeN (H.zones.getD 1 ⟨0, 0, [], []⟩).free := by
  unfold zonesN
  rw [zs_two h.zs.n]
  simp only [List.flatMap_cons, List.flatMap_nil, List.append_nil, freeN_app]
  rfl
 have key : ∀ z : Zn, ZMay z → freeN z.free ≤ 256 := fun z hz => by
  have n := hz.new
  unfold newOk at n
  have := freeN_le hz.free n.2.2.2.2 n.2.1
  omega
 have := key _ h.zs.m0
 have := key _ h.zs.m1
 omega
theorem zK_le {x : Hx} (h : HMay x.hp) (k : Nat) : 0 ≤ zK x k ∧ zK x k ≤ 512 := by
 refine ⟨freeN_nn _, ?_⟩
 have h1 := zonesN_le h
 rw [← zK_all] at h1
 have e : zK x x.zs.length = zK x k + freeN ((x.zs.drop k).flatMap (fun z => z.z.free)) := by
  unfold zK
  rw [List.take_length, ← freeN_app, ← List.flatMap_append, List.take_append_drop]
 have := freeN_nn ((x.zs.drop k).flatMap (fun z => z.z.free))
 omega
theorem freeN_take {z : Zn} (h : ZMay z) (j : Nat) : 0 ≤ freeN (z.free.take j) ∧ freeN (z.free.take j) ≤ 256 := by
 refine ⟨freeN_nn _, ?_⟩
 have n := h.new
 unfold newOk at n
 have h1 := freeN_le h.free n.2.2.2.2 n.2.1
 have e : freeN z.free = freeN (z.free.take j) + freeN (z.free.drop j) := by rw [← freeN_app, List.take_append_drop]
 have := freeN_nn (z.free.drop j)
 omega
theorem freeN_take1 {l : List Bk} {j : Nat} (hj : j < l.length) : freeN (l.take (j + 1)) = freeN (l.take j) + pw (l.getD j .zero).o := by
 rw [List.take_succ_eq_append_getElem hj, freeN_snoc, List.getD_eq_getElem?_getD, List.getElem?_eq_getElem hj]
 rfl
theorem lK_succ {x : Hx} {k : Nat} (hk : k < x.ls.length) {l : Ls} {po : Option Addr} {pn pc : Nat} (e : x.ls.getD k .zero = ⟨l, po, pn, pc⟩) : lK x (k + 1) = lK x k + (l.pages.length : Nat) := by
 have e2 : x.ls[k] = ⟨l, po, pn, pc⟩ := by rw [← e, List.getD_eq_getElem?_getD, List.getElem?_eq_getElem hk]; rfl
 unfold lK
 rw [List.take_succ_eq_append_getElem hk, List.flatMap_append, List.length_append, e2]
 simp
theorem lK_all (x : Hx) : lK x x.ls.length = listsN x.hp := by
 unfold lK listsN
 rw [List.take_length]
 show _ = ((((x.ls.map (·.l)).flatMap _).length : Nat) : Int)
 rw [List.flatMap_map]
theorem lK_le {x : Hx} (h : HMay x.hp) (k : Nat) : 0 ≤ lK x k ∧ lK x k ≤ 256 := by
 refine ⟨by unfold lK; omega, ?_⟩
 have h1 := occ_sum h
 have h2 : ∀ n : Nat, totN (occ x.hp) n ≤ n := fun n => by
  induction n with
  | zero => exact Nat.le_refl _
  | succ n ih => unfold totN; have := h.occLe n; omega
 have h3 := h2 256
 have h4 := freeN_nn x.hp.live
 have h5 : 0 ≤ zonesN x.hp := freeN_nn _
 rw [← lK_all] at h1
 have e : lK x x.ls.length = lK x k + (((x.ls.drop k).flatMap (fun l => l.l.pages)).length : Nat) := by
  unfold lK
  rw [List.take_length, ← Int.natCast_add, ← List.length_append, ← List.flatMap_append, List.take_append_drop]
 omega
theorem kfree_c (w : World) (x : Hx) (hx : x.At w) (hM : HMay x.hp) :
    Calls Tryz.prog 11 #[.agg #[.slice x.zo x.zn x.zc, .slice x.mo x.mn x.mc, .int .i64 x.cpus, .slice x.lo x.ln x.lc, .slice x.vo x.vn x.vc]] w fun e w' => e = .returned (.tuple #[.int .i64 (zonesN x.hp), .int .i64 (listsN x.hp)]) ∧ Below w.heap.size w w' := by
 have hzr := hx.zones.reach
 have hlr := hx.lists.reach
 have B0 := Below.refl w.heap.size w
 refine sx_enter (args := [_]) 48 Tryz.func11 rfl rfl rfl ?_
 refine vS (vR ?_); intro A f
 refine l_box f rfl rfl rfl rfl rfl ?_; clear f A; intro b1 W2 eb1 hb3 rb1 A f; dsimp only [Value.cells] at rb1
 have z_B0_b1 := B0.size; rw [eb1] at z_B0_b1
 replace B0 := Below.next B0 hb3
 revert A; refine vla (h:=vla (h:=vW (vS (vR (vla (h:=vW (vS (vS (vR (vlf (h:=vl1 (rowq rb1) (h:=vlz (h:=vlm (h:=vW (vB ?_))))))))))))))); intro A f
 refine x_loop (fun n A W => ∃ k : Nat, n = x.zn - k ∧ k ≤ x.zn ∧ Fr A 48 [(1, .pointer (some ⟨b1, 0, none⟩)), (4, .int .i64 (zK x k)), (13, .slice x.zo x.zn x.zc), (14, .int .i64 (x.zn : Nat)), (15, .int .i64 (k : Nat))] ∧ Below w.heap.size w W ∧ W.heap[b1]? = some (.cells #[.slice x.zo x.zn x.zc, .slice x.mo x.mn x.mc, .int .i64 x.cpus, .slice x.lo x.ln x.lc, .slice x.vo x.vn x.vc] 34 (0, 0))) (n0 := x.zn) (⟨0, rfl, Nat.zero_le _, f.sub ⟨rfl, rfl, rfl, rfl, rfl, trivial⟩, B0, rb1⟩) ?_
 clear f A
 clear B0 rb1
 rintro n A W4 ⟨k, hn, hk, f, B0, rb1⟩
 revert A; refine vS (vR (vlb (y_lss rfl rfl rfl) (h:=?_) (g:=?_)))
 ·intro c5
  refine vW (vS (vC (h:=vK (vT (vS (vB (vS (vR ?_))))))))
  obtain ⟨gz, oz, zz, foz, fnz, fcz, toz, tnz, tcz, haz, c0z, c1z, c2z, c3z, hatz, hXz⟩ := hx.zones.at (k) (by omega)
  replace c0z := St.of c0z; replace c1z := St.of c1z; replace c2z := St.of c2z; replace c3z := St.of c3z
  have hzm := zk_may hM hXz.out (show k < x.zs.length by have := hx.zones.len; omega)
  have hzk := zK_le hM k
  refine vlx (h:=vld (y_loadN (vs := [_, _, _, _]) rfl rfl (ag rfl) rfl ⟨(by first | assumption | exact St.q c0z B0 | exact St.q c1z B0 | exact St.q c2z B0 | exact St.q c3z B0), (by first | assumption | exact St.q c0z B0 | exact St.q c1z B0 | exact St.q c2z B0 | exact St.q c3z B0), (by first | assumption | exact St.q c0z B0 | exact St.q c1z B0 | exact St.q c2z B0 | exact St.q c3z B0), (by first | assumption | exact St.q c0z B0 | exact St.q c1z B0 | exact St.q c2z B0 | exact St.q c3z B0), trivial⟩) (h:=?_)); intro A f
  refine l_as (z := .agg #[.int .i64 0, .int .i64 0, .slice none 0 0, .slice none 0 0]) f rfl rfl rfl rfl (by kernel_rfl) rfl rfl (fun _ => rfl) (fun _ => rfl) rfl (by intro u hu; simp [Value.cells] at hu; rcases hu with rfl | rfl | rfl | rfl <;> rfl) ?_; clear f A; intro b6 W7 eb6 hb8 rb6 A f
  dsimp only [Value.cells] at rb6
  have hpb6 := hb8
  have o_b1_b6 : b1 < b6 := by have := row_lt rb1; omega
  have z_B0_b6 := B0.size; rw [eb6] at z_B0_b6
  replace B0 := Below.next B0 hb8; replace rb1 := row_next rb1 hb8
  revert A; refine vW (vS (vR (vlf (h:=vl1 (rowq rb6) (h:=vlz (h:=vlm (h:=vW (vB ?_))))))))
  have hfl := hatz.free.len
  have hfr := hatz.free.reach
  intro A f
  rw [show zK x k = zK x k + freeN (zz.free.take 0) by simp [freeN]] at f
  refine x_loop (fun n A W => ∃ j : Nat, n = fnz - j ∧ j ≤ fnz ∧ Fr A 48 [(1, .pointer (some ⟨b1, 0, none⟩)), (4, .int .i64 (zK x k + freeN (zz.free.take j))), (13, .slice x.zo x.zn x.zc), (14, .int .i64 (x.zn : Nat)), (15, .int .i64 (k : Nat)), (20, .slice foz fnz fcz), (21, .int .i64 (fnz : Nat)), (22, .int .i64 (j : Nat))] ∧ Below w.heap.size w W ∧ W.heap[b1]? = some (.cells #[.slice x.zo x.zn x.zc, .slice x.mo x.mn x.mc, .int .i64 x.cpus, .slice x.lo x.ln x.lc, .slice x.vo x.vn x.vc] 34 (0, 0))) (n0 := fnz) (⟨0, rfl, Nat.zero_le _, f.sub ⟨rfl, rfl, rfl, rfl, rfl, rfl, rfl, rfl, trivial⟩, B0, rb1⟩) ?_
  clear f A
  clear B0 rb1
  rintro n2 A W9 ⟨j, hn2, hj, f, B0, rb1⟩
  have hft := freeN_take hzm j
  revert A; refine vS (vR (vlb (y_lss rfl rfl rfl) (h:=?_) (g:=?_)))
  ·intro c10
   refine vW (vS (vC (h:=vK (vT (vS (vB (vS (vR ?_))))))))
   obtain ⟨gb, ob, bab, bob, btb, hab, c0b, c1b, c2b, hXb⟩ := hatz.free.at_.at (j) (by have := hatz.free.len; omega)
   replace c0b := St.of c0b; replace c1b := St.of c1b; replace c2b := St.of c2b
   have hob : ordOk bob := by have h := (free_inP hzm j (by have := hatz.free.len; omega)).1; rw [hXb.out] at h; exact h
   have hpb := pw_le hob
   have hpp := pw_pos bob
   refine vlx (h:=vld (y_loadN (vs := [_, _, _]) rfl rfl (ag rfl) rfl ⟨(by first | assumption | exact St.q c0z B0 | exact St.q c1z B0 | exact St.q c2z B0 | exact St.q c3z B0 | exact St.q c0b B0 | exact St.q c1b B0 | exact St.q c2b B0), (by first | assumption | exact St.q c0z B0 | exact St.q c1z B0 | exact St.q c2z B0 | exact St.q c3z B0 | exact St.q c0b B0 | exact St.q c1b B0 | exact St.q c2b B0), (by first | assumption | exact St.q c0z B0 | exact St.q c1z B0 | exact St.q c2z B0 | exact St.q c3z B0 | exact St.q c0b B0 | exact St.q c1b B0 | exact St.q c2b B0), trivial⟩) (h:=?_)); intro A f
   refine l_as (z := .agg #[.int .i64 0, .int .i64 0, .int .i64 0]) f rfl rfl rfl rfl (by kernel_rfl) rfl rfl (fun _ => rfl) (fun _ => rfl) rfl (by intro u hu; simp [Value.cells] at hu; rcases hu with rfl | rfl | rfl <;> rfl) ?_; clear f A; intro b11 W12 eb11 hb13 rb11 A f
   dsimp only [Value.cells] at rb11
   have hpb11 := hb13
   have o_b1_b11 : b1 < b11 := by have := row_lt rb1; omega
   have z_B0_b11 := B0.size; rw [eb11] at z_B0_b11
   replace B0 := Below.next B0 hb13; replace rb1 := row_next rb1 hb13
   revert A; refine vW (vR (vlm (h:=vlf (h:=vl1 (rowq rb11) (h:=vld (y_shl1 rfl rfl rfl hob) (h:=vlA (h:=vla (h:=vN (vU (vT (vR (vlA (h:=vlm (h:=vW ?_)))))))))))))); intro A f
   rw [show zK x k + freeN (zz.free.take j) + pw bob = zK x k + freeN (zz.free.take (j + 1)) by rw [freeN_take1 (show j < zz.free.length by omega), hXb.out]; dsimp only; omega] at f
   exact ⟨fnz - (j + 1), by omega, j + 1, rfl, by omega, f.sub ⟨rfl, rfl, rfl, rfl, rfl, rfl, rfl, rfl, trivial⟩, B0, rb1⟩
  intro c10
  refine vW (vS (vD (h:=vX (vH (vH (vI (vU (vT (vR ?_)))))))))
  have ej : j = zz.free.length := by omega
  intro A f
  rw [ej, List.take_length, show zK x k + freeN zz.free = zK x (k + 1) from (zK_succ (show k < x.zs.length by have := hx.zones.len; omega) hXz.out).symm] at f
  revert A; refine vlA (h:=vlm (h:=vW ?_)); intro A f
  exact ⟨x.zn - (k + 1), by omega, k + 1, rfl, by omega, f.sub ⟨rfl, rfl, rfl, rfl, rfl, trivial⟩, B0, rb1⟩
 intro c5
 refine vW (vS (vD (h:=vX (vH (vH (vI (vT (vS (vR (vla (h:=vW (vS (vS (vR (vlf (h:=vl1 (rowq rb1) (h:=vlz (h:=vlm (h:=vW (vB ?_))))))))))))))))))))
 have ek : k = x.zs.length := by have := hx.zones.len; omega
 intro A f
 rw [ek, zK_all] at f
 refine x_loop (fun n A W => ∃ q : Nat, n = x.ln - q ∧ q ≤ x.ln ∧ Fr A 48 [(1, .pointer (some ⟨b1, 0, none⟩)), (4, .int .i64 (zonesN x.hp)), (9, .int .i64 (lK x q)), (34, .slice x.lo x.ln x.lc), (35, .int .i64 (x.ln : Nat)), (36, .int .i64 (q : Nat))] ∧ Below w.heap.size w W ∧ W.heap[b1]? = some (.cells #[.slice x.zo x.zn x.zc, .slice x.mo x.mn x.mc, .int .i64 x.cpus, .slice x.lo x.ln x.lc, .slice x.vo x.vn x.vc] 34 (0, 0))) (n0 := x.ln) (⟨0, rfl, Nat.zero_le _, f.sub ⟨rfl, rfl, rfl, rfl, rfl, rfl, trivial⟩, B0, rb1⟩) ?_
 clear f A
 clear B0 rb1
 rintro n3 A W14 ⟨q, hn3, hq, f, B0, rb1⟩
 have hlk := lK_le hM q
 revert A; refine vS (vR (vlb (y_lss rfl rfl rfl) (h:=?_) (g:=?_)))
 ·intro c15
  refine vW (vS (vC (h:=vK (vT (vS (vB (vS (vR ?_))))))))
  obtain ⟨gl, ol, lcl, lzl, ltl, lpl, pol, pnl, pcl, hal, c0l, c1l, c2l, c3l, hatl, hXl⟩ := hx.lists.at (q) (by omega)
  replace c0l := St.of c0l; replace c1l := St.of c1l; replace c2l := St.of c2l; replace c3l := St.of c3l
  have hpn : pnl ≤ 8 := by
   have h := (hM.ls.ok q (by show q < (x.ls.map _).length; rw [List.length_map]; have := hx.lists.len; omega)).n.2
   rw [listOf_hp, hXl.out] at h
   have := hatl.len
   dsimp only at h
   omega
  refine vlx (h:=vld (y_loadN (vs := [_, _, _, _]) rfl rfl (ag rfl) rfl ⟨(by first | assumption | exact St.q c0l B0 | exact St.q c1l B0 | exact St.q c2l B0 | exact St.q c3l B0), (by first | assumption | exact St.q c0l B0 | exact St.q c1l B0 | exact St.q c2l B0 | exact St.q c3l B0), (by first | assumption | exact St.q c0l B0 | exact St.q c1l B0 | exact St.q c2l B0 | exact St.q c3l B0), (by first | assumption | exact St.q c0l B0 | exact St.q c1l B0 | exact St.q c2l B0 | exact St.q c3l B0), trivial⟩) (h:=?_)); intro A f
  refine l_as (z := .agg #[.int .i64 0, .int .i64 0, .int .i64 0, .slice none 0 0]) f rfl rfl rfl rfl (by kernel_rfl) rfl rfl (fun _ => rfl) (fun _ => rfl) rfl (by intro u hu; simp [Value.cells] at hu; rcases hu with rfl | rfl | rfl | rfl <;> rfl) ?_; clear f A; intro b16 W17 eb16 hb18 rb16 A f
  dsimp only [Value.cells] at rb16
  have hpb16 := hb18
  have o_b1_b16 : b1 < b16 := by have := row_lt rb1; omega
  have z_B0_b16 := B0.size; rw [eb16] at z_B0_b16
  replace B0 := Below.next B0 hb18; replace rb1 := row_next rb1 hb18
  revert A; refine vW (vR (vlm (h:=vlf (h:=vl1 (rowq rb16) (h:=vlz (h:=vlA (h:=vla (h:=vN (vU (vT (vR (vlA (h:=vlm (h:=vW ?_)))))))))))))); intro A f
  rw [show lK x q + (pnl : Nat) = lK x (q + 1) by rw [lK_succ (show q < x.ls.length by have := hx.lists.len; omega) hXl.out, hatl.len]] at f
  exact ⟨x.ln - (q + 1), by omega, q + 1, rfl, by omega, f.sub ⟨rfl, rfl, rfl, rfl, rfl, rfl, trivial⟩, B0, rb1⟩
 intro c15
 refine vW (vS (vD (h:=vX (vH (vH (vI (vT (vS (vR (vlm (h:=vlm (h:=vla (h:=vla (h:=vW (vE ?_))))))))))))))); intro A f
 refine x_ret2 f rfl rfl rfl ?_
 have eq : q = x.ls.length := by have := hx.lists.len; omega
 exact ⟨by rw [eq, lK_all], B0⟩
theorem raws_below {w w' : World} {ao : Option Addr} {n cap : Nat} {l : List Raw4} (h : IsRaws w ao n cap l) (hb : Below w.heap.size w w') : IsRaws w' ao n cap l := ⟨h.len, h.le, h.reach, h.at_.below hb, h.wf⟩
theorem raws_none (w : World) : IsRaws w none 0 0 [] := ⟨rfl, Nat.le_refl _, by omega, RawsAt.nil _ _, fun i hi => absurd hi (Nat.not_lt_zero i)⟩
theorem pCheck_yes (w : World) (x : Hx) (hx : x.At w) (hM : HMay x.hp) : Calls Tryz.prog 12 #[.agg #[.slice x.zo x.zn x.zc, .slice x.mo x.mn x.mc, .int .i64 x.cpus, .slice x.lo x.ln x.lc, .slice x.vo x.vn x.vc]] w fun e w' => e = .returned (.int .i64 0) ∧ Below w.heap.size w w' :=
 (pCheck_any w x hx).mono fun e w1 h1 => by
  obtain ⟨⟨c, rfl, hc⟩, hb⟩ := h1
  rcases hc with ⟨rfl, _⟩ | ⟨_, hn⟩
  ·exact ⟨rfl, hb⟩
  exact absurd hM hn
theorem pCheck_zero (w : World) : Calls Tryz.prog 12 #[.agg #[.slice none 0 0, .slice none 0 0, .int .i64 0, .slice none 0 0, .slice none 0 0]] w fun e w' => e = .returned (.int .i64 8) ∧ Below w.heap.size w w' :=
 (pCheck_any w ⟨[], none, 0, 0, [], none, 0, 0, 0, [], none, 0, 0, [], none, 0, 0⟩ ⟨⟨rfl, by show 0 * 64 ≤ _; omega, fun i hi => absurd hi (Nat.not_lt_zero i), fun z hz => (by cases hz)⟩, ⟨rfl, by show 0 * 8 ≤ _; omega, fun i hi => absurd hi (Nat.not_lt_zero i)⟩, Lsts.nil _, Blks.nil _⟩).mono fun e w1 h1 => by
  obtain ⟨⟨c, rfl, hc⟩, hb⟩ := h1
  rcases hc with ⟨_, hm⟩ | ⟨rfl, _⟩
  ·exact absurd hm.zs.n (by decide)
  exact ⟨rfl, hb⟩
theorem pgI_inP {B : Nat} {H0 : Hp} {W : World} {y : Hx} {aw : List Bk} {vo : Option Addr} {vn vc : Nat} (h : PgI B H0 W y aw vo vn vc) {j : Nat} (hj : j < aw.length) : InP (aw.getD j .zero) := by
 have e : aw.getD j .zero = aw[j] := by rw [List.getD_eq_getElem?_getD, List.getElem?_eq_getElem hj]; rfl
 have hm : prB aw[j] ∈ y.hp.live.map prB := h.perm.mem_iff.1 (List.mem_map.2 ⟨_, List.getElem_mem hj, rfl⟩)
 obtain ⟨b, hb, eb⟩ := List.mem_map.1 hm
 have hp := ((lvs_iff.1 h.may.lv).1 b hb).inP
 have ea : b.a = aw[j].a := congrArg Prod.fst eb
 have eo : b.o = aw[j].o := congrArg Prod.snd eb
 rw [e]
 refine ⟨?_, ?_, ?_⟩
 ·rw [← eo]; exact hp.1
 ·rw [← ea]; exact hp.2.1
 rw [← ea, ← eo]; exact hp.2.2
theorem pgI_freeN {B : Nat} {H0 : Hp} {W : World} {y : Hx} {aw : List Bk} {vo : Option Addr} {vn vc : Nat} (h : PgI B H0 W y aw vo vn vc) : freeN aw = freeN y.hp.live := by
 rw [freeN_pr, freeN_pr]
 exact sumP_perm h.perm
theorem tot_le {H : Hp} (h : HMay H) : (totN (occ H) 256 : Int) ≤ 256 := by
 have h2 : ∀ n : Nat, totN (occ H) n ≤ n := fun n => by
  induction n with
  | zero => exact Nat.le_refl _
  | succ n ih => unfold totN; have := h.occLe n; omega
 have := h2 256
 omega
theorem pgI_sum {B : Nat} {H0 : Hp} {W : World} {y : Hx} {aw : List Bk} {vo : Option Addr} {vn vc : Nat} (h : PgI B H0 W y aw vo vn vc) (h0 : HMay H0) (hl : H0.live = []) (hL : H0.lists = []) : zonesN y.hp + listsN y.hp + freeN aw = zonesN H0 ∧ listsN H0 = 0 := by
 have e1 := occ_sum h.may
 have e2 := occ_sum h0
 have e3 : totN (occ y.hp) 256 = totN (occ H0) 256 := totN_congr 256 (fun i _ => h.occ i)
 have e4 : listsN H0 = 0 := by unfold listsN; rw [hL]; rfl
 have e5 : freeN H0.live = 0 := by rw [hl]; rfl
 have e6 := pgI_freeN h
 refine ⟨?_, e4⟩
 rw [e3] at e1
 omega
theorem pgI_take {B : Nat} {H0 : Hp} {W : World} {y : Hx} {aw : List Bk} {vo : Option Addr} {vn vc : Nat} (h : PgI B H0 W y aw vo vn vc) (j : Nat) : 0 ≤ freeN (aw.take j) ∧ freeN (aw.take j) ≤ 256 ∧ 0 ≤ zonesN y.hp ∧ zonesN y.hp ≤ 512 ∧ 0 ≤ listsN y.hp ∧ listsN y.hp ≤ 256 := by
 have e1 := occ_sum h.may
 have e2 := tot_le h.may
 have e3 := pgI_freeN h
 have e4 : freeN aw = freeN (aw.take j) + freeN (aw.drop j) := by rw [← freeN_app, List.take_append_drop]
 have e5 := freeN_nn (aw.take j)
 have e6 := freeN_nn (aw.drop j)
 have e7 : 0 ≤ zonesN y.hp := freeN_nn _
 have e8 : 0 ≤ listsN y.hp := by unfold listsN; omega
 omega
theorem su_new (a b c : Int) : newOk 0 (16 * (pickN a 9 : Int)) ∧ newGood (pickN b 12 : Int) (1 + (pickN c 4 : Int)) ∧ (1 + (pickN c 4 : Int)) = ((1 + pickN c 4 : Nat) : Int) := by
 have h1 := pickN_lt a 9 (by omega)
 have h2 := pickN_lt b 12 (by omega)
 have h3 := pickN_lt c 4 (by omega)
 refine ⟨by unfold newOk; omega, ⟨by omega, by omega⟩, by omega⟩
theorem su_drawn (a b c : Int) : MayP (drawnAll (freeH (suM a b c) (suR a b c))) := drawnAll_may (by have := su_few a b c; omega)
theorem pagesGood_walk (ao : Option Addr) (n cap : Nat) (l : List Raw4) (a b c : Int) (w : World) (h : IsRaws w ao n cap l) (wa : (Lit.int .i64 a).wf = true) (wb : (Lit.int .i64 b).wf = true) (wc : (Lit.int .i64 c).wf = true) (hT : TabAt w) :
    Calls Tryz.prog 3 #[.slice ao n cap, .int .i64 a, .int .i64 b, .int .i64 c] w fun e w' => e = .returned (.bool true) ∧ Below w.heap.size w w' := by
 have B0 := Below.refl w.heap.size w
 refine sx_enter (args := [_, _, _, _]) 94 Tryz.func3 rfl rfl rfl ?_
 refine vS (vR (vla (h:=vW (vS (vR (vlm (h:=vlm (h:=vlm (h:=?_))))))))); intro A f
 refine l_call f rfl rfl rfl (IsCall.mk' (cap := []) rfl rfl rfl) (pl rfl) (setup_c _ a b c wa wb wc) ?_
 clear f A
 rintro _ W1 ⟨gm, gr, rfl, hm, hr, hb2⟩
 refine ⟨_, rfl, ?_⟩
 intro A f
 replace B0 := Below.next B0 hb2
 refine l_as (z := .agg #[.slice none 0 0, .slice none 0 0, .int .i64 0, .int .i64 0, .int .i64 0]) f rfl rfl rfl rfl (by kernel_rfl) rfl rfl (fun _ => rfl) (fun _ => rfl) rfl (by intro u hu; simp [Value.cells] at hu; rcases hu with rfl | rfl | rfl | rfl | rfl <;> rfl) ?_; clear f A; intro b3 W4 eb3 hb5 rb3 A f
 dsimp only [Value.cells] at rb3
 have hpb3 := hb5
 have z_B0_b3 := B0.size; rw [eb3] at z_B0_b3
 replace B0 := Below.next B0 hb5; replace hm := hm.below hb5; replace hr := hr.below hb5
 revert A; refine vW (vS (vR (vlm (h:=vl5 (rowq rb3) (h:=?_))))); intro A f
 refine l_call f rfl rfl rfl (IsCall.mk' (cap := []) rfl rfl rfl) (pl rfl) (paged_c _ ao n cap l (raws_below h B0) (some ⟨gm, 0, none⟩) 2 2 (suM a b c) (some ⟨gr, 0, none⟩) 2 2 (suR a b c) hm hr ⟨suM_may a b c, suR_may a b c⟩ _ rfl (su_drawn a b c) (16 * (pickN a 9 : Int)) (pickN b 12 : Int) (1 + (pickN c 4 : Int)) 70 (1 + pickN c 4) (su_new a b c).2.2 (su_new a b c).1 (su_new a b c).2.1 (hT.below B0)) ?_
 clear f A
 rintro _ W6 ⟨H, y, aw, vo, vn, vc, rfl, hNH, hI, hz, hb7⟩
 refine ⟨_, rfl, ?_⟩
 intro A f
 replace B0 := Below.next B0 hb7; replace hm := hm.below hb7; replace hr := hr.below hb7; replace rb3 := row_next rb3 hb7
 revert A; refine vlm (h:=vle (h:=vle (h:=vle (h:=?_)))); intro A f
 refine l_as (z := .agg #[.slice none 0 0, .slice none 0 0, .int .i64 0, .slice none 0 0, .slice none 0 0]) f rfl rfl rfl rfl (by kernel_rfl) rfl rfl (fun _ => rfl) (fun _ => rfl) rfl (by intro u hu; simp [Value.cells] at hu; rcases hu with rfl | rfl | rfl | rfl | rfl <;> rfl) ?_; clear f A; intro b8 W9 eb8 hb10 rb8 A f
 dsimp only [Value.cells] at rb8
 have hpb8 := hb10
 have o_b3_b8 : b3 < b8 := by have := row_lt rb3; omega
 have z_B0_b8 := B0.size; rw [eb8] at z_B0_b8
 replace B0 := Below.next B0 hb10; replace hm := hm.below hb10; replace hr := hr.below hb10; replace hI := hI.below hb10; replace rb3 := row_next rb3 hb10
 revert A; refine vla (h:=vla (h:=vW (vS (vR (vl5 (rowq rb3) (h:=?_)))))); intro A f
 refine l_call f rfl rfl rfl (IsCall.mk' (cap := []) rfl rfl rfl) (pl rfl) (paged_c _ none 0 0 [] (raws_none _) (some ⟨gm, 0, none⟩) 2 2 (suM a b c) (some ⟨gr, 0, none⟩) 2 2 (suR a b c) hm hr ⟨suM_may a b c, suR_may a b c⟩ _ rfl (su_drawn a b c) (16 * (pickN a 9 : Int)) (pickN b 12 : Int) (1 + (pickN c 4 : Int)) 0 (1 + pickN c 4) (su_new a b c).2.2 (su_new a b c).1 (su_new a b c).2.1 (hT.below B0)) ?_
 clear f A
 rintro _ W11 ⟨H1, y1, aw1, vo1, vn1, vc1, rfl, hNH1, hI1, hz1, hb12⟩
 refine ⟨_, rfl, ?_⟩
 intro A f
 replace B0 := Below.next B0 hb12; replace hm := hm.below hb12; replace hr := hr.below hb12; replace hI := hI.below hb12; replace rb3 := row_next rb3 hb12; replace rb8 := row_next rb8 hb12
 revert A; refine vlm (h:=vle (h:=vle (h:=vle (h:=?_)))); intro A f
 refine l_as (z := .agg #[.slice none 0 0, .slice none 0 0, .int .i64 0, .slice none 0 0, .slice none 0 0]) f rfl rfl rfl rfl (by kernel_rfl) rfl rfl (fun _ => rfl) (fun _ => rfl) rfl (by intro u hu; simp [Value.cells] at hu; rcases hu with rfl | rfl | rfl | rfl | rfl <;> rfl) ?_; clear f A; intro b13 W14 eb13 hb15 rb13 A f
 dsimp only [Value.cells] at rb13
 have hpb13 := hb15
 have o_b3_b13 : b3 < b13 := by have := row_lt rb3; omega
 have o_b8_b13 : b8 < b13 := by have := row_lt rb8; omega
 have z_B0_b13 := B0.size; rw [eb13] at z_B0_b13
 replace B0 := Below.next B0 hb15; replace hm := hm.below hb15; replace hr := hr.below hb15; replace hI := hI.below hb15; replace hI1 := hI1.below hb15; replace rb3 := row_next rb3 hb15; replace rb8 := row_next rb8 hb15
 revert A; refine vla (h:=vla (h:=vW (vS (vR (vl5 (rowq rb13) (h:=vlc (kfree_c _ y1 hI1.at_ hI1.may) (h:=?_))))))); intro W17 hb16; replace B0 := Below.next B0 hb16; replace hm := hm.below hb16; replace hr := hr.below hb16; replace hI := hI.below hb16; replace hI1 := hI1.below hb16; replace rb3 := row_next rb3 hb16; replace rb8 := row_next rb8 hb16; replace rb13 := row_next rb13 hb16
 refine vlm (h:=vle (h:=vle (h:=vla (h:=vla (h:=vW (vS (vR (vl5 (rowq rb8) (h:=vlc (kfree_c _ y hI.at_ hI.may) (h:=?_)))))))))); intro W19 hb18; replace B0 := Below.next B0 hb18; replace hm := hm.below hb18; replace hr := hr.below hb18; replace hI := hI.below hb18; replace hI1 := hI1.below hb18; replace rb3 := row_next rb3 hb18; replace rb8 := row_next rb8 hb18; replace rb13 := row_next rb13 hb18
 refine vlm (h:=vle (h:=vle (h:=vla (h:=vla (h:=vW (vS (vS (vR (vlm (h:=vlz (h:=vlm (h:=vW (vB ?_)))))))))))))
 have hNM := new_may hNH (su_new a b c).2.1
 have eH : y1.hp = H := by rw [(hz1 rfl).1]; exact newH_unique hNH1 hNH
 obtain ⟨hsm, hl0⟩ := pgI_sum hI hNM.1 hNM.2.1 hNM.2.2.1
 intro A f
 rw [← eH] at hsm hl0
 have hvl := hI.len
 rw [show zonesN y.hp = zonesN y.hp + freeN (aw.take 0) by simp [freeN]] at f
 refine x_loop (fun n A W => ∃ k : Nat, n = vn - k ∧ k ≤ vn ∧ Fr A 94 [(10, .pointer (some ⟨b8, 0, none⟩)), (11, .slice vo vn vc), (12, .bool true), (15, .bool true), (16, .int .i64 (zonesN y1.hp)), (17, .int .i64 (listsN y1.hp)), (18, .int .i64 (zonesN y.hp + freeN (aw.take k))), (19, .int .i64 (listsN y.hp)), (49, .slice vo vn vc), (50, .int .i64 (vn : Nat)), (51, .int .i64 (k : Nat))] ∧ Below w.heap.size w W ∧ W.heap[b8]? = some (.cells #[.slice y.zo y.zn y.zc, .slice y.mo y.mn y.mc, .int .i64 y.cpus, .slice y.lo y.ln y.lc, .slice y.vo y.vn y.vc] 34 (0, 0)) ∧ PgI _ H W y aw vo vn vc) (n0 := vn) (⟨0, rfl, Nat.zero_le _, f.sub ⟨rfl, rfl, rfl, rfl, rfl, rfl, rfl, rfl, rfl, rfl, rfl, trivial⟩, B0, rb8, hI⟩) ?_
 clear f A
 clear B0 hI rb8 hI1
 rintro n2 A W20 ⟨k, hn, hk, f, B0, rb8, hI⟩
 have htk := pgI_take hI k
 revert A; refine vS (vR (vlb (y_lss rfl rfl rfl) (h:=?_) (g:=?_)))
 ·intro c21
  refine vW (vS (vC (h:=vK (vT (vS (vB (vS (vR ?_))))))))
  have hB := hI.blks
  have BW := Below.refl W20.heap.size W20
  obtain ⟨gx, ox, bax, box, btx, hax, c0x, c1x, c2x, hXx⟩ := hB.at_.at (k) (by have := hB.len; omega)
  replace c0x := St.of c0x; replace c1x := St.of c1x; replace c2x := St.of c2x
  have hob : ordOk box := by have h := (pgI_inP hI (show k < aw.length by omega)).1; rw [hXx.out] at h; exact h
  have hpb := pw_le hob
  have hpp := pw_pos box
  refine vlx (h:=vld (y_loadN (vs := [_, _, _]) rfl rfl (ag rfl) rfl ⟨(by first | assumption | exact St.q c0x BW | exact St.q c1x BW | exact St.q c2x BW), (by first | assumption | exact St.q c0x BW | exact St.q c1x BW | exact St.q c2x BW), (by first | assumption | exact St.q c0x BW | exact St.q c1x BW | exact St.q c2x BW), trivial⟩) (h:=?_)); intro A f
  refine l_as (z := .agg #[.int .i64 0, .int .i64 0, .int .i64 0]) f rfl rfl rfl rfl (by kernel_rfl) rfl rfl (fun _ => rfl) (fun _ => rfl) rfl (by intro u hu; simp [Value.cells] at hu; rcases hu with rfl | rfl | rfl <;> rfl) ?_; clear f A; intro b22 W23 eb22 hb24 rb22 A f
  dsimp only [Value.cells] at rb22
  have hpb22 := hb24
  have o_b8_b22 : b8 < b22 := by have := row_lt rb8; omega
  have z_B0_b22 := B0.size; rw [eb22] at z_B0_b22
  replace B0 := Below.next B0 hb24; replace hI := hI.below hb24; replace rb8 := row_next rb8 hb24
  revert A; refine vW (vR (vlm (h:=vlf (h:=vl1 (rowq rb22) (h:=vld (y_shl1 rfl rfl rfl hob) (h:=vlA (h:=vla (h:=vN (vU (vT (vR (vlA (h:=vlm (h:=vW ?_)))))))))))))); intro A f
  rw [show zonesN y.hp + freeN (aw.take k) + pw box = zonesN y.hp + freeN (aw.take (k + 1)) by rw [freeN_take1 (show k < aw.length by omega), hXx.out]; dsimp only; omega] at f
  exact ⟨vn - (k + 1), by omega, k + 1, rfl, by omega, f.sub ⟨rfl, rfl, rfl, rfl, rfl, rfl, rfl, rfl, rfl, rfl, rfl, trivial⟩, B0, rb8, hI⟩
 intro c21
 refine vW (vS (vD (h:=vX (vH (vH (vI (vT (vS (vR ?_)))))))))
 have ek : k = aw.length := by omega
 intro A f
 rw [ek, List.take_length] at f
 have htk0 := pgI_take hI aw.length
 rw [List.take_length] at htk0
 have hlv : y.vn = vn := by have := hI.at_.live.len; omega
 revert A; refine vlm (h:=vlm (h:=vlm (h:=vlp (h:=vlm (h:=vl5 (rowq rb8) (h:=vlc (pCheck_yes _ y hI.at_ hI.may) (h:=?_))))))); intro W26 hb25; replace B0 := Below.next B0 hb25; replace hI := hI.below hb25; replace rb8 := row_next rb8 hb25
 refine vlb (y_eql rfl rfl rfl) (h:=?_) (g:=?_)
 ·intro c27
  refine vlp (h:=vlm (h:=vlm (h:=vlm (h:=vlA (h:=vlm (h:=vlb (y_eql rfl rfl rfl) (h:=?_) (g:=?_)))))))
  ·intro c28
   refine vlp (h:=vlm (h:=vlm (h:=vlb (y_eql rfl rfl rfl) (h:=?_) (g:=?_))))
   ·intro c29
    refine vlp (h:=vlm (h:=vlf (h:=vl1 (rowq rb8) (h:=vlz (h:=vlm (h:=vlz (h:=vlb (y_eql rfl rfl rfl) (h:=?_) (g:=?_))))))))
    ·intro c30
     refine vlp (h:=vlm (h:=vld (y_build #[.slice none 0 0, .slice none 0 0, .int .i64 0, .slice none 0 0, .slice none 0 0] rfl rfl (by kernel_rfl)) (h:=vlc (pCheck_zero _) (h:=?_)))); intro W32 hb31; replace B0 := Below.next B0 hb31; replace hI := hI.below hb31; replace rb8 := row_next rb8 hb31
     refine vlb (y_eql rfl rfl rfl) (h:=?_) (g:=?_)
     ·intro c33
      refine vlp (h:=vla (h:=vW (vE ?_))); intro A f
      refine x_ret1 f rfl rfl ?_
      exact ⟨rfl, B0⟩
     intro c33; exfalso; omega
    intro c30; exfalso; omega
   intro c29; exfalso; omega
  intro c28; exfalso; omega
 intro c27; exfalso; omega
end Go.Proofs.YtjohdbiipeedkaaGreatDoor
