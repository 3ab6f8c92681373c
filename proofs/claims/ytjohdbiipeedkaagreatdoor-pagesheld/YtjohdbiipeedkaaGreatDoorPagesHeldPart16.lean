/-
  OWN TEXTS.
-/
import Derived.Test.YtjohdbiipeedkaaGreatDoorPart15
import Derived.WalkSpells
set_option maxRecDepth 10000
set_option maxHeartbeats 4000000
namespace Go.Proofs.YtjohdbiipeedkaaGreatDoor
open Go Go.RowKit Go.Proofs.YtjohdbiipeedkaaGreatDoor.Kit
structure PgF (H0 : Hp) (W : World) (y : Hx) (l : List Bk) : Prop where
 at_ : y.At W
 may : HMay y.hp
 cpus : y.hp.cpus = H0.cpus
 ft : SameFT y.hp H0
 occ : ∀ q, occ y.hp q = occ H0 q
 perm : (l.map prB).Perm (y.hp.live.map prB)
theorem PgF.below {H0 : Hp} {W W' : World} {y : Hx} {l : List Bk} (h : PgF H0 W y l) (hb : Below W.heap.size W W') : PgF H0 W' y l := ⟨h.at_.below hb, h.may, h.cpus, h.ft, h.occ, h.perm⟩
theorem PgF.but {H0 : Hp} {b : Nat} {W W' : World} {y : Hx} {l : List Bk} (h : PgF H0 W y l) (hb : But b W W') (ho : Off b y) : PgF H0 W' y l := ⟨ho.but h.at_ hb, h.may, h.cpus, h.ft, h.occ, h.perm⟩
theorem PgI.toF {B : Nat} {H0 : Hp} {W : World} {y : Hx} {aw : List Bk} {vo : Option Addr} {vn vc : Nat} (h : PgI B H0 W y aw vo vn vc) : PgF H0 W y aw := ⟨h.at_, h.may, h.cpus, h.ft, h.occ, h.perm⟩
theorem regs_but {w w' : World} {b : Nat} {ao : Option Addr} {n : Nat} {l : List (Int × Int)} (h : Regs w ao n l) (hb : But b w w') (hne : ∀ a, ao = some a → a.block ≠ b) : Regs w' ao n l :=
 ⟨h.len, h.reach, fun i hi => by
  obtain ⟨c, off, e, h1, h2⟩ := h.at_ i hi
  have hc := hne _ e
  have lt1 := World.block_lt_of_cell? w _ h1
  exact ⟨c, off, e, (World.cell?_of_block (a := ⟨c, off + i * 2, none⟩) (hb.block c lt1 hc)).trans h1, (World.cell?_of_block (a := ⟨c, off + i * 2 + 1, none⟩) (hb.block c lt1 hc)).trans h2⟩⟩
theorem zs_m {H : Hp} (h : ZsOk H) {j : Nat} (hj : j < 2) : ZMay (H.zones.getD j ⟨0, 0, [], []⟩) := by
 rcases (show j = 0 ∨ j = 1 by omega) with rfl | rfl
 ·exact h.m0
 exact h.m1
theorem zone_out {z : Zn} (h : ZMay z) {q : Int} (hn : ¬ (z.f ≤ q ∧ q < z.t)) : Kit.cnt z.free q = 0 := by
 have ha := (free_iff.1 h.free).1
 have n := h.new
 unfold newOk at n
 generalize z.free = l at ha
 induction l with
 | nil => rfl
 | cons b l ih =>
  have hb := (ha b List.mem_cons_self).1
  obtain ⟨b1, b2, b3, b4⟩ := hb
  have e0 : hit b.a b.o q = 0 := by
   unfold hit
   rw [if_neg]
   rcases ord_cases b1 with ⟨_, e⟩ | ⟨_, e⟩ | ⟨_, e⟩ | ⟨_, e⟩ | ⟨_, e⟩ <;> rw [e] at b4 ⊢ <;> omega
  show hit b.a b.o q + Kit.cnt l q = 0
  rw [e0, ih (fun c hc => ha c (List.mem_cons_of_mem _ hc))]
theorem zone_cnt {H : Hp} (h : ZsOk H) {j : Nat} (hj : j < 2) (q : Int) : Kit.cnt (H.zones.getD j ⟨0, 0, [], []⟩).free q = if (H.zones.getD j ⟨0, 0, [], []⟩).f ≤ q ∧ q < (H.zones.getD j ⟨0, 0, [], []⟩).t then zcnt H q else 0 := by
 have e := zcnt_two h.n q
 have f1 := h.f1
 have n0 := h.m0.new
 have n1 := h.m1.new
 unfold newOk at n0 n1
 by_cases hq : (H.zones.getD j ⟨0, 0, [], []⟩).f ≤ q ∧ q < (H.zones.getD j ⟨0, 0, [], []⟩).t
 ·rw [if_pos hq, e]
  rcases (show j = 0 ∨ j = 1 by omega) with rfl | rfl
  ·rw [zone_out h.m1 (q := q) (by omega)]; rfl
  rw [zone_out h.m0 (q := q) (by omega)]; omega
 rw [if_neg hq, zone_out (zs_m h hj) hq]
theorem totN_le {h g : Int → Nat} : ∀ (n : Nat), (∀ i : Int, h i ≤ g i) → totN h n ≤ totN g n
 | 0, _ => Nat.le_refl _
 | n + 1, e => by unfold totN; have := totN_le n e; have := e n; omega
theorem free_tot {H : Hp} (h : ZsOk H) {j : Nat} (hj : j < 2) : (totN (Kit.cnt (H.zones.getD j ⟨0, 0, [], []⟩).free) 256 : Int) = freeN (H.zones.getD j ⟨0, 0, [], []⟩).free :=
 totN_cnt fun b hb => by
  obtain ⟨i, hi, rfl⟩ := List.getElem_of_mem hb
  have := free_inP (zs_m h hj) i hi
  rwa [List.getD_eq_getElem?_getD, List.getElem?_eq_getElem hi] at this
theorem free_mono {H G : Hp} (hH : ZsOk H) (hG : ZsOk G) (hs : SameFT G H) (hc : ∀ q, zcnt H q ≤ zcnt G q) {j : Nat} (hj : j < 2) : freeN (H.zones.getD j ⟨0, 0, [], []⟩).free ≤ freeN (G.zones.getD j ⟨0, 0, [], []⟩).free := by
 have e1 := free_tot hH hj
 have e2 := free_tot hG hj
 have := totN_le (h := Kit.cnt (H.zones.getD j ⟨0, 0, [], []⟩).free) (g := Kit.cnt (G.zones.getD j ⟨0, 0, [], []⟩).free) 256 fun q => by
  rw [zone_cnt hH hj, zone_cnt hG hj, (hs j).1, (hs j).2]
  have := hc q
  split <;> omega
 omega
theorem free_take {H G : Hp} {z : Nat} {o p : Int} (hZ : ZsOk H) (hz : z < 2) (hT : TookOk H G z o p) {j : Nat} (hj : j < 2) : freeN (G.zones.getD j ⟨0, 0, [], []⟩).free + (if j = z then pw o else 0) = freeN (H.zones.getD j ⟨0, 0, [], []⟩).free := by
 have e1 := free_tot hZ hj
 have e2 := free_tot hT.zs hj
 have hb := zone_in256 hZ hz
 have hlo := hT.lo
 have hhi := hT.hi
 have hpw := pw_pos o
 have f1 := hZ.f1
 have n0 := hZ.m0.new
 have n1 := hZ.m1.new
 unfold newOk at n0 n1
 have e3 := totN_hit p o (by omega) 256
 rw [if_neg (by omega)] at e3
 have hpt : ∀ q : Int, Kit.cnt (G.zones.getD j ⟨0, 0, [], []⟩).free q + (if j = z then hit p o q else 0) = Kit.cnt (H.zones.getD j ⟨0, 0, [], []⟩).free q := fun q => by
  rw [zone_cnt hZ hj, zone_cnt hT.zs hj, (hT.ft j).1, (hT.ft j).2]
  have hc := hT.cnt q
  have hh : hit p o q = if p ≤ q ∧ q < p + pw o then 1 else 0 := rfl
  by_cases hq : (H.zones.getD j ⟨0, 0, [], []⟩).f ≤ q ∧ q < (H.zones.getD j ⟨0, 0, [], []⟩).t
  ·rw [if_pos hq, if_pos hq]
   by_cases e : j = z
   ·rw [if_pos e]; exact hc
   rw [if_neg e]
   rw [if_neg (show ¬ (p ≤ q ∧ q < p + pw o) by
    rcases (show (j = 0 ∧ z = 1) ∨ (j = 1 ∧ z = 0) by omega) with ⟨rfl, rfl⟩ | ⟨rfl, rfl⟩ <;> omega)] at hh
   omega
  rw [if_neg hq, if_neg hq]
  by_cases e : j = z
  ·subst e
   rw [if_pos rfl, hh, if_neg (by omega)]
  rw [if_neg e]
 by_cases e : j = z
 ·rw [if_pos e]
  have h4 : totN (Kit.cnt (H.zones.getD j ⟨0, 0, [], []⟩).free) 256 = totN (Kit.cnt (G.zones.getD j ⟨0, 0, [], []⟩).free) 256 + totN (hit p o) 256 := by
   rw [← totN_add]
   exact totN_congr 256 (fun i _ => by have := hpt i; rw [if_pos e] at this; exact this.symm)
  have h5 : (totN (hit p o) 256 : Int) = pw o := by
   rw [e3]; split <;> omega
  omega
 rw [if_neg e]
 have h4 : totN (Kit.cnt (H.zones.getD j ⟨0, 0, [], []⟩).free) 256 = totN (Kit.cnt (G.zones.getD j ⟨0, 0, [], []⟩).free) 256 :=
  totN_congr 256 (fun i _ => by have := hpt i; rw [if_neg e] at this; exact this.symm)
 omega
structure Hel (H0 H : Hp) : Prop where
 mins : H.mins = H0.mins
 free : ∀ j, j < 2 → min (H0.mins.getD j 0) (freeN (H0.zones.getD j ⟨0, 0, [], []⟩).free) ≤ freeN (H.zones.getD j ⟨0, 0, [], []⟩).free
theorem Hel.refl (H : Hp) : Hel H H := ⟨rfl, fun _ _ => Int.min_le_right _ _⟩
theorem Hel.mono {H0 H G : Hp} (h : Hel H0 H) (hH : ZsOk H) (hG : ZsOk G) (hs : SameFT G H) (hc : ∀ q, zcnt H q ≤ zcnt G q) (hm : G.mins = H.mins) : Hel H0 G :=
 ⟨hm.trans h.mins, fun j hj => Int.le_trans (h.free j hj) (free_mono hH hG hs hc hj)⟩
theorem Hel.lists {H0 H : Hp} (h : Hel H0 H) (l : List Ls) (v : List Bk) : Hel H0 { H with lists := l, live := v } := ⟨h.mins, h.free⟩
theorem Hel.take {H0 H G : Hp} {z : Nat} {o fl p : Int} (h : Hel H0 H) (hZ : ZsOk H) (hz : z < 2) (ho : ordOk o) (hu : ¬ 8 ≤ fl) (ht : takeGH H z o fl = some (G, p)) : Hel H0 G := by
 have hT := takeH_took hZ hz ho ht
 obtain ⟨hn, _⟩ := takeH_some ht
 refine ⟨hT.mins.trans h.mins, fun j hj => ?_⟩
 have e := free_take hZ hz hT hj
 have n1 := hZ.m1.new
 unfold newOk at n1
 by_cases hjz : j = z
 ·subst hjz
  rw [if_pos rfl] at e
  unfold heldH at hn
  rw [if_neg hu, h.mins] at hn
  refine Int.le_trans (Int.min_le_left _ _) ?_
  split at hn <;> omega
 rw [if_neg hjz] at e
 have := h.free j hj
 omega
theorem Hel.more {H0 : Hp} {fl : Int} (hu : ¬ 8 ≤ fl) {z : Nat} (hz : z < 2) : ∀ (n : Nat) (H : Hp) (l : List Int), Hel H0 H → ZsOk H → Hel H0 (moreH n H z fl l).1
 | 0, H, l, h, _ => h
 | n + 1, H, l, h, hZ => by
  unfold moreH
  cases e : takeGH H z 0 fl with
  | none => exact h
  | some r =>
   obtain ⟨G, p⟩ := r
   have ho : ordOk 0 := by unfold ordOk; omega
   exact Hel.more hu hz n G _ (h.take hZ hz ho hu e) (takeH_took hZ hz ho e).zs
theorem Hel.single {H0 H G : Hp} {cpu : Int} {z : Nat} {fl p : Int} (h : Hel H0 H) (hZ : ZsOk H) (hz : z < 2) (hu : ¬ 8 ≤ fl) (hs : singleH H cpu z fl = some (G, p)) : Hel H0 G := by
 unfold singleH at hs
 split at hs
 ·cases hs
  exact ⟨h.mins, h.free⟩
 cases e : takeGH H z 0 fl with
 | none => rw [e] at hs; cases hs
 | some r =>
  obtain ⟨F, q⟩ := r
  rw [e] at hs
  cases hs
  have ho : ordOk 0 := by unfold ordOk; omega
  have hF := Hel.more hu hz 3 F [] (h.take hZ hz ho hu e) (takeH_took hZ hz ho e).zs
  exact ⟨hF.mins, hF.free⟩
theorem Hel.try_ {H0 H G : Hp} {cpu : Int} {z : Nat} {o fl p : Int} (h : Hel H0 H) (hZ : ZsOk H) (hz : z < 2) (ho : ordOk o) (hu : ¬ 8 ≤ fl) (hs : tryH H cpu z o fl = some (G, p)) : Hel H0 G := by
 unfold tryH at hs
 split at hs
 ·exact h.single hZ hz hu hs
 exact h.take hZ hz ho hu hs
theorem Hel.find {H0 H G : Hp} {cpu o fl p : Int} (h : Hel H0 H) (hZ : ZsOk H) (ho : ordOk o) (hu : ¬ 8 ≤ fl) (hs : findH H cpu o fl = some (G, p)) : Hel H0 G := by
 unfold findH at hs
 split at hs
 ·exact h.try_ hZ (by omega) ho hu hs
 cases e : tryH H cpu 1 o fl with
 | some r => rw [e] at hs; cases hs; exact h.try_ hZ (by omega) ho hu e
 | none => rw [e] at hs; exact h.try_ hZ (by omega) ho hu hs
theorem Hel.empty {H0 H : Hp} (h : Hel H0 H) (hM : HMay H) : Hel H0 (emptyH H) := by
 refine h.mono hM.zs (emptyH_zs hM) (fun i => by have h := backs_ft i (H.lists.flatMap (·.pages)) H; exact h) (fun q => ?_) (emptyH_rest H).1
 have a2 : zcnt (emptyH H) q = zcnt H q + lcnt H.lists q := hM.canBacks.2.2 q
 omega
theorem keep_lcnt {H : Hp} {cpu p : Int} (hL : LssOk H) (q : Int) : lcnt (keepH H cpu p).lists q ≤ lcnt H.lists q + hit p 0 q := by
 have hr := riseP_ls hL
 unfold keepH
 obtain ⟨X, hX⟩ : ∃ X, lsPages H.lists ⟨cpu, (zIdx H p : Nat), typeZ (H.zones.getD (zIdx H p) ⟨0, 0, [], []⟩) p, []⟩ = X := ⟨_, rfl⟩
 have key : ∀ P : List Int, (Kit.cnt (P.map pgB) q ≤ Kit.cnt ((X ++ [p]).map pgB) q) → lcnt (setLs H.lists ⟨cpu, (zIdx H p : Nat), typeZ (H.zones.getD (zIdx H p) ⟨0, 0, [], []⟩) p, P⟩) q ≤ lcnt H.lists q + hit p 0 q := fun P hP => by
  have a := setLs_cnt hr ⟨cpu, (zIdx H p : Nat), typeZ (H.zones.getD (zIdx H p) ⟨0, 0, [], []⟩) p, P⟩ q
  have e : lsPages H.lists ⟨cpu, (zIdx H p : Nat), typeZ (H.zones.getD (zIdx H p) ⟨0, 0, [], []⟩) p, P⟩ = X := hX
  rw [e] at a
  rw [cnt_pgs, cnt_pg1] at hP
  dsimp only at a
  omega
 rw [hX]
 split
 ·refine key _ ?_
  have e : Kit.cnt ((X ++ [p]).map pgB) q = Kit.cnt (((X ++ [p]).take 4).map pgB) q + Kit.cnt (((X ++ [p]).drop 4).map pgB) q := by rw [← cnt_pgs, List.take_append_drop]
  omega
 exact key _ (Nat.le_refl _)
theorem release_mins (H : Hp) (cpu : Int) (b : Bk) : (releaseH H cpu b).mins = H.mins := by
 unfold releaseH
 split
 ·rfl
 unfold keepH
 split
 ·exact (backs_lists _ _).2.1
 rfl
theorem Hel.free' {H0 H : Hp} {cpu : Int} {i : Nat} (h : Hel H0 H) (hM : HMay H) (hc : 0 ≤ cpu ∧ cpu ≤ H.cpus - 1) (hi : i < H.live.length) : Hel H0 (releaseH { H with live := H.live.eraseIdx i } cpu (H.live.getD i .zero)) := by
 have hR := release_may hM hc hi
 have hmn := release_mins { H with live := H.live.eraseIdx i } cpu (H.live.getD i .zero)
 refine h.mono hM.zs hR.1.zs hR.2.2.2.1 (fun q => ?_) hmn
 have ho := hR.2.2.2.2 q
 unfold occ at ho
 rw [hR.2.1] at ho
 have hcl : Kit.cnt H.live q = hit (H.live.getD i .zero).a (H.live.getD i .zero).o q + Kit.cnt (H.live.eraseIdx i) q := by
  have hp := erase_perm hi
  have e : H.live.getD i .zero = H.live[i] := by rw [List.getD_eq_getElem?_getD, List.getElem?_eq_getElem hi]; rfl
  rw [e]
  have hpp := (cnt_pr H.live q).trans ((cntP_perm (hp.map prB).symm q).trans (cnt_pr (H.live[i] :: H.live.eraseIdx i) q).symm)
  exact hpp
 have hL : lcnt (releaseH { H with live := H.live.eraseIdx i } cpu (H.live.getD i .zero)).lists q ≤ lcnt H.lists q + hit (H.live.getD i .zero).a (H.live.getD i .zero).o q := by
  unfold releaseH
  split
  ·have : (backH { H with live := H.live.eraseIdx i } (H.live.getD i .zero).a (H.live.getD i .zero).o).lists = H.lists := rfl
   rw [this]; omega
  rename_i h0
  have hb := (hM.lv.ok i hi).o
  have e0 : (H.live.getD i .zero).o = 0 := by unfold ordOk at hb; omega
  rw [e0]
  have hLs : LssOk { H with live := H.live.eraseIdx i } := lssOk_ft hM.ls rfl rfl (fun _ => ⟨rfl, rfl⟩)
  exact keep_lcnt hLs q
 omega
theorem hel_clo (H0 : Hp) {fls : Int → Prop} (hf : ∀ fl, fls fl → ¬ 8 ≤ fl) : Clo fls (Hel H0) where
 alloc := fun H G cpu o fl p hM h hfl ho hc hd => by
  have hG : Hel H0 G := by
   unfold find2H at hd
   cases e : findH H cpu o fl with
   | some r => rw [e] at hd; cases hd; exact h.find hM.zs ho (hf fl hfl) e
   | none => rw [e] at hd; exact (h.empty hM).find (emptyH_zs hM) ho (hf fl hfl) hd
  exact ⟨hG.mins, hG.free⟩
 free := fun H cpu i hM h hc hi => h.free' hM hc hi
 drain := fun H hM h => h.empty hM
def qR (r : Raw4) : Q4 := ⟨.int .i64 r.k, .int .i64 r.a, .int .i64 r.b, .int .i64 r.c⟩
theorem info_raw : (Tryz.prog.info? 64).map (fun i => (i.zero, i.size, i.bytes)) = some (some (.agg #[.int .i64 0, .int .i64 0, .int .i64 0, .int .i64 0]), 4, 32) := by kernel_rfl
theorem getD_qR (l : List Raw4) (i : Nat) (hi : i < l.length) : (l.map qR).getD i .zero = qR (l.getD i .zero) := by
 simp [List.getD_eq_getElem?_getD, hi]
theorem rawsAt_iff {w : World} {ao : Option Addr} {l : List Raw4} : RawsAt w ao l ↔ C4At w ao (l.map qR) := by
 constructor
 ·intro h i hi
  rw [List.length_map] at hi
  rw [getD_qR l i hi]
  exact h i hi
 intro h i hi
 have := h i (by rw [List.length_map]; exact hi)
 rw [getD_qR l i hi] at this
 exact this
theorem c4src_of {w : World} {ao : Option Addr} {l : List Q4} (h : C4At w ao l) (h0 : 0 < l.length) : ∃ ad, ao = some ad ∧ ∀ j v, (c4 l)[j]? = some v → w.cell? (ad.add j) = some v := by
 obtain ⟨b, off, rfl, _⟩ := h 0 h0
 refine ⟨_, rfl, fun j v hj => ?_⟩
 rw [add_at]
 have hlt : j < (c4 l).length := (List.getElem?_eq_some_iff.1 hj).1
 rw [length_c4] at hlt
 obtain ⟨b', off', he, c0, c1, c2, c3⟩ := h (j / 4) (by omega)
 obtain ⟨g0, g1, g2, g3⟩ := c4_get l (j / 4) (by omega)
 simp only [Option.some.injEq, Addr.mk.injEq, and_true] at he
 obtain ⟨rfl, rfl⟩ := he
 rcases (show j % 4 = 0 ∨ j % 4 = 1 ∨ j % 4 = 2 ∨ j % 4 = 3 by omega) with hm | hm | hm | hm
 ·have e1 : j = j / 4 * 4 := by omega
  rw [e1, g0] at hj
  rw [← Option.some.inj hj, ← c0]; congr 2; omega
 ·have e1 : j = j / 4 * 4 + 1 := by omega
  rw [e1, g1] at hj
  rw [← Option.some.inj hj, ← c1]; congr 2; omega
 ·have e1 : j = j / 4 * 4 + 2 := by omega
  rw [e1, g2] at hj
  rw [← Option.some.inj hj, ← c2]; congr 2; omega
 have e1 : j = j / 4 * 4 + 3 := by omega
 rw [e1, g3] at hj
 rw [← Option.some.inj hj, ← c3]; congr 2; omega
theorem qR_one (l : List Raw4) : ∀ u ∈ c4 (l.map qR), u.oneCell' = true := c4_oneCell _ fun x hx => by
 obtain ⟨r, _, rfl⟩ := List.mem_map.1 hx
 exact ⟨rfl, rfl, rfl, rfl⟩
theorem rclone_any (w : World) (ao : Option Addr) (n cap : Nat) (l : List Raw4) (hx : RawsAt w ao l) (hn : l.length = n) (hr : n * 32 ≤ 140737488351232) :
    Calls Tryz.prog 25 #[.slice ao n cap] w fun e w' => ∃ bo c, e = .returned (.slice bo n c) ∧ w'.ownsRow w.heap.size 64 4 (.slice bo n c) n (c4 (l.map qR)) ∧ Below w.heap.size w w' := by
 have q22 : ∀ (w : World) (a : Option Addr) (n c n' c' : Nat), (binOp .eql 22 (.slice a n c) (.slice none n' c')).run Tryz.prog w = .ok (.bool a.isNone) w := fun w a n c n' c' => Lib.run_eql_slice_nil w _ _ a n c n' c' Tryz.underlying22
 cases ao with
 | none =>
  have h0 : n = 0 := by
   rcases Nat.eq_zero_or_pos n with e | e
   ·exact e
   obtain ⟨b, o, e1, _⟩ := hx 0 (by omega)
   cases e1
  subst h0
  have hl : l = [] := List.eq_nil_of_length_eq_zero hn
  subst hl
  go_enter Tryz.func25, Tryz.ntmps25
  go_wp2
  go_ret
  exact ⟨none, 0, rfl, World.ownsRow_nil _ _ _ _, Below.refl _ _⟩
 | some ad =>
  obtain ⟨i0, hi, hz0, hz1, hz2⟩ := info_parts info_raw
  have hml : 0 + n ≤ maxLen := by unfold maxLen; omega
  have hl : (c4 (l.map qR)).length = n * 4 := by rw [length_c4, List.length_map, hn]
  have hby : (0 + n) * 32 ≤ 140737488355328 := by omega
  have hb0 : Below w.heap.size w (w.alloc (.cells #[] 64)) := (Below.refl _ _).alloc (Nat.le_refl _) _
  have hsrc : ∀ j u, (c4 (l.map qR))[j]? = some u → (w.alloc (.cells #[] 64)).cell? (ad.add j) = some u := by
   by_cases h0 : 0 < l.length
   ·obtain ⟨ad', he, hs⟩ := c4src_of (rawsAt_iff.1 (hx.below hb0)) (by rw [List.length_map]; exact h0)
    cases he
    exact hs
   intro j u hj
   have : c4 (l.map qR) = [] := List.eq_nil_of_length_eq_zero (by rw [length_c4, List.length_map]; omega)
   rw [this] at hj
   simp at hj
  have hone := qR_one l
  obtain ⟨cs, hcs⟩ : ∃ cs, cs = c4 (l.map qR) := ⟨_, rfl⟩
  rw [← hcs] at hl hsrc hone ⊢
  have hown0 : (w.alloc (.cells #[] 64)).ownsRow w.heap.size 64 4 (.slice (some ⟨w.heap.size, 0, none⟩) 0 0) 0 [] := World.ownsRow_lit w #[] 0 (Nat.le_refl _) (by unfold maxLen; omega) rfl
  have hle : w.heap.size ≤ (w.alloc (.cells #[] 64)).heap.size := hb0.size
  have HS : Hid (∀ j u, cs[j]? = some u → (w.alloc (.cells #[] 64)).cell? (ad.add j) = some u) := hsrc
  have HO : Hid ((w.alloc (.cells #[] 64)).ownsRow w.heap.size 64 4 (.slice (some ⟨w.heap.size, 0, none⟩) 0 0) 0 []) := hown0
  clear hcs hx hsrc hown0
  go_enter Tryz.func25, Tryz.ntmps25
  go_wp2_with (at_builtin; refine wpList_append_own _ rfl (.tmp 5) (.tmp 6) 22 rfl w.heap.size 64 i0 _ 4 32 Tryz.underlying22 hi hz0 hz1 hz2 rfl (by decide) _ _ _ rfl HO.out ad n cap cs rfl hl HS.out hone hml hby hle ?_)
  intro v' w1 hown hgrow _
  obtain ⟨bo, c, rfl⟩ := owns_shape hown
  have hb : Below w.heap.size w w1 := hb0.grown hgrow hb0.size (by simp [Value.ownBlock])
  clear hgrow hb0
  go_wp2
  go_ret
  refine ⟨bo, c, ?_, ?_, hb⟩
  ·simp
  simpa using hown
theorem own_setC {w : World} {B n cap g : Nat} {e : TypeId} {l : List Raw4} (h : w.ownsRow B e 4 (.slice (some ⟨g, 0, none⟩) n cap) n (c4 (l.map qR))) {i : Nat} (hi : i < n) (v : Int) :
    ∃ W, (storeVar 3 ⟨g, 0 + i * 4 + 3, none⟩ (.int .i64 v)).run Tryz.prog w = .ok () W ∧ But g w W ∧ W.ownsRow B e 4 (.slice (some ⟨g, 0, none⟩) n cap) n (c4 ((l.set i { l.getD i .zero with c := v }).map qR)) := by
 have hl := c4owns_len h
 rw [List.length_map] at hl
 rcases h.2 with ⟨h', _⟩ | ⟨g', cap', cur, h', hB, hg, hc, hm, hsz, htake⟩
 ·cases h'
 simp only [Value.slice.injEq, Option.some.injEq, Addr.mk.injEq, true_and, and_true] at h'
 obtain ⟨rfl, rfl⟩ := h'
 have hfit : i * 4 + 3 + 1 ≤ cur.toList.length := by simp; omega
 have h1 : ∀ v' ∈ [Value.int .i64 v], v'.oneCell' = true := by
  intro v' hv
  rw [List.mem_singleton] at hv
  subst hv; rfl
 have hrun := run_storeCells_at (P := Tryz.prog) g (i * 4 + 3) e [Value.int .i64 v] 0 cur w hg (by simp; omega) h1
 have hs : szB Tryz.prog 3 = some 1 := sz rfl
 unfold szB at hs
 simp only [Option.map_eq_some_iff] at hs
 obtain ⟨inf, hi', hn⟩ := hs
 have hsv := run_storeVar' (P := Tryz.prog) (a := ⟨g, i * 4 + 3, none⟩) (v := .int .i64 v) hi' (by rw [hn]; rfl) hrun
 rw [Nat.zero_add]
 refine ⟨_, hsv, ⟨rfl, rfl, rfl, by simp [World.setRow], fun k _ hk => by simp [World.setRow, Array.getElem?_modify, Ne.symm hk]⟩, ?_⟩
 have he : c4 ((l.set i { l.getD i .zero with c := v }).map qR) = (c4 (l.map qR)).set (i * 4 + 3) (.int .i64 v) := by
  rw [c4_set3 _ i (by rw [List.length_map]; omega), getD_qR l i (by omega), List.map_set]
  rfl
 rw [he]
 refine ⟨by rw [List.length_set, length_c4, List.length_map]; omega, .inr ⟨g, cap, (cur.toList.take (i * 4 + 3) ++ [Value.int .i64 v] ++ cur.toList.drop (i * 4 + 3 + 1)).toArray, rfl, hB, by simp [World.setRow, Array.getElem?_modify, hg], hc, hm, ?_, ?_⟩⟩
 ·simp; omega
 rw [← htake]
 have e2 : cur.toList.take (i * 4 + 3) ++ [Value.int .i64 v] ++ cur.toList.drop (i * 4 + 3 + 1) = cur.toList.set (i * 4 + 3) (.int .i64 v) := by
  rw [List.set_eq_take_append_cons_drop, if_pos (by omega)]; simp
 rw [List.toList_toArray, e2, ← List.take_set]
theorem regs_lt {w : World} {g n : Nat} {x : Int × Int} {l : List (Int × Int)} (h : Regs w (some ⟨g, 0, none⟩) n (x :: l)) : g < w.heap.size := by
 obtain ⟨c, off, e, h1, _⟩ := h.at_ 0 (by simp)
 cases e
 exact World.block_lt_of_cell? w _ h1
theorem zn_of {w : World} {y : Hx} {j : Nat} {z : Zn} {fo to_ : Option Addr} {fn fc tn tc : Nat} (h : y.At w) (hX : Hid (y.zs.getD j .zero = ⟨z, fo, fn, fc, to_, tn, tc⟩)) (hj : j < y.zn) : ZnAt w fo fn to_ tn z := by
 obtain ⟨_, _, _, _, _, _, _, _, _, _, _, _, _, _, hat, hX'⟩ := h.zones.at j hj
 have e := hX'.out.symm.trans hX.out
 cases e
 exact hat
theorem flA_low {j : Nat} (h : j < 4) : ¬ 8 ≤ flA j := by
 rcases (show j = 0 ∨ j = 1 ∨ j = 2 ∨ j = 3 by omega) with rfl | rfl | rfl | rfl <;> decide
theorem getD_setC (l : List Raw4) (k i : Nat) (hk : k < l.length) : (l.set k { l.getD k .zero with c := 0 }).getD i .zero = if i = k then { l.getD k .zero with c := 0 } else l.getD i .zero := by
 simp only [List.getD_eq_getElem?_getD, List.getElem?_set]
 by_cases e : i = k
 ·subst e
  simp [hk]
 rw [if_neg (fun h => e h.symm), if_neg e]
theorem fits_set {l : List Raw4} {n k : Nat} (h : ∀ i, i < n → (l.getD i .zero).Fits) (hl : l.length = n) : ∀ i, i < n → ((l.set k { l.getD k .zero with c := 0 }).getD i .zero).Fits := fun i hi => by
 by_cases hk : k < l.length
 ·rw [getD_setC l k i hk]
  split
  ·have := h k (by omega)
   exact ⟨this.k, this.a, this.b, rfl⟩
  exact h i hi
 rw [List.set_eq_of_length_le (by omega)]
 exact h i hi
theorem clear_set {l : List Raw4} {k : Nat} (hk : k < l.length) (h : ∀ i, i < k → pickN (l.getD i .zero).c 5 ≠ 4) : ∀ i, i < k + 1 → pickN ((l.set k { l.getD k .zero with c := 0 }).getD i .zero).c 5 ≠ 4 := fun i hi => by
 rw [getD_setC l k i hk]
 split
 ·show pickN 0 5 ≠ 4; decide
 exact h i (by omega)
theorem pagesHeld_walk (ao : Option Addr) (n cap : Nat) (l : List Raw4) (a b c : Int) (w : World) (h : IsRaws w ao n cap l) (wa : (Lit.int .i64 a).wf = true) (wb : (Lit.int .i64 b).wf = true) (wc : (Lit.int .i64 c).wf = true) (hT : TabAt w) :
    Calls Tryz.prog 7 #[.slice ao n cap, .int .i64 a, .int .i64 b, .int .i64 c] w fun e w' => e = .returned (.bool true) ∧ Below w.heap.size w w' := by
 have B0 := Below.refl w.heap.size w
 refine sx_enter (args := [_, _, _, _]) 102 Tryz.func7 rfl rfl rfl ?_
 refine vS (vR (vla (h:=vW (vS (vS (vR (vlc (tells_c _ (hT.below B0)) (h:=?_)))))))); intro W1 hb2; replace B0 := Below.next B0 hb2
 refine vln (h:=vW (vD (h:=vK (vT (vS (vR (vlm (h:=vlm (h:=vlm (h:=?_)))))))))); intro A f
 refine l_call f rfl rfl rfl (IsCall.mk' (cap := []) rfl rfl rfl) (pl rfl) (setup_c _ a b c wa wb wc) ?_
 clear f A
 rintro _ W3 ⟨gm, gr, rfl, hm, hr, hb4⟩
 refine ⟨_, rfl, ?_⟩
 intro A f
 replace B0 := Below.next B0 hb4
 refine l_as (z := .agg #[.slice none 0 0, .slice none 0 0, .int .i64 0, .int .i64 0, .int .i64 0]) f rfl rfl rfl rfl (by kernel_rfl) rfl rfl (fun _ => rfl) (fun _ => rfl) rfl (by intro u hu; simp [Value.cells] at hu; rcases hu with rfl | rfl | rfl | rfl | rfl <;> rfl) ?_; clear f A; intro b5 W6 eb5 hb7 rb5 A f
 dsimp only [Value.cells] at rb5
 have hpb5 := hb7
 have z_B0_b5 := B0.size; rw [eb5] at z_B0_b5
 replace B0 := Below.next B0 hb7; replace hm := hm.below hb7; replace hr := hr.below hb7
 revert A; refine vW (vS (vS (vR (vlm (h:=vlz (h:=vlm (h:=vW (vB ?_))))))))
 have hgm := regs_lt hm
 have hgr := regs_lt hr
 have z9 := z_B0_b5
 have hra := (raws_below h B0).at_
 have hln := h.len
 have hrn : n * 32 ≤ 140737488351232 := by have h1 := h.le; have h2 := h.reach; omega
 intro A f
 refine x_loop (fun m A W => ∃ (k : Nat) (lo2 : Option Addr) (lc2 : Nat) (l2 : List Raw4), m = n - k ∧ k ≤ n ∧ Fr A 102 [(0, .slice lo2 n lc2), (9, .pointer (some ⟨b5, 0, none⟩)), (30, .int .i64 (n : Nat)), (31, .int .i64 (k : Nat))] ∧ Below w.heap.size w W ∧ W.heap[b5]? = some (.cells #[.slice (some ⟨gm, 0, none⟩) 2 2, .slice (some ⟨gr, 0, none⟩) 2 2, .int .i64 (16 * (pickN a 9 : Int)), .int .i64 (pickN b 12 : Int), .int .i64 (1 + (pickN c 4 : Int))] 27 (0, 0)) ∧ Regs W (some ⟨gm, 0, none⟩) 2 (suM a b c) ∧ Regs W (some ⟨gr, 0, none⟩) 2 (suR a b c) ∧ RawsAt W lo2 l2 ∧ l2.length = n ∧ (∀ i, i < n → (l2.getD i .zero).Fits) ∧ ∀ i, i < k → pickN (l2.getD i .zero).c 5 ≠ 4) (n0 := n) (⟨0, ao, cap, l, rfl, Nat.zero_le _, f.sub ⟨rfl, rfl, rfl, rfl, trivial⟩, B0, rb5, hm, hr, hra, hln, h.wf, fun i hi => absurd hi (Nat.not_lt_zero i)⟩) ?_
 clear f A
 clear B0 hm hr hra hln rb5
 rintro m A W8 ⟨k, lo2, lc2, l2, hn, hk, f, B0, rb5, hm, hr, hra, hln, hft, hdn⟩
 revert A; refine vS (vR (vlb (y_lss rfl rfl rfl) (h:=?_) (g:=?_)))
 ·intro c9
  refine vW (vS (vC (h:=vK (vT (vS (vB (vS (vR (vlm (h:=vla (h:=vW (vS (vR (vlm (h:=vlm (h:=?_))))))))))))))))
  have BW := Below.refl W8.heap.size W8
  obtain ⟨gX, oX, haX, q0, q1, q2, q3⟩ := hra k (by omega)
  obtain ⟨xc, hxc⟩ : ∃ xc, xc = (l2.getD k .zero).c := ⟨_, rfl⟩
  have wxc : (Lit.int .i64 xc).wf = true := by rw [hxc]; exact (hft k (by omega)).c
  intro A f
  rw [← hxc] at q3
  replace q0 := St.of q0; replace q1 := St.of q1; replace q2 := St.of q2; replace q3 := St.of q3
  revert A; refine vlx (h:=vlf (h:=vld (y_load1 rfl rfl (ag rfl) (by first | assumption | exact St.q q0 BW | exact St.q q1 BW | exact St.q q2 BW | exact St.q q3 BW)) (h:=vlc (c_same (picked_fn xc 5 5 rfl wxc (by omega) (by omega) _)) (h:=?_)))); intro W10 hb11; replace B0 := Below.next B0 hb11; replace hm := hm.below hb11; replace hr := hr.below hb11; replace hra := hra.below hb11; replace rb5 := row_next rb5 hb11
  have hp5 := pickN_lt xc 5 (by omega)
  refine vlb (y_eql rfl rfl rfl) (h:=?_) (g:=?_)
  ·intro c12
   refine vW (vC (h:=vS (vR ?_)))
   have hmx0 := regs_lt hm
   have hrx0 := regs_lt hr
   have hw0 := B0.size
   refine vlm (h:=?_)
   have lt9 := row_lt rb5
   intro A f
   refine l_call f rfl rfl rfl (IsCall.mk' (cap := []) rfl rfl rfl) (pl rfl) (rclone_any _ lo2 n lc2 l2 hra hln hrn) ?_; clear f A; rintro _ W13 ⟨bo, c9, rfl, own, hb14⟩; refine ⟨_, rfl, ?_⟩; intro A f; replace B0 := Below.next B0 hb14; replace hm := hm.below hb14; replace hr := hr.below hb14; replace hra := hra.below hb14; replace rb5 := row_next rb5 hb14
   obtain ⟨gX2, rfl⟩ : ∃ g, bo = some ⟨g, 0, none⟩ := by
    obtain ⟨b', o', e', _⟩ := rawsAt_iff.2 (c4_of_owns own) k (by omega)
    have := (owns_blk own _ e').2.2.2
    exact ⟨b', by rw [e', this]⟩
   have hgX := (owns_blk own _ rfl).1
   have hgX2 := (owns_blk own _ rfl).2.1
   dsimp only at hgX hgX2
   have hsz0 := B0.size
   have hm0 := hmx0
   have hr0 := hrx0
   revert A; refine vla (h:=vW (vR (vlm (h:=vlm (h:=vlx (h:=vlf (h:=?_))))))); intro A f
   refine l_storeR f rfl rfl rfl rfl rfl (own_setC own (show k < n by omega) 0) ?_
   rintro W15 ⟨hb16, own2⟩
   clear own
   have own := own2
   clear own2
   replace B0 := Below.thenBut B0 hb16 (by omega); replace rb5 := But.row hb16 rb5 (by omega); replace hm := regs_but hm hb16 (fun a ha => by cases ha; dsimp only; omega); replace hr := regs_but hr hb16 (fun a ha => by cases ha; dsimp only; omega)
   revert A; refine vN (vU (vT (vR (vlA (h:=vlm (h:=vW ?_)))))); intro A f
   exact ⟨n - (k + 1), by omega, k + 1, some ⟨gX2, 0, none⟩, c9, l2.set k { l2.getD k .zero with c := 0 }, rfl, by omega, f.sub ⟨rfl, rfl, rfl, rfl, trivial⟩, B0, rb5, hm, hr, rawsAt_iff.2 (c4_of_owns own), by rw [List.length_set]; exact hln, fits_set hft hln, clear_set (by omega) hdn⟩
  intro c12
  refine vW (vD (h:=vK (vU (vT (vR (vlA (h:=vlm (h:=vW ?_)))))))); intro A f
  exact ⟨n - (k + 1), by omega, k + 1, lo2, lc2, l2, rfl, by omega, f.sub ⟨rfl, rfl, rfl, rfl, trivial⟩, B0, rb5, hm, hr, hra, hln, hft, fun i hi => by by_cases e : i = k; (rw [e, ← hxc]; omega); exact hdn i (by omega)⟩
 intro c9
 refine vW (vS (vD (h:=vX (vH (vH (vI (vT (vS (vR ?_)))))))))
 have ek : k = n := by omega
 have hfu : ∀ fl, rawFl l2 fl → ¬ 8 ≤ fl := fun fl ⟨i, hi, e⟩ => by
  rw [e]
  have h1 := pickN_lt (l2.getD i .zero).c 5 (by omega)
  have h2 := hdn i (by omega)
  exact flA_low (by omega)
 refine vl5 (rowq rb5) (h:=?_); intro A f
 refine l_call f rfl rfl rfl (IsCall.mk' (cap := []) rfl rfl rfl) (pl rfl) (paged_c _ none 0 0 0 [] (raws_none _) (some ⟨gm, 0, none⟩) 2 2 (suM a b c) (some ⟨gr, 0, none⟩) 2 2 (suR a b c) hm hr ⟨suM_may a b c, suR_may a b c⟩ _ rfl (su_drawn a b c) (16 * (pickN a 9 : Int)) (pickN b 12 : Int) (1 + (pickN c 4 : Int)) 0 (1 + pickN c 4) (su_new a b c).2.2 (su_new a b c).1 (su_new a b c).2.1 (hT.below B0)) ?_
 clear f A
 rintro _ W17 ⟨H1, y1, aw1, vo1, vn1, vc1, rfl, hNH1, hI1, hz1, hRc1, hb18⟩
 refine ⟨_, rfl, ?_⟩
 intro A f
 replace B0 := Below.next B0 hb18; replace hm := hm.below hb18; replace hr := hr.below hb18; replace hra := hra.below hb18; replace rb5 := row_next rb5 hb18
 revert A; refine vlm (h:=vle (h:=vle (h:=vle (h:=?_)))); intro A f
 refine l_as (z := .agg #[.slice none 0 0, .slice none 0 0, .int .i64 0, .slice none 0 0, .slice none 0 0]) f rfl rfl rfl rfl (by kernel_rfl) rfl rfl (fun _ => rfl) (fun _ => rfl) rfl (by intro u hu; simp [Value.cells] at hu; rcases hu with rfl | rfl | rfl | rfl | rfl <;> rfl) ?_; clear f A; intro b19 W20 eb19 hb21 rb19 A f
 dsimp only [Value.cells] at rb19
 have hpb19 := hb21
 have o_b5_b19 : b5 < b19 := by have := row_lt rb5; omega
 have z_B0_b19 := B0.size; rw [eb19] at z_B0_b19
 replace B0 := Below.next B0 hb21; replace hm := hm.below hb21; replace hr := hr.below hb21; replace hra := hra.below hb21; replace hI1 := hI1.below hb21; replace rb5 := row_next rb5 hb21
 revert A; refine vla (h:=vla (h:=vW (vS (vR (vlm (h:=vl5 (rowq rb5) (h:=?_))))))); intro A f
 refine l_call f rfl rfl rfl (IsCall.mk' (cap := []) rfl rfl rfl) (pl rfl) (paged_c _ lo2 n n lc2 l2 (⟨hln, Nat.le_refl _, hrn, hra, hft⟩) (some ⟨gm, 0, none⟩) 2 2 (suM a b c) (some ⟨gr, 0, none⟩) 2 2 (suR a b c) hm hr ⟨suM_may a b c, suR_may a b c⟩ _ rfl (su_drawn a b c) (16 * (pickN a 9 : Int)) (pickN b 12 : Int) (1 + (pickN c 4 : Int)) 70 (1 + pickN c 4) (su_new a b c).2.2 (su_new a b c).1 (su_new a b c).2.1 (hT.below B0)) ?_
 clear f A
 rintro _ W22 ⟨H, y, aw, vo, vn, vc, rfl, hNH, hI, hz, hRc, hb23⟩
 refine ⟨_, rfl, ?_⟩
 intro A f
 replace B0 := Below.next B0 hb23; replace hm := hm.below hb23; replace hr := hr.below hb23; replace hra := hra.below hb23; replace hI1 := hI1.below hb23; replace rb5 := row_next rb5 hb23; replace rb19 := row_next rb19 hb23
 revert A; refine vlm (h:=vle (h:=vle (h:=vle (h:=?_)))); intro A f
 refine l_as (z := .agg #[.slice none 0 0, .slice none 0 0, .int .i64 0, .slice none 0 0, .slice none 0 0]) f rfl rfl rfl rfl (by kernel_rfl) rfl rfl (fun _ => rfl) (fun _ => rfl) rfl (by intro u hu; simp [Value.cells] at hu; rcases hu with rfl | rfl | rfl | rfl | rfl <;> rfl) ?_; clear f A; intro b24 W25 eb24 hb26 rb24 A f
 dsimp only [Value.cells] at rb24
 have hpb24 := hb26
 have o_b5_b24 : b5 < b24 := by have := row_lt rb5; omega
 have o_b19_b24 : b19 < b24 := by have := row_lt rb19; omega
 have z_B0_b24 := B0.size; rw [eb24] at z_B0_b24
 replace B0 := Below.next B0 hb26; replace hm := hm.below hb26; replace hr := hr.below hb26; replace hra := hra.below hb26; replace hI1 := hI1.below hb26; replace hI := hI.below hb26; replace rb5 := row_next rb5 hb26; replace rb19 := row_next rb19 hb26
 revert A; refine vla (h:=vla (h:=vW (vS (vS (vR ?_)))))
 have hNM := new_may hNH (su_new a b c).2.1
 have eH : y1.hp = H := by rw [(hz1 rfl).1]; exact newH_unique hNH1 hNH
 have hHel := hRc _ (hel_clo H hfu) (Hel.refl H)
 have hzl : y.zn = 2 := by have h1 := hI.at_.zones.len; have h2 := hI.may.zs.n; have e : y.hp.zones.length = y.zs.length := (by show (y.zs.map _).length = _; rw [List.length_map]); omega
 have hzl1 : y1.zn = 2 := by have h1 := hI1.at_.zones.len; have h2 := hI1.may.zs.n; have e : y1.hp.zones.length = y1.zs.length := (by show (y1.zs.map _).length = _; rw [List.length_map]); omega
 have hle : ∀ j, j < 2 → min (pickN b 12 : Int) (freeN (y1.hp.zones.getD j ⟨0, 0, [], []⟩).free) ≤ freeN (y.hp.zones.getD j ⟨0, 0, [], []⟩).free := fun j hj => by
  have h1 := hHel.free j hj
  rw [eH]
  have e1 : H.mins.getD j 0 = (pickN b 12 : Int) := by
   obtain ⟨Z0, Z1, _, _, rfl⟩ := hNH
   rcases (show j = 0 ∨ j = 1 by omega) with rfl | rfl <;> rfl
  rwa [e1] at h1
 have q12 := pickN_lt b 12 (by omega)
 refine vlf (h:=vl1 (rowq rb24) (h:=vlz (h:=vlm (h:=vW (vB ?_)))))
 have hyA := hI.at_
 have hyA1 := hI1.at_
 have hmy := hI.may
 have hmy1 := hI1.may
 intro A f
 clear hI hI1
 refine x_loop (fun m A W => ∃ j : Nat, m = y.zn - j ∧ j ≤ y.zn ∧ Fr A 102 [(9, .pointer (some ⟨b5, 0, none⟩)), (11, .pointer (some ⟨b19, 0, none⟩)), (13, .bool true), (16, .bool true), (62, .slice y.zo y.zn y.zc), (63, .int .i64 (y.zn : Nat)), (64, .int .i64 (j : Nat))] ∧ Below w.heap.size w W ∧ W.heap[b5]? = some (.cells #[.slice (some ⟨gm, 0, none⟩) 2 2, .slice (some ⟨gr, 0, none⟩) 2 2, .int .i64 (16 * (pickN a 9 : Int)), .int .i64 (pickN b 12 : Int), .int .i64 (1 + (pickN c 4 : Int))] 27 (0, 0)) ∧ W.heap[b19]? = some (.cells #[.slice y1.zo y1.zn y1.zc, .slice y1.mo y1.mn y1.mc, .int .i64 y1.cpus, .slice y1.lo y1.ln y1.lc, .slice y1.vo y1.vn y1.vc] 34 (0, 0)) ∧ y.At W ∧ y1.At W) (n0 := y.zn) (⟨0, rfl, Nat.zero_le _, f.sub ⟨rfl, rfl, rfl, rfl, rfl, rfl, rfl, trivial⟩, B0, rb5, rb19, hyA, hyA1⟩) ?_
 clear f A
 clear B0 hyA hyA1 hm hr hra rb5 rb19 rb24
 rintro m2 A W27 ⟨j, hn2, hj, f, B0, rb5, rb19, hyA, hyA1⟩
 revert A; refine vS (vR (vlb (y_lss rfl rfl rfl) (h:=?_) (g:=?_)))
 ·intro c28
  refine vW (vS (vC (h:=vK (vT (vS (vB (vS (vR (vlm (h:=?_))))))))))
  have BW := Below.refl W27.heap.size W27
  obtain ⟨gz, oz, zz, foz, fnz, fcz, toz, tnz, tcz, haz, c0z, c1z, c2z, c3z, hatz, hXz⟩ := hyA.zones.at (j) (by omega)
  replace c0z := St.of c0z; replace c1z := St.of c1z; replace c2z := St.of c2z; replace c3z := St.of c3z
  have hmz : ZMay zz := by have h := zs_m hmy.zs (show j < 2 by omega); rw [hp_zone, hXz.out] at h; exact h
  have hlej := hle j (by omega)
  intro A f
  rw [hp_zone y, hXz.out] at hlej
  have ho18 : Off W27.heap.size y := off_old hyA hmy.zs.n (Nat.le_refl _)
  have ho18b : Off W27.heap.size y1 := off_old hyA1 hmy1.zs.n (Nat.le_refl _)
  revert A; refine vlx (h:=vld (y_loadN (vs := [_, _, _, _]) rfl rfl (ag rfl) rfl ⟨(by first | assumption | exact St.q c0z BW | exact St.q c1z BW | exact St.q c2z BW | exact St.q c3z BW), (by first | assumption | exact St.q c0z BW | exact St.q c1z BW | exact St.q c2z BW | exact St.q c3z BW), (by first | assumption | exact St.q c0z BW | exact St.q c1z BW | exact St.q c2z BW | exact St.q c3z BW), (by first | assumption | exact St.q c0z BW | exact St.q c1z BW | exact St.q c2z BW | exact St.q c3z BW), trivial⟩) (h:=?_)); intro A f
  refine l_alloc (z := .agg #[.int .i64 0, .int .i64 0, .slice none 0 0, .slice none 0 0]) f rfl rfl rfl rfl (by kernel_rfl) ?_; clear f A; intro b29 W30 eb29 hb31 rb29 A f; dsimp only [Value.cells] at rb29
  have o_b5_b29 : b5 < b29 := by have := row_lt rb5; omega
  have o_b19_b29 : b19 < b29 := by have := row_lt rb19; omega
  have z_B0_b29 := B0.size; rw [eb29] at z_B0_b29
  replace B0 := Below.next B0 hb31; replace hyA := hyA.below hb31; replace hyA1 := hyA1.below hb31; replace rb5 := row_next rb5 hb31; replace rb19 := row_next rb19 hb31
  rw [eb29] at ho18 ho18b
  revert A; refine vla (h:=?_); intro A f
  refine vls f rb29 ?_
  clear rb29; intro W32 hb33 rb29; dsimp only [setL, over, Value.cells] at rb29; replace B0 := Below.thenBut B0 hb33 (by omega); replace rb5 := But.row hb33 rb5 (by omega); replace rb19 := But.row hb33 rb19 (by omega); replace hyA := Off.but ho18 hyA hb33; replace hyA1 := Off.but ho18b hyA1 hb33
  revert A; refine vW (vS (vR ?_))
  have hatz2 := zn_of hyA hXz (show j < y.zn by omega)
  refine vl4 (rowq rb29) (h:=vlc (zPages_ok _ _ _ _ _ _ _ zz (hatz2) hmz) (h:=?_)); intro W34 hb35; replace B0 := Below.next B0 hb35; replace hyA := hyA.below hb35; replace hyA1 := hyA1.below hb35; replace rb5 := row_next rb5 hb35; replace rb19 := row_next rb19 hb35; replace rb29 := row_next rb29 hb35
  refine vlm (h:=vle (h:=vle (h:=vla (h:=vla (h:=vW (vS (vR (vlf (h:=vl1 (rowq rb19) (h:=vlm (h:=?_)))))))))))
  have BV := Below.refl W34.heap.size W34
  obtain ⟨gu, ou, zu, fou, fnu, fcu, tou, tnu, tcu, hau, c0u, c1u, c2u, c3u, hatu, hXu⟩ := hyA1.zones.at (j) (by omega)
  replace c0u := St.of c0u; replace c1u := St.of c1u; replace c2u := St.of c2u; replace c3u := St.of c3u
  have hmu : ZMay zu := by have h := zs_m hmy1.zs (show j < 2 by omega); rw [hp_zone, hXu.out] at h; exact h
  intro A f
  rw [hp_zone y1, hXu.out] at hlej
  dsimp only at hlej
  have hatu2 := zn_of hyA1 hXu (show j < y1.zn by omega)
  revert A; refine vlx (h:=vld (y_loadN (vs := [_, _, _, _]) rfl rfl (ag rfl) rfl ⟨(by first | assumption | exact St.q c0u BV | exact St.q c1u BV | exact St.q c2u BV | exact St.q c3u BV), (by first | assumption | exact St.q c0u BV | exact St.q c1u BV | exact St.q c2u BV | exact St.q c3u BV), (by first | assumption | exact St.q c0u BV | exact St.q c1u BV | exact St.q c2u BV | exact St.q c3u BV), (by first | assumption | exact St.q c0u BV | exact St.q c1u BV | exact St.q c2u BV | exact St.q c3u BV), trivial⟩) (h:=vlc (zPages_ok _ _ _ _ _ _ _ zu (hatu2) hmu) (h:=?_))); intro W36 hb37; replace B0 := Below.next B0 hb37; replace hyA := hyA.below hb37; replace hyA1 := hyA1.below hb37; replace rb5 := row_next rb5 hb37; replace rb19 := row_next rb19 hb37; replace rb29 := row_next rb29 hb37
  refine vlm (h:=vle (h:=vle (h:=vla (h:=vla (h:=vW (vS (vR (vlm (h:=vlb (y_neq rfl rfl rfl) (h:=?_) (g:=?_))))))))))
  ·intro c38; exfalso; omega
  intro c38
  refine vlm (h:=vlm (h:=vlb (y_neq rfl rfl rfl) (h:=?_) (g:=?_)))
  ·intro c39; exfalso; omega
  intro c39
  refine vlp (h:=vlm (h:=vlm (h:=vlf (h:=vl1 (rowq rb5) (h:=vlm (h:=vld (y_min rfl rfl rfl) (h:=vlb (y_lss rfl rfl rfl) (h:=?_) (g:=?_))))))))
  ·intro c40; exfalso; omega
  intro c40
  refine vlp (h:=vW (vD (h:=vK (vU (vT (vR (vlA (h:=vlm (h:=vW ?_))))))))); intro A f
  exact ⟨y.zn - (j + 1), by omega, j + 1, rfl, by omega, f.sub ⟨rfl, rfl, rfl, rfl, rfl, rfl, rfl, trivial⟩, B0, rb5, rb19, hyA, hyA1⟩
 intro c28
 refine vW (vS (vD (h:=vX (vH (vH (vI (vT (vS (vR (vlm (h:=vlm (h:=vlm (h:=vlp (h:=vla (h:=vW (vE ?_)))))))))))))))); intro A f
 refine x_ret1 f rfl rfl ?_
 exact ⟨rfl, B0⟩
end Go.Proofs.YtjohdbiipeedkaaGreatDoor
