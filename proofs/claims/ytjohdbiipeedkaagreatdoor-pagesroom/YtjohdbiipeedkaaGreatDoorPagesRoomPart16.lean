/-
  OWN TEXTS.
-/
import Derived.Test.YtjohdbiipeedkaaGreatDoorPart15
import Derived.KernelRfl
set_option maxRecDepth 10000
set_option maxHeartbeats 4000000
namespace Go.Proofs.YtjohdbiipeedkaaGreatDoor
open Go Go.RowKit Go.Proofs.YtjohdbiipeedkaaGreatDoor.Kit
theorem zs_m {H : Hp} (h : ZsOk H) {j : Nat} (hj : j < 2) : ZMay (H.zones.getD j ⟨0, 0, [], []⟩) := by
 rcases (show j = 0 ∨ j = 1 by omega) with rfl | rfl
 ·exact h.m0
 exact h.m1
theorem zone_out {z : Zn} (h : ZMay z) {q : Int} (hn : ¬ (z.f ≤ q ∧ q < z.t)) : Kit.cnt z.free q = 0 := by
 have ha := (free_iff.1 h.free).1
 have n := h.new
 unfold newOk at n
 generalize z.free = l at ha
 induction l with
 | nil => rfl
 | cons b l ih =>
  have hb := (ha b List.mem_cons_self).1
  obtain ⟨b1, b2, b3, b4⟩ := hb
  have e0 : hit b.a b.o q = 0 := by
   unfold hit
   rw [if_neg]
   rcases ord_cases b1 with ⟨_, e⟩ | ⟨_, e⟩ | ⟨_, e⟩ | ⟨_, e⟩ | ⟨_, e⟩ <;> rw [e] at b4 ⊢ <;> omega
  show hit b.a b.o q + Kit.cnt l q = 0
  rw [e0, ih (fun c hc => ha c (List.mem_cons_of_mem _ hc))]
theorem zone_cnt {H : Hp} (h : ZsOk H) {j : Nat} (hj : j < 2) (q : Int) : Kit.cnt (H.zones.getD j ⟨0, 0, [], []⟩).free q = if (H.zones.getD j ⟨0, 0, [], []⟩).f ≤ q ∧ q < (H.zones.getD j ⟨0, 0, [], []⟩).t then zcnt H q else 0 := by
 have e := zcnt_two h.n q
 have f1 := h.f1
 have n0 := h.m0.new
 have n1 := h.m1.new
 unfold newOk at n0 n1
 by_cases hq : (H.zones.getD j ⟨0, 0, [], []⟩).f ≤ q ∧ q < (H.zones.getD j ⟨0, 0, [], []⟩).t
 ·rw [if_pos hq, e]
  rcases (show j = 0 ∨ j = 1 by omega) with rfl | rfl
  ·rw [zone_out h.m1 (q := q) (by omega)]; rfl
  rw [zone_out h.m0 (q := q) (by omega)]; omega
 rw [if_neg hq, zone_out (zs_m h hj) hq]
theorem totN_le {h g : Int → Nat} : ∀ (n : Nat), (∀ i : Int, h i ≤ g i) → totN h n ≤ totN g n
 | 0, _ => Nat.le_refl _
 | n + 1, e => by unfold totN; have := totN_le n e; have := e n; omega
theorem free_tot {H : Hp} (h : ZsOk H) {j : Nat} (hj : j < 2) : (totN (Kit.cnt (H.zones.getD j ⟨0, 0, [], []⟩).free) 256 : Int) = freeN (H.zones.getD j ⟨0, 0, [], []⟩).free :=
 totN_cnt fun b hb => by
  obtain ⟨i, hi, rfl⟩ := List.getElem_of_mem hb
  have := free_inP (zs_m h hj) i hi
  rwa [List.getD_eq_getElem?_getD, List.getElem?_eq_getElem hi] at this
theorem free_mono {H G : Hp} (hH : ZsOk H) (hG : ZsOk G) (hs : SameFT G H) (hc : ∀ q, zcnt H q ≤ zcnt G q) {j : Nat} (hj : j < 2) : freeN (H.zones.getD j ⟨0, 0, [], []⟩).free ≤ freeN (G.zones.getD j ⟨0, 0, [], []⟩).free := by
 have e1 := free_tot hH hj
 have e2 := free_tot hG hj
 have := totN_le (h := Kit.cnt (H.zones.getD j ⟨0, 0, [], []⟩).free) (g := Kit.cnt (G.zones.getD j ⟨0, 0, [], []⟩).free) 256 fun q => by
  rw [zone_cnt hH hj, zone_cnt hG hj, (hs j).1, (hs j).2]
  have := hc q
  split <;> omega
 omega
theorem free_take {H G : Hp} {z : Nat} {o p : Int} (hZ : ZsOk H) (hz : z < 2) (hT : TookOk H G z o p) {j : Nat} (hj : j < 2) : freeN (G.zones.getD j ⟨0, 0, [], []⟩).free + (if j = z then pw o else 0) = freeN (H.zones.getD j ⟨0, 0, [], []⟩).free := by
 have e1 := free_tot hZ hj
 have e2 := free_tot hT.zs hj
 have hb := zone_in256 hZ hz
 have hlo := hT.lo
 have hhi := hT.hi
 have hpw := pw_pos o
 have f1 := hZ.f1
 have n0 := hZ.m0.new
 have n1 := hZ.m1.new
 unfold newOk at n0 n1
 have e3 := totN_hit p o (by omega) 256
 rw [if_neg (by omega)] at e3
 have hpt : ∀ q : Int, Kit.cnt (G.zones.getD j ⟨0, 0, [], []⟩).free q + (if j = z then hit p o q else 0) = Kit.cnt (H.zones.getD j ⟨0, 0, [], []⟩).free q := fun q => by
  rw [zone_cnt hZ hj, zone_cnt hT.zs hj, (hT.ft j).1, (hT.ft j).2]
  have hc := hT.cnt q
  have hh : hit p o q = if p ≤ q ∧ q < p + pw o then 1 else 0 := rfl
  by_cases hq : (H.zones.getD j ⟨0, 0, [], []⟩).f ≤ q ∧ q < (H.zones.getD j ⟨0, 0, [], []⟩).t
  ·rw [if_pos hq, if_pos hq]
   by_cases e : j = z
   ·rw [if_pos e]; exact hc
   rw [if_neg e]
   rw [if_neg (show ¬ (p ≤ q ∧ q < p + pw o) by
    rcases (show (j = 0 ∧ z = 1) ∨ (j = 1 ∧ z = 0) by omega) with ⟨rfl, rfl⟩ | ⟨rfl, rfl⟩ <;> omega)] at hh
   omega
  rw [if_neg hq, if_neg hq]
  by_cases e : j = z
  ·subst e
   rw [if_pos rfl, hh, if_neg (by omega)]
  rw [if_neg e]
 by_cases e : j = z
 ·rw [if_pos e]
  have h4 : totN (Kit.cnt (H.zones.getD j ⟨0, 0, [], []⟩).free) 256 = totN (Kit.cnt (G.zones.getD j ⟨0, 0, [], []⟩).free) 256 + totN (hit p o) 256 := by
   rw [← totN_add]
   exact totN_congr 256 (fun i _ => by have := hpt i; rw [if_pos e] at this; exact this.symm)
  have h5 : (totN (hit p o) 256 : Int) = pw o := by
   rw [e3]; split <;> omega
  omega
 rw [if_neg e]
 have h4 : totN (Kit.cnt (H.zones.getD j ⟨0, 0, [], []⟩).free) 256 = totN (Kit.cnt (G.zones.getD j ⟨0, 0, [], []⟩).free) 256 :=
  totN_congr 256 (fun i _ => by have := hpt i; rw [if_neg e] at this; exact this.symm)
 omega
structure Hel (H0 H : Hp) : Prop where
 mins : H.mins = H0.mins
 free : ∀ j, j < 2 → min (H0.mins.getD j 0) (freeN (H0.zones.getD j ⟨0, 0, [], []⟩).free) ≤ freeN (H.zones.getD j ⟨0, 0, [], []⟩).free
theorem Hel.refl (H : Hp) : Hel H H := ⟨rfl, fun _ _ => Int.min_le_right _ _⟩
theorem Hel.mono {H0 H G : Hp} (h : Hel H0 H) (hH : ZsOk H) (hG : ZsOk G) (hs : SameFT G H) (hc : ∀ q, zcnt H q ≤ zcnt G q) (hm : G.mins = H.mins) : Hel H0 G :=
 ⟨hm.trans h.mins, fun j hj => Int.le_trans (h.free j hj) (free_mono hH hG hs hc hj)⟩
theorem Hel.lists {H0 H : Hp} (h : Hel H0 H) (l : List Ls) (v : List Bk) : Hel H0 { H with lists := l, live := v } := ⟨h.mins, h.free⟩
theorem Hel.take {H0 H G : Hp} {z : Nat} {o fl p : Int} (h : Hel H0 H) (hZ : ZsOk H) (hz : z < 2) (ho : ordOk o) (hu : ¬ 8 ≤ fl) (ht : takeGH H z o fl = some (G, p)) : Hel H0 G := by
 have hT := takeH_took hZ hz ho ht
 obtain ⟨hn, _⟩ := takeH_some ht
 refine ⟨hT.mins.trans h.mins, fun j hj => ?_⟩
 have e := free_take hZ hz hT hj
 have n1 := hZ.m1.new
 unfold newOk at n1
 by_cases hjz : j = z
 ·subst hjz
  rw [if_pos rfl] at e
  unfold heldH at hn
  rw [if_neg hu, h.mins] at hn
  refine Int.le_trans (Int.min_le_left _ _) ?_
  split at hn <;> omega
 rw [if_neg hjz] at e
 have := h.free j hj
 omega
theorem Hel.more {H0 : Hp} {fl : Int} (hu : ¬ 8 ≤ fl) {z : Nat} (hz : z < 2) : ∀ (n : Nat) (H : Hp) (l : List Int), Hel H0 H → ZsOk H → Hel H0 (moreH n H z fl l).1
 | 0, H, l, h, _ => h
 | n + 1, H, l, h, hZ => by
  unfold moreH
  cases e : takeGH H z 0 fl with
  | none => exact h
  | some r =>
   obtain ⟨G, p⟩ := r
   have ho : ordOk 0 := by unfold ordOk; omega
   exact Hel.more hu hz n G _ (h.take hZ hz ho hu e) (takeH_took hZ hz ho e).zs
theorem Hel.single {H0 H G : Hp} {cpu : Int} {z : Nat} {fl p : Int} (h : Hel H0 H) (hZ : ZsOk H) (hz : z < 2) (hu : ¬ 8 ≤ fl) (hs : singleH H cpu z fl = some (G, p)) : Hel H0 G := by
 unfold singleH at hs
 split at hs
 ·cases hs
  exact ⟨h.mins, h.free⟩
 cases e : takeGH H z 0 fl with
 | none => rw [e] at hs; cases hs
 | some r =>
  obtain ⟨F, q⟩ := r
  rw [e] at hs
  cases hs
  have ho : ordOk 0 := by unfold ordOk; omega
  have hF := Hel.more hu hz 3 F [] (h.take hZ hz ho hu e) (takeH_took hZ hz ho e).zs
  exact ⟨hF.mins, hF.free⟩
theorem Hel.try_ {H0 H G : Hp} {cpu : Int} {z : Nat} {o fl p : Int} (h : Hel H0 H) (hZ : ZsOk H) (hz : z < 2) (ho : ordOk o) (hu : ¬ 8 ≤ fl) (hs : tryH H cpu z o fl = some (G, p)) : Hel H0 G := by
 unfold tryH at hs
 split at hs
 ·exact h.single hZ hz hu hs
 exact h.take hZ hz ho hu hs
theorem Hel.find {H0 H G : Hp} {cpu o fl p : Int} (h : Hel H0 H) (hZ : ZsOk H) (ho : ordOk o) (hu : ¬ 8 ≤ fl) (hs : findH H cpu o fl = some (G, p)) : Hel H0 G := by
 unfold findH at hs
 split at hs
 ·exact h.try_ hZ (by omega) ho hu hs
 cases e : tryH H cpu 1 o fl with
 | some r => rw [e] at hs; cases hs; exact h.try_ hZ (by omega) ho hu e
 | none => rw [e] at hs; exact h.try_ hZ (by omega) ho hu hs
theorem Hel.empty {H0 H : Hp} (h : Hel H0 H) (hM : HMay H) : Hel H0 (emptyH H) := by
 refine h.mono hM.zs (emptyH_zs hM) (fun i => by have h := backs_ft i (H.lists.flatMap (·.pages)) H; exact h) (fun q => ?_) (emptyH_rest H).1
 have a2 : zcnt (emptyH H) q = zcnt H q + lcnt H.lists q := hM.canBacks.2.2 q
 omega
theorem keep_lcnt {H : Hp} {cpu p : Int} (hL : LssOk H) (q : Int) : lcnt (keepH H cpu p).lists q ≤ lcnt H.lists q + hit p 0 q := by
 have hr := riseP_ls hL
 unfold keepH
 obtain ⟨X, hX⟩ : ∃ X, lsPages H.lists ⟨cpu, (zIdx H p : Nat), typeZ (H.zones.getD (zIdx H p) ⟨0, 0, [], []⟩) p, []⟩ = X := ⟨_, rfl⟩
 have key : ∀ P : List Int, (Kit.cnt (P.map pgB) q ≤ Kit.cnt ((X ++ [p]).map pgB) q) → lcnt (setLs H.lists ⟨cpu, (zIdx H p : Nat), typeZ (H.zones.getD (zIdx H p) ⟨0, 0, [], []⟩) p, P⟩) q ≤ lcnt H.lists q + hit p 0 q := fun P hP => by
  have a := setLs_cnt hr ⟨cpu, (zIdx H p : Nat), typeZ (H.zones.getD (zIdx H p) ⟨0, 0, [], []⟩) p, P⟩ q
  have e : lsPages H.lists ⟨cpu, (zIdx H p : Nat), typeZ (H.zones.getD (zIdx H p) ⟨0, 0, [], []⟩) p, P⟩ = X := hX
  rw [e] at a
  rw [cnt_pgs, cnt_pg1] at hP
  dsimp only at a
  omega
 rw [hX]
 split
 ·refine key _ ?_
  have e : Kit.cnt ((X ++ [p]).map pgB) q = Kit.cnt (((X ++ [p]).take 4).map pgB) q + Kit.cnt (((X ++ [p]).drop 4).map pgB) q := by rw [← cnt_pgs, List.take_append_drop]
  omega
 exact key _ (Nat.le_refl _)
theorem release_mins (H : Hp) (cpu : Int) (b : Bk) : (releaseH H cpu b).mins = H.mins := by
 unfold releaseH
 split
 ·rfl
 unfold keepH
 split
 ·exact (backs_lists _ _).2.1
 rfl
theorem Hel.free' {H0 H : Hp} {cpu : Int} {i : Nat} (h : Hel H0 H) (hM : HMay H) (hc : 0 ≤ cpu ∧ cpu ≤ H.cpus - 1) (hi : i < H.live.length) : Hel H0 (releaseH { H with live := H.live.eraseIdx i } cpu (H.live.getD i .zero)) := by
 have hR := release_may hM hc hi
 have hmn := release_mins { H with live := H.live.eraseIdx i } cpu (H.live.getD i .zero)
 refine h.mono hM.zs hR.1.zs hR.2.2.2.1 (fun q => ?_) hmn
 have ho := hR.2.2.2.2 q
 unfold occ at ho
 rw [hR.2.1] at ho
 have hcl : Kit.cnt H.live q = hit (H.live.getD i .zero).a (H.live.getD i .zero).o q + Kit.cnt (H.live.eraseIdx i) q := by
  have hp := erase_perm hi
  have e : H.live.getD i .zero = H.live[i] := by rw [List.getD_eq_getElem?_getD, List.getElem?_eq_getElem hi]; rfl
  rw [e]
  have hpp := (cnt_pr H.live q).trans ((cntP_perm (hp.map prB).symm q).trans (cnt_pr (H.live[i] :: H.live.eraseIdx i) q).symm)
  exact hpp
 have hL : lcnt (releaseH { H with live := H.live.eraseIdx i } cpu (H.live.getD i .zero)).lists q ≤ lcnt H.lists q + hit (H.live.getD i .zero).a (H.live.getD i .zero).o q := by
  unfold releaseH
  split
  ·have : (backH { H with live := H.live.eraseIdx i } (H.live.getD i .zero).a (H.live.getD i .zero).o).lists = H.lists := rfl
   rw [this]; omega
  rename_i h0
  have hb := (hM.lv.ok i hi).o
  have e0 : (H.live.getD i .zero).o = 0 := by unfold ordOk at hb; omega
  rw [e0]
  have hLs : LssOk { H with live := H.live.eraseIdx i } := lssOk_ft hM.ls rfl rfl (fun _ => ⟨rfl, rfl⟩)
  exact keep_lcnt hLs q
 omega
theorem hel_clo (H0 : Hp) {fls : Int → Prop} (hf : ∀ fl, fls fl → ¬ 8 ≤ fl) : Clo fls (Hel H0) where
 alloc := fun H G cpu o fl p hM h hfl ho hc hd => by
  have hG : Hel H0 G := by
   unfold find2H at hd
   cases e : findH H cpu o fl with
   | some r => rw [e] at hd; cases hd; exact h.find hM.zs ho (hf fl hfl) e
   | none => rw [e] at hd; exact (h.empty hM).find (emptyH_zs hM) ho (hf fl hfl) hd
  exact ⟨hG.mins, hG.free⟩
 free := fun H cpu i hM h hc hi => h.free' hM hc hi
 drain := fun H hM h => h.empty hM
def zK (x : Hx) (k : Nat) : Int := freeN ((x.zs.take k).flatMap (fun z => z.z.free))
def lK (x : Hx) (k : Nat) : Int := (((x.ls.take k).flatMap (fun l => l.l.pages)).length : Nat)
theorem freeN_take {z : Zn} (h : ZMay z) (j : Nat) : 0 ≤ freeN (z.free.take j) ∧ freeN (z.free.take j) ≤ 256 := by
 refine ⟨freeN_nn _, ?_⟩
 have n := h.new
 unfold newOk at n
 have h1 := freeN_le h.free n.2.2.2.2 n.2.1
 have e : freeN z.free = freeN (z.free.take j) + freeN (z.free.drop j) := by rw [← freeN_app, List.take_append_drop]
 have := freeN_nn (z.free.drop j)
 omega
theorem freeN_take1 {l : List Bk} {j : Nat} (hj : j < l.length) : freeN (l.take (j + 1)) = freeN (l.take j) + pw (l.getD j .zero).o := by
 rw [List.take_succ_eq_append_getElem hj, freeN_snoc, List.getD_eq_getElem?_getD, List.getElem?_eq_getElem hj]
 rfl
end Go.Proofs.YtjohdbiipeedkaaGreatDoor
namespace Go.Proofs.YtjohdbiipeedkaaGreatDoor.Kit
theorem fidx_has {g : Bk → Bool} {l : List Bk} {b : Bk} (hb : b ∈ l) (hg : g b = true) : 0 ≤ fidx g l := by
 induction l with
 | nil => simp at hb
 | cons x l ih =>
  show 0 ≤ (if g x = true then (0 : Int) else if fidx g l < 0 then -1 else fidx g l + 1)
  by_cases hx : g x = true
  ·rw [if_pos hx]; omega
  rw [if_neg hx]
  have hm : b ∈ l := by
   rcases List.mem_cons.1 hb with rfl | hm
   ·exact absurd hg hx
   exact hm
  have := ih hm
  rw [if_neg (by omega)]
  omega
theorem upI_has {l : List Bk} {t : Int} : ∀ (n : Nat) (o : Int) (k : Nat), k < n → 0 ≤ fidx (isT (o + k) t) l → 0 ≤ upI l t n o := by
 intro n
 induction n with
 | zero => intro o k hk; omega
 | succ n ih =>
  intro o k hk hf
  unfold upI
  split
  ·assumption
  rename_i hno
  cases k with
  | zero => exact absurd (by simpa using hf) hno
  | succ k => exact ih (o + 1) k (by omega) (by rw [show o + 1 + (k : Int) = o + ((k + 1 : Nat) : Int) by omega]; exact hf)
theorem dnI_has {l : List Bk} {u v o : Int} : ∀ (n : Nat) (k : Nat), k < n → (0 ≤ fidx (isT (o + k) u) l ∨ 0 ≤ fidx (isT (o + k) v) l) → 0 ≤ dnI l u v o n := by
 intro n
 induction n with
 | zero => intro k hk; omega
 | succ n ih =>
  intro k hk hf
  unfold dnI
  split
  ·assumption
  split
  ·assumption
  rename_i h1 h2
  by_cases hkn : k = n
  ·subst hkn
   rcases hf with hf | hf
   ·exact absurd hf h1
   exact absurd hf h2
  exact ih k (by omega) hf
theorem choose_iff {l : List Bk} {o t : Int} (hl : ∀ b ∈ l, ordOk b.o ∧ typeOk b.t) (ho : ordOk o) (ht : typeOk t) : 0 ≤ chooseI l o t ↔ ∃ b ∈ l, o ≤ b.o := by
 constructor
 ·intro h
  obtain ⟨i, _, hi, hob⟩ := choose_in h
  exact ⟨_, getB_mem hi, hob⟩
 rintro ⟨b, hb, hob⟩
 obtain ⟨⟨b0, b4⟩, ⟨c0, c2⟩⟩ := hl b hb
 have hk : (b.o - o).toNat < (5 - o).toNat := by have := ho.1; omega
 have e : o + ((b.o - o).toNat : Int) = b.o := by omega
 unfold chooseI
 split
 ·assumption
 rename_i hno
 refine dnI_has _ (b.o - o).toNat hk ?_
 rw [e]
 by_cases h1 : b.t = t
 ·exact absurd (upI_has _ o (b.o - o).toNat hk (by rw [e]; exact fidx_has hb (decide_eq_true ⟨rfl, h1⟩))) hno
 obtain ⟨t0, t2⟩ := ht
 by_cases h2 : b.t = other1 t
 ·exact .inl (fidx_has hb (decide_eq_true ⟨rfl, h2⟩))
 refine .inr (fidx_has hb (decide_eq_true ⟨rfl, ?_⟩))
 unfold other1 at h2
 unfold other2
 split at h2 <;> split <;> omega
def zone0 : Zn := ⟨16, 112, [⟨18, 1, 1⟩, ⟨20, 2, 1⟩, ⟨24, 3, 1⟩, ⟨32, 4, 1⟩, ⟨48, 4, 1⟩, ⟨64, 4, 1⟩, ⟨80, 4, 1⟩, ⟨96, 3, 1⟩, ⟨104, 2, 1⟩], [1, 1, 1, 1, 1, 1, 1, 1, 1, 1, 1, 1]⟩
end Go.Proofs.YtjohdbiipeedkaaGreatDoor.Kit
namespace Go.Proofs.YtjohdbiipeedkaaGreatDoor
open Go Go.RowKit Go.Proofs.YtjohdbiipeedkaaGreatDoor.Kit
theorem block_up {z u : Zn} (hz : ZMay z) (hu : ZMay u) (hc : ∀ q, Kit.cnt z.free q ≤ Kit.cnt u.free q) {b : Bk} (hb : b ∈ z.free) : ∃ c ∈ u.free, b.o ≤ c.o := by
 have h1 := free_iff.1 hz.free
 have h2 := free_iff.1 hu.free
 obtain ⟨⟨o0, o4⟩, _, _, al⟩ := (h1.1 b hb).1
 have e : ((b.o.toNat : Nat) : Int) = b.o := by omega
 obtain ⟨c, hc', g1, g2⟩ := whole_in h2.1 h2.2 b.o.toNat b.a (by omega) (by rw [e]; exact al) (fun p q1 q2 => by
  rw [e] at q2
  have := hc p
  have := cnt_pos.2 ⟨b, hb, q1, q2⟩
  omega)
 rw [e] at g2
 obtain ⟨co, _, _, _⟩ := (h2.1 c hc').1
 refine ⟨c, hc', ?_⟩
 have ep : pw b.o ≤ pw c.o := by omega
 rcases ord_cases (o := b.o) ⟨o0, o4⟩ with ⟨q, w1⟩ | ⟨q, w1⟩ | ⟨q, w1⟩ | ⟨q, w1⟩ | ⟨q, w1⟩ <;> rcases ord_cases (o := c.o) co with ⟨r, w2⟩ | ⟨r, w2⟩ | ⟨r, w2⟩ | ⟨r, w2⟩ | ⟨r, w2⟩ <;> rw [w1, w2] at ep <;> omega
def canZ (D : Hp) (o : Int) (z : Nat) : Bool := (D.zones.getD z ⟨0, 0, [], []⟩).free.any (fun b => decide (o ≤ b.o)) && decide (heldH D z 0 ≤ freeN (D.zones.getD z ⟨0, 0, [], []⟩).free - pw o)
def canU (D : Hp) (o : Int) : Nat → Bool
 | 0 => false
 | n + 1 => canU D o n || canZ D o n
theorem take_can {D : Hp} {z : Nat} {o : Int} (hZ : ZsOk D) (hz : z < 2) (ho : ordOk o) : canZ D o z = true ↔ ∃ r, takeGH D z o 0 = some r := by
 have hm := zs_m hZ hz
 have hl : ∀ b ∈ (D.zones.getD z ⟨0, 0, [], []⟩).free, ordOk b.o ∧ typeOk b.t := fun b hb => by
  have h := (free_iff.1 hm.free).1 b hb
  exact ⟨h.1.1, h.2⟩
 have hci := choose_iff hl ho (typeF_ok 0)
 unfold canZ takeGH
 rw [Bool.and_eq_true, decide_eq_true_eq, List.any_eq_true]
 constructor
 ·rintro ⟨⟨b, hb, hd⟩, h2⟩
  have h3 := hci.2 ⟨b, hb, of_decide_eq_true hd⟩
  rw [if_neg (by omega), if_neg (by omega)]
  exact ⟨_, rfl⟩
 rintro ⟨r, hr⟩
 by_cases h1 : freeN (D.zones.getD z ⟨0, 0, [], []⟩).free - pw o < heldH D z 0
 ·rw [if_pos h1] at hr; cases hr
 rw [if_neg h1] at hr
 by_cases h2 : chooseI (D.zones.getD z ⟨0, 0, [], []⟩).free o (typeF 0) < 0
 ·rw [if_pos h2] at hr; cases hr
 obtain ⟨b, hb, hd⟩ := hci.1 (by omega)
 exact ⟨⟨b, hb, decide_eq_true hd⟩, by omega⟩
theorem held_ft {H G : Hp} (hs : SameFT G H) (hm : G.mins = H.mins) (z : Nat) (fl : Int) : heldH G z fl = heldH H z fl := by
 unfold heldH
 rw [hm, (hs 1).1, (hs 1).2]
theorem can_mono {H G : Hp} {z : Nat} {o : Int} (hH : ZsOk H) (hG : ZsOk G) (hs : SameFT G H) (hm : G.mins = H.mins) (hc : ∀ q, zcnt H q ≤ zcnt G q) (hz : z < 2) (h : canZ H o z = true) : canZ G o z = true := by
 unfold canZ at h ⊢
 rw [Bool.and_eq_true, decide_eq_true_eq, List.any_eq_true] at h ⊢
 obtain ⟨⟨b, hb, hd⟩, h2⟩ := h
 have hd := of_decide_eq_true hd
 have hp : ∀ q, Kit.cnt (H.zones.getD z ⟨0, 0, [], []⟩).free q ≤ Kit.cnt (G.zones.getD z ⟨0, 0, [], []⟩).free q := fun q => by
  rw [zone_cnt hH hz, zone_cnt hG hz, (hs z).1, (hs z).2]
  have := hc q
  split <;> omega
 obtain ⟨c, hc', hbc⟩ := block_up (zs_m hH hz) (zs_m hG hz) hp hb
 have hf := free_mono hH hG hs hc hz
 rw [held_ft hs hm]
 exact ⟨⟨c, hc', decide_eq_true (by omega)⟩, by omega⟩
theorem empty_same {H : Hp} (h : H.lists = []) : emptyH H = H := by
 unfold emptyH
 rw [h]
 show { H with lists := [] } = H
 rw [← h]
theorem empty_le {H : Hp} (hM : HMay H) (q : Int) : zcnt H q ≤ zcnt (emptyH H) q := by
 have a2 : zcnt (emptyH H) q = zcnt H q + lcnt H.lists q := hM.canBacks.2.2 q
 omega
theorem empty_ft (H : Hp) : SameFT (emptyH H) H := fun i => by have h := backs_ft i (H.lists.flatMap (·.pages)) H; exact h
theorem try_empty {D : Hp} (hl : D.lists = []) {cpu : Int} {z : Nat} {o : Int} : (∃ r, tryH D cpu z o 0 = some r) ↔ ∃ r, takeGH D z o 0 = some r := by
 unfold tryH
 by_cases h : o = 0
 ·rw [if_pos h]
  subst h
  unfold singleH
  have e : lsPages D.lists ⟨cpu, (z : Nat), typeF 0, []⟩ = [] := by rw [hl]; rfl
  rw [e, if_neg (show ¬ 0 < ([] : List Int).length by simp)]
  cases takeGH D z 0 0 with
  | none => simp
  | some r => obtain ⟨G, p⟩ := r; simp
 rw [if_neg h]
theorem find_can {D : Hp} (hZ : ZsOk D) (hl : D.lists = []) {cpu o : Int} (ho : ordOk o) : (∃ r, findH D cpu o 0 = some r) ↔ canU D o 2 = true := by
 have e0 := (take_can (D := D) (z := 0) hZ (by omega) ho).trans (try_empty hl (cpu := cpu)).symm
 have e1 := (take_can (D := D) (z := 1) hZ (by omega) ho).trans (try_empty hl (cpu := cpu)).symm
 have eu : canU D o 2 = (canZ D o 0 || canZ D o 1) := by simp [canU]
 rw [eu, Bool.or_eq_true, e0, e1]
 unfold findH
 rw [if_neg (by omega)]
 cases h1 : tryH D cpu 1 o 0 with
 | some r => exact ⟨fun _ => .inr ⟨r, rfl⟩, fun _ => ⟨r, rfl⟩⟩
 | none =>
  constructor
  ·intro h; exact .inl h
  rintro (h | ⟨r, h⟩)
  ·exact h
  cases h
theorem room_yes {H : Hp} (hM : HMay H) {cpu o : Int} (ho : ordOk o) (h : canU (emptyH H) o 2 = true) : ∃ r, find2H H cpu o 0 = some r := by
 obtain ⟨r, hr⟩ := (find_can (emptyH_zs hM) (emptyH_rest H).2.2.2 (cpu := cpu) ho).2 h
 unfold find2H
 cases e : findH H cpu o 0 with
 | some r => exact ⟨r, rfl⟩
 | none => exact ⟨r, hr⟩
theorem room_no {H : Hp} (hM : HMay H) {cpu o : Int} (ho : ordOk o) (h : canU (emptyH H) o 2 = false) : find2H H cpu o 0 = none ∨ (o = 0 ∧ H.lists ≠ []) := by
 have hn : ∀ r, findH (emptyH H) cpu o 0 ≠ some r := fun r hr => by
  have := (find_can (emptyH_zs hM) (emptyH_rest H).2.2.2 (cpu := cpu) ho).1 ⟨r, hr⟩
  rw [this] at h; cases h
 have hnone : findH (emptyH H) cpu o 0 = none := by
  cases e : findH (emptyH H) cpu o 0 with
  | none => rfl
  | some r => exact absurd e (hn r)
 by_cases hl : H.lists = []
 ·rw [empty_same hl] at hnone hn
  refine .inl ?_
  unfold find2H
  rw [hnone, empty_same hl]
  exact hnone
 by_cases h0 : o = 0
 ·exact .inr ⟨h0, hl⟩
 refine .inl ?_
 unfold find2H
 have hz : ∀ z, z < 2 → tryH H cpu z o 0 = none := fun z hz => by
  cases e : tryH H cpu z o 0 with
  | none => rfl
  | some r =>
   exfalso
   unfold tryH at e
   rw [if_neg h0] at e
   have c1 := (take_can hM.zs hz ho).2 ⟨r, e⟩
   have c2 := can_mono hM.zs (emptyH_zs hM) (empty_ft H) (emptyH_rest H).1 (empty_le hM) hz c1
   have : canU (emptyH H) o 2 = true := by
    rcases (show z = 0 ∨ z = 1 by omega) with rfl | rfl <;> simp [canU, c2]
   rw [this] at h; cases h
 have e : findH H cpu o 0 = none := by
  unfold findH
  rw [if_neg (by omega), hz 1 (by omega), hz 0 (by omega)]
 rw [e]
 exact hnone
theorem mins_clo (H0 : Hp) (fls : Int → Prop) : Clo fls (fun H => H.mins = H0.mins) where
 alloc := fun H G cpu o fl p hM h _ ho hc hd => by
  show G.mins = _
  rw [← h]
  unfold find2H at hd
  cases e : findH H cpu o fl with
  | some r => rw [e] at hd; cases hd; exact (find_ok hM.zs hM.ls ho (by omega) e).mins
  | none =>
   rw [e] at hd
   exact (find_ok (emptyH_zs hM) (emptyH_ls H) ho (by rw [(emptyH_rest H).2.1]; omega) hd).mins.trans (emptyH_rest H).1
 free := fun H cpu i _ h _ _ => (release_mins _ _ _).trans h
 drain := fun H _ h => (emptyH_rest H).1.trans h
def ErR (H : Hp) (o er : Int) : Prop := (er = 6 ∧ find2H H 0 o 0 = none) ∨ (er = 0 ∧ ∃ r, find2H H 0 o 0 = some r)
theorem pAlloc_er (w : World) (x : Hx) (o : Int) (hx : x.At w) (hM : HMay x.hp) (hT : TabAt w) (hc : (0 : Int) ≤ 0 ∧ (0 : Int) ≤ x.cpus - 1) (ho : ordOk o) :
    Calls Tryz.prog 22 #[.agg #[.slice x.zo x.zn x.zc, .slice x.mo x.mn x.mc, .int .i64 x.cpus, .slice x.lo x.ln x.lc, .slice x.vo x.vn x.vc], .int .i64 0, .int .i64 o, .int .i64 0] w fun e w' => (∃ v0 v1 v2 v3 v4 p er, e = .returned (.tuple #[.agg #[v0, v1, v2, v3, v4], .int .i64 p, .int .i64 er]) ∧ v0.oneCell' = true ∧ v1.oneCell' = true ∧ v2.oneCell' = true ∧ v3.oneCell' = true ∧ v4.oneCell' = true ∧ ErR x.hp o er) ∧ Below w.heap.size w w' := by
 refine (pAlloc_fr w x 0 o 0 hx hM hT hc ho (by decide) (by decide) (by decide)).mono ?_
 rintro e w' ⟨⟨h1, rfl⟩ | ⟨y2, G, p, h1, rfl, h2, h3, h4⟩, hb⟩
 ·exact ⟨⟨_, _, _, _, _, _, _, rfl, rfl, rfl, rfl, rfl, rfl, .inl ⟨rfl, h1⟩⟩, hb⟩
 exact ⟨⟨_, _, _, _, _, _, _, rfl, rfl, rfl, rfl, rfl, rfl, .inr ⟨rfl, _, h1⟩⟩, hb⟩
theorem zn_of {w : World} {y : Hx} {j : Nat} {z : Zn} {fo to_ : Option Addr} {fn fc tn tc : Nat} (h : y.At w) (hX : Hid (y.zs.getD j .zero = ⟨z, fo, fn, fc, to_, tn, tc⟩)) (hj : j < y.zn) : ZnAt w fo fn to_ tn z := by
 obtain ⟨_, _, _, _, _, _, _, _, _, _, _, _, _, _, hat, hX'⟩ := h.zones.at j hj
 have e := hX'.out.symm.trans hX.out
 cases e
 exact hat
theorem held_new {H G : Hp} {D : List (Int × Int)} {split least cpus : Int} (hN : NewH H D split least cpus) (hM : HMay H) (hsp : (H.zones.getD 0 ⟨0, 0, [], []⟩).t = split) (hft : SameFT G H) (hm : G.mins = H.mins) (hG : HMay G) (j : Nat) (hj : j < 2) : heldH G j 0 = least + (if j = 0 then (256 - split) / 32 else 0) := by
 have e1 : G.mins.getD j 0 = least := by
  rw [hm]
  obtain ⟨Z0, Z1, _, _, rfl⟩ := hN
  rcases (show j = 0 ∨ j = 1 by omega) with rfl | rfl <;> rfl
 unfold heldH
 rw [e1, if_neg (by omega), hG.zs.t1, (hft 1).1, hM.zs.f1, hsp]
 congr 1
 by_cases h : j = 0
 ·rw [if_pos ⟨h, rfl⟩, if_pos h]
 rw [if_neg (fun g => h g.1), if_neg h]
theorem prF_c (w : World) (b : Bk) (g : Nat) (o : Int) (hq : St w ⟨g, 0, none⟩ (.int .i64 o)) :
    Calls Tryz.prog 24 #[.agg #[.int .i64 b.a, .int .i64 b.o, .int .i64 b.t], .pointer (some ⟨g, 0, none⟩)] w fun e w' => e = .returned (.bool (decide (o ≤ b.o))) ∧ Below w.heap.size w w' := by
 have B0 := Below.refl w.heap.size w
 refine sx_enter (args := [_, _]) 8 Tryz.func24 rfl rfl rfl ?_
 refine vS (vR ?_); intro A f
 refine l_box f rfl rfl rfl rfl rfl ?_; clear f A; intro b1 W2 eb1 hb3 rb1 A f; dsimp only [Value.cells] at rb1
 have z_B0_b1 := B0.size; rw [eb1] at z_B0_b1
 replace B0 := Below.next B0 hb3
 revert A; refine vla (h:=vW (vS (vR (vlf (h:=vl1 (rowq rb1) (h:=vld (y_load1 rfl rfl (ag rfl) (St.q hq B0)) (h:=vld (y_geq rfl rfl rfl) (h:=vla (h:=vW (vE ?_)))))))))); intro A f
 refine x_ret1 f rfl rfl ?_
 exact ⟨rfl, B0⟩
theorem pagesRoom_walk (ao : Option Addr) (n cap : Nat) (l : List Raw4) (a b c d : Int) (w : World) (h : IsRaws w ao n cap l) (wa : (Lit.int .i64 a).wf = true) (wb : (Lit.int .i64 b).wf = true) (wc : (Lit.int .i64 c).wf = true) (wd : (Lit.int .i64 d).wf = true) (hT : TabAt w) :
    Calls Tryz.prog 6 #[.slice ao n cap, .int .i64 a, .int .i64 b, .int .i64 c, .int .i64 d] w fun e w' => e = .returned (.bool true) ∧ Below w.heap.size w w' := by
 have B0 := Below.refl w.heap.size w
 refine sx_enter (args := [_, _, _, _, _]) 135 Tryz.func6 rfl rfl rfl ?_
 refine vS (vR (vla (h:=vW (vS (vR (vlm (h:=vlm (h:=vlm (h:=?_))))))))); intro A f
 refine l_call f rfl rfl rfl (IsCall.mk' (cap := []) rfl rfl rfl) (pl rfl) (setup_c _ a b c wa wb wc) ?_
 clear f A
 rintro _ W1 ⟨gm, gr, rfl, hm, hr, hb2⟩
 refine ⟨_, rfl, ?_⟩
 intro A f
 replace B0 := Below.next B0 hb2
 refine l_as (z := .agg #[.slice none 0 0, .slice none 0 0, .int .i64 0, .int .i64 0, .int .i64 0]) f rfl rfl rfl rfl (by kernel_rfl) rfl rfl (fun _ => rfl) (fun _ => rfl) rfl (by intro u hu; simp [Value.cells] at hu; rcases hu with rfl | rfl | rfl | rfl | rfl <;> rfl) ?_; clear f A; intro b3 W4 eb3 hb5 rb3 A f
 dsimp only [Value.cells] at rb3
 have hpb3 := hb5
 have z_B0_b3 := B0.size; rw [eb3] at z_B0_b3
 replace B0 := Below.next B0 hb5; replace hm := hm.below hb5; replace hr := hr.below hb5
 revert A; refine vW (vS (vR (vlm (h:=vl5 (rowq rb3) (h:=?_))))); intro A f
 refine l_call f rfl rfl rfl (IsCall.mk' (cap := []) rfl rfl rfl) (pl rfl) (paged_c _ ao n cap cap l (raws_below h B0) (some ⟨gm, 0, none⟩) 2 2 (suM a b c) (some ⟨gr, 0, none⟩) 2 2 (suR a b c) hm hr ⟨suM_may a b c, suR_may a b c⟩ _ rfl (su_drawn a b c) (16 * (pickN a 9 : Int)) (pickN b 12 : Int) (1 + (pickN c 4 : Int)) 70 (1 + pickN c 4) (su_new a b c).2.2 (su_new a b c).1 (su_new a b c).2.1 (hT.below B0)) ?_
 clear f A
 rintro _ W6 ⟨H, y, aw, vo, vn, vc, rfl, hNH, hI, hz, hRc, hb7⟩
 refine ⟨_, rfl, ?_⟩
 intro A f
 replace B0 := Below.next B0 hb7; replace hm := hm.below hb7; replace hr := hr.below hb7; replace rb3 := row_next rb3 hb7
 revert A; refine vlm (h:=?_)
 have hNM := new_may hNH (su_new a b c).2.1
 refine vle (h:=vle (h:=vle (h:=?_))); intro A f
 refine l_as (z := .agg #[.slice none 0 0, .slice none 0 0, .int .i64 0, .slice none 0 0, .slice none 0 0]) f rfl rfl rfl rfl (by kernel_rfl) rfl rfl (fun _ => rfl) (fun _ => rfl) rfl (by intro u hu; simp [Value.cells] at hu; rcases hu with rfl | rfl | rfl | rfl | rfl <;> rfl) ?_; clear f A; intro b8 W9 eb8 hb10 rb8 A f
 dsimp only [Value.cells] at rb8
 have hpb8 := hb10
 have o_b3_b8 : b3 < b8 := by have := row_lt rb3; omega
 have z_B0_b8 := B0.size; rw [eb8] at z_B0_b8
 replace B0 := Below.next B0 hb10; replace hm := hm.below hb10; replace hr := hr.below hb10; replace hI := hI.below hb10; replace rb3 := row_next rb3 hb10
 revert A; refine vla (h:=vla (h:=vW (vS (vR (vlm (h:=vlc (c_same (picked_fn d 5 5 rfl wd (by omega) (by omega) _)) (h:=?_))))))); intro W11 hb12; replace B0 := Below.next B0 hb12; replace hm := hm.below hb12; replace hr := hr.below hb12; replace hI := hI.below hb12; replace rb3 := row_next rb3 hb12; replace rb8 := row_next rb8 hb12
 have hd5 := pickN_lt d 5 (by omega)
 obtain ⟨od, hod0⟩ : ∃ od : Int, (pickN d 5 : Int) = od := ⟨_, rfl⟩
 intro A f
 rw [hod0] at f
 have hod : ordOk od := by unfold ordOk; omega
 refine l_as (z := .int .i64 0) f rfl rfl rfl rfl (by kernel_rfl) rfl rfl (fun _ => rfl) (fun _ => rfl) rfl (by intro u hu; simp [Value.cells] at hu; rcases hu with rfl <;> rfl) ?_; clear f A; intro b13 W14 eb13 hb15 rb13 A f
 dsimp only [Value.cells] at rb13
 have hpb13 := hb15
 have o_b3_b13 : b3 < b13 := by have := row_lt rb3; omega
 have o_b8_b13 : b8 < b13 := by have := row_lt rb8; omega
 have z_B0_b13 := B0.size; rw [eb13] at z_B0_b13
 replace B0 := Below.next B0 hb15; replace hm := hm.below hb15; replace hr := hr.below hb15; replace hI := hI.below hb15; replace rb3 := row_next rb3 hb15; replace rb8 := row_next rb8 hb15
 revert A; refine vW (vS (vR (vl5 (rowq rb8) (h:=vl1 (rowq rb13) (h:=?_)))))
 have hyc : y.cpus = 1 + (pickN c 4 : Int) := hI.cpus.trans hNM.2.2.2.1
 intro A f
 refine l_call f rfl rfl rfl (IsCall.mk' (cap := []) rfl rfl rfl) (pl rfl) (pAlloc_er _ y od hI.at_ hI.may (hT.below B0) (by omega) hod) ?_
 clear f A
 rintro _ W16 ⟨⟨v0, v1, v2, v3, v4, p, er, rfl, o0, o1, o2, o3, o4, hER⟩, hb17⟩
 refine ⟨_, rfl, ?_⟩
 intro A f
 replace B0 := Below.next B0 hb17; replace hm := hm.below hb17; replace hr := hr.below hb17; replace hI := hI.below hb17; replace rb3 := row_next rb3 hb17; replace rb8 := row_next rb8 hb17; replace rb13 := row_next rb13 hb17
 revert A; refine vlm (h:=vle (h:=vle (h:=vle (h:=?_)))); intro A f
 refine l_as (z := .agg #[.slice none 0 0, .slice none 0 0, .int .i64 0, .slice none 0 0, .slice none 0 0]) f rfl rfl rfl rfl (by kernel_rfl) rfl rfl (fun _ => rfl) (fun _ => rfl) rfl (by intro u hu; simp [Value.cells] at hu; rcases hu with rfl | rfl | rfl | rfl | rfl <;> assumption) ?_; clear f A; intro b18 W19 eb18 hb20 rb18 A f
 dsimp only [Value.cells] at rb18
 have hpb18 := hb20
 have o_b3_b18 : b3 < b18 := by have := row_lt rb3; omega
 have o_b8_b18 : b8 < b18 := by have := row_lt rb8; omega
 have o_b13_b18 : b13 < b18 := by have := row_lt rb13; omega
 have z_B0_b18 := B0.size; rw [eb18] at z_B0_b18
 replace B0 := Below.next B0 hb20; replace hm := hm.below hb20; replace hr := hr.below hb20; replace hI := hI.below hb20; replace rb3 := row_next rb3 hb20; replace rb8 := row_next rb8 hb20; replace rb13 := row_next rb13 hb20
 revert A; refine vla (h:=vla (h:=vW (vS (vR (vl5 (rowq rb8) (h:=?_))))))
 have d_b3 := row_lt rb3
 have d_b8 := row_lt rb8
 have d_b13 := row_lt rb13
 have d_b18 := row_lt rb18
 intro A f
 refine l_call f rfl rfl rfl (IsCall.mk' (cap := []) rfl rfl rfl) (pl rfl) (pDrain_fr _ y hI.at_ hI.may hI.may.canBacks.1) ?_
 clear f A
 rintro _ W21 ⟨⟨y2, rfl, e2, hyA2, hoF⟩, hb22⟩
 refine ⟨_, rfl, ?_⟩
 intro A f
 replace B0 := Below.next B0 hb22; replace hm := hm.below hb22; replace hr := hr.below hb22; replace hI := hI.below hb22; replace rb3 := row_next rb3 hb22; replace rb8 := row_next rb8 hb22; replace rb13 := row_next rb13 hb22; replace rb18 := row_next rb18 hb22
 revert A; refine vlm (h:=vle (h:=vle (h:=?_))); intro A f
 refine l_as (z := .agg #[.slice none 0 0, .slice none 0 0, .int .i64 0, .slice none 0 0, .slice none 0 0]) f rfl rfl rfl rfl (by kernel_rfl) rfl rfl (fun _ => rfl) (fun _ => rfl) rfl (by intro u hu; simp [Value.cells] at hu; rcases hu with rfl | rfl | rfl | rfl | rfl <;> rfl) ?_; clear f A; intro b23 W24 eb23 hb25 rb23 A f
 dsimp only [Value.cells] at rb23
 have hpb23 := hb25
 have o_b3_b23 : b3 < b23 := by have := row_lt rb3; omega
 have o_b8_b23 : b8 < b23 := by have := row_lt rb8; omega
 have o_b13_b23 : b13 < b23 := by have := row_lt rb13; omega
 have o_b18_b23 : b18 < b23 := by have := row_lt rb18; omega
 have z_B0_b23 := B0.size; rw [eb23] at z_B0_b23
 replace B0 := Below.next B0 hb25; replace hyA2 := hyA2.below hb25; replace rb3 := row_next rb3 hb25; replace rb8 := row_next rb8 hb25; replace rb13 := row_next rb13 hb25; replace rb18 := row_next rb18 hb25
 revert A; refine vla (h:=vW (vS (vR (vla (h:=vW (vS (vS (vR ?_))))))))
 have hR := drain_may hI.may
 have hRe := emptyH_rest y.hp
 have hP2 : HMay y2.hp := by rw [e2]; exact hR.1
 have hft2 : SameFT y2.hp H := sft_trans (fun i => by rw [e2]; have h := backs_ft i (y.hp.lists.flatMap (·.pages)) y.hp; exact h) hI.ft
 have hmn2 : y2.hp.mins = H.mins := (congrArg Hp.mins e2).trans (hRe.1.trans (hRc _ (mins_clo H _) rfl))
 have hzl : y2.zn = 2 := by have h1 := hyA2.zones.len; have h2 := hP2.zs.n; have e : y2.hp.zones.length = y2.zs.length := (by show (y2.zs.map _).length = _; rw [List.length_map]); omega
 have hzr := hyA2.zones.reach
 have hsp := hNM.2.2.2.2.1
 have hhd : ∀ j, j < 2 → heldH y2.hp j 0 = (pickN b 12 : Int) + (if j = 0 then (256 - (16 * (pickN a 9 : Int))) / 32 else 0) := held_new hNH hNM.1 hsp hft2 hmn2 hP2
 have q9 := pickN_lt a 9 (by omega)
 have q12 := pickN_lt b 12 (by omega)
 have hll := hI.at_.lists.len
 have hlr := hI.at_.lists.reach
 have hyes := fun h => room_yes hI.may (cpu := 0) hod h
 have hno := fun h => room_no hI.may (cpu := 0) hod h
 have eU : emptyH y.hp = y2.hp := e2.symm
 intro A f
 rw [eU] at hyes hno
 revert A; refine vlf (h:=vl1 (rowq rb23) (h:=vlz (h:=vlm (h:=vW (vB ?_))))); intro A f
 refine x_loop (fun n A W => ∃ (j : Nat) (d2 : Bool), n = y2.zn - j ∧ j ≤ y2.zn ∧ Fr A 135 [(11, .pointer (some ⟨b3, 0, none⟩)), (12, .pointer (some ⟨b8, 0, none⟩)), (14, .bool true), (15, .pointer (some ⟨b13, 0, none⟩)), (18, .int .i64 er), (20, .int .i64 0), (21, .bool d2), (55, .slice y2.zo y2.zn y2.zc), (56, .int .i64 (y2.zn : Nat)), (57, .int .i64 (j : Nat))] ∧ Below w.heap.size w W ∧ W.heap[b3]? = some (.cells #[.slice (some ⟨gm, 0, none⟩) 2 2, .slice (some ⟨gr, 0, none⟩) 2 2, .int .i64 (16 * (pickN a 9 : Int)), .int .i64 (pickN b 12 : Int), .int .i64 (1 + (pickN c 4 : Int))] 27 (0, 0)) ∧ W.heap[b8]? = some (.cells #[.slice y.zo y.zn y.zc, .slice y.mo y.mn y.mc, .int .i64 y.cpus, .slice y.lo y.ln y.lc, .slice y.vo y.vn y.vc] 34 (0, 0)) ∧ W.heap[b13]? = some (.cells #[.int .i64 od] 3 (0, 0)) ∧ y2.At W ∧ canU y2.hp od j = d2) (n0 := y2.zn) (⟨0, false, rfl, Nat.zero_le _, f.sub ⟨rfl, rfl, rfl, rfl, rfl, rfl, rfl, rfl, rfl, rfl, trivial⟩, B0, rb3, rb8, rb13, hyA2, rfl⟩) ?_
 clear f A
 clear B0 hyA2 hI rb3 rb8 rb13
 rintro n2 A W26 ⟨j, d2, hn, hj, f, B0, rb3, rb8, rb13, hyA2, hU⟩
 revert A; refine vS (vR (vlb (y_lss rfl rfl rfl) (h:=?_) (g:=?_)))
 ·intro c27
  refine vW (vS (vC (h:=vK (vT (vS (vB (vS (vR (vlm (h:=?_))))))))))
  have BW := Below.refl W26.heap.size W26
  obtain ⟨gz, oz, zz, foz, fnz, fcz, toz, tnz, tcz, haz, c0z, c1z, c2z, c3z, hatz, hXz⟩ := hyA2.zones.at (j) (by omega)
  replace c0z := St.of c0z; replace c1z := St.of c1z; replace c2z := St.of c2z; replace c3z := St.of c3z
  have hmz : ZMay zz := by have h := zs_m hP2.zs (show j < 2 by omega); rw [hp_zone, hXz.out] at h; exact h
  have hfl := hatz.free.len
  have hfr := hatz.free.reach
  have hcU : canZ y2.hp od j = (zz.free.any (fun b => decide (od ≤ b.o)) && decide (heldH y2.hp j 0 ≤ freeN zz.free - pw od)) := by unfold canZ; rw [hp_zone, hXz.out]
  intro A f
  rw [hhd j (by omega)] at hcU
  revert A; refine vlx (h:=vld (y_loadN (vs := [_, _, _, _]) rfl rfl (ag rfl) rfl ⟨(by first | assumption | exact St.q c0z B0 | exact St.q c1z B0 | exact St.q c2z B0 | exact St.q c3z B0), (by first | assumption | exact St.q c0z B0 | exact St.q c1z B0 | exact St.q c2z B0 | exact St.q c3z B0), (by first | assumption | exact St.q c0z B0 | exact St.q c1z B0 | exact St.q c2z B0 | exact St.q c3z B0), (by first | assumption | exact St.q c0z B0 | exact St.q c1z B0 | exact St.q c2z B0 | exact St.q c3z B0), trivial⟩) (h:=?_))
  have ho23 : Off W26.heap.size y2 := off_old hyA2 hP2.zs.n (Nat.le_refl _)
  intro A f
  refine l_alloc (z := .agg #[.int .i64 0, .int .i64 0, .slice none 0 0, .slice none 0 0]) f rfl rfl rfl rfl (by kernel_rfl) ?_; clear f A; intro b28 W29 eb28 hb30 rb28 A f; dsimp only [Value.cells] at rb28
  have o_b3_b28 : b3 < b28 := by have := row_lt rb3; omega
  have o_b8_b28 : b8 < b28 := by have := row_lt rb8; omega
  have o_b13_b28 : b13 < b28 := by have := row_lt rb13; omega
  have z_B0_b28 := B0.size; rw [eb28] at z_B0_b28
  replace B0 := Below.next B0 hb30; replace hyA2 := hyA2.below hb30; replace rb3 := row_next rb3 hb30; replace rb8 := row_next rb8 hb30; replace rb13 := row_next rb13 hb30
  rw [eb28] at ho23
  revert A; refine vla (h:=?_); intro A f
  refine vls f rb28 ?_
  clear rb28; intro W31 hb32 rb28; dsimp only [setL, over, Value.cells] at rb28; replace B0 := Below.thenBut B0 hb32 (by omega); replace rb3 := But.row hb32 rb3 (by omega); replace rb8 := But.row hb32 rb8 (by omega); replace rb13 := But.row hb32 rb13 (by omega); replace hyA2 := Off.but ho23 hyA2 hb32
  revert A; refine vW (vS (vR (vla (h:=vW (vS (vS (vR (vlf (h:=vl1 (rowq rb28) (h:=vlz (h:=vlm (h:=vW (vB ?_)))))))))))))
  replace hatz := zn_of hyA2 hXz (by omega)
  intro A f
  refine x_loop (fun n A W => ∃ i : Nat, n = fnz - i ∧ i ≤ fnz ∧ Fr A 135 [(11, .pointer (some ⟨b3, 0, none⟩)), (12, .pointer (some ⟨b8, 0, none⟩)), (14, .bool true), (15, .pointer (some ⟨b13, 0, none⟩)), (18, .int .i64 er), (20, .int .i64 0), (21, .bool d2), (55, .slice y2.zo y2.zn y2.zc), (56, .int .i64 (y2.zn : Nat)), (57, .int .i64 (j : Nat)), (22, .int .i64 (j : Nat)), (23, .pointer (some ⟨b28, 0, none⟩)), (24, .int .i64 (freeN (zz.free.take i))), (63, .slice foz fnz fcz), (64, .int .i64 (fnz : Nat)), (65, .int .i64 (i : Nat))] ∧ Below w.heap.size w W ∧ W.heap[b3]? = some (.cells #[.slice (some ⟨gm, 0, none⟩) 2 2, .slice (some ⟨gr, 0, none⟩) 2 2, .int .i64 (16 * (pickN a 9 : Int)), .int .i64 (pickN b 12 : Int), .int .i64 (1 + (pickN c 4 : Int))] 27 (0, 0)) ∧ W.heap[b8]? = some (.cells #[.slice y.zo y.zn y.zc, .slice y.mo y.mn y.mc, .int .i64 y.cpus, .slice y.lo y.ln y.lc, .slice y.vo y.vn y.vc] 34 (0, 0)) ∧ W.heap[b13]? = some (.cells #[.int .i64 od] 3 (0, 0)) ∧ W.heap[b28]? = some (.cells #[.int .i64 zz.f, .int .i64 zz.t, .slice foz fnz fcz, .slice toz tnz tcz] 54 (0, 0)) ∧ y2.At W ∧ ZnAt W foz fnz toz tnz zz) (n0 := fnz) (⟨0, rfl, Nat.zero_le _, f.sub ⟨rfl, rfl, rfl, rfl, rfl, rfl, rfl, rfl, rfl, rfl, rfl, rfl, rfl, rfl, rfl, rfl, trivial⟩, B0, rb3, rb8, rb13, rb28, hyA2, hatz⟩) ?_
  clear f A
  clear B0 hyA2 hatz BW rb3 rb8 rb13 rb28
  rintro n3 A W33 ⟨i, hn3, hi, f, B0, rb3, rb8, rb13, rb28, hyA2, hatz⟩
  have hft := freeN_take hmz i
  revert A; refine vS (vR (vlb (y_lss rfl rfl rfl) (h:=?_) (g:=?_)))
  ·intro c34
   refine vW (vS (vC (h:=vK (vT (vS (vB (vS (vR ?_))))))))
   have BV := Below.refl W33.heap.size W33
   obtain ⟨gb, ob, bab, bob, btb, hab, c0b, c1b, c2b, hXb⟩ := hatz.free.at_.at (i) (by have := hatz.free.len; omega)
   replace c0b := St.of c0b; replace c1b := St.of c1b; replace c2b := St.of c2b
   have hob : ordOk bob := by have h := (free_inP hmz i (by have := hatz.free.len; omega)).1; rw [hXb.out] at h; exact h
   have hpb := pw_le hob
   have hpp := pw_pos bob
   refine vlx (h:=vld (y_loadN (vs := [_, _, _]) rfl rfl (ag rfl) rfl ⟨(by first | assumption | exact St.q c0z B0 | exact St.q c1z B0 | exact St.q c2z B0 | exact St.q c3z B0 | exact St.q c0b BV | exact St.q c1b BV | exact St.q c2b BV), (by first | assumption | exact St.q c0z B0 | exact St.q c1z B0 | exact St.q c2z B0 | exact St.q c3z B0 | exact St.q c0b BV | exact St.q c1b BV | exact St.q c2b BV), (by first | assumption | exact St.q c0z B0 | exact St.q c1z B0 | exact St.q c2z B0 | exact St.q c3z B0 | exact St.q c0b BV | exact St.q c1b BV | exact St.q c2b BV), trivial⟩) (h:=?_)); intro A f
   refine l_as (z := .agg #[.int .i64 0, .int .i64 0, .int .i64 0]) f rfl rfl rfl rfl (by kernel_rfl) rfl rfl (fun _ => rfl) (fun _ => rfl) rfl (by intro u hu; simp [Value.cells] at hu; rcases hu with rfl | rfl | rfl <;> rfl) ?_; clear f A; intro b35 W36 eb35 hb37 rb35 A f
   dsimp only [Value.cells] at rb35
   have hpb35 := hb37
   have o_b3_b35 : b3 < b35 := by have := row_lt rb3; omega
   have o_b8_b35 : b8 < b35 := by have := row_lt rb8; omega
   have o_b13_b35 : b13 < b35 := by have := row_lt rb13; omega
   have o_b28_b35 : b28 < b35 := by have := row_lt rb28; omega
   have z_B0_b35 := B0.size; rw [eb35] at z_B0_b35
   replace B0 := Below.next B0 hb37; replace hyA2 := hyA2.below hb37; replace hatz := hatz.below hb37; replace rb3 := row_next rb3 hb37; replace rb8 := row_next rb8 hb37; replace rb13 := row_next rb13 hb37; replace rb28 := row_next rb28 hb37
   revert A; refine vW (vR (vlm (h:=vlf (h:=vl1 (rowq rb35) (h:=vld (y_shl1 rfl rfl rfl hob) (h:=vlA (h:=vla (h:=vN (vU (vT (vR (vlA (h:=vlm (h:=vW ?_)))))))))))))); intro A f
   rw [show freeN (zz.free.take i) + pw bob = freeN (zz.free.take (i + 1)) by rw [freeN_take1 (show i < zz.free.length by omega), hXb.out]] at f
   exact ⟨fnz - (i + 1), by omega, i + 1, rfl, by omega, f.sub ⟨rfl, rfl, rfl, rfl, rfl, rfl, rfl, rfl, rfl, rfl, rfl, rfl, rfl, rfl, rfl, rfl, trivial⟩, B0, rb3, rb8, rb13, rb28, hyA2, hatz⟩
  intro c34
  refine vW (vS (vD (h:=vX (vH (vH (vI (vT (vS (vR ?_)))))))))
  have ei : i = zz.free.length := by omega
  intro A f
  rw [ei, List.take_length] at f
  have hpo := pw_le hod
  have hpo1 := pw_pos od
  have hfz := freeN_take hmz zz.free.length
  rw [List.take_length] at hfz
  revert A; refine vlf (h:=vl1 (rowq rb3) (h:=vla (h:=vW (vS (vS (vR (vlm (h:=vlb (y_eql rfl rfl rfl) (h:=?_) (g:=?_)))))))))
  ·intro c38
   refine vW (vC (h:=vR (vlm (h:=vlf (h:=vl1 (rowq rb3) (h:=vld (y_sub rfl rfl rfl rfl (by omega)) (h:=vld (y_quo rfl rfl rfl (by decide) (Int.tdiv_eq_ediv_of_nonneg (by omega)) (by omega)) (h:=vlA (h:=vla (h:=vW (vS (vR (vlf (h:=vl1 (rowq rb28) (h:=vld (y_func rfl rfl) (h:=?_))))))))))))))))
   have hcc := bContains_any _ 24 #[.pointer (some ⟨b13, 0, none⟩)] foz fnz fcz zz.free (fun b => decide (od ≤ b.o)) hatz.free (fun args W => pl rfl args W) (fun i hi W hW => prF_c W (zz.free.getD i .zero) b13 od (fun wx hx => by rw [cell_of_row _ _ _ _ _ _ (row_next rb13 (Below.next hW hx))]; rfl))
   obtain ⟨e, he⟩ : ∃ e, zz.free.any (fun b => decide (od ≤ b.o)) = e := ⟨_, rfl⟩
   intro A f
   rw [he] at hcc hcU
   refine l_call f rfl rfl rfl (IsCall.mk' (cap := []) rfl rfl rfl) (pl rfl) hcc ?_; clear f A hcc; rintro _ W39 ⟨rfl, hb40⟩; refine ⟨_, rfl, ?_⟩; intro A f; replace B0 := Below.next B0 hb40; replace hyA2 := hyA2.below hb40; replace hatz := hatz.below hb40; replace rb3 := row_next rb3 hb40; replace rb8 := row_next rb8 hb40; replace rb13 := row_next rb13 hb40; replace rb28 := row_next rb28 hb40
   revert A; refine vla (h:=vW (vR ?_)); intro A f
   rw [if_pos (show j = 0 by omega)] at hcU
   have hcn1 : e = false → canZ y2.hp od j = false := fun h => by rw [hcU, h]; rfl
   have hcz : e = true → (pickN b 12 : Int) + (256 - (16 * (pickN a 9 : Int))) / 32 ≤ freeN zz.free - pw od → canZ y2.hp od j = true := fun h g => by rw [hcU, h, decide_eq_true g]; rfl
   have hcn2 : ¬ (pickN b 12 : Int) + (256 - (16 * (pickN a 9 : Int))) / 32 ≤ freeN zz.free - pw od → canZ y2.hp od j = false := fun g => by rw [hcU, decide_eq_false g]; simp
   refine l_if (d2 = true) f rfl rfl rfl (by rw [Bool.decide_eq_true]; exact y_move rfl rfl) ?_ ?_
   ·clear f A; intro c41 A f
    obtain rfl : d2 = true := c41
    revert A; refine vlm (h:=vlO 9 (h:=vlp (h:=vla (h:=vN (vU (vT (vR (vlA (h:=vlm (h:=vW ?_)))))))))); intro A f
    exact ⟨y2.zn - (j + 1), by omega, j + 1, true, rfl, by omega, f.sub ⟨rfl, rfl, rfl, rfl, rfl, rfl, rfl, rfl, rfl, rfl, trivial⟩, B0, rb3, rb8, rb13, hyA2, by show (canU y2.hp od j || canZ y2.hp od j) = true; rw [hU]; rfl⟩
   clear f A; intro c41 A f
   obtain rfl : d2 = false := (by simpa using c41)
   revert A; refine vlm (h:=?_); intro A f
   refine l_if (e = true) f rfl rfl rfl (by rw [Bool.decide_eq_true]; exact y_move rfl rfl) ?_ ?_
   ·clear f A; intro c42 A f
    obtain rfl : e = true := c42
    revert A; refine vlm (h:=vlm (h:=vl1 (rowq rb13) (h:=vld (y_shl1 rfl rfl rfl hod) (h:=vld (y_sub rfl rfl rfl rfl (by omega)) (h:=vlm (h:=?_))))))
    replace hcz := hcz rfl
    refine vlb (y_geq rfl rfl rfl) (h:=?_) (g:=?_)
    ·intro c43
     refine vlp (h:=vlp (h:=vla (h:=vN (vU (vT (vR (vlA (h:=vlm (h:=vW ?_))))))))); intro A f
     exact ⟨y2.zn - (j + 1), by omega, j + 1, true, rfl, by omega, f.sub ⟨rfl, rfl, rfl, rfl, rfl, rfl, rfl, rfl, rfl, rfl, trivial⟩, B0, rb3, rb8, rb13, hyA2, by show (canU y2.hp od j || canZ y2.hp od j) = true; rw [hcz (by omega)]; simp⟩
    intro c43
    refine vlp (h:=vlp (h:=vla (h:=vN (vU (vT (vR (vlA (h:=vlm (h:=vW ?_))))))))); intro A f
    exact ⟨y2.zn - (j + 1), by omega, j + 1, false, rfl, by omega, f.sub ⟨rfl, rfl, rfl, rfl, rfl, rfl, rfl, rfl, rfl, rfl, trivial⟩, B0, rb3, rb8, rb13, hyA2, by show (canU y2.hp od j || canZ y2.hp od j) = false; rw [hU, hcn2 (by omega)]; rfl⟩
   clear f A; intro c42 A f
   obtain rfl : e = false := (by simpa using c42)
   revert A; refine vlm (h:=vlO 6 (h:=vlp (h:=vlp (h:=vla (h:=vN (vU (vT (vR (vlA (h:=vlm (h:=vW ?_))))))))))); intro A f
   exact ⟨y2.zn - (j + 1), by omega, j + 1, false, rfl, by omega, f.sub ⟨rfl, rfl, rfl, rfl, rfl, rfl, rfl, rfl, rfl, rfl, trivial⟩, B0, rb3, rb8, rb13, hyA2, by show (canU y2.hp od j || canZ y2.hp od j) = false; rw [hU, hcn1 rfl]; rfl⟩
  intro c38
  refine vW (vD (h:=vK (vT (vS (vR (vlf (h:=vl1 (rowq rb28) (h:=vld (y_func rfl rfl) (h:=?_)))))))))
  have hcc := bContains_any _ 24 #[.pointer (some ⟨b13, 0, none⟩)] foz fnz fcz zz.free (fun b => decide (od ≤ b.o)) hatz.free (fun args W => pl rfl args W) (fun i hi W hW => prF_c W (zz.free.getD i .zero) b13 od (fun wx hx => by rw [cell_of_row _ _ _ _ _ _ (row_next rb13 (Below.next hW hx))]; rfl))
  obtain ⟨e, he⟩ : ∃ e, zz.free.any (fun b => decide (od ≤ b.o)) = e := ⟨_, rfl⟩
  intro A f
  rw [he] at hcc hcU
  refine l_call f rfl rfl rfl (IsCall.mk' (cap := []) rfl rfl rfl) (pl rfl) hcc ?_; clear f A hcc; rintro _ W44 ⟨rfl, hb45⟩; refine ⟨_, rfl, ?_⟩; intro A f; replace B0 := Below.next B0 hb45; replace hyA2 := hyA2.below hb45; replace hatz := hatz.below hb45; replace rb3 := row_next rb3 hb45; replace rb8 := row_next rb8 hb45; replace rb13 := row_next rb13 hb45; replace rb28 := row_next rb28 hb45
  revert A; refine vla (h:=vW (vR ?_)); intro A f
  rw [if_neg (show ¬ j = 0 by omega), Int.add_zero] at hcU
  have hcn1 : e = false → canZ y2.hp od j = false := fun h => by rw [hcU, h]; rfl
  have hcz : e = true → (pickN b 12 : Int) ≤ freeN zz.free - pw od → canZ y2.hp od j = true := fun h g => by rw [hcU, h, decide_eq_true g]; rfl
  have hcn2 : ¬ (pickN b 12 : Int) ≤ freeN zz.free - pw od → canZ y2.hp od j = false := fun g => by rw [hcU, decide_eq_false g]; simp
  refine l_if (d2 = true) f rfl rfl rfl (by rw [Bool.decide_eq_true]; exact y_move rfl rfl) ?_ ?_
  ·clear f A; intro c46 A f
   obtain rfl : d2 = true := c46
   revert A; refine vlm (h:=vlO 9 (h:=vlp (h:=vla (h:=vN (vU (vT (vR (vlA (h:=vlm (h:=vW ?_)))))))))); intro A f
   exact ⟨y2.zn - (j + 1), by omega, j + 1, true, rfl, by omega, f.sub ⟨rfl, rfl, rfl, rfl, rfl, rfl, rfl, rfl, rfl, rfl, trivial⟩, B0, rb3, rb8, rb13, hyA2, by show (canU y2.hp od j || canZ y2.hp od j) = true; rw [hU]; rfl⟩
  clear f A; intro c46 A f
  obtain rfl : d2 = false := (by simpa using c46)
  revert A; refine vlm (h:=?_); intro A f
  refine l_if (e = true) f rfl rfl rfl (by rw [Bool.decide_eq_true]; exact y_move rfl rfl) ?_ ?_
  ·clear f A; intro c47 A f
   obtain rfl : e = true := c47
   revert A; refine vlm (h:=vlm (h:=vl1 (rowq rb13) (h:=vld (y_shl1 rfl rfl rfl hod) (h:=vld (y_sub rfl rfl rfl rfl (by omega)) (h:=vlm (h:=?_))))))
   replace hcz := hcz rfl
   refine vlb (y_geq rfl rfl rfl) (h:=?_) (g:=?_)
   ·intro c48
    refine vlp (h:=vlp (h:=vla (h:=vN (vU (vT (vR (vlA (h:=vlm (h:=vW ?_))))))))); intro A f
    exact ⟨y2.zn - (j + 1), by omega, j + 1, true, rfl, by omega, f.sub ⟨rfl, rfl, rfl, rfl, rfl, rfl, rfl, rfl, rfl, rfl, trivial⟩, B0, rb3, rb8, rb13, hyA2, by show (canU y2.hp od j || canZ y2.hp od j) = true; rw [hcz (by omega)]; simp⟩
   intro c48
   refine vlp (h:=vlp (h:=vla (h:=vN (vU (vT (vR (vlA (h:=vlm (h:=vW ?_))))))))); intro A f
   exact ⟨y2.zn - (j + 1), by omega, j + 1, false, rfl, by omega, f.sub ⟨rfl, rfl, rfl, rfl, rfl, rfl, rfl, rfl, rfl, rfl, trivial⟩, B0, rb3, rb8, rb13, hyA2, by show (canU y2.hp od j || canZ y2.hp od j) = false; rw [hU, hcn2 (by omega)]; rfl⟩
  clear f A; intro c47 A f
  obtain rfl : e = false := (by simpa using c47)
  revert A; refine vlm (h:=vlO 6 (h:=vlp (h:=vlp (h:=vla (h:=vN (vU (vT (vR (vlA (h:=vlm (h:=vW ?_))))))))))); intro A f
  exact ⟨y2.zn - (j + 1), by omega, j + 1, false, rfl, by omega, f.sub ⟨rfl, rfl, rfl, rfl, rfl, rfl, rfl, rfl, rfl, rfl, trivial⟩, B0, rb3, rb8, rb13, hyA2, by show (canU y2.hp od j || canZ y2.hp od j) = false; rw [hU, hcn1 rfl]; rfl⟩
 intro c27
 refine vW (vS (vD (h:=vX (vH (vH (vI (vT (vS (vS (vR ?_))))))))))
 have ej : j = 2 := by omega
 intro A f
 rw [ej] at hU
 refine l_if (d2 = true) f rfl rfl rfl (by rw [Bool.decide_eq_true]; exact y_move rfl rfl) ?_ ?_
 ·clear f A; intro c49 A f
  obtain rfl : d2 = true := c49
  revert A; refine vW (vC (h:=vS (vR (vlm (h:=vlm (h:=vlm (h:=vlb (y_eql rfl rfl rfl) (h:=?_) (g:=?_))))))))
  ·intro c50
   refine vlp (h:=vlm (h:=vlm (h:=?_)))
   have her : er = 0 := by
    rcases hER with ⟨_, hn⟩ | ⟨h0, _⟩
    ·obtain ⟨r, hr⟩ := hyes hU
     rw [hn] at hr; cases hr
    exact h0
   refine vlb (y_eql rfl rfl rfl) (h:=?_) (g:=?_)
   ·intro c51
    refine vlp (h:=vla (h:=vW (vE (vF ?_)))); intro A f
    refine x_ret1 f rfl rfl ?_
    exact ⟨rfl, B0⟩
   intro c51; exfalso; omega
  intro c50; exfalso; omega
 clear f A; intro c49 A f
 obtain rfl : d2 = false := (by simpa using c49)
 revert A; refine vW (vD (h:=vK (vT (vS (vR (vlm (h:=vlm (h:=vlm (h:=vlb (y_eql rfl rfl rfl) (h:=?_) (g:=?_))))))))))
 ·intro c52
  refine vlp (h:=vlm (h:=vlm (h:=?_)))
  have her : er = 6 ∨ (er = 0 ∧ od = 0 ∧ 0 < y.ln) := by
   rcases hER with ⟨h6, _⟩ | ⟨h0, r, hr⟩
   ·exact .inl h6
   rcases hno hU with hn | ⟨ho0, hl⟩
   ·rw [hn] at hr; cases hr
   refine .inr ⟨h0, ho0, ?_⟩
   have hpl : y.hp.lists.length = y.ls.length := by show (y.ls.map _).length = _; rw [List.length_map]
   have := List.length_pos_iff.2 hl
   omega
  refine vlb (y_eql rfl rfl rfl) (h:=?_) (g:=?_)
  ·intro c53
   refine vlm (h:=vlO 12 (h:=vlp (h:=vlp (h:=vla (h:=vW (vE ?_)))))); intro A f
   refine x_ret1 f rfl rfl ?_
   exact ⟨rfl, B0⟩
  intro c53
  refine vlm (h:=vl1 (rowq rb13) (h:=vlb (y_eql rfl rfl rfl) (h:=?_) (g:=?_)))
  ·intro c54
   refine vlm (h:=vlm (h:=vlb (y_eql rfl rfl rfl) (h:=?_) (g:=?_)))
   ·intro c55
    refine vlp (h:=vlm (h:=vlf (h:=vl1 (rowq rb8) (h:=vlz (h:=vlb (y_gtr rfl rfl rfl) (h:=?_) (g:=?_))))))
    ·intro c56
     refine vlp (h:=vlp (h:=vlp (h:=vla (h:=vW (vE ?_))))); intro A f
     refine x_ret1 f rfl rfl ?_
     exact ⟨rfl, B0⟩
    intro c56; exfalso; omega
   intro c55; exfalso; omega
  intro c54; exfalso; omega
 intro c52; exfalso; omega
end Go.Proofs.YtjohdbiipeedkaaGreatDoor
