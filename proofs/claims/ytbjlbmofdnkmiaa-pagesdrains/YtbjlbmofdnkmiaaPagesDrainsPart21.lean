/-
  OWN TEXTS, bundled: HDrP, SameI, SameZ, SameH, WPagesDrains.
-/
import Derived.Test.YtbjlbmofdnkmiaaPagesDrainsPart12
import Derived.Test.YtbjlbmofdnkmiaaPagesDrainsPart20
import Derived.Test.YtbjlbmofdnkmiaaPagesDrainsPart4
import Derived.Test.YtbjlbmofdnkmiaaPagesDrainsPart2

/-
  OWN TEXT. Pages of a heap, counted; blocks and pages of lists may go back: plain mathematics.
-/
namespace Go.Proofs.Ytbjlbmofdnkmiaa
open Go.Proofs.Ytbjlbmofdnkmiaa.Kit

theorem apt_cnt : ∀ (l P : List Bk), Apt P l → (∀ p, cnt P p ≤ 1) → ∀ p, cnt (P ++ l) p ≤ 1
  | [], P, _, hP, p => by simpa using hP p
  | b :: l, P, h, hP, p => by
    rw [show b :: l = [b] ++ l from rfl, apt_append, apt_one] at h
    have h1 : ∀ p, cnt (P ++ [b]) p ≤ 1 := fun p => by
      rw [cnt_append, cnt_one]
      have hp := hP p
      by_cases c : hit b.a b.o p = 0
      · omega
      · have hh := hit_one.1 (Nat.pos_of_ne_zero c)
        have h0 : cnt P p = 0 := by
          by_cases g : cnt P p = 0
          · exact g
          · obtain ⟨x, hx, h1, h2⟩ := cnt_pos.1 (Nat.pos_of_ne_zero g)
            exact absurd ((ovlP_mem P b.a b.o).2 ⟨x, hx, by omega, by omega⟩) h.1
        have h1 : hit b.a b.o p ≤ 1 := by unfold hit; split <;> omega
        omega
    have := apt_cnt l (P ++ [b]) h.2 h1 p
    rwa [List.append_assoc] at this
theorem cnt_apt {P l : List Bk} (h : ∀ p, cnt (P ++ l) p ≤ 1) : Apt P l := by
  intro k hk
  refine no_ovl fun p => ?_
  have e : cnt (P ++ l) p = cnt (P ++ l.take k) p + (hit (l.getD k .zero).a (l.getD k .zero).o p + cnt (l.drop (k + 1)) p) := by
    conv => lhs; rw [cut_at l hk]
    rw [← List.append_assoc, cnt_append]
    rfl
  have := h p
  omega

theorem zs_two {H : Hp} (h : H.zones.length = 2) : H.zones = [H.zones.getD 0 ⟨0, 0, [], []⟩, H.zones.getD 1 ⟨0, 0, [], []⟩] := by
  obtain ⟨zs, _, _, _, _⟩ := H
  dsimp only at h ⊢
  match zs, h with
  | [a, b], _ => rfl
/-- How many free blocks have a page. -/
def zcnt (H : Hp) (p : Int) : Nat := cnt (H.zones.flatMap (·.free)) p
theorem zcnt_two {H : Hp} (h : H.zones.length = 2) (p : Int) : zcnt H p = cnt (H.zones.getD 0 ⟨0, 0, [], []⟩).free p + cnt (H.zones.getD 1 ⟨0, 0, [], []⟩).free p := by
  unfold zcnt
  rw [zs_two h]
  simp [cnt_append]

/-- A BLOCK GOES BACK: it may, and the zones stay such that may be. -/
theorem backH_ok {H : Hp} (hz : ZsOk H) {a o : Int} (ho : ordOk o) (hm : a % pw o = 0) (h0 : 0 ≤ a) (h1 : a < 256) (hc : ∀ p, zcnt H p + hit a o p ≤ 1) :
    CanBack H a o ∧ ZsOk (backH H a o) ∧ ∀ p, zcnt (backH H a o) p = zcnt H p + hit a o p := by
  have hc' : ∀ p, cnt (H.zones.getD 0 ⟨0, 0, [], []⟩).free p + cnt (H.zones.getD 1 ⟨0, 0, [], []⟩).free p + hit a o p ≤ 1 := fun p => by
    have := hc p
    rwa [zcnt_two hz.n] at this
  have e := zs_two hz.n
  obtain ⟨zs, mins, cpus, ls, live⟩ := H
  dsimp only at e hc'
  obtain ⟨z0, hz0⟩ : ∃ z, zs.getD 0 ⟨0, 0, [], []⟩ = z := ⟨_, rfl⟩
  obtain ⟨z1, hz1⟩ : ∃ z, zs.getD 1 ⟨0, 0, [], []⟩ = z := ⟨_, rfl⟩
  rw [hz0, hz1] at e hc'
  subst e
  clear hz0 hz1 hc
  have m0 : ZMay z0 := hz.m0
  have m1 : ZMay z1 := hz.m1
  have f0 : z0.f = 0 := hz.f0
  have f1 : z1.f = z0.t := hz.f1
  have t1 : z1.t = 256 := hz.t1
  by_cases ha : a < z0.t
  · have ei : zIdx ⟨[z0, z1], mins, cpus, ls, live⟩ a = 0 := if_pos ha
    have hno : ¬ ovlP z0.free a o := no_ovl fun p => by have := hc' p; omega
    have hin : blkIn z0.f z0.t a o := ⟨ho, by omega, by omega, hm⟩
    have eb : backH ⟨[z0, z1], mins, cpus, ls, live⟩ a o = ⟨[backZ z0 a o, z1], mins, cpus, ls, live⟩ := by unfold backH; rw [ei]; rfl
    have hcb := cnt_back (free_iff.1 m0.free).2 ho.1 hm
    refine ⟨⟨rfl, by rw [ei]; exact m0, by rw [ei]; exact hin, by rw [ei]; exact hno⟩, ?_⟩
    rw [eb]
    refine ⟨⟨rfl, backZ_may m0 hin hno, m1, f0, f1, t1⟩, fun p => ?_⟩
    rw [zcnt_two rfl, zcnt_two rfl]
    have := hcb p
    show cnt (backZ z0 a o).free p + cnt z1.free p = cnt z0.free p + cnt z1.free p + hit a o p
    omega
  · have ei : zIdx ⟨[z0, z1], mins, cpus, ls, live⟩ a = 1 := if_neg ha
    have hno : ¬ ovlP z1.free a o := no_ovl fun p => by have := hc' p; omega
    have hin : blkIn z1.f z1.t a o := ⟨ho, by omega, by omega, hm⟩
    have eb : backH ⟨[z0, z1], mins, cpus, ls, live⟩ a o = ⟨[z0, backZ z1 a o], mins, cpus, ls, live⟩ := by unfold backH; rw [ei]; rfl
    have hcb := cnt_back (free_iff.1 m1.free).2 ho.1 hm
    refine ⟨⟨rfl, by rw [ei]; exact m1, by rw [ei]; exact hin, by rw [ei]; exact hno⟩, ?_⟩
    rw [eb]
    refine ⟨⟨rfl, m0, backZ_may m1 hin hno, f0, f1, t1⟩, fun p => ?_⟩
    rw [zcnt_two rfl, zcnt_two rfl]
    have := hcb p
    show cnt z0.free p + cnt (backZ z1 a o).free p = cnt z0.free p + cnt z1.free p + hit a o p
    omega
/-- PAGES GO BACK one by one. -/
theorem backs_ok : ∀ (l : List Int) (H : Hp), ZsOk H → (∀ p ∈ l, 0 ≤ p ∧ p < 256) → (∀ p, zcnt H p + cnt (l.map pgB) p ≤ 1) →
    CanBacks H l ∧ ZsOk (backs H l) ∧ ∀ p, zcnt (backs H l) p = zcnt H p + cnt (l.map pgB) p
  | [], H, hz, _, _ => ⟨trivial, hz, fun p => by simp [backs, cnt]⟩
  | a :: l, H, hz, hr, hc => by
    have hc' : ∀ p, zcnt H p + (hit a 0 p + cnt (l.map pgB) p) ≤ 1 := hc
    have ha := hr a (by simp)
    obtain ⟨h1, h2, h3⟩ := backH_ok hz (a := a) (o := 0) ⟨by omega, by omega⟩ (by rw [pw_0]; omega) ha.1 ha.2 (fun p => by have := hc' p; omega)
    obtain ⟨k1, k2, k3⟩ := backs_ok l (backH H a 0) h2 (fun p hp => hr p (by simp [hp])) (fun p => by rw [h3]; have := hc' p; omega)
    refine ⟨⟨h1, k1⟩, k2, fun p => ?_⟩
    show zcnt (backs (backH H a 0) l) p = zcnt H p + (hit a 0 p + cnt (l.map pgB) p)
    rw [k3, h3]
    omega

theorem Kit.HMay.cntLe {H : Hp} (h : HMay H) (p : Int) : zcnt H p + (Kit.cnt ((H.lists.flatMap (·.pages)).map pgB) p + Kit.cnt H.live p) ≤ 1 := by
  have := apt_cnt _ _ h.apart (fun p => by simp [Kit.cnt]) p
  unfold placed at this
  rw [List.nil_append, cnt_append, cnt_append] at this
  rw [List.map_flatMap]
  exact this
theorem Kit.HMay.pageR {H : Hp} (h : HMay H) {p : Int} (hp : p ∈ H.lists.flatMap (·.pages)) : 0 ≤ p ∧ p < 256 := by
  obtain ⟨L, hL, hp⟩ := List.mem_flatMap.1 hp
  obtain ⟨i, hi, rfl⟩ := List.getElem_of_mem hL
  obtain ⟨j, hj, rfl⟩ := List.getElem_of_mem hp
  have hk := h.ls.ok i hi
  rw [List.getD_eq_getElem?_getD, List.getElem?_eq_getElem hi] at hk
  simp only [Option.getD_some] at hk
  have hq := hk.p j hj
  rw [List.getD_eq_getElem?_getD (l := (H.lists[i]).pages), List.getElem?_eq_getElem hj] at hq
  simp only [Option.getD_some] at hq
  have hz := hk.z
  have z0 := h.zs.m0.new
  have z1 := h.zs.m1.new
  unfold newOk at z0 z1
  have f0 := h.zs.f0
  have f1 := h.zs.f1
  have t1 := h.zs.t1
  rcases (show (H.lists[i]).z = 0 ∨ (H.lists[i]).z = 1 by omega) with e | e <;> rw [e] at hq
  · have hq' : (H.zones.getD 0 ⟨0, 0, [], []⟩).f ≤ (H.lists[i]).pages[j] ∧ (H.lists[i]).pages[j] < (H.zones.getD 0 ⟨0, 0, [], []⟩).t := hq
    omega
  · have hq' : (H.zones.getD 1 ⟨0, 0, [], []⟩).f ≤ (H.lists[i]).pages[j] ∧ (H.lists[i]).pages[j] < (H.zones.getD 1 ⟨0, 0, [], []⟩).t := hq
    omega
/-- The pages of all lists may go back. -/
theorem Kit.HMay.canBacks {H : Hp} (h : HMay H) : CanBacks H (H.lists.flatMap (·.pages)) ∧ ZsOk (backs H (H.lists.flatMap (·.pages))) ∧ ∀ p, zcnt (backs H (H.lists.flatMap (·.pages))) p = zcnt H p + Kit.cnt ((H.lists.flatMap (·.pages)).map pgB) p :=
  backs_ok _ H h.zs (fun _ hp => h.pageR hp) (fun p => by have := h.cntLe p; omega)

end Go.Proofs.Ytbjlbmofdnkmiaa

/-
  OWN TEXT. Contract of the laws' own sameInts at two that hold the same.
-/
namespace Go.Proofs.Ytbjlbmofdnkmiaa
open Go Go.RowKit Go.Proofs.Ytbjlbmofdnkmiaa.Kit

set_option maxHeartbeats 400000 in
theorem same_eq (w : World) (ao bo : Option Addr) (n ca cb : Nat) (xs : List Int) (hn : xs.length = n) (hr : n * 8 ≤ 140737488351232) (ha : IntsAt w ao xs) (hb : IntsAt w bo xs) :
    Calls Try.prog 28 #[.slice ao n ca, .slice bo n cb] w fun e w' => e = .returned (.bool true) ∧ ∃ d, w' = w.drewN d := by
  go_enter Try.func28, Try.ntmps28
  go_wp2
  go_loopw [5] (fun i wr => ∃ k d : Nat, k ≤ n ∧ i = .int .i64 k ∧ wr = w.drewN d) (fun i _ => n - (intOf i).toNat)
  case atStart => exact ⟨0, 0, Nat.zero_le _, rfl, rfl⟩
  case round =>
    obtain ⟨k, d, hk, rfl, rfl⟩ := hrel
    by_cases hlt : k < n
    · obtain ⟨b1, o1, rfl, c1⟩ := ha k (by omega)
      obtain ⟨b2, o2, rfl, c2⟩ := hb k (by omega)
      clear ha hb
      go_wp2
      go_quiet (fail)
      go_wp2
      go_roundw
      case rel => exact ⟨k + 1, _, by omega, by go_num, rfl⟩
      case measure => simp [intOf]; omega
    · go_wp2
      go_ret
      exact ⟨rfl, d, rfl⟩

end Go.Proofs.Ytbjlbmofdnkmiaa

/-
  OWN TEXT. Contracts of the laws' own: sameBlocks, sameZone at two that hold the same.
-/
namespace Go.Proofs.Ytbjlbmofdnkmiaa
open Go Go.RowKit Go.Proofs.Ytbjlbmofdnkmiaa.Kit

set_option maxHeartbeats 1000000 in
theorem sameBlocks_eq (w : World) (ao bo : Option Addr) (n ca cb : Nat) (l : List Bk) (ha : Blks w ao n l) (hb : Blks w bo n l) :
    Calls Try.prog 29 #[.slice ao n ca, .slice bo n cb] w fun e w' => e = .returned (.bool true) ∧ ∃ d, w' = w.drewN d := by
  have hn := ha.len
  have hr := ha.reach
  have xa := ha.at_
  have xb := hb.at_
  clear ha hb
  go_enter Try.func29, Try.ntmps29
  go_wp2
  go_loopw [5] (fun i wr => ∃ k d : Nat, k ≤ n ∧ i = .int .i64 k ∧ wr = w.drewN d) (fun i _ => n - (intOf i).toNat)
  case atStart => exact ⟨0, 0, Nat.zero_le _, rfl, rfl⟩
  case round =>
    obtain ⟨k, d, hk, rfl, rfl⟩ := hrel
    by_cases hlt : k < n
    · obtain ⟨b1, o1, x, y, u, rfl, c1, c2, c3, hX⟩ := xa.at k (by omega)
      obtain ⟨b2, o2, x', y', u', rfl, d1, d2, d3, hX'⟩ := xb.at k (by omega)
      have hxy : (⟨x, y, u⟩ : Bk) = ⟨x', y', u'⟩ := hX.out.symm.trans hX'.out
      cases hxy
      clear xa xb hX hX'
      go_wp2
      go_quiet (fail)
      go_wp2
      go_roundw
      case rel => exact ⟨k + 1, _, by omega, by go_num, rfl⟩
      case measure => simp [intOf]; omega
    · go_wp2
      go_ret
      exact ⟨rfl, d, rfl⟩

set_option maxHeartbeats 1000000 in
theorem sameZone_eq (w : World) (f t : Int) (f1 f2 t1 t2 : Option Addr) (fn fc1 fc2 tn tc1 tc2 : Nat) (z : Zn) (h1 : ZnAt w f1 fn t1 tn z) (h2 : ZnAt w f2 fn t2 tn z) :
    Calls Try.prog 30 #[.agg #[.int .i64 f, .int .i64 t, .slice f1 fn fc1, .slice t1 tn tc1], .agg #[.int .i64 f, .int .i64 t, .slice f2 fn fc2, .slice t2 tn tc2]] w fun e w' => e = .returned (.bool true) ∧ Below w.heap.size w w' := by
  have hb1 : Below w.heap.size w ((w.alloc (.cells #[.int .i64 f, .int .i64 t, .slice f1 fn fc1, .slice t1 tn tc1] 44)).alloc (.cells #[.int .i64 f, .int .i64 t, .slice f2 fn fc2, .slice t2 tn tc2] 44)) := ((Below.refl _ _).alloc (Nat.le_refl _) _).alloc (by simp) _
  have g1 := h1.below hb1
  have g2 := h2.below hb1
  clear h1 h2
  go_enter Try.func30, Try.ntmps30
  go_wp2_with fail
  go_at_call 29
  refine (sameBlocks_eq _ f1 f2 fn fc1 fc2 z.free g1.free g2.free).mono ?_
  rintro e w1 ⟨rfl, d, rfl⟩
  go_wp2_with fail
  go_at_call 28
  refine (same_eq _ t1 t2 tn tc1 tc2 z.types g1.types.len g1.types.reach (g1.types.at_.below (below_drawn d)) (g2.types.at_.below (below_drawn d))).mono ?_
  rintro e w2 ⟨rfl, d2, rfl⟩
  go_wp2
  go_ret
  exact ⟨rfl, hb1.trans (below_drewN (Below.refl _ _) _)⟩

end Go.Proofs.Ytbjlbmofdnkmiaa

/-
  OWN TEXT. Contracts of the laws' own: sameHeap at two that hold the same.
-/
namespace Go.Proofs.Ytbjlbmofdnkmiaa
open Go Go.RowKit Go.Proofs.Ytbjlbmofdnkmiaa.Kit

/-- A heap as a value. -/
def hval (x : Hx) : Value := .agg #[.slice x.zo x.zn x.zc, .slice x.mo x.mn x.mc, .int .i64 x.cpus, .slice x.lo x.ln x.lc, .slice x.vo x.vn x.vc]

theorem map_getD {α β : Type} {l m : List α} {f : α → β} (h : l.map f = m.map f) (i : Nat) (d : α) : f (l.getD i d) = f (m.getD i d) := by
  have e := congrArg (fun s => s[i]?) h
  simp only [List.getElem?_map] at e
  rw [List.getD_eq_getElem?_getD, List.getD_eq_getElem?_getD]
  cases h1 : l[i]? with
  | none =>
    cases h2 : m[i]? with
    | none => rfl
    | some y => rw [h1, h2] at e; cases e
  | some x =>
    cases h2 : m[i]? with
    | none => rw [h1, h2] at e; cases e
    | some y => rw [h1, h2] at e; simpa using e

set_option maxRecDepth 4000 in
set_option maxHeartbeats 4000000 in
theorem sameHeap_eq (w : World) (x y : Hx) (hx : x.At w) (hy : y.At w) (he : x.hp = y.hp) :
    Calls Try.prog 10 #[.agg #[.slice x.zo x.zn x.zc, .slice x.mo x.mn x.mc, .int .i64 x.cpus, .slice x.lo x.ln x.lc, .slice x.vo x.vn x.vc], .agg #[.slice y.zo y.zn y.zc, .slice y.mo y.mn y.mc, .int .i64 y.cpus, .slice y.lo y.ln y.lc, .slice y.vo y.vn y.vc]] w fun e w' => e = .returned (.bool true) ∧ Below w.heap.size w w' := by
  have e0 : x.zs.map (·.z) = y.zs.map (·.z) := congrArg Hp.zones he
  have e1 : x.mins = y.mins := congrArg Hp.mins he
  have e2 : x.cpus = y.cpus := congrArg Hp.cpus he
  have e3 : x.ls.map (·.l) = y.ls.map (·.l) := congrArg Hp.lists he
  have e4 : x.live = y.live := congrArg Hp.live he
  obtain ⟨zs, zo, zn, zc, mins, mo, mn, mc, cpus, ls, lo, ln, lc, live, vo, vn, vc⟩ := x
  obtain ⟨zs', zo', zn', zc', mins', mo', mn', mc', cpus', ls', lo', ln', lc', live', vo', vn', vc'⟩ := y
  dsimp only at e0 e1 e2 e3 e4 ⊢
  subst e1 e2 e4
  obtain ⟨xz, xm, xl, xv⟩ := hx
  obtain ⟨yz, ym, yl, yv⟩ := hy
  dsimp only at xz xm xl xv yz ym yl yv
  obtain rfl : zn = zn' := by have := congrArg List.length e0; simp only [List.length_map] at this; have := xz.len; have := yz.len; omega
  obtain rfl : ln = ln' := by have := congrArg List.length e3; simp only [List.length_map] at this; have := xl.len; have := yl.len; omega
  obtain rfl : mn = mn' := by have := xm.len; have := ym.len; omega
  obtain rfl : vn = vn' := by have := xv.len; have := yv.len; omega
  clear he
  have hE0 : Hid (zs.map (·.z) = zs'.map (·.z)) := e0
  have hE3 : Hid (ls.map (·.l) = ls'.map (·.l)) := e3
  clear e0 e3
  have hb1 := below_box w (.cells #[.slice zo zn zc, .slice mo mn mc, .int .i64 cpus, .slice lo ln lc, .slice vo vn vc] 28)
  have A1 := hbox_new w (.slice zo zn zc) (.slice mo mn mc) (.int .i64 cpus) (.slice lo ln lc) (.slice vo vn vc) 28
  have hb2 := below_box (w.alloc (.cells #[.slice zo zn zc, .slice mo mn mc, .int .i64 cpus, .slice lo ln lc, .slice vo vn vc] 28)) (.cells #[.slice zo' zn zc', .slice mo' mn mc', .int .i64 cpus, .slice lo' ln lc', .slice vo' vn vc'] 28)
  have A2 := hbox_new (w.alloc (.cells #[.slice zo zn zc, .slice mo mn mc, .int .i64 cpus, .slice lo ln lc, .slice vo vn vc] 28)) (.slice zo' zn zc') (.slice mo' mn mc') (.int .i64 cpus) (.slice lo' ln lc') (.slice vo' vn vc') 28
  replace A1 := A1.below hb2
  have hb0 := hb1.trans (hb2.mono hb1.size)
  have hs0 : (w.alloc (.cells #[.slice zo zn zc, .slice mo mn mc, .int .i64 cpus, .slice lo ln lc, .slice vo vn vc] 28)).heap.size = w.heap.size + 1 := by simp
  rw [hs0] at A2
  clear hb1 hb2 hs0
  obtain ⟨W0, hW0⟩ : ∃ W0, (w.alloc (.cells #[.slice zo zn zc, .slice mo mn mc, .int .i64 cpus, .slice lo ln lc, .slice vo vn vc] 28)).alloc (.cells #[.slice zo' zn zc', .slice mo' mn mc', .int .i64 cpus, .slice lo' ln lc', .slice vo' vn vc'] 28) = W0 := ⟨_, rfl⟩
  rw [hW0] at A1 A2 hb0
  have HW0 : Hid _ := hW0
  replace xz := xz.below hb0
  replace xm := xm.below hb0
  replace xl := xl.below hb0
  replace xv := xv.below hb0
  replace yz := yz.below hb0
  replace ym := ym.below hb0
  replace yl := yl.below hb0
  replace yv := yv.below hb0
  have a0 := A1.c0
  have a1 := A1.c1
  have a2 := A1.c2
  have a3 := A1.c3
  have a4 := A1.c4
  have b0 := A2.c0
  have b1 := A2.c1
  have b2 := A2.c2
  have b3 := A2.c3
  have b4 := A2.c4
  have q : (cpus == cpus) = true := by simp
  have qz : ((zn : Int) == (zn : Int)) = true := by simp
  have ql : ((ln : Int) == (ln : Int)) = true := by simp
  have rz := xz.reach
  have rl := xl.reach
  clear hW0
  go_enter Try.func10, Try.ntmps10
  go_wp2_with (rw [HW0.out])
  go_at_call 28
  refine (same_eq _ mo mo' mn mc mc' mins xm.len xm.reach xm.at_ ym.at_).mono ?_
  rintro e w2 ⟨rfl, d2, rfl⟩
  obtain ⟨W2, hW2⟩ : ∃ W2, W0.drewN d2 = W2 := ⟨_, rfl⟩
  have hB2 : Below W0.heap.size W0 W2 := by rw [← hW2]; exact below_drawn d2
  rw [hW2]
  clear hW2 a0 a1 a2 a3 a4 b0 b1 b2 b3 b4
  have a4 := (A1.below hB2).c4
  have b4 := (A2.below hB2).c4
  go_wp2_with fail
  go_at_call 29
  refine (sameBlocks_eq _ vo vo' vn vc vc' live (xv.below hB2) (yv.below hB2)).mono ?_
  rintro e w3 ⟨rfl, d3, rfl⟩
  obtain ⟨W3, hW3⟩ : ∃ W3, W2.drewN d3 = W3 := ⟨_, rfl⟩
  have hB3 : Below W0.heap.size W0 W3 := by rw [← hW3]; exact hB2.trans ((below_drawn d3).mono hB2.size)
  rw [hW3]
  clear hW3 a4 b4 HW0
  go_wp2_with fail
  go_loopw [5] (fun iv wr => ∃ k : Nat, k ≤ zn ∧ iv = .int .i64 k ∧ Below W0.heap.size W0 wr) (fun iv _ => zn - (intOf iv).toNat)
  case atStart => exact ⟨0, Nat.zero_le _, rfl, hB3⟩
  case round =>
    obtain ⟨k, hk, rfl, hB⟩ := hrel
    clear hB2 hB3
    have B1 := A1.below hB
    have B2 := A2.below hB
    have a0 := B1.c0
    have b0 := B2.c0
    by_cases hlt : k < zn
    · obtain ⟨g, off, z, fo, fn, fc, to_, tn, tc, ha, c0, c1, c2, c3, hat, hz⟩ := (xz.below hB).at k hlt
      obtain ⟨g', off', z', fo', fn', fc', to', tn', tc', ha', d0, d1, d2, d3, hat', hz'⟩ := (yz.below hB).at k hlt
      subst ha ha'
      have hzz : z = z' := by
        have := map_getD hE0.out k .zero
        rw [hz.out, hz'.out] at this
        exact this
      subst hzz
      obtain rfl : fn = fn' := hat.free.len.symm.trans hat'.free.len
      obtain rfl : tn = tn' := hat.types.len.symm.trans hat'.types.len
      go_wp2_with fail
      have SB : Below wr.heap.size wr { wr with drawn := wr.drawn + 1 } := (Below.refl wr.heap.size wr).drew
      have m0 : ∀ wx, Below wr.heap.size wr wx → wx.cell? ⟨w.heap.size, 0, none⟩ = some (.slice (some ⟨g, off, none⟩) zn zc) := fun wx h => keep a0 h
      have m1 : ∀ wx, Below wr.heap.size wr wx → wx.cell? ⟨w.heap.size + 1, 0, none⟩ = some (.slice (some ⟨g', off', none⟩) zn zc') := fun wx h => keep b0 h
      have n0 : ∀ wx, Below wr.heap.size wr wx → wx.cell? ⟨g, off + k * 4, none⟩ = some (.int .i64 z.f) := fun wx h => keep c0 h
      have n1 : ∀ wx, Below wr.heap.size wr wx → wx.cell? ⟨g, off + k * 4 + 1, none⟩ = some (.int .i64 z.t) := fun wx h => keep c1 h
      have n2 : ∀ wx, Below wr.heap.size wr wx → wx.cell? ⟨g, off + k * 4 + 2, none⟩ = some (.slice fo fn fc) := fun wx h => keep c2 h
      have n3 : ∀ wx, Below wr.heap.size wr wx → wx.cell? ⟨g, off + k * 4 + 3, none⟩ = some (.slice to_ tn tc) := fun wx h => keep c3 h
      have o0 : ∀ wx, Below wr.heap.size wr wx → wx.cell? ⟨g', off' + k * 4, none⟩ = some (.int .i64 z.f) := fun wx h => keep d0 h
      have o1 : ∀ wx, Below wr.heap.size wr wx → wx.cell? ⟨g', off' + k * 4 + 1, none⟩ = some (.int .i64 z.t) := fun wx h => keep d1 h
      have o2 : ∀ wx, Below wr.heap.size wr wx → wx.cell? ⟨g', off' + k * 4 + 2, none⟩ = some (.slice fo' fn fc') := fun wx h => keep d2 h
      have o3 : ∀ wx, Below wr.heap.size wr wx → wx.cell? ⟨g', off' + k * 4 + 3, none⟩ = some (.slice to' tn tc') := fun wx h => keep d3 h
      refine wp_region_peel (S := fun wx => Below wr.heap.size wr wx) 11 _ (by kernel_rfl) (by kernel_rfl) rfl ?_
      simp only [List.take_succ_cons, List.take_zero]
      refine takeH 0 (v := .pointer (some ⟨w.heap.size, 0, none⟩)) rfl (by kernel_rfl) (by kernel_rfl) (by kernel_rfl) (fun _ _ _ h => h) rfl (fun wx hSx => ?_) SB ?_
      · go_simp
      try simp only [Act.put, List.setIfInBounds_toArray, List.set_cons_zero, List.set_cons_succ]
      refine takeH 1 (v := .slice (some ⟨g, off, none⟩) zn zc) rfl (by kernel_rfl) (by kernel_rfl) (by kernel_rfl) (fun _ _ _ h => h) rfl (fun wx hSx => ?_) SB ?_
      · go_simp
      try simp only [Act.put, List.setIfInBounds_toArray, List.set_cons_zero, List.set_cons_succ]
      refine takeH 2 (v := .int .i64 (k : Int)) rfl (by kernel_rfl) (by kernel_rfl) (by kernel_rfl) (fun _ _ _ h => h) rfl (fun wx hSx => ?_) SB ?_
      · go_simp
      try simp only [Act.put, List.setIfInBounds_toArray, List.set_cons_zero, List.set_cons_succ]
      refine takeH 3 (v := .pointer (some ⟨g, off + k * 4, none⟩)) rfl (by kernel_rfl) (by kernel_rfl) (by kernel_rfl) (fun _ _ _ h => h) rfl (fun wx hSx => ?_) SB ?_
      · go_simp
      try simp only [Act.put, List.setIfInBounds_toArray, List.set_cons_zero, List.set_cons_succ]
      refine takeH 4 (v := .agg #[.int .i64 z.f, .int .i64 z.t, .slice fo fn fc, .slice to_ tn tc]) rfl (by kernel_rfl) (by kernel_rfl) (by kernel_rfl) (fun _ _ _ h => h) rfl (fun wx hSx => ?_) SB ?_
      · go_simp
      try simp only [Act.put, List.setIfInBounds_toArray, List.set_cons_zero, List.set_cons_succ]
      refine takeH 5 (v := .pointer (some ⟨w.heap.size + 1, 0, none⟩)) rfl (by kernel_rfl) (by kernel_rfl) (by kernel_rfl) (fun _ _ _ h => h) rfl (fun wx hSx => ?_) SB ?_
      · go_simp
      try simp only [Act.put, List.setIfInBounds_toArray, List.set_cons_zero, List.set_cons_succ]
      refine takeH 6 (v := .slice (some ⟨g', off', none⟩) zn zc') rfl (by kernel_rfl) (by kernel_rfl) (by kernel_rfl) (fun _ _ _ h => h) rfl (fun wx hSx => ?_) SB ?_
      · go_simp
      try simp only [Act.put, List.setIfInBounds_toArray, List.set_cons_zero, List.set_cons_succ]
      refine takeH 7 (v := .int .i64 (k : Int)) rfl (by kernel_rfl) (by kernel_rfl) (by kernel_rfl) (fun _ _ _ h => h) rfl (fun wx hSx => ?_) SB ?_
      · go_simp
      try simp only [Act.put, List.setIfInBounds_toArray, List.set_cons_zero, List.set_cons_succ]
      refine takeH 8 (v := .pointer (some ⟨g', off' + k * 4, none⟩)) rfl (by kernel_rfl) (by kernel_rfl) (by kernel_rfl) (fun _ _ _ h => h) rfl (fun wx hSx => ?_) SB ?_
      · go_simp
      try simp only [Act.put, List.setIfInBounds_toArray, List.set_cons_zero, List.set_cons_succ]
      refine takeH 9 (v := .agg #[.int .i64 z.f, .int .i64 z.t, .slice fo' fn fc', .slice to' tn tc']) rfl (by kernel_rfl) (by kernel_rfl) (by kernel_rfl) (fun _ _ _ h => h) rfl (fun wx hSx => ?_) SB ?_
      · go_simp
      try simp only [Act.put, List.setIfInBounds_toArray, List.set_cons_zero, List.set_cons_succ]
      refine oneH 10 (by kernel_rfl) rfl rfl (fun K1 hK1 => ?_)
      go_simp
      refine (sameZone_eq _ z.f z.t fo fo' to_ to' fn fc fc' tn tc tc' z (hat.below SB) (hat'.below SB)).mono ?_
      rintro e wA ⟨rfl, hbA⟩
      have SA : Below wr.heap.size wr wA := SB.trans (hbA.mono SB.size)
      refine hK1 _ _ SA ?_
      try simp only [Act.put, List.setIfInBounds_toArray, List.set_cons_zero, List.set_cons_succ]
      refine wpAnyH_done (by kernel_rfl) ?_ _
      show Oper.wp _ _ _ _ _ _
      have hBA : Below W0.heap.size W0 wA := hB.trans (SA.mono hB.size)
      clear m0 m1 n0 n1 n2 n3 o0 o1 o2 o3 hat hat' c0 c1 c2 c3 d0 d1 d2 d3 hz hz' SA SB hbA a0 b0 B1 B2 hK1
      go_wp2_with fail
      go_roundw
      case rel => exact ⟨k + 1, by omega, by go_num, hBA⟩
      case measure => simp [intOf]; omega
    · go_wp2_with fail
      clear hlt hk
      go_loopw [6] (fun iv wr => ∃ k : Nat, k ≤ ln ∧ iv = .int .i64 k ∧ Below W0.heap.size W0 wr) (fun iv _ => ln - (intOf iv).toNat)
      case atStart => exact ⟨0, Nat.zero_le _, rfl, hB⟩
      case round =>
        clear a0 b0 B1 B2 hB
        obtain ⟨k, hk, rfl, hB⟩ := hrel
        have B1 := A1.below hB
        have B2 := A2.below hB
        have a3 := B1.c3
        have b3 := B2.c3
        by_cases hlt : k < ln
        · obtain ⟨g, off, c, z, t, pages, po, pn, pc, ha, c0, c1, c2, c3, hat, hz⟩ := (xl.below hB).at k hlt
          obtain ⟨g', off', c', z', t', pages', po', pn', pc', ha', d0, d1, d2, d3, hat', hz'⟩ := (yl.below hB).at k hlt
          subst ha ha'
          have hzz : (⟨c, z, t, pages⟩ : Ls) = ⟨c', z', t', pages'⟩ := by
            have := map_getD hE3.out k .zero
            rw [hz.out, hz'.out] at this
            exact this
          cases hzz
          obtain rfl : pn = pn' := hat.len.symm.trans hat'.len
          have qc : (c == c) = true := by simp
          have qq : (z == z) = true := by simp
          have qt : (t == t) = true := by simp
          have hb1 := below_box wr (.cells #[.int .i64 c, .int .i64 z, .int .i64 t, .slice po pn pc] 57)
          have X1 := zbox_new wr (.int .i64 c) (.int .i64 z) (.int .i64 t) (.slice po pn pc) 57
          have hb2 := below_box (wr.alloc (.cells #[.int .i64 c, .int .i64 z, .int .i64 t, .slice po pn pc] 57)) (.cells #[.int .i64 c, .int .i64 z, .int .i64 t, .slice po' pn pc'] 57)
          have X2 := zbox_new (wr.alloc (.cells #[.int .i64 c, .int .i64 z, .int .i64 t, .slice po pn pc] 57)) (.int .i64 c) (.int .i64 z) (.int .i64 t) (.slice po' pn pc') 57
          have hbb := hb1.trans (hb2.mono hb1.size)
          replace X1 := X1.below hb2
          replace b3 := keep b3 hb1
          replace d0 := keep d0 hb1
          replace d1 := keep d1 hb1
          replace d2 := keep d2 hb1
          replace d3 := keep d3 hb1
          have x0 := X1.c0
          have x1 := X1.c1
          have x2 := X1.c2
          have x3 := X1.c3
          have u0 := X2.c0
          have u1 := X2.c1
          have u2 := X2.c2
          have u3 := X2.c3
          have HS := same_eq ((wr.alloc (.cells #[.int .i64 c, .int .i64 z, .int .i64 t, .slice po pn pc] 57)).alloc (.cells #[.int .i64 c, .int .i64 z, .int .i64 t, .slice po' pn pc'] 57)) po po' pn pc pc' pages hat.len hat.reach (hat.below hbb).at_ (hat'.below hbb).at_
          clear hat hat' hz hz' B1 B2 hb1 hb2
          go_wp2_with fail
          go_at_call 28
          refine HS.mono ?_
          rintro e w5 ⟨rfl, d5, rfl⟩
          have hB5 := hB.trans ((hbb.trans ((below_drawn d5).mono hbb.size)).mono hB.size)
          clear HS x0 x1 x2 x3 u0 u1 u2 u3 X1 X2 c0 c1 c2 c3 d0 d1 d2 d3 a3 b3 hbb
          go_wp2_with fail
          go_roundw
          case rel => exact ⟨k + 1, by omega, by go_num, hB5⟩
          case measure => simp [intOf]; omega
        · go_wp2
          go_ret
          exact ⟨rfl, hb0.trans (hB.mono hb0.size)⟩

end Go.Proofs.Ytbjlbmofdnkmiaa

/-
  OWN TEXT. The walk of the law PagesDrains: it returns true and writes nothing that was there (written by sxpd.py).
-/
namespace Go.Proofs.Ytbjlbmofdnkmiaa
open Go Go.RowKit Go.Proofs.Ytbjlbmofdnkmiaa.Kit

/-- No heap. -/
def Kit.Hx.none : Hx := ⟨[], .none, 0, 0, [], .none, 0, 0, 0, [], .none, 0, 0, [], .none, 0, 0⟩
theorem none_at (w : World) : Hx.none.At w :=
  ⟨⟨rfl, by decide, fun i hi => absurd hi (by simp [Hx.none]), fun z hz => by simp [Hx.none] at hz⟩, ⟨rfl, by decide, fun i hi => absurd hi (by simp [Hx.none])⟩,
   ⟨rfl, by decide, fun i hi => absurd hi (by simp [Hx.none]), fun z hz => by simp [Hx.none] at hz⟩, ⟨rfl, by decide, fun i hi => absurd hi (by simp [Hx.none])⟩⟩
set_option maxRecDepth 10000 in
set_option maxHeartbeats 4000000 in
theorem pagesDrains_walk (x : Hx) (w : World) (h : IsHeap w x) :
    Calls Try.prog 7 #[.agg #[.slice x.zo x.zn x.zc, .slice x.mo x.mn x.mc, .int .i64 x.cpus, .slice x.lo x.ln x.lc, .slice x.vo x.vn x.vc]] w fun e w' => e = .returned (.bool true) ∧ Below w.heap.size w w' := by
  have hx := h.at_
  obtain ⟨cc, H, HD, HR⟩ : ∃ (cc : Int) (H : Hp), (∀ W (y : Hx), y.At W → y.hp = x.hp → Calls Try.prog 17 #[.agg #[.slice y.zo y.zn y.zc, .slice y.mo y.mn y.mc, .int .i64 y.cpus, .slice y.lo y.ln y.lc, .slice y.vo y.vn y.vc]] W fun e w' => (∃ z : Hx, e = .returned (.tuple #[.agg #[.slice z.zo z.zn z.zc, .slice z.mo z.mn z.mc, .int .i64 z.cpus, .slice z.lo z.ln z.lc, .slice z.vo z.vn z.vc], .int .i64 cc]) ∧ z.hp = H ∧ z.At w') ∧ Below W.heap.size W w') ∧
      (∀ W, x.At W → Calls Try.prog 18 #[.agg #[.slice x.zo x.zn x.zc, .slice x.mo x.mn x.mc, .int .i64 x.cpus, .slice x.lo x.ln x.lc, .slice x.vo x.vn x.vc]] W fun e w' => (∃ z : Hx, e = .returned (.tuple #[.agg #[.slice z.zo z.zn z.zc, .slice z.mo z.mn z.mc, .int .i64 z.cpus, .slice z.lo z.ln z.lc, .slice z.vo z.vn z.vc], .int .i64 cc]) ∧ z.hp = H ∧ z.At w') ∧ Below W.heap.size W w') := by
    by_cases hM : HMay x.hp
    · refine ⟨0, drainH x.hp, fun W y hy ey => ?_, fun W hW => drainedOf_ok W x hW hM hM.canBacks.1⟩
      rw [← ey] at hM ⊢
      exact pDrain_ok W y hy hM hM.canBacks.1
    · refine ⟨8, Hx.none.hp, fun W y hy ey => ?_, fun W hW => ?_⟩
      · rw [← ey] at hM
        refine (pDrain_no W y hy hM).mono ?_
        rintro e w' ⟨rfl, hb⟩
        exact ⟨⟨Hx.none, rfl, rfl, none_at _⟩, hb⟩
      · refine (drainedOf_no W x hW hM).mono ?_
        rintro e w' ⟨rfl, hb⟩
        exact ⟨⟨Hx.none, rfl, rfl, none_at _⟩, hb⟩
  have B0 := Below.refl w.heap.size w
  refine sx_enter (args := [_]) 33 Try.func7 rfl rfl rfl ?_
  intro A f
  refine wp_seq ?_
  refine sx_list ?_
  refine l_box f rfl rfl rfl rfl rfl ?_; clear f A; intro b1 W2 eb1 hb3 rb1 A f; dsimp only [Value.cells] at rb1
  have z_B0_b1 := B0.size; rw [eb1] at z_B0_b1
  replace B0 := Below.next B0 hb3
  refine l_do f rfl rfl rfl (y_assign rfl rfl) ?_; clear f A; intro A f
  refine wpList_nil ?_
  refine x_tn ?_
  refine wp_seq ?_
  refine sx_list ?_
  refine l_do f rfl rfl rfl (y_loadN (vs := [_, _, _, _, _]) rfl rfl (ag rfl) rfl (rowls (rowq rb1) _ _ ⟨rfl, rfl, rfl, rfl, rfl, trivial⟩)) ?_; clear f A; intro A f
  refine l_call f rfl rfl rfl (IsCall.mk' (cap := []) rfl rfl rfl) (pl rfl) (heapCopy_own _ x (hx.below B0)) ?_
  clear f A
  rintro _ W4 ⟨⟨k, rfl, ek, hk, -⟩, hb5⟩
  refine ⟨_, rfl, ?_⟩
  intro A f
  replace B0 := Below.next B0 hb5; replace rb1 := row_next rb1 hb5
  replace hk := hk.at_
  refine l_as (z := .agg #[.slice none 0 0, .slice none 0 0, .int .i64 0, .slice none 0 0, .slice none 0 0]) f rfl rfl rfl rfl (by kernel_rfl) rfl rfl (fun _ => rfl) (fun _ => rfl) rfl (by intro u hu; simp [Value.cells] at hu; rcases hu with rfl | rfl | rfl | rfl | rfl <;> rfl) ?_; clear f A; intro b6 W7 eb6 hb8 rb6 A f
  dsimp only [Value.cells] at rb6
  have hpb6 := hb8
  have o_b1_b6 : b1 < b6 := by have := row_lt rb1; omega
  have z_B0_b6 := B0.size; rw [eb6] at z_B0_b6
  replace B0 := Below.next B0 hb8; replace hk := hk.below hb8; replace rb1 := row_next rb1 hb8
  refine wpList_nil ?_
  refine x_tn ?_
  refine wp_seq ?_
  refine sx_list ?_
  refine l_do f rfl rfl rfl (y_loadN (vs := [_, _, _, _, _]) rfl rfl (ag rfl) rfl (rowls (rowq rb6) _ _ ⟨rfl, rfl, rfl, rfl, rfl, trivial⟩)) ?_; clear f A; intro A f
  refine l_call f rfl rfl rfl (IsCall.mk' (cap := []) rfl rfl rfl) (pl rfl) (HD _ k hk ek) ?_
  clear f A
  rintro _ W9 ⟨⟨y, rfl, ey, hy⟩, hb10⟩
  refine ⟨_, rfl, ?_⟩
  intro A f
  replace B0 := Below.next B0 hb10; replace hk := hk.below hb10; replace rb1 := row_next rb1 hb10; replace rb6 := row_next rb6 hb10
  refine l_do f rfl rfl rfl (y_move rfl rfl) ?_; clear f A; intro A f
  refine l_do f rfl rfl rfl (y_ext rfl rfl rfl) ?_; clear f A; intro A f
  refine l_do f rfl rfl rfl (y_ext rfl rfl rfl) ?_; clear f A; intro A f
  refine l_as (z := .agg #[.slice none 0 0, .slice none 0 0, .int .i64 0, .slice none 0 0, .slice none 0 0]) f rfl rfl rfl rfl (by kernel_rfl) rfl rfl (fun _ => rfl) (fun _ => rfl) rfl (by intro u hu; simp [Value.cells] at hu; rcases hu with rfl | rfl | rfl | rfl | rfl <;> rfl) ?_; clear f A; intro b11 W12 eb11 hb13 rb11 A f
  dsimp only [Value.cells] at rb11
  have hpb11 := hb13
  have o_b1_b11 : b1 < b11 := by have := row_lt rb1; omega
  have o_b6_b11 : b6 < b11 := by have := row_lt rb6; omega
  have z_B0_b11 := B0.size; rw [eb11] at z_B0_b11
  replace B0 := Below.next B0 hb13; replace hk := hk.below hb13; replace hy := hy.below hb13; replace rb1 := row_next rb1 hb13; replace rb6 := row_next rb6 hb13
  refine l_do f rfl rfl rfl (y_assign rfl rfl) ?_; clear f A; intro A f
  refine wpList_nil ?_
  refine x_tn ?_
  refine wp_seq ?_
  refine sx_list ?_
  refine l_do f rfl rfl rfl (y_loadN (vs := [_, _, _, _, _]) rfl rfl (ag rfl) rfl (rowls (rowq rb1) _ _ ⟨rfl, rfl, rfl, rfl, rfl, trivial⟩)) ?_; clear f A; intro A f
  refine l_call f rfl rfl rfl (IsCall.mk' (cap := []) rfl rfl rfl) (pl rfl) (HR _ (hx.below B0)) ?_
  clear f A
  rintro _ W14 ⟨⟨z, rfl, ez, hz⟩, hb15⟩
  refine ⟨_, rfl, ?_⟩
  intro A f
  replace B0 := Below.next B0 hb15; replace hk := hk.below hb15; replace hy := hy.below hb15; replace rb1 := row_next rb1 hb15; replace rb6 := row_next rb6 hb15; replace rb11 := row_next rb11 hb15
  refine l_do f rfl rfl rfl (y_move rfl rfl) ?_; clear f A; intro A f
  refine l_do f rfl rfl rfl (y_ext rfl rfl rfl) ?_; clear f A; intro A f
  refine l_do f rfl rfl rfl (y_ext rfl rfl rfl) ?_; clear f A; intro A f
  refine l_as (z := .agg #[.slice none 0 0, .slice none 0 0, .int .i64 0, .slice none 0 0, .slice none 0 0]) f rfl rfl rfl rfl (by kernel_rfl) rfl rfl (fun _ => rfl) (fun _ => rfl) rfl (by intro u hu; simp [Value.cells] at hu; rcases hu with rfl | rfl | rfl | rfl | rfl <;> rfl) ?_; clear f A; intro b16 W17 eb16 hb18 rb16 A f
  dsimp only [Value.cells] at rb16
  have hpb16 := hb18
  have o_b1_b16 : b1 < b16 := by have := row_lt rb1; omega
  have o_b6_b16 : b6 < b16 := by have := row_lt rb6; omega
  have o_b11_b16 : b11 < b16 := by have := row_lt rb11; omega
  have z_B0_b16 := B0.size; rw [eb16] at z_B0_b16
  replace B0 := Below.next B0 hb18; replace hk := hk.below hb18; replace hy := hy.below hb18; replace hz := hz.below hb18; replace rb1 := row_next rb1 hb18; replace rb6 := row_next rb6 hb18; replace rb11 := row_next rb11 hb18
  refine l_do f rfl rfl rfl (y_assign rfl rfl) ?_; clear f A; intro A f
  refine wpList_nil ?_
  refine x_tn ?_
  refine wp_seq ?_
  refine sx_list ?_
  refine l_do f rfl rfl rfl (y_move rfl rfl) ?_; clear f A; intro A f
  refine l_do f rfl rfl rfl (y_move rfl rfl) ?_; clear f A; intro A f
  refine l_if _ f rfl rfl rfl (y_eql rfl rfl rfl) ?_ ?_
  · clear f A; intro c19 A f
    refine l_do f rfl rfl rfl (y_move rfl rfl) ?_; clear f A; intro A f
    refine l_do f rfl rfl rfl (y_loadN (vs := [_, _, _, _, _]) rfl rfl (ag rfl) rfl (rowls (rowq rb11) _ _ ⟨rfl, rfl, rfl, rfl, rfl, trivial⟩)) ?_; clear f A; intro A f
    refine l_do f rfl rfl rfl (y_loadN (vs := [_, _, _, _, _]) rfl rfl (ag rfl) rfl (rowls (rowq rb16) _ _ ⟨rfl, rfl, rfl, rfl, rfl, trivial⟩)) ?_; clear f A; intro A f
    refine l_call f rfl rfl rfl (IsCall.mk' (cap := []) rfl rfl rfl) (pl rfl) (sameHeap_eq _ y z hy hz (ey.trans ez.symm)) ?_; clear f A; rintro _ W20 ⟨rfl, hb21⟩; refine ⟨_, rfl, ?_⟩; intro A f; replace B0 := Below.next B0 hb21; replace hk := hk.below hb21; replace hy := hy.below hb21; replace hz := hz.below hb21; replace rb1 := row_next rb1 hb21; replace rb6 := row_next rb6 hb21; replace rb11 := row_next rb11 hb21; replace rb16 := row_next rb16 hb21
    refine l_do f rfl rfl rfl (y_pick rfl rfl rfl) ?_; clear f A; intro A f
    refine l_do f rfl rfl rfl (y_move rfl rfl) ?_; clear f A; intro A f
    refine l_do f rfl rfl rfl (y_loadN (vs := [_, _, _, _, _]) rfl rfl (ag rfl) rfl (rowls (rowq rb6) _ _ ⟨rfl, rfl, rfl, rfl, rfl, trivial⟩)) ?_; clear f A; intro A f
    refine l_do f rfl rfl rfl (y_loadN (vs := [_, _, _, _, _]) rfl rfl (ag rfl) rfl (rowls (rowq rb1) _ _ ⟨rfl, rfl, rfl, rfl, rfl, trivial⟩)) ?_; clear f A; intro A f
    refine l_call f rfl rfl rfl (IsCall.mk' (cap := []) rfl rfl rfl) (pl rfl) (sameHeap_eq _ k x hk (hx.below B0) (ek)) ?_; clear f A; rintro _ W22 ⟨rfl, hb23⟩; refine ⟨_, rfl, ?_⟩; intro A f; replace B0 := Below.next B0 hb23; replace hk := hk.below hb23; replace hy := hy.below hb23; replace hz := hz.below hb23; replace rb1 := row_next rb1 hb23; replace rb6 := row_next rb6 hb23; replace rb11 := row_next rb11 hb23; replace rb16 := row_next rb16 hb23
    refine l_do f rfl rfl rfl (y_pick rfl rfl rfl) ?_; clear f A; intro A f
    refine l_do f rfl rfl rfl (y_assign rfl rfl) ?_; clear f A; intro A f
    refine wpList_nil ?_
    refine x_tn ?_
    refine wp_ret ?_
    refine x_ret1 f rfl rfl ?_
    -- return 0: c19@22
    exact ⟨rfl, B0⟩
  · intro c19; exfalso; omega


end Go.Proofs.Ytbjlbmofdnkmiaa
